/- Contracts and facts that the claim's proof wants (several texts in one). -/
import Derived.Test.YtmgcgiecimnncaaGreatDoorTlG16
namespace Go.Proofs.YtmgcgiecimnncaaGreatDoor
open Go.RowKit
set_option linter.unusedVariables false
set_option linter.unusedSimpArgs false
set_option maxRecDepth 20000
set_option maxHeartbeats 20000000
structure Ws where
 r:Rg
 plane:Int
 code:Int
 m:Int
 known:Bool
structure WsB (s:Ws):Prop where
 r:RgB s.r
 code:B8 s.code
 m:Wd16 s.m
def Ws.pc (s:Ws)(v:Int):Ws:={ s with r:={ s.r with pc:=v } }
def Ws.sp (s:Ws)(v:Int):Ws:={ s with r:={ s.r with sp:=v } }
def Ws.wz (s:Ws)(v:Int):Ws:={ s with r:={ s.r with wz:=v } }
def Ws.af (s:Ws)(a f:Int):Ws:={ s with r:={ s.r with af:=256*a+f } }
def Ws.tick (s:Ws):Ws:={ s with r:=jB s.r 1 }
def Ws.pcUp (s:Ws):Ws:=s.pc ((s.r.pc+1)%65536)
def Ws.a (s:Ws):Int:=s.r.af / 256
def Ws.f (s:Ws):Int:=s.r.af%256
def Ws.spDown (s:Ws):Ws:=s.sp ((s.r.sp-1)%65536)
def Ws.hl (s:Ws):Int:=ZY s.r s.plane 2
def Ws.left (s:Ws):Int:=(s.r.bc / 256-1)%256
def Ws.at_ (s:Ws)(plane code:Int):Ws:={ s with plane:=plane,code:=code }
@[reducible] def wC (s:Ws)(A:Option Addr)(n cap:Nat)(z:Zs):Array Value:=#[.int .u16 s.r.af,.int .u16 s.r.bc,.int .u16 s.r.de,.int .u16 s.r.hl,.int .u16 s.r.af2,.int .u16 s.r.bc2,.int .u16 s.r.de2,.int .u16 s.r.hl2,.int .u16 s.r.ix,.int .u16 s.r.iy,.int .u16 s.r.sp,.int .u16 s.r.pc,.int .u16 s.r.wz,.int .u8 s.r.i,.int .u8 s.r.r,.bool s.r.iff1,.bool s.r.iff2,.bool s.r.halted,.bool s.r.late,.int .i64 s.r.mode,.slice A n cap,.int .i64 (z.pos:Int),.bool z.lacks,.int .i64 z.asked.kind,.int .u16 z.asked.addr,.int .u8 z.asked.data,.int .i64 z.asked.t,.int .i64 s.plane,.int .u8 s.code,.int .u16 s.m,.bool s.known]
section
variable {α β:Type}
theorem QTK {c:Prop} [Decidable c] {t e:Tr α} {xs:List Int} {z:Zs}(hc:¬c):(if c then t else e).runZ xs z=e.runZ xs z:=by rw[if_neg hc]
end
def Ws.u_af (s:Ws)(v:Int):Ws:={ s with r:={ s.r with af:=v } }
theorem WsB.u_af {s:Ws}(h:WsB s){v:Int}(hv:Wd16 v):WsB (s.u_af v):=⟨⟨hv,h.r.bc,h.r.de,h.r.hl,h.r.af2,h.r.bc2,h.r.de2,h.r.hl2,h.r.ix,h.r.iy,h.r.sp,h.r.pc,h.r.wz,h.r.i,h.r.r,h.r.mode⟩,h.code,h.m⟩
def Ws.u_bc (s:Ws)(v:Int):Ws:={ s with r:={ s.r with bc:=v } }
theorem WsB.u_bc {s:Ws}(h:WsB s){v:Int}(hv:Wd16 v):WsB (s.u_bc v):=⟨⟨h.r.af,hv,h.r.de,h.r.hl,h.r.af2,h.r.bc2,h.r.de2,h.r.hl2,h.r.ix,h.r.iy,h.r.sp,h.r.pc,h.r.wz,h.r.i,h.r.r,h.r.mode⟩,h.code,h.m⟩
def Ws.u_de (s:Ws)(v:Int):Ws:={ s with r:={ s.r with de:=v } }
theorem WsB.u_de {s:Ws}(h:WsB s){v:Int}(hv:Wd16 v):WsB (s.u_de v):=⟨⟨h.r.af,h.r.bc,hv,h.r.hl,h.r.af2,h.r.bc2,h.r.de2,h.r.hl2,h.r.ix,h.r.iy,h.r.sp,h.r.pc,h.r.wz,h.r.i,h.r.r,h.r.mode⟩,h.code,h.m⟩
def Ws.u_hl (s:Ws)(v:Int):Ws:={ s with r:={ s.r with hl:=v } }
theorem WsB.u_hl {s:Ws}(h:WsB s){v:Int}(hv:Wd16 v):WsB (s.u_hl v):=⟨⟨h.r.af,h.r.bc,h.r.de,hv,h.r.af2,h.r.bc2,h.r.de2,h.r.hl2,h.r.ix,h.r.iy,h.r.sp,h.r.pc,h.r.wz,h.r.i,h.r.r,h.r.mode⟩,h.code,h.m⟩
def Ws.u_sp (s:Ws)(v:Int):Ws:={ s with r:={ s.r with sp:=v } }
theorem WsB.u_sp {s:Ws}(h:WsB s){v:Int}(hv:Wd16 v):WsB (s.u_sp v):=⟨⟨h.r.af,h.r.bc,h.r.de,h.r.hl,h.r.af2,h.r.bc2,h.r.de2,h.r.hl2,h.r.ix,h.r.iy,hv,h.r.pc,h.r.wz,h.r.i,h.r.r,h.r.mode⟩,h.code,h.m⟩
def Ws.u_pc (s:Ws)(v:Int):Ws:={ s with r:={ s.r with pc:=v } }
theorem WsB.u_pc {s:Ws}(h:WsB s){v:Int}(hv:Wd16 v):WsB (s.u_pc v):=⟨⟨h.r.af,h.r.bc,h.r.de,h.r.hl,h.r.af2,h.r.bc2,h.r.de2,h.r.hl2,h.r.ix,h.r.iy,h.r.sp,hv,h.r.wz,h.r.i,h.r.r,h.r.mode⟩,h.code,h.m⟩
def Ws.u_wz (s:Ws)(v:Int):Ws:={ s with r:={ s.r with wz:=v } }
theorem WsB.u_wz {s:Ws}(h:WsB s){v:Int}(hv:Wd16 v):WsB (s.u_wz v):=⟨⟨h.r.af,h.r.bc,h.r.de,h.r.hl,h.r.af2,h.r.bc2,h.r.de2,h.r.hl2,h.r.ix,h.r.iy,h.r.sp,h.r.pc,hv,h.r.i,h.r.r,h.r.mode⟩,h.code,h.m⟩
def Ws.u_i (s:Ws)(v:Int):Ws:={ s with r:={ s.r with i:=v } }
theorem WsB.u_i {s:Ws}(h:WsB s){v:Int}(hv:B8 v):WsB (s.u_i v):=⟨⟨h.r.af,h.r.bc,h.r.de,h.r.hl,h.r.af2,h.r.bc2,h.r.de2,h.r.hl2,h.r.ix,h.r.iy,h.r.sp,h.r.pc,h.r.wz,hv,h.r.r,h.r.mode⟩,h.code,h.m⟩
def Ws.u_r (s:Ws)(v:Int):Ws:={ s with r:={ s.r with r:=v } }
theorem WsB.u_r {s:Ws}(h:WsB s){v:Int}(hv:B8 v):WsB (s.u_r v):=⟨⟨h.r.af,h.r.bc,h.r.de,h.r.hl,h.r.af2,h.r.bc2,h.r.de2,h.r.hl2,h.r.ix,h.r.iy,h.r.sp,h.r.pc,h.r.wz,h.r.i,hv,h.r.mode⟩,h.code,h.m⟩
def Ws.u_iff1 (s:Ws)(v:Bool):Ws:={ s with r:={ s.r with iff1:=v } }
theorem WsB.u_iff1 {s:Ws}(h:WsB s){v:Bool}:WsB (s.u_iff1 v):=⟨⟨h.r.af,h.r.bc,h.r.de,h.r.hl,h.r.af2,h.r.bc2,h.r.de2,h.r.hl2,h.r.ix,h.r.iy,h.r.sp,h.r.pc,h.r.wz,h.r.i,h.r.r,h.r.mode⟩,h.code,h.m⟩
def Ws.u_iff2 (s:Ws)(v:Bool):Ws:={ s with r:={ s.r with iff2:=v } }
theorem WsB.u_iff2 {s:Ws}(h:WsB s){v:Bool}:WsB (s.u_iff2 v):=⟨⟨h.r.af,h.r.bc,h.r.de,h.r.hl,h.r.af2,h.r.bc2,h.r.de2,h.r.hl2,h.r.ix,h.r.iy,h.r.sp,h.r.pc,h.r.wz,h.r.i,h.r.r,h.r.mode⟩,h.code,h.m⟩
def Ws.u_halted (s:Ws)(v:Bool):Ws:={ s with r:={ s.r with halted:=v } }
theorem WsB.u_halted {s:Ws}(h:WsB s){v:Bool}:WsB (s.u_halted v):=⟨⟨h.r.af,h.r.bc,h.r.de,h.r.hl,h.r.af2,h.r.bc2,h.r.de2,h.r.hl2,h.r.ix,h.r.iy,h.r.sp,h.r.pc,h.r.wz,h.r.i,h.r.r,h.r.mode⟩,h.code,h.m⟩
def Ws.u_late (s:Ws)(v:Bool):Ws:={ s with r:={ s.r with late:=v } }
theorem WsB.u_late {s:Ws}(h:WsB s){v:Bool}:WsB (s.u_late v):=⟨⟨h.r.af,h.r.bc,h.r.de,h.r.hl,h.r.af2,h.r.bc2,h.r.de2,h.r.hl2,h.r.ix,h.r.iy,h.r.sp,h.r.pc,h.r.wz,h.r.i,h.r.r,h.r.mode⟩,h.code,h.m⟩
def Ws.u_mode (s:Ws)(v:Int):Ws:={ s with r:={ s.r with mode:=v } }
theorem WsB.u_mode {s:Ws}(h:WsB s){v:Int}(hv:-9223372036854775808≤v∧v≤9223372036854775807):WsB (s.u_mode v):=⟨⟨h.r.af,h.r.bc,h.r.de,h.r.hl,h.r.af2,h.r.bc2,h.r.de2,h.r.hl2,h.r.ix,h.r.iy,h.r.sp,h.r.pc,h.r.wz,h.r.i,h.r.r,hv⟩,h.code,h.m⟩
theorem WsB.u_rg {s:Ws}(h:WsB s){g:Rg}(hg:RgB g):WsB { s with r:=g }:=⟨hg,h.code,h.m⟩
def Ws.u_plane (s:Ws)(v:Int):Ws:={ s with plane:=v }
theorem WsB.u_plane {s:Ws}(h:WsB s){v:Int}:WsB (s.u_plane v):=⟨h.r,h.code,h.m⟩
theorem ArrIs.there {w:World} {A n:Nat} {v:Nat→Value}(h:ArrIs w A n v):w.there A 0 n:=fun j hj=>by
 rw[Nat.zero_add];exact⟨by rw[(h j hj).1];rfl,(h j hj).2⟩
theorem Below.setCells {n:Nat} {w w':World}(h:Below n w w'){b:Nat}(hb:n≤b):∀ (vs:List Value) (o:Nat),Below n w (w'.setCells b o vs):=by
 intro vs
 induction vs generalizing w' with
 | nil=>intro o;exact h
 | cons v r ih=>intro o;exact ih (h.setCell hb _) (o+1)
section
variable {α β:Type} {xs:List Int} {z:Zs} {G:β×Zs} {c:Prop} [Decidable c]
theorem qZ {t e:Tr β}(h:G=(if c then t else e).runZ xs z)(hc:¬c:=by first|assumption|omega):G=e.runZ xs z:=h.trans (QTK hc)
variable {P:Program} {Q:Exit→Act→World→Prop} {base:List Value} {l:JY} {w:World}
end
def Ws.hlBy (s:Ws)(d:Int):Ws:={ s with r:={ s.r with hl:=JH s.r.hl d } }
def Ws.deBy (s:Ws)(d:Int):Ws:={ s with r:={ s.r with de:=JH s.r.de d } }
def Ws.bcDown (s:Ws):Ws:={ s with r:={ s.r with bc:=(s.r.bc-1)%65536 } }
def QUY:Except Cy (Ws×List Int)→Value
 | .ok (s,_)=>.tuple #[cyV JN,JM s.r,.bool true]
 | .error c=>.tuple #[cyV c,JM Jf,.bool false]
def cyW:Except Cy (Ws×List Int)→Cy|.ok _=>JN|.error c=>c
def rgW:Except Cy (Ws×List Int)→Rg|.ok (s,_)=>s.r|.error _=>Jf
def QUV:Except Cy (Ws×List Int)→Bool|.ok _=>true|.error _=>false
theorem QQV (X:Except Cy (Ws×List Int)):QUY X=.tuple #[cyV (cyW X),JM (rgW X),.bool (QUV X)]:=by
 rcases X with c|⟨s,ys⟩<;>rfl
def Tr.Rel {α β:Type}(R:α→β→Prop):Tr α→Tr β→Prop
 | .done a,.done b=>R a b
 | .ask c k,.ask d l=>c=d∧∀ b,B8 b→(k b).Rel R (l b)
 | _,_=>False
theorem Tr.Rel.mono {α β:Type} {R S:α→β→Prop} {t:Tr α}:∀ {u:Tr β},t.Rel R u→(∀ a b,R a b→S a b)→t.Rel S u:=by
 induction t with
 | done a=>intro u h hRS;cases u with
   | done b=>exact hRS _ _ h
   | ask d l=>exact h.elim
 | ask c k ih=>intro u h hRS;cases u with
   | done b=>exact h.elim
   | ask d l=>exact⟨h.1,fun b hb=>ih b (h.2 b hb) hRS⟩
theorem Tr.Rel.bind {α β γ δ:Type} {R:α→β→Prop} {S:γ→δ→Prop} {t:Tr α} {f:α→Tr γ} {g:β→Tr δ}:∀ {u:Tr β},t.Rel R u→(∀ a b,R a b→(f a).Rel S (g b))→(t.bind f).Rel S (u.bind g):=by
 induction t with
 | done a=>intro u h hf;cases u with
   | done b=>exact hf _ _ h
   | ask d l=>exact h.elim
 | ask c k ih=>intro u h hf;cases u with
   | done b=>exact h.elim
   | ask d l=>exact⟨h.1,fun b hb=>ih b (h.2 b hb) hf⟩
def Told:Except Cy (Ms×List Int)→Except Cy (Ws×List Int)→Prop
 | .ok (s,_),.ok (t,_)=>s.r=t.r
 | .error c,.error d=>c=d
 | _,_=>False
theorem Told.tell {X:Except Cy (Ms×List Int)} {Y:Except Cy (Ws×List Int)}(h:Told X Y):QDR X=QUY Y:=by
 rcases X with c|⟨s,ys⟩<;>rcases Y with d|⟨t,zs⟩
 · have e:c=d:=h
   subst e;rfl
 · exact h.elim
 · exact h.elim
 · have e:s.r=t.r:=h
   rw[XN,QQV]
   simp only[XZ,X4,Q6,cyW,rgW,QUV,e]
def RR (s:Ms)(t:Ws):Prop:=s.r=t.r
theorem QAK {w w':World}(h:Below w.heap.size w w')(row:Option Nat):w.grownBy w' row:=⟨h.os,h.tape,h.output,h.size,fun i hi _=>h.block i hi⟩
theorem jM {n b:Nat} {w W w1:World}(h:Below n w W)(hg:W.grownBy w1 (some b))(hb:n≤b)(hn:n≤W.heap.size):Below n w w1:=h.grown hg hn fun k e=>by cases e;exact hb
theorem qo {n:Nat} {w W w1:World} {base:Nat} {e:TypeId} {size:Nat} {v:Value} {m:Nat} {xs:List Value}(h:Below n w W)(hg:W.grownBy w1 v.ownBlock)(ho:W.ownsRow base e size v m xs)(hb:n≤base)(hn:n≤W.heap.size):Below n w w1 :=
 h.grown hg hn fun k e=>Nat.le_trans hb (ho.lt k e).1
theorem ja {w W:World}(h:Below w.heap.size w W)(o:Obj):Below w.heap.size w (W.alloc o):=Below.alloc h h.size _
theorem bOn {w W W':World} {rs:List RowK}(h:Below w.heap.size w W)(k:Many W [] rs W'):Below w.heap.size w W':=h.trans (k.touch.below.mono h.size)
theorem Many.allocO {w0 w:World} {L:List Nat} {rs:List RowK}(h:Many w0 L rs w)(o:Obj):Many w0 L rs (w.alloc o):=h.below (Below.alloc (Below.refl _ _) (Nat.le_refl _) _)
theorem Many.grown {w0 w w':World} {L:List Nat} {rs:List RowK} {b:Nat}(h:Many w0 L rs w)(k:w.grownBy w' (some b))(hb:w0.heap.size≤b)(hn:∀ (i:Nat) (r:RowK),rs[i]? = some r→r.b≠b):Many w0 L rs w' :=
 ⟨fun i r hr=>by obtain⟨full,h1,h2⟩:=h.rows i r hr;exact⟨full,h1.of (k.block r.b h1.lt (by simpa using hn i r hr)),h2⟩,h.dis,h.own,
  ⟨k.os.trans h.touch.os,k.tape.trans h.touch.tape,k.output.trans h.touch.output,Nat.le_trans h.touch.size k.size,fun c hc hL=>(k.block c (Nat.lt_of_lt_of_le hc h.touch.size) (by simp;omega)).trans (h.touch.block c hc hL)⟩⟩
theorem QCy {α:Type}(l:List α)(k:Nat)(h:k < l.length):l.take (k+1)=l.take k++[l[k]]:=(List.take_append_getElem h).symm
structure QFN where
 k:Nat
 y:Nat→Value
structure QPT where
 k:Nat
 v:Int
 y:Nat→Value
structure QL0 where
 k:Nat
 v:Value
 y:Nat→Value
section
variable {P:Program} {ρ:Operand→Value} {o:Oper} {x y z:Operand} {V W R U:Value}
theorem QDu {t:TypeId} {w:World} {c:Bool}(hl:(Instr.lookup t V W c).run P w=.ok R w)(ho:o.op=.lookup t x y c:=by exact rfl)(hx:ρ x=V:=by kernel_rfl)(hy:ρ y=W:=by kernel_rfl):(execOp ρ o).run P w=.ok (.value R) w:=by
 unfold execOp
 simp only[ho,hx,hy,Sem.run_bind,Sem.run_pure,hl,Result.andThen_ok]
theorem QTD {t:TypeId} {w w':World}(hl:(Instr.mapUpdate t V W U).run P w=.ok () w')(ho:o.op=.mapUpdate t x y z:=by exact rfl)(hx:ρ x=V:=by kernel_rfl)(hy:ρ y=W:=by kernel_rfl)(hz:ρ z=U:=by kernel_rfl):(execOp ρ o).run P w=.ok .skip w':=by
 unfold execOp
 simp only[ho,hx,hy,hz,Sem.run_bind,Sem.run_pure,hl,Result.andThen_ok]
theorem QUz {t:TypeId} {w w':World}(hl:(Instr.range t V).run P w=.ok R w')(ho:o.op=.range t x:=by exact rfl)(hx:ρ x=V:=by kernel_rfl):(execOp ρ o).run P w=.ok (.value R) w':=by
 unfold execOp
 simp only[ho,hx,Sem.run_bind,Sem.run_pure,hl,Result.andThen_ok]
theorem QUZ {w w':World}(hl:(Instr.next V false o.type).run P w=.ok R w')(ho:o.op=.next x false:=by exact rfl)(hx:ρ x=V:=by kernel_rfl):(execOp ρ o).run P w=.ok (.value R) w':=by
 unfold execOp
 simp only[ho,hx,Sem.run_bind,Sem.run_pure,hl,Result.andThen_ok]
theorem QVS {w:World}(hl:(Instr.entry V).run P w=.ok R w)(ho:o.op=.entry x:=by exact rfl)(hx:ρ x=V:=by kernel_rfl):(execOp ρ o).run P w=.ok (.value R) w:=by
 unfold execOp
 simp only[ho,hx,Sem.run_bind,Sem.run_pure,hl,Result.andThen_ok]
theorem QHu {t:TypeId} {w w':World}(hl:(Instr.makeMap t none).run P w=.ok R w')(ho:o.op=.makeMap t none:=by exact rfl):(execOp ρ o).run P w=.ok (.value R) w':=by
 unfold execOp
 simp only[ho,Option.map_none,Sem.run_bind,Sem.run_pure,hl,Result.andThen_ok]
theorem QRg {t u:TypeId} {w w':World}(hl:(Builtin.delete_ #[t,u] o.type #[V,W]).run P w=.ok R w')(ho:o.op=.call { callee:=.builtin .delete,args:=#[x,y],argTypes:=#[t,u] }:=by exact rfl)(hx:ρ x=V:=by kernel_rfl)(hy:ρ y=W:=by kernel_rfl):(execOp ρ o).run P w=.ok (.value R) w':=by
 unfold execOp
 simp[ho,hx,hy,resolve,invoke,builtin,Sem.run_bind,Sem.run_pure,hl,Result.andThen_ok]
theorem Jm {t:TypeId} {w:World}(hl:(Instr.indexAt t V W).run P w=.ok R w)(ho:o.op=.indexAddr t x y:=by exact rfl)(hx:ρ x=V:=by kernel_rfl)(hy:ρ y=W:=by kernel_rfl):(execOp ρ o).run P w=.ok (.value R) w:=by
 unfold execOp
 simp only[ho,hx,hy,Sem.run_bind,Sem.run_pure,hl,Result.andThen_ok]
theorem Xb {op:BinOp} {t r:TypeId} {w:World}(hg:(eqGuard op t x y V W).run P w=.ok () w)(hb:(binOp op t V W).run P w=.ok R w)(ho:o.op=.binOp op t x y r:=by exact rfl)(hx:ρ x=V:=by kernel_rfl)(hy:ρ y=W:=by kernel_rfl):(execOp ρ o).run P w=.ok (.value R) w:=by
 unfold execOp
 simp only[ho,hx,hy,Sem.run_bind,Sem.run_pure,hg,hb,Result.andThen_ok]
theorem QHf {t:TypeId} {f:Nat} {w:World}(hf:(Instr.fieldAt t V f).run P w=.ok R w)(ho:o.op=.fieldAddr t x f:=by exact rfl)(hx:ρ x=V:=by kernel_rfl):(execOp ρ o).run P w=.ok (.value R) w:=by
 unfold execOp
 simp only[ho,hx,Sem.run_bind,Sem.run_pure,hf,Result.andThen_ok]
theorem Jc {t:TypeId} {w:World}(hl:(Instr.loadAt t V).run P w=.ok R w)(ho:o.op=.load t x:=by exact rfl)(hx:ρ x=V:=by kernel_rfl):(execOp ρ o).run P w=.ok (.value R) w:=by
 unfold execOp
 simp only[ho,hx,Sem.run_bind,Sem.run_pure,hl,Result.andThen_ok]
theorem X7 {t:TypeId} {n:Nat} {parts:Array (Nat×Operand)} {ps:Array (Nat×Value)} {w w':World}(h:(Instr.buildSlice t n ps).run P w=.ok V w')(ho:o.op=.buildSlice t n parts:=by exact rfl)(hx:(parts.map fun (i,x)=>(i,ρ x))=ps:=by kernel_rfl):(execOp ρ o).run P w=.ok (.value V) w':=by
 unfold execOp
 simp only[ho,hx,Sem.run_bind,Sem.run_pure,h,Result.andThen_ok]
theorem QBL {P:Program} {ρ:Operand→Value} {o:Oper} {x:Operand} {V R:Value} {s t:TypeId} {w:World}(hc:(convert s t V).run P w=.ok R w)(ho:o.op=.convert s t x:=by exact rfl)(hx:ρ x=V:=by kernel_rfl):(execOp ρ o).run P w=.ok (.value R) w:=by
 unfold execOp
 simp only[ho,hx,Sem.run_bind,Sem.run_pure,hc,Result.andThen_ok]
theorem QP4 {P:Program} {ρ:Operand→Value} {o:Oper} {x:Operand} {w:World}(V:Value)(vs:Array Value){i:Nat}(hx:ρ x=.tuple vs:=by kernel_rfl)(hi:vs[i]? = some V:=by kernel_rfl)(ho:o.op=.extract x i:=by exact rfl):(execOp ρ o).run P w=.ok (.value V) w:=by
 unfold execOp
 simp[ho,hx,Instr.extract,hi]
theorem QCv {P:Program} {ρ:Operand→Value} {o:Oper} {x:Operand} {V R:Value} {t:TypeId} {lo hi mx:Option Operand} {l m n:Option Value} {w:World}(h:(Instr.sliceAt t V l m n).run P w=.ok R w)(ho:o.op=.slice t x lo hi mx:=by exact rfl)(hx:ρ x=V:=by kernel_rfl)(hl:lo.map ρ=l:=by kernel_rfl)(hh:hi.map ρ=m:=by kernel_rfl)(hm:mx.map ρ=n:=by kernel_rfl):(execOp ρ o).run P w=.ok (.value R) w:=by
 unfold execOp
 simp only[ho,hx,hl,hh,hm,Sem.run_bind,Sem.run_pure,h,Result.andThen_ok]
theorem QW4 {P:Program} {ρ:Operand→Value} {o:Oper} {x y:Operand} {V W R:Value} {t:TypeId} {w w':World}(h:(Instr.makeSlice t V W).run P w=.ok R w')(ho:o.op=.makeSlice t x y:=by exact rfl)(hx:ρ x=V:=by kernel_rfl)(hy:ρ y=W:=by kernel_rfl):(execOp ρ o).run P w=.ok (.value R) w':=by
 unfold execOp
 simp only[ho,hx,hy,Sem.run_bind,Sem.run_pure,h,Result.andThen_ok]
theorem QJ6 {P:Program} {ρ:Operand→Value} {o:Oper} {x y:Operand} {V W:Value} {t:TypeId} {w w':World}(h:(Instr.storeAt t V W).run P w=.ok () w')(ho:o.op=.store t x y:=by exact rfl)(hx:ρ x=V:=by kernel_rfl)(hy:ρ y=W:=by kernel_rfl):(execOp ρ o).run P w=.ok .skip w':=by
 unfold execOp
 simp only[ho,hx,hy,Sem.run_bind,Sem.run_pure,h,Result.andThen_ok]
end
section
variable {ρ:Operand→Value} {o:Oper} {x y:Operand}
theorem QSo (k:Nat)(h:k < 4611686018427387904)(w:World):(binOp .add 3 (.int .i64 (k:Int)) (.int .i64 1)).run Tryz.prog w=.ok (.int .i64 ((k+1:Nat):Int)) w:=by
 have e:IntKind.i64.wrap ((k:Int)+1)=((k+1:Nat):Int):=by simp[IntKind.wrap,IntKind.bits,IntKind.signed];omega
 simp[go_sem,e]
theorem QBc (k:Nat)(h:k < 4611686018427387904){r:TypeId} {w:World}(ho:o.op=.binOp .add 3 x y r:=by exact rfl)(hx:ρ x=.int .i64 (k:Int):=by kernel_rfl)(hy:ρ y=.int .i64 1:=by kernel_rfl):(execOp ρ o).run Tryz.prog w=.ok (.value (.int .i64 ((k+1:Nat):Int))) w :=
 Xb (by simp[go_sem]) (QSo k h w) ho hx hy
theorem add_zero' (p:Addr):p.add 0=p:=by cases p;simp[Addr.add]
theorem ldA {w:World} {p:Addr} {V:Value}(h:w.cell? p=some V):(Instr.loadAt 22 (.pointer (some p))).run Tryz.prog w=.ok V w:=by simp[go_sem,h]
theorem ldD {w:World} {p:Addr} {V:Value}(h:w.cell? p=some V):(Instr.loadAt 5 (.pointer (some p))).run Tryz.prog w=.ok V w:=by simp[go_sem,h]
theorem ixB (p:Addr)(n c k:Nat)(h:k < n)(w:World):(Instr.indexAt 26 (.slice (some p) n c) (.int .i64 (k:Int))).run Tryz.prog w=.ok (.pointer (some (p.add k))) w:=by
 simp[go_sem,h]
theorem QMB (a:Int)(h:0≤a∧a≤65535)(w:World):(convert 3 22 (.int .i64 a)).run Tryz.prog w=.ok (.int .u16 a) w:=by
 have e:IntKind.u16.wrap a=a:=by rw[IntKind.wrap_u16];omega
 simp[go_sem,e]
theorem QTk (k:Nat)(h:k < 65536)(w:World):(binOp .rem 3 (.int .i64 (k:Int)) (.int .i64 65536)).run Tryz.prog w=.ok (.int .i64 (k:Int)) w:=by
 have e1:(k:Int).tmod 65536=k:=Int.tmod_eq_of_lt (by omega) (by omega)
 have e:IntKind.i64.wrap (k:Int)=(k:Int):=by rw[IntKind.wrap_i64];omega
 simp[go_sem,e1,e]
theorem QT8 (a b:Int)(w:World):(binOp .add 22 (.int .u16 a) (.int .u16 b)).run Tryz.prog w=.ok (.int .u16 ((a+b)%65536)) w:=by simp[go_sem,IntKind.wrap_u16]
theorem QHj (op:BinOp)(x y:Operand)(a b:Int)(w:World):(eqGuard op 22 x y (.int .u16 a) (.int .u16 b)).run Tryz.prog w=.ok () w:=by simp[go_sem]
theorem BytesIn.ld {w:World} {B:Nat} {p:Addr} {xs:List Int}(h:BytesIn w B (some p) xs){k:Nat}(hk:k < xs.length):(Instr.loadAt 5 (.pointer (some (p.add k)))).run Tryz.prog w=.ok (.int .u8 xs[k]) w:=by
 obtain⟨q,e,-,h1⟩:=h k _ (List.getElem?_eq_getElem hk)
 cases e
 exact ldD h1
theorem BytesIn.addr {w:World} {B:Nat} {A:Option Addr} {xs:List Int}(h:BytesIn w B A xs){k:Nat}(hk:k < xs.length):∃ p,A=some p:=by
 obtain⟨q,e,-⟩:=h k _ (List.getElem?_eq_getElem hk)
 exact⟨q,e⟩
end
structure EvQ where
 ok:Bool
 l:JY
 fs:List ((World→Result Next)×(World→Result Next))
def evq (P:Program)(ops:Array Oper)(W:World)(n:Nat)(base:List Value):List Oper→JY→List ((World→Result Next)×(World→Result Next))→EvQ
 | [],l,fs=>⟨true,l,fs⟩
 | o :: r,l,fs=>match J0 ops n base l o with
   | some true=>match evP P W n base l o with
     | some (l',gs)=>evq P ops W n base r l' (gs++fs)
     | none=>⟨false,l,fs⟩
   | some false=>match o.dst with
     | some d=>bif Nat.blt d n then evq P ops W n base r ((d,undef) :: l) fs else ⟨false,l,fs⟩
     | none=>⟨false,l,fs⟩
   | none=>⟨false,l,fs⟩
def okQ (E:EvQ):Prop:=(E.ok,E.fs.map (·.1))=(true,E.fs.map (·.2))
section
variable {P:Program} {ops:Array Oper} {Q:Exit→Act→World→Prop} {S:World→Prop} {base:List Value} {l:JY} {w w0:World} {o:Oper}
theorem QHh {W:World}:∀ (os:List Oper) (l:JY) (fs),(evq P ops W base.length base os l fs).ok=true→∀ x∈fs,x∈(evq P ops W base.length base os l fs).fs
 | [],_,_,_=>fun _ h=>h
 | o :: r,l,fs,hok=>by
   unfold evq at hok ⊢
   split at hok
   · split at hok
     · rename_i l' gs he
       exact fun x hx=>QHh r l' (gs++fs) hok x (List.mem_append_right _ hx)
     · cases hok
   · split at hok
     · rename_i d hd
       cases hn:Nat.blt d base.length<;>rw[hn] at hok
       · cases hok
       · exact QHh r _ fs hok
     · cases hok
   · cases hok
theorem QEg {W:World} {n:Nat}(hB:Qg ops n=true)(hQ:∀ d v c a w,Q (.panic c) (a.put d v) w→Q (.panic c) a w) :
 ∀ (is:List Nat) (f:Nat) (listed:Array Bool) (l:JY) (fs) (w:World),(evq P ops W base.length base (atO ops is) l fs).ok=true→(∀ x∈(evq P ops W base.length base (atO ops is) l fs).fs,x.1=x.2) →
 QFp ops n is listed=true→S w→PO P ops Q S n base f (QNl is listed) (evq P ops W base.length base (atO ops is) l fs).l w→PO P ops Q S n base (f+is.length) listed l w
 | [],f,listed,l,fs,w,_,_,_,_,h=>h
 | i :: r,f,listed,l,fs,w,hok,hf,ho,hS,h=>by
   simp only[QFp,Bool.and_eq_true] at ho
   obtain⟨h1,h2,h3,h4,h5⟩:=ho
   obtain⟨o,hoi⟩:=Option.isSome_iff_exists.1 h1
   have hat:atO ops (i :: r)=o :: atO ops r:=by rw[atO,hoi]
   rw[hat] at hok hf h
   unfold evq at hok hf h
   split at hok
   case h_2 hw =>
    simp only[hw] at hf h
    split at hok
    · rename_i d hd
      simp only[hd] at hf h
      cases hn:Nat.blt d base.length<;>rw[hn] at hok
      · cases hok
      · simp only[hn,cond_true] at hf h
        have:=QEg hB hQ r f (listed.setIfInBounds i true) _ fs w hok hf h5 hS h
        refine⟨fun hi=>QF5 d hd hoi hB h2 h3 h4 (by rw[hd];exact hQ (some d) undef) (Jd hw hi) hS ?_⟩
        rw[J3]
        exact this.h ⟨by simpa [Nat.blt_eq] using hn,hi⟩
    · cases hok
   case h_3=>cases hok
   case h_1 hw =>
   simp only[hw] at hf h
   split at hok
   · rename_i l' gs he
     simp only[he] at hf h
     have hm:=QHh (atO ops r) l' (gs++fs) hok
     have key:∃ d v,o.dst=some d∧Nat.blt d base.length=true∧l'=(d,v) :: l∧∀ w',(execOp (evO base l) o).run P w'=.ok (.value v) w':=by
      unfold evP at he
      split at he
      · rename_i d x hd hop
        cases hlt:Nat.blt d base.length<;>rw[hlt] at he
        · cases he
        · injection he with he;injection he with e1 e2
          exact⟨d,_,hd,hlt,e1.symm,fun w'=>QCd (.inl hop) w'⟩
      · rename_i d x hd hop
        cases hlt:Nat.blt d base.length<;>rw[hlt] at he
        · cases he
        · injection he with he;injection he with e1 e2
          exact⟨d,_,hd,hlt,e1.symm,fun w'=>QCd (.inr hop) w'⟩
      · rename_i d hd n1 n2
        split at he
        · rename_i v w1 hv
          cases hlt:Nat.blt d base.length<;>rw[hlt] at he
          · cases he
          · injection he with he;injection he with e1 e2
            exact⟨d,v,hd,hlt,e1.symm,fun w'=>congrFun (hf _ (hm _ (List.mem_append_left _ (by rw[←e2];exact List.mem_cons_self)))) w'⟩
        · cases he
      · cases he
     obtain⟨d,v,hd,hn,el,hv⟩:=key
     have:=QEg hB hQ r f (listed.setIfInBounds i true) l' (gs++fs) w hok hf h5 hS h
     rw[el] at this
     refine⟨fun hi=>ZM d v hd hoi hB h2 h3 h4 (by rw[hd];exact hQ (some d) v) (Jd hw hi) (fun w' hs=>by rw[Jj hi];exact hv w') hS ?_⟩
     rw[J3]
     exact this.h ⟨by simpa [Nat.blt_eq] using hn,hi⟩
   · cases hok
theorem qM {n f:Nat} {listed:Array Bool}(is:List Nat)(hS:S w)(h:PO P ops Q S n base (f-is.length) (QNl is listed) (evq P ops w base.length base (atO ops is) l []).l w)
 (hk:okQ (evq P ops w base.length base (atO ops is) l []):=by unfold okQ;kernel_rfl)(ha:(QFp ops n is listed&&(Qg ops n&&Nat.ble is.length f))=true:=by kernel_rfl)
 (hQ:∀ d v c a w,Q (.panic c) (a.put d v) w→Q (.panic c) a w:=by intro d _ _ _ _ h;cases d<;>exact h):PO P ops Q S n base f listed l w:=by
 simp only[Bool.and_eq_true] at ha
 obtain⟨a2,a3,a4⟩:=ha
 simp only[okQ,Prod.mk.injEq] at hk
 obtain⟨h1,h3⟩:=hk
 have hle:is.length≤f:=by simpa using a4
 have:=QEg (S:=S) (base:=base) (W:=w) a3 hQ is (f-is.length) listed l [] w h1 (Qt h3) a2 hS h
 rwa [Nat.sub_add_cancel hle] at this
def ZX (ops:Array Oper)(i:Nat):Oper:=(ops[i]?).getD { dst:=none,op:=.move (.const undef),type:=0,pos := "",after:=#[],guard:=none }
theorem QBs {ops:Array Oper} {i:Nat}(h:(ops[i]?).isSome=true):ops[i]? = some (ZX ops i):=by
 unfold ZX
 cases e:ops[i]? with
 | none=>rw[e] at h;cases h
 | some o=>rfl
theorem qT {n f:Nat} {listed:Array Bool} {V:Value}(i:Nat)(hS:S w)(he:∀ w',S w'→(execOp (evO base l) (ZX ops i)).run P w'=.ok (.value V) w')(h:PO P ops Q S n base (f-1) (listed.setIfInBounds i true) (Qz (ZX ops i).dst V l) w)
 (hd:((ZX ops i).dst.isSome,Q2 (ZX ops i).dst base.length,J0 ops base.length base l (ZX ops i))=(true,true,some true):=by kernel_rfl)(ha:(QFp ops n [i] listed&&(Qg ops n&&Nat.blt 0 f))=true:=by kernel_rfl)
 (hQ:∀ d v c a w,Q (.panic c) (a.put d v) w→Q (.panic c) a w:=by intro d _ _ _ _ h;cases d<;>exact h):PO P ops Q S n base f listed l w:=by
 simp only[Prod.mk.injEq] at hd
 obtain⟨d1,d2,d3⟩:=hd
 simp only[QFp,Bool.and_eq_true] at ha
 obtain⟨⟨a1,a2,a3,a4,-⟩,a5,a6⟩:=ha
 have ho:=QBs a1
 obtain⟨d,hd⟩:=Option.isSome_iff_exists.1 d1
 have hf:f=(f-1)+1:=by have:0 < f:=by simpa [Nat.blt_eq] using a6
                       omega
 rw[hf]
 refine⟨fun hi=>ZM d V hd ho a5 a2 a3 a4 (by rw[hd];exact hQ (some d) V) (Jd d3 hi) (fun w' hs=>by rw[Jj hi];exact he w' hs) hS ?_⟩
 rw[←hd,J3]
 exact h.h (XI d2 hi)
structure SO (P:Program)(ops:Array Oper)(Q:Exit→Act→World→Prop)(S:World→Prop)(n:Nat)(base:List Value)(f:Nat)(listed:Array Bool)(i:Nat)(l:JY)(w:World):Prop where
 h:inO base.length l→i∈Region.ready .any ops listed→HeadInv .any ops n listed→i < n∧wpOp P ops Q i (fun a' w'=>S w'∧QAU P .any ops Q S n (QPa P ops Q n) f (listed.setIfInBounds i true) a' w') (XW base l) w
theorem zO {n f:Nat} {listed:Array Bool}(i:Nat)(h:SO P ops Q S n base (f-1) listed i l w)(hr:(Region.ready .any ops listed,Nat.blt 0 f)=([i],true):=by kernel_rfl):PO P ops Q S n base f listed l w:=by
 simp only[Prod.mk.injEq] at hr
 have hf:f=(f-1)+1:=by have:0 < f:=by simpa [Nat.blt_eq] using hr.2
                       omega
 rw[hf]
 refine⟨fun hi inv=>⟨by rw[hr.1];simp,fun k hk=>?_⟩⟩
 have hk':=hk
 rw[hr.1] at hk
 obtain rfl:k=i:=by simpa using hk
 exact h.h hi hk' inv
theorem QWI {n f:Nat} {listed:Array Bool}(i j:Nat)(h:SO P ops Q S n base (f-1) listed i l w)(h2:SO P ops Q S n base (f-1) listed j l w)(hr:(Region.ready .any ops listed,Nat.blt 0 f)=([i,j],true):=by kernel_rfl):PO P ops Q S n base f listed l w:=by
 simp only[Prod.mk.injEq] at hr
 have hf:f=(f-1)+1:=by have:0 < f:=by simpa [Nat.blt_eq] using hr.2
                       omega
 rw[hf]
 refine⟨fun hi inv=>⟨by rw[hr.1];simp,fun k hk=>?_⟩⟩
 have hk':=hk
 rw[hr.1] at hk
 have:k=i∨k=j:=by simpa using hk
 rcases this with rfl|rfl
 · exact h.h hi hk' inv
 · exact h2.h hi hk' inv
theorem soC {n f i:Nat} {listed:Array Bool} {g:FuncId} {args:Array Value} {R:Ending→World→Prop}(hc:Calls P g args w R)(h:∀ e w',R e w'→∃ V,e=.returned V∧S w'∧PO P ops Q S n base f (listed.setIfInBounds i true) (Qz (ZX ops i).dst V l) w')
 (hd:(Q2 (ZX ops i).dst base.length,decide (i < n),J0 ops base.length base l (ZX ops i),(ops[i]?).isSome)=(true,true,some true,true):=by kernel_rfl)(he:(execOp (evO base l) (ZX ops i)).run P w=.ok (.enter g args) w:=by kernel_rfl):SO P ops Q S n base f listed i l w:=by
 simp only[Prod.mk.injEq] at hd
 obtain⟨d1,d2,d3,d4⟩:=hd
 have ho:=QBs d4
 refine⟨fun hi hr inv=>⟨of_decide_eq_true d2,?_⟩⟩
 unfold wpOp
 simp only[ho,Jd d3 hi,if_true]
 refine .inl ?_
 unfold Oper.wp
 rw[Jj hi,he,Oper.upon_enter]
 refine hc.mono fun e w' hR=>?_
 obtain⟨V,rfl,hS,hp⟩:=h e w' hR
 dsimp only
 rw[J3]
 exact⟨hS,hp.h (XI d1 hi) (inv.set hr (of_decide_eq_true d2))⟩
end
def T3.v (T:T3):Value:=.tuple #[cyV T.c,JM T.g,.bool T.b]
def Qb:List Cy→List Value
 | []=>[]
 | c :: r=>.int .i64 c.kind :: .int .u16 c.addr :: .int .u8 c.data :: .int .i64 c.t :: Qb r
theorem ZK:∀ l:List Cy,(Qb l).length=l.length*4
 | []=>rfl
 | c :: r=>by simp only[Qb,List.length_cons,ZK r];omega
theorem QAN:∀ l m:List Cy,Qb l++Qb m=Qb (l++m)
 | [],_=>rfl
 | c :: r,m=>by simp only[Qb,List.cons_append,QAN r m]
theorem QEa:∀ l:List Cy,∀ u∈Qb l,u.oneCell'=true
 | [],_,h=>by cases h
 | c :: r,u,h=>by
   simp only[Qb,List.mem_cons] at h
   rcases h with rfl|rfl|rfl|rfl|h
   · rfl
   · rfl
   · rfl
   · rfl
   · exact QEa r u h
theorem QHV:∀ (l:List Cy) (k:Nat) (hk:k < l.length),(Qb l)[k*4]? = some (.int .i64 l[k].kind)∧(Qb l)[k*4+1]? = some (.int .u16 l[k].addr)∧(Qb l)[k*4+2]? = some (.int .u8 l[k].data)∧(Qb l)[k*4+3]? = some (.int .i64 l[k].t)
 | [],k,h=>by simp at h
 | c :: r,0,_=>⟨rfl,rfl,rfl,rfl⟩
 | c :: r,k+1,h=>by
   have:=QHV r k (by simpa using h)
   rw[show (k+1)*4=k*4+1+1+1+1 by omega,show k*4+1+1+1+1+1=k*4+1+1+1+1+1 from rfl,show k*4+1+1+1+1+2=k*4+2+1+1+1+1 by omega,show k*4+1+1+1+1+3=k*4+3+1+1+1+1 by omega]
   simp only[Qb,List.getElem?_cons_succ,List.getElem_cons_succ]
   exact this
def CysIn (w:World)(B:Nat)(A:Option Addr)(l:List Cy):Prop:=∀ (j:Nat) (u:Value),(Qb l)[j]? = some u→∃ p,A=some p∧p.block < B∧w.cell? (p.add j)=some u
theorem CysIn.keep {w w':World} {B:Nat} {A:Option Addr} {l:List Cy}(h:CysIn w B A l)(k:∀ b,b < B→w'.heap[b]? = w.heap[b]?):CysIn w' B A l:=fun j c hc=>by
 obtain⟨p,e,hb,h1⟩:=h j c hc
 exact⟨p,e,hb,(World.cell?_of_block (by rw[add_block];exact k _ hb)).trans h1⟩
theorem CysIn.more {w:World} {B B':Nat} {A:Option Addr} {l:List Cy}(h:CysIn w B A l)(k:B≤B'):CysIn w B' A l:=fun j c hc=>by
 obtain⟨p,e,hb,h1⟩:=h j c hc
 exact⟨p,e,Nat.lt_of_lt_of_le hb k,h1⟩
theorem CysIn.below {w w':World} {B:Nat} {A:Option Addr} {l:List Cy}(h:CysIn w B A l)(k:Below B w w'):CysIn w' B A l:=h.keep fun b hb=>k.block b hb
theorem CysIn.addr {w:World} {B:Nat} {A:Option Addr} {l:List Cy}(h:CysIn w B A l){k:Nat}(hk:k < l.length):∃ p,A=some p:=by
 obtain⟨p,e,-⟩:=h _ _ (QHV l k hk).1
 exact⟨p,e⟩
theorem CysIn.values {w:World} {B:Nat} {p:Addr} {l:List Cy}(h:CysIn w B (some p) l):∀ j u,(Qb l)[j]? = some u→w.cell? (p.add j)=some u:=fun j u hu=>by
 obtain⟨q,e,-,h1⟩:=h j u hu
 cases e
 exact h1
theorem CysIn.of_values {w:World} {B:Nat} {p:Addr} {l:List Cy}(hb:p.block < B)(h:∀ j u,(Qb l)[j]? = some u→w.cell? (p.add j)=some u):CysIn w B (some p) l:=fun j c hc=>⟨p,rfl,hb,h j c hc⟩
theorem QUU {w:World} {p:Addr} {a b c d:Int}(h0:w.cell? p=some (.int .i64 a))(h1:w.cell? (p.add 1)=some (.int .u16 b))(h2:w.cell? (p.add 2)=some (.int .u8 c))(h3:w.cell? (p.add 3)=some (.int .i64 d)):(Instr.loadAt 30 (.pointer (some p))).run Tryz.prog w=.ok (cyV ⟨a,b,c,d⟩) w:=by
 have e1:w.cell? { block:=p.block,off:=p.off+1 }=some (.int .u16 b):=by simpa [Addr.add] using h1
 have e2:w.cell? { block:=p.block,off:=p.off+2 }=some (.int .u8 c):=by simpa [Addr.add] using h2
 have e3:w.cell? { block:=p.block,off:=p.off+3 }=some (.int .i64 d):=by simpa [Addr.add] using h3
 simp[go_sem,h0,e1,e2,e3]
theorem QD9 (p:Addr)(a b:Nat)(hb:b≠0):(p.add a).add b=p.add (a+b):=by
 cases p
 unfold Addr.add
 split<;>split<;>simp_all<;>omega
theorem CysIn.ld {w:World} {B:Nat} {p:Addr} {l:List Cy}(h:CysIn w B (some p) l){k:Nat}(hk:k < l.length):(Instr.loadAt 30 (.pointer (some (p.add (k*4))))).run Tryz.prog w=.ok (cyV l[k]) w:=by
 obtain⟨h0,h1,h2,h3⟩:=QHV l k hk
 exact QUU (h.values _ _ h0) (by rw[QD9 _ _ _ (by omega)];exact h.values _ _ h1) (by rw[QD9 _ _ _ (by omega)];exact h.values _ _ h2) (by rw[QD9 _ _ _ (by omega)];exact h.values _ _ h3)
theorem cixY (p:Addr)(n c k:Nat)(h:k < n)(w:World):(Instr.indexAt 82 (.slice (some p) n c) (.int .i64 (k:Int))).run Tryz.prog w=.ok (.pointer (some (p.add (k*4)))) w:=by
 have h1:(k:Int) < n:=by omega
 simp[go_sem,h]
theorem QP2:(Tryz.prog.info? 30).map (fun i=>(i.zero,i.size,i.bytes))=some (some (cyV JN),4,24):=by kernel_rfl
theorem QDw {W:World} {b n:Nat} {v:Value} {l:List Cy}(h:W.ownsRow b 30 4 v n (Qb l)):∃ A c,v=.slice A n c∧n≤c∧CysIn W W.heap.size A l∧(A=none→c=0):=by
 rcases h.2 with ⟨e1,e2⟩|⟨g,c,cur,e1,-,hh,hle,-⟩
 · subst e1 e2
   have h1:=h.1
   rw[ZK] at h1
   obtain rfl:l=[]:=List.eq_nil_of_length_eq_zero (by omega)
   exact⟨none,0,rfl,Nat.le_refl _,fun j u h=>by simp[Qb] at h,fun _=>rfl⟩
 · subst e1
   exact⟨_,c,rfl,hle,CysIn.of_values (Array.getElem?_eq_some_iff.1 hh).1 (h.cells (g:=g) rfl),fun e=>by cases e⟩
section
variable {ops:Array Oper} {Q:Exit→Act→World→Prop} {base:List Value} {rest:List Oper} {l:JY} {w:World} {o:Oper}
theorem qAy (s x:Operand)(bs B:Nat)(v:Value)(n:Nat)(got:List Cy)(p:Addr)(c m:Nat)(ys:List Cy)(hbs:bs≤w.heap.size)
 (hown:w.ownsRow bs 30 4 v n (Qb got))(hy:CysIn w B (some p) ys)(hm:m=ys.length)(hmax:n+m≤1000000)
 (h:∀ v' w',w'.ownsRow bs 30 4 v' (n+m) (Qb (got++ys))→w.grownBy w' v.ownBlock→WO Tryz.prog ops Q base rest (Qz o.dst v' l) w')
 (ho:o.op=.call { callee:=.builtin .append,args:=#[s,x],argTypes:=#[82,82] }:=by exact rfl)(hg:o.guard=none:=by exact rfl)(hs:evO base l s=v:=by kernel_rfl)(hx:evO base l x=.slice (some p) m c:=by kernel_rfl)(hd:Q2 o.dst base.length=true:=by kernel_rfl):WO Tryz.prog ops Q base (o :: rest) l w :=
 ⟨fun hi=>⟨by
  obtain⟨i0,hi0,hz0,hz1,hz2⟩:=info_parts QP2
  subst hm
  refine wpList_append_own_at _ hg s x _ ho bs 30 i0 _ 4 24 Tryz.underlying82 hi0 hz0 hz1 hz2 rfl (by omega) v n (Qb got) (by rw[Jj hi];exact hs) hown p ys.length c (Qb ys) (by rw[Jj hi];exact hx) (ZK ys) hy.values (QEa ys) (by simp only[maxLen];omega) (by omega) hbs ?_
  intro v' w' own' hgr _ _
  rw[QAN] at own'
  rw[J3]
  exact ((h v' w' own' hgr).h (XI hd hi)).h⟩⟩
end
theorem QSq (w:World)(l:List Cy)(t:TypeId):CysIn (w.alloc (.cells (Qb l).toArray t)) (w.heap.size+1) (some ⟨w.heap.size,0,none⟩) l:=CysIn.of_values (by simp) (XP w (Qb l) t)
theorem QTT {w:World} {b:Nat} {t:TypeId} {l:List Cy}(h:Row w b t (Qb l).toArray):CysIn w w.heap.size (some ⟨b,0,none⟩) l:=CysIn.of_values h.lt fun j u hu=>by
 rw[show (⟨b,0,none⟩:Addr).add j=⟨b,j,none⟩ by simp[Addr.add];omega,h.cell j]
 simpa using hu
theorem QSd {w:World} {b:Nat} {t:TypeId} {cur:List Value} {l:List Cy}(n:Nat)(h:Row w b t cur.toArray)(e:cur.take n=Qb l):CysIn w w.heap.size (some ⟨b,0,none⟩) l:=CysIn.of_values h.lt fun j u hu=>by
 rw[show (⟨b,0,none⟩:Addr).add j=⟨b,j,none⟩ by simp[Addr.add];omega,h.cell j]
 rw[←e,List.getElem?_take] at hu
 split at hu
 · simpa using hu
 · cases hu
theorem QQM {w:World} {b base:Nat} {l:List Cy}(n:Nat)(h:Row w b 30 (Qb l).toArray)(hb:base≤b)(hn:n=l.length)(hm:n≤1000):w.ownsRow base 30 4 (.slice (some ⟨b,0,none⟩) n n) n (Qb l) :=
 ⟨by rw[ZK,hn],.inr ⟨b,n,_,rfl,hb,h,Nat.le_refl _,by simp only[maxLen];omega,by simp[ZK,hn],by simp only[];exact List.take_of_length_le (by rw[ZK,hn];exact Nat.le_refl _)⟩⟩
section
variable {ops:Array Oper} {Q:Exit→Act→World→Prop} {base:List Value} {l:JY} {w w0:World} {L:List Nat} {rs:List RowK}
theorem soZ {n f i:Nat} {listed:Array Bool} {x y:Operand}(j b:Nat)(hm:Many w0 L rs w)(h:∀ w',Many w0 L rs w'→PO Tryz.prog ops Q (Many w0 L rs) n base f (listed.setIfInBounds i true) l w')
 (hj:rs[j]? = some ⟨b,30,(cyC JN).toList.map some⟩:=by kernel_rfl)(ho:(ZX ops i).op=.store 30 x y:=by exact rfl)(hx:evO base l x=pT b 0:=by kernel_rfl)(hy:evO base l y=cyV JN:=by kernel_rfl)
 (hd:((ZX ops i).dst.isNone,decide (i < n),J0 ops base.length base l (ZX ops i),(ops[i]?).isSome)=(true,true,some true,true):=by kernel_rfl):SO Tryz.prog ops Q (Many w0 L rs) n base f listed i l w:=by
 simp only[Prod.mk.injEq] at hd
 obtain⟨d1,d2,d3,d4⟩:=hd
 have ho':=QBs d4
 have hdn:(ZX ops i).dst=none:=Option.isNone_iff_eq_none.1 d1
 have r:=hm.row j (cyC JN).toList hj
 have hs:=QHO (c:=JN) r
 have he:∀ l',(execOp (evO base l) (ZX ops i)).run Tryz.prog w=.ok .skip l'↔l'=w.setCells b 0 (cyC JN).toList:=fun l'=>by
  rw[QJ6 hs ho hx hy]
  constructor
  · intro e;injection e with _ e;exact e.symm
  · rintro rfl;rfl
 have e1:=(he _).2 rfl
 have hm':Many w0 L rs (w.setCells b 0 (cyC JN).toList):=by
  have k:=hm.turn (cs:=(cyC JN).toList.map some) hj (r.setAll rfl) ⟨by simp,fun k v e=>by rw[List.getElem?_map] at e;obtain⟨u,h1,h2⟩:=Option.map_eq_some_iff.1 e;injection h2 with h2;rw[←h2,←Array.getElem?_toList];exact h1⟩ (QIv b _ 0 (Besides.refl ..))
  have:rs.set j ⟨b,30,(cyC JN).toList.map some⟩=rs:=by
   apply List.ext_getElem?
   intro q
   rw[List.getElem?_set]
   split
   · rename_i e;subst e;split
     · exact hj.symm
     · rename_i e;rw[List.getElem?_eq_none (by omega)]
   · rfl
  rwa [this] at k
 refine⟨fun hi hr inv=>⟨of_decide_eq_true d2,?_⟩⟩
 unfold wpOp
 simp only[ho',Jd d3 hi,if_true]
 refine .inl ?_
 unfold Oper.wp
 rw[Jj hi,e1,Oper.upon_skip,hdn]
 exact⟨hm',(h _ hm').h hi (inv.set hr (of_decide_eq_true d2))⟩
end
section
variable {base:List Value} {l:JY} {w w0:World} {L:List Nat} {rs:List RowK}
theorem Many.rowK (h:Many w0 L rs w)(i:Nat)(vs:List Value){b:Nat}(e:(rs[i]?).map (fun r=>(pT r.b 0,r.cs))=some (pT b 0,vs.map some)):∃ t,Row w b t vs.toArray:=by
 cases hr:rs[i]? with
 | none=>rw[hr] at e;cases e
 | some r =>
   obtain⟨rb,rt,rc⟩:=r
   rw[hr] at e
   injection e with e;injection e with e1 e2
   injection e1 with e1;injection e1 with e1;injection e1 with e1
   dsimp only at e1 e2
   subst e1 e2
   exact⟨rt,h.row i vs hr⟩
theorem zw {fn:Func} {R:Ending→World→Prop} {s1 s2 s3:Tmp}(i j:Nat)(c:Cy)(g:Rg)(b:Bool)(b1 b2:Nat)(hm:Many w0 L rs w)(hR:R (.returned (.tuple #[cyV c,JM g,.bool b])) w)
 (hres:fn.results=#[.cell s1 30,.cell s2 24,.tmp s3]:=by exact rfl)
 (h1:(rs[i]?).map (fun r=>(pT r.b 0,r.cs))=some (pT b1 0,(cyC c).toList.map some):=by kernel_rfl)(h2:(rs[j]?).map (fun r=>(pT r.b 0,r.cs))=some (pT b2 0,(JO g).toList.map some):=by kernel_rfl)
 (k1:lkO base s1 l=pT b1 0:=by kernel_rfl)(k2:lkO base s2 l=pT b2 0:=by kernel_rfl)(k3:lkO base s3 l=.bool b:=by kernel_rfl):EO (bodyPost Tryz.prog fn R) .ret base l w:=by
 obtain⟨t1,r1⟩:=hm.rowK i _ h1
 obtain⟨t2,r2⟩:=hm.rowK j _ h2
 exact⟨fun hin=>bodyPost_ret (Xl hres ((congrFun (Jj hin) (.tmp s1)).trans k1) ((congrFun (Jj hin) (.tmp s2)).trans k2) ((congrFun (Jj hin) (.tmp s3)).trans k3) r1 r2) rfl hR⟩
theorem QJg {fn:Func} {t1 t3:Tmp} {u:TypeId}(h:fn.results=#[.cell t1 30,.tmp t3]){tmps:Array Value} {w:World} {L:Nat} {c:Cy} {b:Bool}
 (h1:tmps.getD t1 undef=pT L 0)(h3:tmps.getD t3 undef=.bool b)(hL:Row w L u (cyC c)):(results fn tmps).run Tryz.prog w=.ok (.tuple #[cyV c,.bool b]) w:=by
 have h1':tmps[t1]?.getD undef=pT L 0:=by simpa using h1
 have h3':tmps[t3]?.getD undef=.bool b:=by simpa using h3
 have e1:=Xi (P:=Tryz.prog) hL Tryz.underlying30 rfl QHP
 simp[results,h,h1',h3',asAddr,e1]
theorem QVa {fn:Func} {R:Ending→World→Prop} {s1 s3:Tmp}(i:Nat)(c:Cy)(b:Bool)(b1:Nat)(hm:Many w0 L rs w)(hR:R (.returned (.tuple #[cyV c,.bool b])) w)
 (hres:fn.results=#[.cell s1 30,.tmp s3]:=by exact rfl)
 (h1:(rs[i]?).map (fun r=>(pT r.b 0,r.cs))=some (pT b1 0,(cyC c).toList.map some):=by kernel_rfl)
 (k1:lkO base s1 l=pT b1 0:=by kernel_rfl)(k3:lkO base s3 l=.bool b:=by kernel_rfl):EO (bodyPost Tryz.prog fn R) .ret base l w:=by
 obtain⟨t1,r1⟩:=hm.rowK i _ h1
 exact⟨fun hin=>bodyPost_ret (QJg hres ((congrFun (Jj hin) (.tmp s1)).trans k1) ((congrFun (Jj hin) (.tmp s3)).trans k3) r1) rfl hR⟩
end
end Go.Proofs.YtmgcgiecimnncaaGreatDoor
