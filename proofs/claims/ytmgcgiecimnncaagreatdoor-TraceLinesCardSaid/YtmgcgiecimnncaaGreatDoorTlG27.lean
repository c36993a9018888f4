/- Contracts and facts that the claim's proof wants (several texts in one). -/
import Derived.Test.YtmgcgiecimnncaaGreatDoorTlG24
namespace Go.Proofs.YtmgcgiecimnncaaGreatDoor
open Go.RowKit
set_option linter.unusedVariables false
set_option linter.unusedSimpArgs false
set_option maxRecDepth 20000
set_option maxHeartbeats 20000000
structure Rd (w:World)(B A C S:Nat)(ad:Option Addr)(cap:Nat)(xs:List Int)(k:Nat):Prop where
 hA:Boxed w A 3 (.int .i64 ((min k xs.length:Nat):Int))
 hC:Boxed w C 26 (.slice ad xs.length cap)
 hS:Boxed w S 4 (.bool (decide (xs.length < k)))
 bytes:BytesIn w B ad xs
 bA:B≤A
 bC:B≤C
 bS:B≤S
 nAC:A≠C
 nAS:A≠S
 nCS:C≠S
theorem Rd.keep {w w':World} {B A C S:Nat} {ad:Option Addr} {cap:Nat} {xs:List Int} {k:Nat}(h:Rd w B A C S ad cap xs k)(e:∀ b,b < B∨b=A∨b=C∨b=S→w'.heap[b]? = w.heap[b]?):Rd w' B A C S ad cap xs k :=
 { h with hA:=(e A (by omega)).trans h.hA,hC:=(e C (by omega)).trans h.hC,hS:=(e S (by omega)).trans h.hS,bytes:=h.bytes.keep fun b hb=>e b (by omega) }
theorem Rd.alloc {w:World} {B A C S:Nat} {ad:Option Addr} {cap:Nat} {xs:List Int} {k:Nat}(h:Rd w B A C S ad cap xs k)(o:Obj):Rd (w.alloc o) B A C S ad cap xs k :=
 h.keep fun b hb=>Below.heap_alloc w o b (by
  have h1:=h.hA.lt;have h2:=h.hC.lt;have h3:=h.hS.lt;have:=h.bA
  rcases hb with e|e|e|e<;>omega)
theorem Rd.far {w:World} {B A C S:Nat} {ad:Option Addr} {cap:Nat} {xs:List Int} {k:Nat}(h:Rd w B A C S ad cap xs k){p:Addr}(hp:B≤p.block∧p.block≠A∧p.block≠C∧p.block≠S)(u:Value):Rd (w.setCell p u) B A C S ad cap xs k :=
 h.keep fun b hb=>Below.heap_setCell w p u b (by omega)
theorem Rd.below {w w':World} {B A C S:Nat} {ad:Option Addr} {cap:Nat} {xs:List Int} {k:Nat}(h:Rd w B A C S ad cap xs k)(e:Below w.heap.size w w'):Rd w' B A C S ad cap xs k :=
 h.keep fun b hb=>e.block b (by
  have h1:=h.hA.lt;have h2:=h.hC.lt;have h3:=h.hS.lt;have:=h.bA
  rcases hb with e|e|e|e<;>omega)
abbrev rdV (A C S:Nat):Value:=.func (.func 48) #[] #[.pointer (some ⟨A,0,none⟩),.pointer (some ⟨C,0,none⟩),.pointer (some ⟨S,0,none⟩)]
theorem QRO (B A C S:Nat)(ad:Option Addr)(cap:Nat)(xs:List Int)(k:Nat)(hk:xs.length≤k)(hn:xs.length≤140737488355328)(w:World)(h:Rd w B A C S ad cap xs k) :
 Calls Tryz.prog 48 #[.pointer (some ⟨A,0,none⟩),.pointer (some ⟨C,0,none⟩),.pointer (some ⟨S,0,none⟩)] w fun e w'=>e=.returned (.int .u8 (gb xs k))∧Rd w' B A C S ad cap xs (k+1)∧Besides A S w w':=by
 have hg:gb xs k=0:=by unfold gb;rw[List.getD_eq_getElem?_getD,List.getElem?_eq_none hk];rfl
 have HG:=Lib.hid hg
 have hR:=Lib.hid (show Rd (w.setCell ⟨S,0,none⟩ (.bool true)) B A C S ad cap xs (k+1)∧Besides A S w (w.setCell ⟨S,0,none⟩ (.bool true)) from by
  refine⟨{ h with hA:=?_,hC:=?_,hS:=?_,bytes:=?_ },(Besides.refl A S w).setCell (p:=⟨S,0,none⟩) (.inr (.inl rfl)) _⟩
  · rw[show min (k+1) xs.length=min k xs.length by omega]
    exact (Below.heap_setCell w ⟨S,0,none⟩ _ A h.nAS).trans h.hA
  · exact (Below.heap_setCell w ⟨S,0,none⟩ _ C h.nCS).trans h.hC
  · rw[decide_eq_true (show xs.length < k+1 by omega)]
    exact h.hS.set _
  · exact h.bytes.keep fun b hb=>Below.heap_setCell w ⟨S,0,none⟩ _ b (by have:=h.bS;show b≠S;omega))
 have c1:=h.hA.cell
 have c2:=h.hC.cell
 have c3:=h.hS.cell
 have f3:=h.hS.frozen
 rw[Nat.min_eq_right hk] at c1
 clear hg h
 go_enter Tryz.func48,Tryz.ntmps48
 go_wp2
 go_ret
 exact⟨Jy HG.out.symm,hR.out⟩
theorem QPq (B A C S:Nat)(ad:Option Addr)(cap:Nat)(xs:List Int)(k:Nat)(hk:k < xs.length)(hn:xs.length≤140737488355328)(w:World)(h:Rd w B A C S ad cap xs k) :
 Calls Tryz.prog 48 #[.pointer (some ⟨A,0,none⟩),.pointer (some ⟨C,0,none⟩),.pointer (some ⟨S,0,none⟩)] w fun e w'=>e=.returned (.int .u8 (gb xs k))∧Rd w' B A C S ad cap xs (k+1)∧Besides A S w w':=by
 have hR:=Lib.hid (show Rd (w.setCell ⟨A,0,none⟩ (.int .i64 ((k:Int)+1))) B A C S ad cap xs (k+1)∧Besides A S w (w.setCell ⟨A,0,none⟩ (.int .i64 ((k:Int)+1))) from by
  refine⟨{ h with hA:=?_,hC:=?_,hS:=?_,bytes:=?_ },(Besides.refl A S w).setCell (p:=⟨A,0,none⟩) (.inl rfl) _⟩
  · rw[show min (k+1) xs.length=k+1 by omega]
    exact h.hA.set _
  · exact (Below.heap_setCell w ⟨A,0,none⟩ _ C (Ne.symm h.nAC)).trans h.hC
  · rw[decide_eq_false (show ¬xs.length < k+1 by omega)]
    have:=h.hS
    rw[decide_eq_false (show ¬xs.length < k by omega)] at this
    exact (Below.heap_setCell w ⟨A,0,none⟩ _ S (Ne.symm h.nAS)).trans this
  · exact h.bytes.keep fun b hb=>Below.heap_setCell w ⟨A,0,none⟩ _ b (by have:=h.bA;show b≠A;omega))
 obtain⟨p,rfl,hpB,hcell⟩:=h.bytes.at_ hk
 have c1:=h.hA.cell
 have c2:=h.hC.cell
 have f1:=h.hA.frozen
 have hcell':(w.setCell ⟨A,0,none⟩ (.int .i64 ((k:Int)+1))).cell? (p.add k)=some (.int .u8 (xs.getD k 0)) :=
  (World.cell?_setCell_other _ _ _ _ (by intro e;have:=h.bA;have e2:=add_block p k;rw[←e] at e2;simp at e2;omega)).trans hcell
 have c2':(w.setCell ⟨A,0,none⟩ (.int .i64 ((k:Int)+1))).cell? ⟨C,0,none⟩=some (.slice (some p) xs.length cap):=(hR.out.1).hC.cell
 rw[show min k xs.length=k by omega] at c1
 clear h
 go_enter Tryz.func48,Tryz.ntmps48
 go_wp2
 go_ret
 exact⟨Jy (by unfold gb;rw[List.getD_eq_getElem?_getD,List.getElem?_eq_getElem hk];rfl),hR.out⟩
theorem QAL (B A C S:Nat)(ad:Option Addr)(cap:Nat)(xs:List Int)(k:Nat)(hn:xs.length≤140737488355328)(w:World)(h:Rd w B A C S ad cap xs k) :
 Calls Tryz.prog 48 #[.pointer (some ⟨A,0,none⟩),.pointer (some ⟨C,0,none⟩),.pointer (some ⟨S,0,none⟩)] w fun e w'=>e=.returned (.int .u8 (gb xs k))∧Rd w' B A C S ad cap xs (k+1)∧Besides A S w w':=by
 rcases Nat.lt_or_ge k xs.length with hk|hk
 · exact QPq B A C S ad cap xs k hk hn w h
 · exact QRO B A C S ad cap xs k hk hn w h
def After (w w':World)(B A C S:Nat)(ad:Option Addr)(cap:Nat)(xs:List Int)(k:Nat):Prop:=Rd w' B A C S ad cap xs k∧Besides A S w w'
theorem Ql (n:Int)(hn:n=0∨n=1∨n=2)(B A C S:Nat)(ad:Option Addr)(cap:Nat)(xs:List Int)(k:Nat)(hl:xs.length≤140737488355328)(hx:Bytes8 xs)(w:World)(h:Rd w B A C S ad cap xs k) :
 Calls Tryz.prog 79 #[.int .i64 n,rdV A C S] w fun e w'=>e=.returned (.int .u16 (QZ (gb xs) k n))∧After w w' B A C S ad cap xs (k+n.toNat):=by
 have b0:=QB9 hx k
 have b1:=QB9 hx (k+1)
 have hA:=Lib.hid h.hA.lt
 have hS:=Lib.hid h.hS.lt
 have hC:=Lib.hid h.hC.lt
 obtain rfl|rfl|rfl:=hn
 · go_enter Tryz.func79,Tryz.ntmps79
   go_wp2
   refine wp_loop_rounds 1 ?_
   rw[rounds_succ]
   go_wp2_with (first
    | (go_at_call 103;refine (Ja _ _ (by omega) (by omega) (by omega) (by omega) _).mono ?_;rintro e w' ⟨rfl,rfl⟩))
   go_ret
   exact⟨rfl,h.alloc _,(Besides.refl A S w).alloc _⟩
 · have hO:=Row.new w 135 #[.int .u8 0,.int .u8 0]
   go_enter Tryz.func79,Tryz.ntmps79
   go_wp2
   refine wp_loop_rounds 2 ?_
   rw[rounds_succ]
   go_wp2_with fail
   refine (QAL B A C S ad cap xs k hl _ (h.alloc _)).mono ?_
   rintro e w' ⟨rfl,hr,hb⟩
   have hO':=hO.besides hb (by have:=hA.out;omega) (by have:=hS.out;omega)
   have hz:=hb.size
   simp only[World.size_alloc] at hz
   have c0:=hO'.cell 0
   have c1:=hO'.cell 1
   have f0:=hO'.frozen 0
   have f1:=hO'.frozen 1
   have fin:=Lib.hid (show After w (w'.setCell ⟨w.heap.size,0,none⟩ (.int .u8 (gb xs k))) B A C S ad cap xs (k+1) from
    ⟨hr.far (p:=⟨w.heap.size,0,none⟩) (by have h1:=hA.out;have h2:=hS.out;have h3:=hC.out;have h4:=h.bA;show B≤w.heap.size∧w.heap.size≠A∧w.heap.size≠C∧w.heap.size≠S;omega) _,
     (((Besides.refl A S w).alloc _).trans hb).setCell (p:=⟨w.heap.size,0,none⟩) (.inr (.inr (Nat.le_refl _))) _⟩)
   clear hr hb hO hO' h
   go_wp2
   rw[rounds_succ]
   go_wp2_with (first
    | (go_at_call 103;refine (Ja _ _ (by omega) (by omega) b0.1 b0.2 _).mono ?_;rintro e w' ⟨rfl,rfl⟩))
   go_ret
   exact⟨Jy (by unfold QZ;simp),fin.out⟩
 · have hO:=Row.new w 135 #[.int .u8 0,.int .u8 0]
   go_enter Tryz.func79,Tryz.ntmps79
   go_wp2
   refine wp_loop_rounds 3 ?_
   rw[rounds_succ]
   go_wp2_with fail
   refine (QAL B A C S ad cap xs k hl _ (h.alloc _)).mono ?_
   rintro e w' ⟨rfl,hr,hb⟩
   have hO':=hO.besides hb (by have:=hA.out;omega) (by have:=hS.out;omega)
   have hz:=hb.size
   simp only[World.size_alloc] at hz
   have far:B≤w.heap.size∧w.heap.size≠A∧w.heap.size≠C∧w.heap.size≠S:=by have h1:=hA.out;have h2:=hS.out;have h3:=hC.out;have h4:=h.bA;omega
   have far:=Lib.hid far
   have fin1:=Lib.hid (show After w (w'.setCell ⟨w.heap.size,0,none⟩ (.int .u8 (gb xs k))) B A C S ad cap xs (k+1) from
    ⟨hr.far (p:=⟨w.heap.size,0,none⟩) far.out _,
     (((Besides.refl A S w).alloc _).trans hb).setCell (p:=⟨w.heap.size,0,none⟩) (.inr (.inr (Nat.le_refl _))) _⟩)
   have hO1:=Lib.hid (hO'.set 0 (.int .u8 (gb xs k)))
   have c0:=hO'.cell 0
   have c1:=hO'.cell 1
   have f0:=hO'.frozen 0
   have f1:=hO'.frozen 1
   clear hr hb hO hO' h
   go_wp2
   rw[rounds_succ]
   go_wp2_with fail
   clear c0 c1 f0 f1
   refine (QAL B A C S ad cap xs (k+1) hl _ fin1.out.1).mono ?_
   rintro e w2 ⟨rfl,hr,hb⟩
   have hO':=hO1.out.besides hb (by have:=hA.out;omega) (by have:=hS.out;omega)
   have hz2:=hb.size
   have hz3:=fin1.out.2.size
   have c0:=hO'.cell 0
   have c1:=hO'.cell 1
   have f0:=hO'.frozen 0
   have f1:=hO'.frozen 1
   have fin:=Lib.hid (show After w (w2.setCell ⟨w.heap.size,1,none⟩ (.int .u8 (gb xs (k+1)))) B A C S ad cap xs (k+1+1) from
    ⟨hr.far (p:=⟨w.heap.size,1,none⟩) far.out _,
     (fin1.out.2.trans hb).setCell (p:=⟨w.heap.size,1,none⟩) (.inr (.inr (Nat.le_refl _))) _⟩)
   clear hr hb hO'
   go_wp2
   rw[rounds_succ]
   go_wp2_with (first
    | (go_at_call 103;refine (Ja _ _ b1.1 b1.2 b0.1 b0.2 _).mono ?_;rintro e w' ⟨rfl,rfl⟩))
   go_ret
   exact⟨Jy (by unfold QZ;simp),fin.out⟩
end Go.Proofs.YtmgcgiecimnncaaGreatDoor
