/- Contracts and facts that the claim's proof wants (several texts in one). -/
import Derived.Test.YtkgaeamdhhceiaaGreatDoorSrG16
import Derived.Test.YtkgaeamdhhceiaaGreatDoorSrG23
namespace Go.Proofs.YtkgaeamdhhceiaaGreatDoor
open Go.RowKit
set_option linter.unusedVariables false
set_option linter.unusedSimpArgs false
set_option maxRecDepth 20000
set_option maxHeartbeats 20000000
theorem QN0 (r:Rg)(plane x y z p q:Int)(code:Int)(hz:0≤z∧z≤7)(hy:0≤y∧y≤7)(hp:p=y / 2)(hq:q=y%2)(hn:Xa plane code=false)(h6:z=4∨z=5∨z=6→y=6→plane=0) :
 (Zr ⟨r,plane,x,y,z,p,q,r.hl,false⟩).Rel RR (QK9 y z p q ⟨r,plane,code,0,false⟩):=by
 have hz':z=0∨z=1∨z=2∨z=3∨z=4∨z=5∨z=6∨z=7:=by omega
 have hy':y=0∨y=1∨y=2∨y=3∨y=4∨y=5∨y=6∨y=7:=by omega
 have hq':q=0∨q=1:=by omega
 unfold Zr QK9
 rcases hz' with rfl|rfl|rfl|rfl|rfl|rfl|rfl|rfl
 · rcases hy' with rfl|rfl|rfl|rfl|rfl|rfl|rfl|rfl<;>simp[QAk,QKC,qi,QLp,Ms.left,Ms.lessB,Ws.left,Ws.less,zO,QCz,Jo,QE]<;>simp only[Tr.bind,Tr.Rel,RR,Qa,Ju,Jf,inN,Qc,JU,Ms.pc,Ms.sp,Ms.wz,Ms.af,Ms.pcUp,JZ,Jg,JY,Jw,Jb,Ms.spDown,J0,QW,Ms.goTo,Ms.a,Ms.f,Ms.setA,Ms.setF,Ms.hl,Ms.setHL,Ms.pair,Ms.setPair,Ms.holds,QN,JN,Jr,Je,Ws.pc,Ws.sp,Ws.wz,Ws.hlTo,Ws.af,Ws.tick,Ws.pcUp,Ws.a,Ws.f,Jh,JW,Jz,Ws.spDown,Ws.spUp,J2,Qf,Ws.hl,Ws.setHl,Ws.setP,Ws.setP0,Ws.know,Ws.mTo]<;>simp
   all_goals (intros;split<;>simp only[Tr.bind,Tr.Rel,RR,Qa,Ju,Jf,inN,Qc,JU,Ms.pc,Ms.sp,Ms.wz,Ms.af,Ms.pcUp,JZ,Jg,JY,Jw,Jb,Ms.spDown,J0,QW,Ms.goTo,Ms.a,Ms.f,Ms.setA,Ms.setF,Ms.hl,Ms.setHL,Ms.pair,Ms.setPair,Ms.holds,QN,JN,Jr,Je,Ws.pc,Ws.sp,Ws.wz,Ws.hlTo,Ws.af,Ws.tick,Ws.pcUp,Ws.a,Ws.f,Jh,JW,Jz,Ws.spDown,Ws.spUp,J2,Qf,Ws.hl,Ws.setHl,Ws.setP,Ws.setP0,Ws.know,Ws.mTo]<;>simp)
 · rcases hq' with h|h<;>rw[h]<;>simp[Z4]<;>simp only[Tr.bind,Tr.Rel,RR,Qa,Ju,Jf,inN,Qc,JU,Ms.pc,Ms.sp,Ms.wz,Ms.af,Ms.pcUp,JZ,Jg,JY,Jw,Jb,Ms.spDown,J0,QW,Ms.goTo,Ms.a,Ms.f,Ms.setA,Ms.setF,Ms.hl,Ms.setHL,Ms.pair,Ms.setPair,Ms.holds,QN,JN,Jr,Je,Ws.pc,Ws.sp,Ws.wz,Ws.hlTo,Ws.af,Ws.tick,Ws.pcUp,Ws.a,Ws.f,Jh,JW,Jz,Ws.spDown,Ws.spUp,J2,Qf,Ws.hl,Ws.setHl,Ws.setP,Ws.setP0,Ws.know,Ws.mTo]<;>simp[Jo,QE]
   all_goals (repeat' split)<;>first|rfl|simp_all
 · rcases hy' with rfl|rfl|rfl|rfl|rfl|rfl|rfl|rfl<;>subst hp<;>simp[Xl,QDB,ql,QEn,QBE,QHz,Xm,ZC,QF0]<;>simp only[Tr.bind,Tr.Rel,RR,Qa,Ju,Jf,inN,Qc,JU,Ms.pc,Ms.sp,Ms.wz,Ms.af,Ms.pcUp,JZ,Jg,JY,Jw,Jb,Ms.spDown,J0,QW,Ms.goTo,Ms.a,Ms.f,Ms.setA,Ms.setF,Ms.hl,Ms.setHL,Ms.pair,Ms.setPair,Ms.holds,QN,JN,Jr,Je,Ws.pc,Ws.sp,Ws.wz,Ws.hlTo,Ws.af,Ws.tick,Ws.pcUp,Ws.a,Ws.f,Jh,JW,Jz,Ws.spDown,Ws.spUp,J2,Qf,Ws.hl,Ws.setHl,Ws.setP,Ws.setP0,Ws.know,Ws.mTo]<;>simp[Jo,QE]
   all_goals (intros;repeat' split)<;>first|rfl|simp_all
 · rcases hq' with h|h<;>rw[h]<;>simp[jm]<;>repeat (first|simp only[Tr.bind,Tr.Rel,RR,Qa,Ju,Jf,inN,Qc,JU,Ms.pc,Ms.sp,Ms.wz,Ms.af,Ms.pcUp,JZ,Jg,JY,Jw,Jb,Ms.spDown,J0,QW,Ms.goTo,Ms.a,Ms.f,Ms.setA,Ms.setF,Ms.hl,Ms.setHL,Ms.pair,Ms.setPair,Ms.holds,QN,JN,Jr,Je,Ws.pc,Ws.sp,Ws.wz,Ws.hlTo,Ws.af,Ws.tick,Ws.pcUp,Ws.a,Ws.f,Jh,JW,Jz,Ws.spDown,Ws.spUp,J2,Qf,Ws.hl,Ws.setHl,Ws.setP,Ws.setP0,Ws.know,Ws.mTo]|simp)
 · by_cases h:y=6
   · have hpl:=h6 (by omega) h
     subst h;subst hpl;simp[Zo,stepW,Zk,Zu,jY,setW,Xy];repeat (first|simp only[Tr.bind,Tr.Rel,RR,Qa,Ju,Jf,inN,Qc,JU,Ms.pc,Ms.sp,Ms.wz,Ms.af,Ms.pcUp,JZ,Jg,JY,Jw,Jb,Ms.spDown,J0,QW,Ms.goTo,Ms.a,Ms.f,Ms.setA,Ms.setF,Ms.hl,Ms.setHL,Ms.pair,Ms.setPair,Ms.holds,QN,JN,Jr,Je,Ws.pc,Ws.sp,Ws.wz,Ws.hlTo,Ws.af,Ws.tick,Ws.pcUp,Ws.a,Ws.f,Jh,JW,Jz,Ws.spDown,Ws.spUp,J2,Qf,Ws.hl,Ws.setHl,Ws.setP,Ws.setP0,Ws.know,Ws.mTo]|simp)
   · simp[Zo,stepW,Zk,Zu,jY,setW,QO,hn,h];repeat (first|simp only[Tr.bind,Tr.Rel,RR,Qa,Ju,Jf,inN,Qc,JU,Ms.pc,Ms.sp,Ms.wz,Ms.af,Ms.pcUp,JZ,Jg,JY,Jw,Jb,Ms.spDown,J0,QW,Ms.goTo,Ms.a,Ms.f,Ms.setA,Ms.setF,Ms.hl,Ms.setHL,Ms.pair,Ms.setPair,Ms.holds,QN,JN,Jr,Je,Ws.pc,Ws.sp,Ws.wz,Ws.hlTo,Ws.af,Ws.tick,Ws.pcUp,Ws.a,Ws.f,Jh,JW,Jz,Ws.spDown,Ws.spUp,J2,Qf,Ws.hl,Ws.setHl,Ws.setP,Ws.setP0,Ws.know,Ws.mTo]|simp[hn,h])
 · by_cases h:y=6
   · have hpl:=h6 (by omega) h
     subst h;subst hpl;simp[Zo,stepW,Zk,Zu,jY,setW,Xy];repeat (first|simp only[Tr.bind,Tr.Rel,RR,Qa,Ju,Jf,inN,Qc,JU,Ms.pc,Ms.sp,Ms.wz,Ms.af,Ms.pcUp,JZ,Jg,JY,Jw,Jb,Ms.spDown,J0,QW,Ms.goTo,Ms.a,Ms.f,Ms.setA,Ms.setF,Ms.hl,Ms.setHL,Ms.pair,Ms.setPair,Ms.holds,QN,JN,Jr,Je,Ws.pc,Ws.sp,Ws.wz,Ws.hlTo,Ws.af,Ws.tick,Ws.pcUp,Ws.a,Ws.f,Jh,JW,Jz,Ws.spDown,Ws.spUp,J2,Qf,Ws.hl,Ws.setHl,Ws.setP,Ws.setP0,Ws.know,Ws.mTo]|simp)
   · simp[Zo,stepW,Zk,Zu,jY,setW,QO,hn,h];repeat (first|simp only[Tr.bind,Tr.Rel,RR,Qa,Ju,Jf,inN,Qc,JU,Ms.pc,Ms.sp,Ms.wz,Ms.af,Ms.pcUp,JZ,Jg,JY,Jw,Jb,Ms.spDown,J0,QW,Ms.goTo,Ms.a,Ms.f,Ms.setA,Ms.setF,Ms.hl,Ms.setHL,Ms.pair,Ms.setPair,Ms.holds,QN,JN,Jr,Je,Ws.pc,Ws.sp,Ws.wz,Ws.hlTo,Ws.af,Ws.tick,Ws.pcUp,Ws.a,Ws.f,Jh,JW,Jz,Ws.spDown,Ws.spUp,J2,Qf,Ws.hl,Ws.setHl,Ws.setP,Ws.setP0,Ws.know,Ws.mTo]|simp[hn,h])
 · by_cases h:y=6
   · have hpl:=h6 (by omega) h
     subst h;subst hpl;simp[XO,Zu,setW,Xy];repeat (first|simp only[Tr.bind,Tr.Rel,RR,Qa,Ju,Jf,inN,Qc,JU,Ms.pc,Ms.sp,Ms.wz,Ms.af,Ms.pcUp,JZ,Jg,JY,Jw,Jb,Ms.spDown,J0,QW,Ms.goTo,Ms.a,Ms.f,Ms.setA,Ms.setF,Ms.hl,Ms.setHL,Ms.pair,Ms.setPair,Ms.holds,QN,JN,Jr,Je,Ws.pc,Ws.sp,Ws.wz,Ws.hlTo,Ws.af,Ws.tick,Ws.pcUp,Ws.a,Ws.f,Jh,JW,Jz,Ws.spDown,Ws.spUp,J2,Qf,Ws.hl,Ws.setHl,Ws.setP,Ws.setP0,Ws.know,Ws.mTo]|simp)
   · simp[XO,Zu,setW,QO,hn,h];repeat (first|simp only[Tr.bind,Tr.Rel,RR,Qa,Ju,Jf,inN,Qc,JU,Ms.pc,Ms.sp,Ms.wz,Ms.af,Ms.pcUp,JZ,Jg,JY,Jw,Jb,Ms.spDown,J0,QW,Ms.goTo,Ms.a,Ms.f,Ms.setA,Ms.setF,Ms.hl,Ms.setHL,Ms.pair,Ms.setPair,Ms.holds,QN,JN,Jr,Je,Ws.pc,Ws.sp,Ws.wz,Ws.hlTo,Ws.af,Ws.tick,Ws.pcUp,Ws.a,Ws.f,Jh,JW,Jz,Ws.spDown,Ws.spUp,J2,Qf,Ws.hl,Ws.setHl,Ws.setP,Ws.setP0,Ws.know,Ws.mTo]|simp[hn,h])
 · unfold Zl QAS
   simp
   repeat' split
   all_goals first|rfl|exact trivial|simp_all
theorem QNd (r:Rg)(plane y z p q:Int)(code:Int)(hn:Xa plane code=false)(hh:¬(y=6∧z=6))(h6:y=6∨z=6→plane=0) :
 (QAC ⟨r,plane,1,y,z,p,q,r.hl,false⟩).Rel RR ((jY z ⟨r,plane,code,0,false⟩).bind fun b=>setW y b.1 b.2):=by
 by_cases hy:y=6
 · have hpl:=h6 (.inl hy)
   subst hy;subst hpl
   have hz:z≠6:=fun h=>hh ⟨rfl,h⟩
   simp[QAC,hz,Zk,Zu,jY,setW,Xy,QO,hn];repeat (first|simp only[Tr.bind,Tr.Rel,RR,Qa,Ju,Jf,inN,Qc,JU,Ms.pc,Ms.sp,Ms.wz,Ms.af,Ms.pcUp,JZ,Jg,JY,Jw,Jb,Ms.spDown,J0,QW,Ms.goTo,Ms.a,Ms.f,Ms.setA,Ms.setF,Ms.hl,Ms.setHL,Ms.pair,Ms.setPair,Ms.holds,QN,JN,Jr,Je,Ws.pc,Ws.sp,Ws.wz,Ws.hlTo,Ws.af,Ws.tick,Ws.pcUp,Ws.a,Ws.f,Jh,JW,Jz,Ws.spDown,Ws.spUp,J2,Qf,Ws.hl,Ws.setHl,Ws.setP,Ws.setP0,Ws.know,Ws.mTo]|simp[hn])
 · by_cases hz:z=6
   · have hpl:=h6 (.inr hz)
     subst hz;subst hpl
     simp[QAC,hy,Zk,Zu,jY,setW,Xy,QO,hn];repeat (first|simp only[Tr.bind,Tr.Rel,RR,Qa,Ju,Jf,inN,Qc,JU,Ms.pc,Ms.sp,Ms.wz,Ms.af,Ms.pcUp,JZ,Jg,JY,Jw,Jb,Ms.spDown,J0,QW,Ms.goTo,Ms.a,Ms.f,Ms.setA,Ms.setF,Ms.hl,Ms.setHL,Ms.pair,Ms.setPair,Ms.holds,QN,JN,Jr,Je,Ws.pc,Ws.sp,Ws.wz,Ws.hlTo,Ws.af,Ws.tick,Ws.pcUp,Ws.a,Ws.f,Jh,JW,Jz,Ws.spDown,Ws.spUp,J2,Qf,Ws.hl,Ws.setHl,Ws.setP,Ws.setP0,Ws.know,Ws.mTo]|simp[hn])
   · simp[QAC,hy,hz,Zk,Zu,jY,setW,Xy,QO,hn];repeat (first|simp only[Tr.bind,Tr.Rel,RR,Qa,Ju,Jf,inN,Qc,JU,Ms.pc,Ms.sp,Ms.wz,Ms.af,Ms.pcUp,JZ,Jg,JY,Jw,Jb,Ms.spDown,J0,QW,Ms.goTo,Ms.a,Ms.f,Ms.setA,Ms.setF,Ms.hl,Ms.setHL,Ms.pair,Ms.setPair,Ms.holds,QN,JN,Jr,Je,Ws.pc,Ws.sp,Ws.wz,Ws.hlTo,Ws.af,Ws.tick,Ws.pcUp,Ws.a,Ws.f,Jh,JW,Jz,Ws.spDown,Ws.spUp,J2,Qf,Ws.hl,Ws.setHl,Ws.setP,Ws.setP0,Ws.know,Ws.mTo]|simp[hn])
theorem QJg (r:Rg)(plane y z p q:Int)(code:Int)(hn:Xa plane code=false)(hy:0≤y∧y≤7)(h6:z=6→plane=0) :
 (jN ⟨r,plane,2,y,z,p,q,r.hl,false⟩).Rel RR ((jY z ⟨r,plane,code,0,false⟩).bind fun b=>.done (qj y b.1 b.2)):=by
 by_cases hz:z=6
 · have hpl:=h6 hz
   subst hz;subst hpl
   simp[jN,Zk,jY,Xy];repeat (first|simp only[Tr.bind,Tr.Rel,RR,Qa,Ju,Jf,inN,Qc,JU,Ms.pc,Ms.sp,Ms.wz,Ms.af,Ms.pcUp,JZ,Jg,JY,Jw,Jb,Ms.spDown,J0,QW,Ms.goTo,Ms.a,Ms.f,Ms.setA,Ms.setF,Ms.hl,Ms.setHL,Ms.pair,Ms.setPair,Ms.holds,QN,JN,Jr,Je,Ws.pc,Ws.sp,Ws.wz,Ws.hlTo,Ws.af,Ws.tick,Ws.pcUp,Ws.a,Ws.f,Jh,JW,Jz,Ws.spDown,Ws.spUp,J2,Qf,Ws.hl,Ws.setHl,Ws.setP,Ws.setP0,Ws.know,Ws.mTo]|simp[hn])
   intro b hb;exact QDE _ _ _ _ _ _ _ _ _ _ _ _ _ hy
 · simp[jN,hz,Zk,jY,QO,hn];repeat (first|simp only[Tr.bind,Tr.Rel,RR,Qa,Ju,Jf,inN,Qc,JU,Ms.pc,Ms.sp,Ms.wz,Ms.af,Ms.pcUp,JZ,Jg,JY,Jw,Jb,Ms.spDown,J0,QW,Ms.goTo,Ms.a,Ms.f,Ms.setA,Ms.setF,Ms.hl,Ms.setHL,Ms.pair,Ms.setPair,Ms.holds,QN,JN,Jr,Je,Ws.pc,Ws.sp,Ws.wz,Ws.hlTo,Ws.af,Ws.tick,Ws.pcUp,Ws.a,Ws.f,Jh,JW,Jz,Ws.spDown,Ws.spUp,J2,Qf,Ws.hl,Ws.setHl,Ws.setP,Ws.setP0,Ws.know,Ws.mTo]|simp[hn])
   exact QDE _ _ _ _ _ _ _ _ _ _ _ _ _ hy
theorem QKi (r:Rg)(plane x y z p q spot:Int)(near:Bool)(pl2 code m:Int)(known:Bool)(b:Int)(hy:0≤y∧y≤7):(XH b ⟨r,plane,x,y,z,p,q,spot,near⟩).r=(qj y b ⟨r,pl2,code,m,known⟩).r:=by
 have hc:∀ t:Bool,((one t) != 0)=t:=by intro t;cases t<;>rfl
 unfold XH qj
 dsimp only[Ms.carry,Ms.f,Ms.a,Ws.a,Ws.f,Ms.af,Ws.af]
 simp only[hc]
 repeat' split
 all_goals first|rfl|omega
theorem QWF {plane c:Int}(h:Xa plane c=true)(hp:plane=0∨plane=3∨plane=4):(plane=3∨plane=4)∧qW c=true:=by
 unfold Xa at h
 by_cases hq:plane=3∨plane=4
 · rw[if_pos hq] at h;exact⟨hq,h⟩
 · rw[if_neg hq] at h
   rcases hp with rfl|rfl|rfl<;>simp[zt] at h hq
theorem QLe {plane c:Int}(h:Xa plane c=false)(hq:plane=3∨plane=4):qW c=false:=by
 unfold Xa at h
 rwa [if_pos hq] at h
theorem QNO (s:Ms)(c:Int)(hs:MsB s)(hnr:s.near=false)(hc:B8 c)(h:Xa s.plane c=true) :
 ((Xu c s.atHL).bind Xg).Rel RR (QBK s.plane c ⟨s.r,0,0,0,false⟩):=by
 obtain⟨r,plane,x0,y0,z0,p0,q0,spot,near⟩:=s
 obtain⟨hp34,hpt⟩:=QWF h hs.plane
 have hx':fx c=0∨fx c=1∨fx c=2∨fx c=3:=by unfold fx;have:=hc.1;have:=hc.2;omega
 have hz':0≤fz c∧fz c≤7:=by unfold fz;omega
 have hy':0≤fy c∧fy c≤7:=by unfold fy;omega
 simp only at hp34
 have hg:∀ (g:Rg) (y:Int),zO g 0 y=zO g 0 y:=fun _ _=>rfl
 unfold qW at hpt
 unfold Xu QBK
 rcases hx' with hx|hx|hx|hx<;>simp only[hx] at hpt ⊢<;>simp at hpt
 · obtain⟨hy,hz⟩:=hpt
   have hz3:fz c=4∨fz c=5∨fz c=6:=by omega
   rcases hz3 with hz|hz|hz<;>rcases hp34 with rfl|rfl <;>
    simp[Ms.atHL,Ms.split,Ws.at_,hx,hy,hz,h,QFG,QK9,stepW,jY,setW,Xy,Xg,Zr,Zo,XO,Zk,Zu]<;>repeat (first|simp only[Tr.bind,Tr.Rel,RR,Qa,Ju,Jf,inN,Qc,JU,Ms.pc,Ms.sp,Ms.wz,Ms.af,Ms.pcUp,JZ,Jg,JY,Jw,Jb,Ms.spDown,J0,QW,Ms.goTo,Ms.a,Ms.f,Ms.setA,Ms.setF,Ms.hl,Ms.setHL,Ms.pair,Ms.setPair,Ms.holds,QN,JN,Jr,Je,Ws.pc,Ws.sp,Ws.wz,Ws.hlTo,Ws.af,Ws.tick,Ws.pcUp,Ws.a,Ws.f,Jh,JW,Jz,Ws.spDown,Ws.spUp,J2,Qf,Ws.hl,Ws.setHl,Ws.setP,Ws.setP0,Ws.know,Ws.mTo]|simp[hx,hy,hz,Jo,Xg,Zr,Zo,XO,Zk,Zu])
 · rcases hp34 with rfl|rfl<;>by_cases hy:fy c=6<;>by_cases hz:fz c=6<;>(try simp[hy,hz] at hpt) <;>
    simp[Ms.atHL,Ms.split,Ws.at_,hx,hy,hz,h,QFG,jY,setW,Xy,QO,Xg,QAC,Zk,Zu]<;>repeat (first|simp only[Tr.bind,Tr.Rel,RR,Qa,Ju,Jf,inN,Qc,JU,Ms.pc,Ms.sp,Ms.wz,Ms.af,Ms.pcUp,JZ,Jg,JY,Jw,Jb,Ms.spDown,J0,QW,Ms.goTo,Ms.a,Ms.f,Ms.setA,Ms.setF,Ms.hl,Ms.setHL,Ms.pair,Ms.setPair,Ms.holds,QN,JN,Jr,Je,Ws.pc,Ws.sp,Ws.wz,Ws.hlTo,Ws.af,Ws.tick,Ws.pcUp,Ws.a,Ws.f,Jh,JW,Jz,Ws.spDown,Ws.spUp,J2,Qf,Ws.hl,Ws.setHl,Ws.setP,Ws.setP0,Ws.know,Ws.mTo]|simp[hx,hy,hz,h,Jo,Xg,QAC,Zk,Zu])
   all_goals first|(intros;rfl)|exact absurd (by rw[beq_eq_false_iff_ne.2 hy,beq_eq_false_iff_ne.2 hz]) hpt
 · rcases hp34 with rfl|rfl <;> 
    simp[Ms.atHL,Ms.split,Ws.at_,hx,hpt,h,QFG,jY,setW,Xy,QO,Xg,jN,Zk,Zu]<;>repeat (first|simp only[Tr.bind,Tr.Rel,RR,Qa,Ju,Jf,inN,Qc,JU,Ms.pc,Ms.sp,Ms.wz,Ms.af,Ms.pcUp,JZ,Jg,JY,Jw,Jb,Ms.spDown,J0,QW,Ms.goTo,Ms.a,Ms.f,Ms.setA,Ms.setF,Ms.hl,Ms.setHL,Ms.pair,Ms.setPair,Ms.holds,QN,JN,Jr,Je,Ws.pc,Ws.sp,Ws.wz,Ws.hlTo,Ws.af,Ws.tick,Ws.pcUp,Ws.a,Ws.f,Jh,JW,Jz,Ws.spDown,Ws.spUp,J2,Qf,Ws.hl,Ws.setHl,Ws.setP,Ws.setP0,Ws.know,Ws.mTo]|simp[hx,hpt,h,Jo,Xg,jN,Zk,Zu])
   all_goals (intros;exact QKi _ _ _ _ _ _ _ _ _ _ _ _ _ _ hy')
theorem QLi (s:Ms)(c:Int)(hs:MsB s)(hnr:s.near=false)(hc:B8 c) :
 ((Xu c s.atHL).bind Xg).Rel RR (QBK s.plane c ⟨s.r,0,0,0,false⟩):=by
 cases h:Xa s.plane c with
 | true=>exact QNO s c hs hnr hc h
 | false =>
   obtain⟨r,plane,x0,y0,z0,p0,q0,spot,near⟩:=s
   have hnr':near=false:=hnr
   subst hnr'
   have hpl:plane=0∨plane=3∨plane=4:=hs.plane
   have h':Xa plane c=false:=h
   have hfar:plane≠0→qW c=false:=fun h0=>QLe h' (by omega)
   have hx':fx c=0∨fx c=1∨fx c=2∨fx c=3:=by unfold fx;have:=hc.1;have:=hc.2;omega
   have hz':0≤fz c∧fz c≤7:=by unfold fz;omega
   have hy':0≤fy c∧fy c≤7:=by unfold fy;omega
   have hpy:fp c=fy c / 2:=by unfold fp fy;have:=hc.1;have:=hc.2;omega
   have hqy:fq c=fy c%2:=by unfold fq fy;have:=hc.1;have:=hc.2;omega
   have hq':0≤fq c∧fq c≤1:=by unfold fq;omega
   have hp':0≤fp c∧fp c≤3:=by unfold fp;omega
   have e:Xu c (Ms.atHL ⟨r,plane,x0,y0,z0,p0,q0,spot,false⟩)=.done ⟨r,plane,fx c,fy c,fz c,fp c,fq c,r.hl,false⟩:=by
    unfold Xu
    rw[if_neg (by show ¬Xa plane c=true;rw[h'];simp)]
    rfl
   rw[e,Tr.bind_done]
   unfold Xg QBK
   show (if fx c=0 then _ else _:Tr Ms).Rel RR _
   unfold qW at hfar
   rcases hx' with hx|hx|hx|hx<;>simp only[hx] at hfar ⊢
   · exact QN0 r plane 0 (fy c) (fz c) (fp c) (fq c) c hz' hy' hpy hqy h' (fun h1 h2=>by
      by_cases h0:plane=0
      · exact h0
      · have:=hfar h0;simp[h2] at this;omega)
   · by_cases hh:fy c=6∧fz c=6
     · simp[hh,QAC];exact rfl
     · simp only[hh]
       exact QNd r plane (fy c) (fz c) (fp c) (fq c) c h' hh (fun h1=>by
        by_cases h0:plane=0
        · exact h0
        · have:=hfar h0
          rcases h1 with h1|h1<;>simp[h1] at this<;>exact absurd ⟨by first|exact h1|exact this,by first|exact h1|exact this⟩ hh)
   · exact QJg r plane (fy c) (fz c) (fp c) (fq c) c h' hy' (fun h1=>by
      by_cases h0:plane=0
      · exact h0
      · have:=hfar h0;simp[h1] at this)
   · exact QLm r plane 3 (fy c) (fz c) (fp c) (fq c) r.hl false c 0 false hz' hy' hp' hq'
theorem QNR:∀ b0 b1 b2 b3 c i:Bool,JO (JO (mkM b0 b1 b2 false b3 false false false) 0 c) 2 i=mkM (isM (mkM b0 b1 b2 false b3 false false false) 7) (isM (mkM b0 b1 b2 false b3 false false false) 6) (isM (mkM b0 b1 b2 false b3 false false false) 5) (isM (mkM b0 b1 b2 false b3 false false false) 4) (isM (mkM b0 b1 b2 false b3 false false false) 3) i (isM (mkM b0 b1 b2 false b3 false false false) 1) c:=by decide +kernel
theorem QQg (b:Int)(c i:Bool):JO (JO (JD b) 0 c) 2 i=mkM (isM (JD b) 7) (isM (JD b) 6) (isM (JD b) 5) (isM (JD b) 4) (isM (JD b) 3) i (isM (JD b) 1) c:=QNR ..
theorem QDd:Xa 0 0=false:=rfl
theorem QLo {a f:Int}(hf:B8 f):(256*a+f)%256=f:=by have:=hf.1;have:=hf.2;omega
theorem QGC (r:Rg)(x y z p q:Int)(hz:0≤z∧z < 4)(hy:4≤y∧y≤7)(d:Int) :
 (QAK d ⟨r,0,x,y,z,p,q,r.hl,false⟩).Rel RR (QBj d y z ⟨r,0,0,0,false⟩):=by
 have hz':z=0∨z=1∨z=2∨z=3:=by omega
 have hm:∀ a b bc f,∀ a2,(256*a2+moveF a b bc f)%256=moveF a b bc f:=fun a b bc f _=>QLo (jr ..)
 have hf:∀ a b bc f,∀ a2,(256*a2+jD a b bc f)%256=jD a b bc f:=fun a b bc f _=>QLo (jo ..)
 have hp:∀ a b c,∀ a2,(256*a2+Q5 a b c)%256=Q5 a b c:=fun a b c _=>QLo (XS ..)
 have h5:(5 < y)=(6≤y):=by apply propext;omega
 unfold QAK QBj
 rcases hz' with rfl|rfl|rfl|rfl
 · simp[Z5,QDz];repeat (first|simp only[Tr.bind,Tr.Rel,RR,Qa,Ju,Jf,inN,Qc,JU,Ms.pc,Ms.sp,Ms.wz,Ms.af,Ms.pcUp,JZ,Jg,JY,Jw,Jb,Ms.spDown,J0,QW,Ms.goTo,Ms.a,Ms.f,Ms.setA,Ms.setF,Ms.hl,Ms.setHL,Ms.pair,Ms.setPair,Ms.holds,QN,JN,Jr,Je,Ws.pc,Ws.sp,Ws.wz,Ws.hlTo,Ws.af,Ws.tick,Ws.pcUp,Ws.a,Ws.f,Jh,JW,Jz,Ws.spDown,Ws.spUp,J2,Qf,Ws.hl,Ws.setHl,Ws.setP,Ws.setP0,Ws.know,Ws.mTo]|simp[Ms.hlBy,Ms.deBy,Ms.bcDown,Ws.hlBy,Ws.deBy,Ws.bcDown,hm,h5])
   intros;split<;>repeat (first|simp only[Tr.bind,Tr.Rel,RR,Qa,Ju,Jf,inN,Qc,JU,Ms.pc,Ms.sp,Ms.wz,Ms.af,Ms.pcUp,JZ,Jg,JY,Jw,Jb,Ms.spDown,J0,QW,Ms.goTo,Ms.a,Ms.f,Ms.setA,Ms.setF,Ms.hl,Ms.setHL,Ms.pair,Ms.setPair,Ms.holds,QN,JN,Jr,Je,Ws.pc,Ws.sp,Ws.wz,Ws.hlTo,Ws.af,Ws.tick,Ws.pcUp,Ws.a,Ws.f,Jh,JW,Jz,Ws.spDown,Ws.spUp,J2,Qf,Ws.hl,Ws.setHl,Ws.setP,Ws.setP0,Ws.know,Ws.mTo]|simp[jy])
 · simp[Z8,QDz];repeat (first|simp only[Tr.bind,Tr.Rel,RR,Qa,Ju,Jf,inN,Qc,JU,Ms.pc,Ms.sp,Ms.wz,Ms.af,Ms.pcUp,JZ,Jg,JY,Jw,Jb,Ms.spDown,J0,QW,Ms.goTo,Ms.a,Ms.f,Ms.setA,Ms.setF,Ms.hl,Ms.setHL,Ms.pair,Ms.setPair,Ms.holds,QN,JN,Jr,Je,Ws.pc,Ws.sp,Ws.wz,Ws.hlTo,Ws.af,Ws.tick,Ws.pcUp,Ws.a,Ws.f,Jh,JW,Jz,Ws.spDown,Ws.spUp,J2,Qf,Ws.hl,Ws.setHl,Ws.setP,Ws.setP0,Ws.know,Ws.mTo]|simp[Ms.hlBy,Ms.deBy,Ms.bcDown,Ws.hlBy,Ws.deBy,Ws.bcDown,hf,h5])
   intros;split<;>repeat (first|simp only[Tr.bind,Tr.Rel,RR,Qa,Ju,Jf,inN,Qc,JU,Ms.pc,Ms.sp,Ms.wz,Ms.af,Ms.pcUp,JZ,Jg,JY,Jw,Jb,Ms.spDown,J0,QW,Ms.goTo,Ms.a,Ms.f,Ms.setA,Ms.setF,Ms.hl,Ms.setHL,Ms.pair,Ms.setPair,Ms.holds,QN,JN,Jr,Je,Ws.pc,Ws.sp,Ws.wz,Ws.hlTo,Ws.af,Ws.tick,Ws.pcUp,Ws.a,Ws.f,Jh,JW,Jz,Ws.spDown,Ws.spUp,J2,Qf,Ws.hl,Ws.setHl,Ws.setP,Ws.setP0,Ws.know,Ws.mTo]|simp[jy])
 · simp[Z7,QDz];repeat (first|simp only[Tr.bind,Tr.Rel,RR,Qa,Ju,Jf,inN,Qc,JU,Ms.pc,Ms.sp,Ms.wz,Ms.af,Ms.pcUp,JZ,Jg,JY,Jw,Jb,Ms.spDown,J0,QW,Ms.goTo,Ms.a,Ms.f,Ms.setA,Ms.setF,Ms.hl,Ms.setHL,Ms.pair,Ms.setPair,Ms.holds,QN,JN,Jr,Je,Ws.pc,Ws.sp,Ws.wz,Ws.hlTo,Ws.af,Ws.tick,Ws.pcUp,Ws.a,Ws.f,Jh,JW,Jz,Ws.spDown,Ws.spUp,J2,Qf,Ws.hl,Ws.setHl,Ws.setP,Ws.setP0,Ws.know,Ws.mTo]|simp[Ms.hlBy,Ms.deBy,Ms.bcDown,Ws.hlBy,Ws.deBy,Ws.bcDown,Ms.lessB,Ms.left,Ws.less,Ws.left,zO,QCz,Jo,QE,hp,h5])
   intros;split<;>repeat (first|simp only[Tr.bind,Tr.Rel,RR,Qa,Ju,Jf,inN,Qc,JU,Ms.pc,Ms.sp,Ms.wz,Ms.af,Ms.pcUp,JZ,Jg,JY,Jw,Jb,Ms.spDown,J0,QW,Ms.goTo,Ms.a,Ms.f,Ms.setA,Ms.setF,Ms.hl,Ms.setHL,Ms.pair,Ms.setPair,Ms.holds,QN,JN,Jr,Je,Ws.pc,Ws.sp,Ws.wz,Ws.hlTo,Ws.af,Ws.tick,Ws.pcUp,Ws.a,Ws.f,Jh,JW,Jz,Ws.spDown,Ws.spUp,J2,Qf,Ws.hl,Ws.setHl,Ws.setP,Ws.setP0,Ws.know,Ws.mTo]|simp[jy])
 · simp[Z6,QDz];repeat (first|simp only[Tr.bind,Tr.Rel,RR,Qa,Ju,Jf,inN,Qc,JU,Ms.pc,Ms.sp,Ms.wz,Ms.af,Ms.pcUp,JZ,Jg,JY,Jw,Jb,Ms.spDown,J0,QW,Ms.goTo,Ms.a,Ms.f,Ms.setA,Ms.setF,Ms.hl,Ms.setHL,Ms.pair,Ms.setPair,Ms.holds,QN,JN,Jr,Je,Ws.pc,Ws.sp,Ws.wz,Ws.hlTo,Ws.af,Ws.tick,Ws.pcUp,Ws.a,Ws.f,Jh,JW,Jz,Ws.spDown,Ws.spUp,J2,Qf,Ws.hl,Ws.setHl,Ws.setP,Ws.setP0,Ws.know,Ws.mTo]|simp[Ms.hlBy,Ms.deBy,Ms.bcDown,Ws.hlBy,Ws.deBy,Ws.bcDown,Ms.lessB,Ms.left,Ws.less,Ws.left,zO,QCz,Jo,QE,hp,h5])
   intros;split<;>repeat (first|simp only[Tr.bind,Tr.Rel,RR,Qa,Ju,Jf,inN,Qc,JU,Ms.pc,Ms.sp,Ms.wz,Ms.af,Ms.pcUp,JZ,Jg,JY,Jw,Jb,Ms.spDown,J0,QW,Ms.goTo,Ms.a,Ms.f,Ms.setA,Ms.setF,Ms.hl,Ms.setHL,Ms.pair,Ms.setPair,Ms.holds,QN,JN,Jr,Je,Ws.pc,Ws.sp,Ws.wz,Ws.hlTo,Ws.af,Ws.tick,Ws.pcUp,Ws.a,Ws.f,Jh,JW,Jz,Ws.spDown,Ws.spUp,J2,Qf,Ws.hl,Ws.setHl,Ws.setP,Ws.setP0,Ws.know,Ws.mTo]|simp[jy])
theorem QSu (r:Rg)(hr:RgB r)(c:Int)(hc:B8 c):(qv ⟨r,0,fx c,fy c,fz c,fp c,fq c,r.hl,false⟩).Rel RR (edW c ⟨r,0,0,0,false⟩):=by
 have hx':fx c=0∨fx c=1∨fx c=2∨fx c=3:=by unfold fx;have:=hc.1;have:=hc.2;omega
 have hz':0≤fz c∧fz c≤7:=by unfold fz;omega
 have hy':0≤fy c∧fy c≤7:=by unfold fy;omega
 have hqy:fq c=fy c%2:=by unfold fq fy;have:=hc.1;have:=hc.2;omega
 unfold qv edW
 generalize fx c=x at *
 generalize fy c=y at *
 generalize fz c=z at *
 generalize fp c=p at *
 generalize fq c=q at *
 have hz8:z=0∨z=1∨z=2∨z=3∨z=4∨z=5∨z=6∨z=7:=by omega
 have hy8:y=0∨y=1∨y=2∨y=3∨y=4∨y=5∨y=6∨y=7:=by omega
 have hq':q=0∨q=1:=by omega
 rcases hx' with rfl|rfl|rfl|rfl
 · simp;exact rfl
 · unfold jg
   rcases hz8 with rfl|rfl|rfl|rfl|rfl|rfl|rfl|rfl
   · by_cases h:y=6
     · subst h;simp[zn];repeat (first|simp only[Tr.bind,Tr.Rel,RR,Qa,Ju,Jf,inN,Qc,JU,Ms.pc,Ms.sp,Ms.wz,Ms.af,Ms.pcUp,JZ,Jg,JY,Jw,Jb,Ms.spDown,J0,QW,Ms.goTo,Ms.a,Ms.f,Ms.setA,Ms.setF,Ms.hl,Ms.setHL,Ms.pair,Ms.setPair,Ms.holds,QN,JN,Jr,Je,Ws.pc,Ws.sp,Ws.wz,Ws.hlTo,Ws.af,Ws.tick,Ws.pcUp,Ws.a,Ws.f,Jh,JW,Jz,Ws.spDown,Ws.spUp,J2,Qf,Ws.hl,Ws.setHl,Ws.setP,Ws.setP0,Ws.know,Ws.mTo]|simp)
     · simp[zn,h];repeat (first|simp only[Tr.bind,Tr.Rel,RR,Qa,Ju,Jf,inN,Qc,JU,Ms.pc,Ms.sp,Ms.wz,Ms.af,Ms.pcUp,JZ,Jg,JY,Jw,Jb,Ms.spDown,J0,QW,Ms.goTo,Ms.a,Ms.f,Ms.setA,Ms.setF,Ms.hl,Ms.setHL,Ms.pair,Ms.setPair,Ms.holds,QN,JN,Jr,Je,Ws.pc,Ws.sp,Ws.wz,Ws.hlTo,Ws.af,Ws.tick,Ws.pcUp,Ws.a,Ws.f,Jh,JW,Jz,Ws.spDown,Ws.spUp,J2,Qf,Ws.hl,Ws.setHl,Ws.setP,Ws.setP0,Ws.know,Ws.mTo]|simp[h,Zu,setW,QO,QDd])
   · by_cases h:y=6
     · subst h;simp[j8];repeat (first|simp only[Tr.bind,Tr.Rel,RR,Qa,Ju,Jf,inN,Qc,JU,Ms.pc,Ms.sp,Ms.wz,Ms.af,Ms.pcUp,JZ,Jg,JY,Jw,Jb,Ms.spDown,J0,QW,Ms.goTo,Ms.a,Ms.f,Ms.setA,Ms.setF,Ms.hl,Ms.setHL,Ms.pair,Ms.setPair,Ms.holds,QN,JN,Jr,Je,Ws.pc,Ws.sp,Ws.wz,Ws.hlTo,Ws.af,Ws.tick,Ws.pcUp,Ws.a,Ws.f,Jh,JW,Jz,Ws.spDown,Ws.spUp,J2,Qf,Ws.hl,Ws.setHl,Ws.setP,Ws.setP0,Ws.know,Ws.mTo]|simp)
     · simp[j8,h];repeat (first|simp only[Tr.bind,Tr.Rel,RR,Qa,Ju,Jf,inN,Qc,JU,Ms.pc,Ms.sp,Ms.wz,Ms.af,Ms.pcUp,JZ,Jg,JY,Jw,Jb,Ms.spDown,J0,QW,Ms.goTo,Ms.a,Ms.f,Ms.setA,Ms.setF,Ms.hl,Ms.setHL,Ms.pair,Ms.setPair,Ms.holds,QN,JN,Jr,Je,Ws.pc,Ws.sp,Ws.wz,Ws.hlTo,Ws.af,Ws.tick,Ws.pcUp,Ws.a,Ws.f,Jh,JW,Jz,Ws.spDown,Ws.spUp,J2,Qf,Ws.hl,Ws.setHl,Ws.setP,Ws.setP0,Ws.know,Ws.mTo]|simp[h,Zk,jY,QO,QDd])
   · rcases hq' with h|h<;>simp[ZX,h]<;>repeat (first|simp only[Tr.bind,Tr.Rel,RR,Qa,Ju,Jf,inN,Qc,JU,Ms.pc,Ms.sp,Ms.wz,Ms.af,Ms.pcUp,JZ,Jg,JY,Jw,Jb,Ms.spDown,J0,QW,Ms.goTo,Ms.a,Ms.f,Ms.setA,Ms.setF,Ms.hl,Ms.setHL,Ms.pair,Ms.setPair,Ms.holds,QN,JN,Jr,Je,Ws.pc,Ws.sp,Ws.wz,Ws.hlTo,Ws.af,Ws.tick,Ws.pcUp,Ws.a,Ws.f,Jh,JW,Jz,Ws.spDown,Ws.spUp,J2,Qf,Ws.hl,Ws.setHl,Ws.setP,Ws.setP0,Ws.know,Ws.mTo]|simp[h])
   · rcases hq' with h|h<;>simp[Xz,QGD,Xm,ZC,h]<;>repeat (first|simp only[Tr.bind,Tr.Rel,RR,Qa,Ju,Jf,inN,Qc,JU,Ms.pc,Ms.sp,Ms.wz,Ms.af,Ms.pcUp,JZ,Jg,JY,Jw,Jb,Ms.spDown,J0,QW,Ms.goTo,Ms.a,Ms.f,Ms.setA,Ms.setF,Ms.hl,Ms.setHL,Ms.pair,Ms.setPair,Ms.holds,QN,JN,Jr,Je,Ws.pc,Ws.sp,Ws.wz,Ws.hlTo,Ws.af,Ws.tick,Ws.pcUp,Ws.a,Ws.f,Jh,JW,Jz,Ws.spDown,Ws.spUp,J2,Qf,Ws.hl,Ws.setHl,Ws.setP,Ws.setP0,Ws.know,Ws.mTo]|simp[h])
     all_goals (intros;unfold QE;repeat' split)<;>rfl
   · simp;repeat (first|simp only[Tr.bind,Tr.Rel,RR,Qa,Ju,Jf,inN,Qc,JU,Ms.pc,Ms.sp,Ms.wz,Ms.af,Ms.pcUp,JZ,Jg,JY,Jw,Jb,Ms.spDown,J0,QW,Ms.goTo,Ms.a,Ms.f,Ms.setA,Ms.setF,Ms.hl,Ms.setHL,Ms.pair,Ms.setPair,Ms.holds,QN,JN,Jr,Je,Ws.pc,Ws.sp,Ws.wz,Ws.hlTo,Ws.af,Ws.tick,Ws.pcUp,Ws.a,Ws.f,Jh,JW,Jz,Ws.spDown,Ws.spUp,J2,Qf,Ws.hl,Ws.setHl,Ws.setP,Ws.setP0,Ws.know,Ws.mTo]|simp)
   · have m2:∀ a:Int,((a+1)%65536+1)%65536=(a+2)%65536:=by intro a;omega
     simp[QC5];repeat (first|simp only[Tr.bind,Tr.Rel,RR,Qa,Ju,Jf,inN,Qc,JU,Ms.pc,Ms.sp,Ms.wz,Ms.af,Ms.pcUp,JZ,Jg,JY,Jw,Jb,Ms.spDown,J0,QW,Ms.goTo,Ms.a,Ms.f,Ms.setA,Ms.setF,Ms.hl,Ms.setHL,Ms.pair,Ms.setPair,Ms.holds,QN,JN,Jr,Je,Ws.pc,Ws.sp,Ws.wz,Ws.hlTo,Ws.af,Ws.tick,Ws.pcUp,Ws.a,Ws.f,Jh,JW,Jz,Ws.spDown,Ws.spUp,J2,Qf,Ws.hl,Ws.setHl,Ws.setP,Ws.setP0,Ws.know,Ws.mTo]|simp[m2])
   · by_cases h2:y%4=2
     · simp[h2];exact rfl
     · by_cases h3:y%4=3
       · simp[h2,h3];exact rfl
       · simp[h2,h3];exact rfl
   · rcases hy8 with rfl|rfl|rfl|rfl|rfl|rfl|rfl|rfl<;>simp[zS,QQ9,ZR]<;>repeat (first|simp only[Tr.bind,Tr.Rel,RR,Qa,Ju,Jf,inN,Qc,JU,Ms.pc,Ms.sp,Ms.wz,Ms.af,Ms.pcUp,JZ,Jg,JY,Jw,Jb,Ms.spDown,J0,QW,Ms.goTo,Ms.a,Ms.f,Ms.setA,Ms.setF,Ms.hl,Ms.setHL,Ms.pair,Ms.setPair,Ms.holds,QN,JN,Jr,Je,Ws.pc,Ws.sp,Ws.wz,Ws.hlTo,Ws.af,Ws.tick,Ws.pcUp,Ws.a,Ws.f,Jh,JW,Jz,Ws.spDown,Ws.spUp,J2,Qf,Ws.hl,Ws.setHl,Ws.setP,Ws.setP0,Ws.know,Ws.mTo]|simp[QEC,QLc,QQg])
 · by_cases h:z < 4∧3 < y
   · have h1:¬(4≤z∨y < 4):=by omega
     simp only[zZ,QFb,h,h1]
     rcases hq' with h2|h2
     · have h3:¬(y%2=1):=by omega
       simp[h2,h3]
       exact QGC r 2 y z p 0 (by omega) (by omega) 1
     · have h3:y%2=1:=by omega
       simp[h2,h3]
       exact QGC r 2 y z p 1 (by omega) (by omega) (-1)
   · have h1:4≤z∨y < 4:=by omega
     simp[zZ,h,h1]
     exact rfl
 · simp;exact rfl
theorem QRN (r:Rg)(c:Int)(hc:B8 c):(jP ⟨r,0,fx c,fy c,fz c,fp c,fq c,r.hl,false⟩).Rel RR (QH1 false c ⟨r,0,0,0,false⟩):=by
 have hx':fx c=0∨fx c=1∨fx c=2∨fx c=3:=by unfold fx;have:=hc.1;have:=hc.2;omega
 unfold jP QH1
 generalize fx c=x at *
 generalize fy c=y at *
 generalize fz c=z at *
 generalize fp c=p at *
 generalize fq c=q at *
 by_cases h:z=6
 · subst h
   rcases hx' with rfl|rfl|rfl|rfl<;>simp[Ws.at_,jY,Xy,Zt,jx,Xb,Xe,jX,Ms.inMem,QCQ,QAl,setW]<;>repeat (first|simp only[Tr.bind,Tr.Rel,RR,Qa,Ju,Jf,inN,Qc,JU,Ms.pc,Ms.sp,Ms.wz,Ms.af,Ms.pcUp,JZ,Jg,JY,Jw,Jb,Ms.spDown,J0,QW,Ms.goTo,Ms.a,Ms.f,Ms.setA,Ms.setF,Ms.hl,Ms.setHL,Ms.pair,Ms.setPair,Ms.holds,QN,JN,Jr,Je,Ws.pc,Ws.sp,Ws.wz,Ws.hlTo,Ws.af,Ws.tick,Ws.pcUp,Ws.a,Ws.f,Jh,JW,Jz,Ws.spDown,Ws.spUp,J2,Qf,Ws.hl,Ws.setHl,Ws.setP,Ws.setP0,Ws.know,Ws.mTo]|simp)
 · rcases hx' with rfl|rfl|rfl|rfl<;>simp[Ws.at_,jY,Xy,Zt,jx,Xb,Xe,jX,Ms.inMem,QCQ,QAl,setW,h,Zk,QO,QDd]<;>repeat (first|simp only[Tr.bind,Tr.Rel,RR,Qa,Ju,Jf,inN,Qc,JU,Ms.pc,Ms.sp,Ms.wz,Ms.af,Ms.pcUp,JZ,Jg,JY,Jw,Jb,Ms.spDown,J0,QW,Ms.goTo,Ms.a,Ms.f,Ms.setA,Ms.setF,Ms.hl,Ms.setHL,Ms.pair,Ms.setPair,Ms.holds,QN,JN,Jr,Je,Ws.pc,Ws.sp,Ws.wz,Ws.hlTo,Ws.af,Ws.tick,Ws.pcUp,Ws.a,Ws.f,Jh,JW,Jz,Ws.spDown,Ws.spUp,J2,Qf,Ws.hl,Ws.setHl,Ws.setP,Ws.setP0,Ws.know,Ws.mTo]|simp[h,Zu,QO,QDd])
theorem QPO (r:Rg)(c spot pl code:Int)(hc:B8 c):(jP ⟨r,0,fx c,fy c,fz c,fp c,fq c,spot,true⟩).Rel RR (QH1 true c ⟨r,pl,code,spot,true⟩):=by
 have hx':fx c=0∨fx c=1∨fx c=2∨fx c=3:=by unfold fx;have:=hc.1;have:=hc.2;omega
 unfold jP QH1
 generalize fx c=x at *
 generalize fy c=y at *
 generalize fz c=z at *
 generalize fp c=p at *
 generalize fq c=q at *
 by_cases h:z=6
 · subst h
   rcases hx' with rfl|rfl|rfl|rfl<;>simp[Ws.at_,jY,Xy,Zt,jx,Xb,Xe,jX,Ms.inMem,QCQ,QAl,setW]<;>repeat (first|simp only[Tr.bind,Tr.Rel,RR,Qa,Ju,Jf,inN,Qc,JU,Ms.pc,Ms.sp,Ms.wz,Ms.af,Ms.pcUp,JZ,Jg,JY,Jw,Jb,Ms.spDown,J0,QW,Ms.goTo,Ms.a,Ms.f,Ms.setA,Ms.setF,Ms.hl,Ms.setHL,Ms.pair,Ms.setPair,Ms.holds,QN,JN,Jr,Je,Ws.pc,Ws.sp,Ws.wz,Ws.hlTo,Ws.af,Ws.tick,Ws.pcUp,Ws.a,Ws.f,Jh,JW,Jz,Ws.spDown,Ws.spUp,J2,Qf,Ws.hl,Ws.setHl,Ws.setP,Ws.setP0,Ws.know,Ws.mTo]|simp)
 · rcases hx' with rfl|rfl|rfl|rfl<;>simp[Ws.at_,jY,Xy,Zt,jx,Xb,Xe,jX,Ms.inMem,QCQ,QAl,setW,h,Zk,QO,QDd]<;>repeat (first|simp only[Tr.bind,Tr.Rel,RR,Qa,Ju,Jf,inN,Qc,JU,Ms.pc,Ms.sp,Ms.wz,Ms.af,Ms.pcUp,JZ,Jg,JY,Jw,Jb,Ms.spDown,J0,QW,Ms.goTo,Ms.a,Ms.f,Ms.setA,Ms.setF,Ms.hl,Ms.setHL,Ms.pair,Ms.setPair,Ms.holds,QN,JN,Jr,Je,Ws.pc,Ws.sp,Ws.wz,Ws.hlTo,Ws.af,Ws.tick,Ws.pcUp,Ws.a,Ws.f,Jh,JW,Jz,Ws.spDown,Ws.spUp,J2,Qf,Ws.hl,Ws.setHl,Ws.setP,Ws.setP0,Ws.know,Ws.mTo]|simp[h,Zu,QO,QDd])
theorem QHh:QCa:=by
 intro s c hs hnr hc hp
 show (QCD c s).Rel RR _
 unfold QCD QGR
 by_cases h3:c=203
 · subst h3
   rw[if_pos rfl,if_neg (by decide)]
   obtain⟨r,plane,x0,y0,z0,p0,q0,spot,near⟩:=s
   have hnr':near=false:=hnr
   subst hnr'
   have hpl:plane=0∨plane=3∨plane=4:=hs.plane
   by_cases h0:plane=0
   · subst h0
     simp only[Z2,Ms.atHL]
     simp only[Tr.bind,Tr.Rel,RR,Qa,Ju,Jf,inN,Qc,JU,Ms.pc,Ms.sp,Ms.wz,Ms.af,Ms.pcUp,JZ,Jg,JY,Jw,Jb,Ms.spDown,J0,QW,Ms.goTo,Ms.a,Ms.f,Ms.setA,Ms.setF,Ms.hl,Ms.setHL,Ms.pair,Ms.setPair,Ms.holds,QN,JN,Jr,Je,Ws.pc,Ws.sp,Ws.wz,Ws.hlTo,Ws.af,Ws.tick,Ws.pcUp,Ws.a,Ws.f,Jh,JW,Jz,Ws.spDown,Ws.spUp,J2,Qf,Ws.hl,Ws.setHl,Ws.setP,Ws.setP0,Ws.know,Ws.mTo]
     simp only[true_and,Ms.split]
     refine⟨rfl,fun b hb=>?_⟩
     exact QRN _ b hb
   · have h0':¬((203:Int)=203∧plane=0):=fun h=>h0 h.2
     rw[if_neg h0',if_pos rfl]
     have h34:plane=3∨plane=4:=hpl.resolve_left h0
     rcases h34 with rfl|rfl
     · simp[Z2,Ms.atHL,QPI,QFG,Ws.at_]
       simp only[Tr.bind,Tr.Rel,RR,Qa,Ju,Jf,inN,Qc,JU,Ms.pc,Ms.sp,Ms.wz,Ms.af,Ms.pcUp,JZ,Jg,JY,Jw,Jb,Ms.spDown,J0,QW,Ms.goTo,Ms.a,Ms.f,Ms.setA,Ms.setF,Ms.hl,Ms.setHL,Ms.pair,Ms.setPair,Ms.holds,QN,JN,Jr,Je,Ws.pc,Ws.sp,Ws.wz,Ws.hlTo,Ws.af,Ws.tick,Ws.pcUp,Ws.a,Ws.f,Jh,JW,Jz,Ws.spDown,Ws.spUp,J2,Qf,Ws.hl,Ws.setHl,Ws.setP,Ws.setP0,Ws.know,Ws.mTo]
       simp[Ms.split,Jo]
       intro b hb c hc _ _
       exact QPO _ c _ _ _ hc
     · simp[Z2,Ms.atHL,QPI,QFG,Ws.at_]
       simp only[Tr.bind,Tr.Rel,RR,Qa,Ju,Jf,inN,Qc,JU,Ms.pc,Ms.sp,Ms.wz,Ms.af,Ms.pcUp,JZ,Jg,JY,Jw,Jb,Ms.spDown,J0,QW,Ms.goTo,Ms.a,Ms.f,Ms.setA,Ms.setF,Ms.hl,Ms.setHL,Ms.pair,Ms.setPair,Ms.holds,QN,JN,Jr,Je,Ws.pc,Ws.sp,Ws.wz,Ws.hlTo,Ws.af,Ws.tick,Ws.pcUp,Ws.a,Ws.f,Jh,JW,Jz,Ws.spDown,Ws.spUp,J2,Qf,Ws.hl,Ws.setHl,Ws.setP,Ws.setP0,Ws.know,Ws.mTo]
       simp[Ms.split,Jo]
       intro b hb c hc _ _
       exact QPO _ c _ _ _ hc
 · by_cases h7:c=237
   · subst h7
     rw[if_neg (by decide),if_pos rfl,if_pos rfl]
     obtain⟨r,plane,x0,y0,z0,p0,q0,spot,near⟩:=s
     have hnr':near=false:=hnr
     subst hnr'
     simp only[Ms.atHL,Ms.toPlane]
     simp only[Tr.bind,Tr.Rel,RR,Qa,Ju,Jf,inN,Qc,JU,Ms.pc,Ms.sp,Ms.wz,Ms.af,Ms.pcUp,JZ,Jg,JY,Jw,Jb,Ms.spDown,J0,QW,Ms.goTo,Ms.a,Ms.f,Ms.setA,Ms.setF,Ms.hl,Ms.setHL,Ms.pair,Ms.setPair,Ms.holds,QN,JN,Jr,Je,Ws.pc,Ws.sp,Ws.wz,Ws.hlTo,Ws.af,Ws.tick,Ws.pcUp,Ws.a,Ws.f,Jh,JW,Jz,Ws.spDown,Ws.spUp,J2,Qf,Ws.hl,Ws.setHl,Ws.setP,Ws.setP0,Ws.know,Ws.mTo]
     simp only[true_and,Ms.split,Ws.at_]
     intro b hb
     refine QSu _ ?_ b hb
     have ht:RgB (Zm r 1):=hs.r.tick 1
     exact⟨ht.af,ht.bc,ht.de,ht.hl,ht.af2,ht.bc2,ht.de2,ht.hl2,ht.ix,ht.iy,ht.sp,Wd16.mod _,ht.wz,ht.i,ht.r,ht.mode⟩
   · rw[if_neg h3,if_neg h7,if_neg h7,if_neg (fun h=>h3 h.1),if_neg h3]
     exact QLi s c hs hnr hc
theorem QK7 {g:Rg}(hg:RgB g){c:Int}(hc:B8 c){xs:List Int}(hx:Bytes8 xs):QCH (X4 g c xs)=QFC (QBC g c xs):=(QLH QHh hg hc hx).tell
theorem QOV {g:Rg}(hg:RgB g){xs:List Int}(hx:Bytes8 xs):QCH (XG g xs)=QFC (qm g xs):=(QNB QHh hg hx).tell
theorem QA6 {w w':World}(h:Below w.heap.size w w')(row:Option Nat):w.grownBy w' row:=⟨h.os,h.tape,h.output,h.size,fun i hi _=>h.block i hi⟩
theorem qz {n b:Nat} {w W w1:World}(h:Below n w W)(hg:W.grownBy w1 (some b))(hb:n≤b)(hn:n≤W.heap.size):Below n w w1:=h.grown hg hn fun k e=>by cases e;exact hb
theorem XA {n:Nat} {w W w1:World} {base:Nat} {e:TypeId} {size:Nat} {v:Value} {m:Nat} {xs:List Value}(h:Below n w W)(hg:W.grownBy w1 v.ownBlock)(ho:W.ownsRow base e size v m xs)(hb:n≤base)(hn:n≤W.heap.size):Below n w w1 :=
 h.grown hg hn fun k e=>Nat.le_trans hb (ho.lt k e).1
theorem XT {w W:World}(h:Below w.heap.size w W)(o:Obj):Below w.heap.size w (W.alloc o):=Below.alloc h h.size _
theorem bOn {w W W':World} {rs:List RowK}(h:Below w.heap.size w W)(k:Many W [] rs W'):Below w.heap.size w W':=h.trans (k.touch.below.mono h.size)
theorem Many.allocO {w0 w:World} {L:List Nat} {rs:List RowK}(h:Many w0 L rs w)(o:Obj):Many w0 L rs (w.alloc o):=h.below (Below.alloc (Below.refl _ _) (Nat.le_refl _) _)
theorem Many.grown {w0 w w':World} {L:List Nat} {rs:List RowK} {b:Nat}(h:Many w0 L rs w)(k:w.grownBy w' (some b))(hb:w0.heap.size≤b)(hn:∀ (i:Nat) (r:RowK),rs[i]?=some r→r.b≠b):Many w0 L rs w' :=
 ⟨fun i r hr=>by obtain⟨full,h1,h2⟩:=h.rows i r hr;exact⟨full,h1.of (k.block r.b h1.lt (by simpa using hn i r hr)),h2⟩,h.dis,h.own,
  ⟨k.os.trans h.touch.os,k.tape.trans h.touch.tape,k.output.trans h.touch.output,Nat.le_trans h.touch.size k.size,fun c hc hL=>(k.block c (Nat.lt_of_lt_of_le hc h.touch.size) (by simp;omega)).trans (h.touch.block c hc hL)⟩⟩
theorem QB1 {α:Type}(l:List α)(k:Nat)(h:k < l.length):l.take (k+1)=l.take k++[l[k]]:=(List.take_append_getElem h).symm
structure QL7 where
 k:Nat
 y:Nat→Value
structure QPv where
 k:Nat
 v:Int
 y:Nat→Value
structure QTh where
 k:Nat
 v:Value
 y:Nat→Value
section
variable {P:Program} {ρ:Operand→Value} {o:Oper} {x y z:Operand} {V W R U:Value}
theorem QEm {t:TypeId} {w:World} {c:Bool}(hl:(Instr.lookup t V W c).run P w=.ok R w)(ho:o.op=.lookup t x y c:=by exact rfl)(hx:ρ x=V:=by kernel_rfl)(hy:ρ y=W:=by kernel_rfl):(execOp ρ o).run P w=.ok (.value R) w:=by
 unfold execOp
 simp only[ho,hx,hy,Sem.run_bind,Sem.run_pure,hl,Result.andThen_ok]
theorem QRJ {t:TypeId} {w w':World}(hl:(Instr.mapUpdate t V W U).run P w=.ok () w')(ho:o.op=.mapUpdate t x y z:=by exact rfl)(hx:ρ x=V:=by kernel_rfl)(hy:ρ y=W:=by kernel_rfl)(hz:ρ z=U:=by kernel_rfl):(execOp ρ o).run P w=.ok .skip w':=by
 unfold execOp
 simp only[ho,hx,hy,hz,Sem.run_bind,Sem.run_pure,hl,Result.andThen_ok]
theorem QUD {t:TypeId} {w w':World}(hl:(Instr.range t V).run P w=.ok R w')(ho:o.op=.range t x:=by exact rfl)(hx:ρ x=V:=by kernel_rfl):(execOp ρ o).run P w=.ok (.value R) w':=by
 unfold execOp
 simp only[ho,hx,Sem.run_bind,Sem.run_pure,hl,Result.andThen_ok]
theorem QTK {w w':World}(hl:(Instr.next V false o.type).run P w=.ok R w')(ho:o.op=.next x false:=by exact rfl)(hx:ρ x=V:=by kernel_rfl):(execOp ρ o).run P w=.ok (.value R) w':=by
 unfold execOp
 simp only[ho,hx,Sem.run_bind,Sem.run_pure,hl,Result.andThen_ok]
theorem QTj {w:World}(hl:(Instr.entry V).run P w=.ok R w)(ho:o.op=.entry x:=by exact rfl)(hx:ρ x=V:=by kernel_rfl):(execOp ρ o).run P w=.ok (.value R) w:=by
 unfold execOp
 simp only[ho,hx,Sem.run_bind,Sem.run_pure,hl,Result.andThen_ok]
theorem QKV {t:TypeId} {w w':World}(hl:(Instr.makeMap t none).run P w=.ok R w')(ho:o.op=.makeMap t none:=by exact rfl):(execOp ρ o).run P w=.ok (.value R) w':=by
 unfold execOp
 simp only[ho,Option.map_none,Sem.run_bind,Sem.run_pure,hl,Result.andThen_ok]
theorem QR0 {t u:TypeId} {w w':World}(hl:(Builtin.delete_ #[t,u] o.type #[V,W]).run P w=.ok R w')(ho:o.op=.call { callee:=.builtin .delete,args:=#[x,y],argTypes:=#[t,u] }:=by exact rfl)(hx:ρ x=V:=by kernel_rfl)(hy:ρ y=W:=by kernel_rfl):(execOp ρ o).run P w=.ok (.value R) w':=by
 unfold execOp
 simp[ho,hx,hy,resolve,invoke,builtin,Sem.run_bind,Sem.run_pure,hl,Result.andThen_ok]
theorem XF {t:TypeId} {w:World}(hl:(Instr.indexAt t V W).run P w=.ok R w)(ho:o.op=.indexAddr t x y:=by exact rfl)(hx:ρ x=V:=by kernel_rfl)(hy:ρ y=W:=by kernel_rfl):(execOp ρ o).run P w=.ok (.value R) w:=by
 unfold execOp
 simp only[ho,hx,hy,Sem.run_bind,Sem.run_pure,hl,Result.andThen_ok]
theorem QOs {op:BinOp} {t r:TypeId} {w:World}(hg:(eqGuard op t x y V W).run P w=.ok () w)(hb:(binOp op t V W).run P w=.ok R w)(ho:o.op=.binOp op t x y r:=by exact rfl)(hx:ρ x=V:=by kernel_rfl)(hy:ρ y=W:=by kernel_rfl):(execOp ρ o).run P w=.ok (.value R) w:=by
 unfold execOp
 simp only[ho,hx,hy,Sem.run_bind,Sem.run_pure,hg,hb,Result.andThen_ok]
theorem QCN {t:TypeId} {f:Nat} {w:World}(hf:(Instr.fieldAt t V f).run P w=.ok R w)(ho:o.op=.fieldAddr t x f:=by exact rfl)(hx:ρ x=V:=by kernel_rfl):(execOp ρ o).run P w=.ok (.value R) w:=by
 unfold execOp
 simp only[ho,hx,Sem.run_bind,Sem.run_pure,hf,Result.andThen_ok]
theorem J3 {t:TypeId} {w:World}(hl:(Instr.loadAt t V).run P w=.ok R w)(ho:o.op=.load t x:=by exact rfl)(hx:ρ x=V:=by kernel_rfl):(execOp ρ o).run P w=.ok (.value R) w:=by
 unfold execOp
 simp only[ho,hx,Sem.run_bind,Sem.run_pure,hl,Result.andThen_ok]
theorem XD {t:TypeId} {n:Nat} {parts:Array (Nat×Operand)} {ps:Array (Nat×Value)} {w w':World}(h:(Instr.buildSlice t n ps).run P w=.ok V w')(ho:o.op=.buildSlice t n parts:=by exact rfl)(hx:(parts.map fun (i,x)=>(i,ρ x))=ps:=by kernel_rfl):(execOp ρ o).run P w=.ok (.value V) w':=by
 unfold execOp
 simp only[ho,hx,Sem.run_bind,Sem.run_pure,h,Result.andThen_ok]
theorem QHP {P:Program} {ρ:Operand→Value} {o:Oper} {x:Operand} {V R:Value} {s t:TypeId} {w:World}(hc:(convert s t V).run P w=.ok R w)(ho:o.op=.convert s t x:=by exact rfl)(hx:ρ x=V:=by kernel_rfl):(execOp ρ o).run P w=.ok (.value R) w:=by
 unfold execOp
 simp only[ho,hx,Sem.run_bind,Sem.run_pure,hc,Result.andThen_ok]
theorem QPu {P:Program} {ρ:Operand→Value} {o:Oper} {x:Operand} {w:World}(V:Value)(vs:Array Value){i:Nat}(hx:ρ x=.tuple vs:=by kernel_rfl)(hi:vs[i]?=some V:=by kernel_rfl)(ho:o.op=.extract x i:=by exact rfl):(execOp ρ o).run P w=.ok (.value V) w:=by
 unfold execOp
 simp[ho,hx,Instr.extract,hi]
theorem QDG {P:Program} {ρ:Operand→Value} {o:Oper} {x:Operand} {V R:Value} {t:TypeId} {lo hi mx:Option Operand} {l m n:Option Value} {w:World}(h:(Instr.sliceAt t V l m n).run P w=.ok R w)(ho:o.op=.slice t x lo hi mx:=by exact rfl)(hx:ρ x=V:=by kernel_rfl)(hl:lo.map ρ=l:=by kernel_rfl)(hh:hi.map ρ=m:=by kernel_rfl)(hm:mx.map ρ=n:=by kernel_rfl):(execOp ρ o).run P w=.ok (.value R) w:=by
 unfold execOp
 simp only[ho,hx,hl,hh,hm,Sem.run_bind,Sem.run_pure,h,Result.andThen_ok]
theorem QPd {P:Program} {ρ:Operand→Value} {o:Oper} {x y:Operand} {V W:Value} {t:TypeId} {w w':World}(h:(Instr.storeAt t V W).run P w=.ok () w')(ho:o.op=.store t x y:=by exact rfl)(hx:ρ x=V:=by kernel_rfl)(hy:ρ y=W:=by kernel_rfl):(execOp ρ o).run P w=.ok .skip w':=by
 unfold execOp
 simp only[ho,hx,hy,Sem.run_bind,Sem.run_pure,h,Result.andThen_ok]
end
section
variable {ρ:Operand→Value} {o:Oper} {x y:Operand}
theorem QRz (k:Nat)(h:k < 4611686018427387904)(w:World):(binOp .add 3 (.int .i64 (k:Int)) (.int .i64 1)).run Tryz.prog w=.ok (.int .i64 ((k+1:Nat):Int)) w:=by
 have e:IntKind.i64.wrap ((k:Int)+1)=((k+1:Nat):Int):=by simp[IntKind.wrap,IntKind.bits,IntKind.signed];omega
 simp[go_sem,e]
theorem QA3 (k:Nat)(h:k < 4611686018427387904){r:TypeId} {w:World}(ho:o.op=.binOp .add 3 x y r:=by exact rfl)(hx:ρ x=.int .i64 (k:Int):=by kernel_rfl)(hy:ρ y=.int .i64 1:=by kernel_rfl):(execOp ρ o).run Tryz.prog w=.ok (.value (.int .i64 ((k+1:Nat):Int))) w :=
 QOs (by simp[go_sem]) (QRz k h w) ho hx hy
theorem add_zero' (p:Addr):p.add 0=p:=by cases p;simp[Addr.add]
theorem ldA {w:World} {p:Addr} {V:Value}(h:w.cell? p=some V):(Instr.loadAt 22 (.pointer (some p))).run Tryz.prog w=.ok V w:=by simp[go_sem,h]
theorem ldD {w:World} {p:Addr} {V:Value}(h:w.cell? p=some V):(Instr.loadAt 5 (.pointer (some p))).run Tryz.prog w=.ok V w:=by simp[go_sem,h]
theorem ixB (p:Addr)(n c k:Nat)(h:k < n)(w:World):(Instr.indexAt 26 (.slice (some p) n c) (.int .i64 (k:Int))).run Tryz.prog w=.ok (.pointer (some (p.add k))) w:=by
 simp[go_sem,h]
theorem QO7 (a:Int)(h:0≤a∧a≤65535)(w:World):(convert 3 22 (.int .i64 a)).run Tryz.prog w=.ok (.int .u16 a) w:=by
 have e:IntKind.u16.wrap a=a:=by rw[IntKind.wrap_u16];omega
 simp[go_sem,e]
theorem QRx (k:Nat)(h:k < 65536)(w:World):(binOp .rem 3 (.int .i64 (k:Int)) (.int .i64 65536)).run Tryz.prog w=.ok (.int .i64 (k:Int)) w:=by
 have e1:(k:Int).tmod 65536=k:=Int.tmod_eq_of_lt (by omega) (by omega)
 have e:IntKind.i64.wrap (k:Int)=(k:Int):=by rw[IntKind.wrap_i64];omega
 simp[go_sem,e1,e]
theorem QVt (a b:Int)(w:World):(binOp .add 22 (.int .u16 a) (.int .u16 b)).run Tryz.prog w=.ok (.int .u16 ((a+b)%65536)) w:=by simp[go_sem,IntKind.wrap_u16]
theorem QSX (op:BinOp)(x y:Operand)(a b:Int)(w:World):(eqGuard op 22 x y (.int .u16 a) (.int .u16 b)).run Tryz.prog w=.ok () w:=by simp[go_sem]
theorem BytesIn.ld {w:World} {B:Nat} {p:Addr} {xs:List Int}(h:BytesIn w B (some p) xs){k:Nat}(hk:k < xs.length):(Instr.loadAt 5 (.pointer (some (p.add k)))).run Tryz.prog w=.ok (.int .u8 xs[k]) w:=by
 obtain⟨q,e,-,h1⟩:=h k _ (List.getElem?_eq_getElem hk)
 cases e
 exact ldD h1
theorem BytesIn.addr {w:World} {B:Nat} {A:Option Addr} {xs:List Int}(h:BytesIn w B A xs){k:Nat}(hk:k < xs.length):∃ p,A=some p:=by
 obtain⟨q,e,-⟩:=h k _ (List.getElem?_eq_getElem hk)
 exact⟨q,e⟩
end
end Go.Proofs.YtkgaeamdhhceiaaGreatDoor
