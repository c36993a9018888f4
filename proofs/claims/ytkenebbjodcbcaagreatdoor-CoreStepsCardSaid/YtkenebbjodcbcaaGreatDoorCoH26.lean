/- Contracts and facts that the claim's proof wants (several texts in one). -/
import Derived.Test.YtkenebbjodcbcaaGreatDoorCoH25
namespace Go.Proofs.YtkenebbjodcbcaaGreatDoor
open Go.RowKit
set_option linter.unusedVariables false
set_option linter.unusedSimpArgs false
set_option maxRecDepth 20000
set_option maxHeartbeats 20000000
theorem QMi (r:Rg)(plane x y z p q:Int)(code:Int)(hz:0≤z∧z≤7)(hy:0≤y∧y≤7)(hp:p=y / 2)(hq:q=y%2)(hn:XT plane code=false)(h6:z=4∨z=5∨z=6→y=6→plane=0) :
 (ZV ⟨r,plane,x,y,z,p,q,r.hl,false⟩).Rel RR (QJs y z p q ⟨r,plane,code,0,false⟩):=by
 have hz':z=0∨z=1∨z=2∨z=3∨z=4∨z=5∨z=6∨z=7:=by omega
 have hy':y=0∨y=1∨y=2∨y=3∨y=4∨y=5∨y=6∨y=7:=by omega
 have hq':q=0∨q=1:=by omega
 unfold ZV QJs
 rcases hz' with rfl|rfl|rfl|rfl|rfl|rfl|rfl|rfl
 · rcases hy' with rfl|rfl|rfl|rfl|rfl|rfl|rfl|rfl<;>simp[zd,QIf,j3,QKG,Ms.left,Ms.lessB,Ws.left,Ws.less,qd,QCF,Jk,J8]<;>simp only[Tr.bind,Tr.Rel,RR,QT,Jq,Jc,inN,QM,JT,Ms.pc,Ms.sp,Ms.wz,Ms.af,Ms.pcUp,JW,Jd,JV,Jt,JY,Ms.spDown,Jv,QS,Ms.goTo,Ms.a,Ms.f,Ms.setA,Ms.setF,Ms.hl,Ms.setHL,Ms.pair,Ms.setPair,Ms.holds,QF,JO,Jm,Jb,Ws.pc,Ws.sp,Ws.wz,Ws.hlTo,Ws.af,Ws.tick,Ws.pcUp,Ws.a,Ws.f,Je,JU,Ju,Ws.spDown,Ws.spUp,Jy,QX,Ws.hl,Ws.setHl,Ws.setP,Ws.setP0,Ws.know,Ws.mTo]<;>simp
   all_goals (intros;split<;>simp only[Tr.bind,Tr.Rel,RR,QT,Jq,Jc,inN,QM,JT,Ms.pc,Ms.sp,Ms.wz,Ms.af,Ms.pcUp,JW,Jd,JV,Jt,JY,Ms.spDown,Jv,QS,Ms.goTo,Ms.a,Ms.f,Ms.setA,Ms.setF,Ms.hl,Ms.setHL,Ms.pair,Ms.setPair,Ms.holds,QF,JO,Jm,Jb,Ws.pc,Ws.sp,Ws.wz,Ws.hlTo,Ws.af,Ws.tick,Ws.pcUp,Ws.a,Ws.f,Je,JU,Ju,Ws.spDown,Ws.spUp,Jy,QX,Ws.hl,Ws.setHl,Ws.setP,Ws.setP0,Ws.know,Ws.mTo]<;>simp)
 · rcases hq' with h|h<;>rw[h]<;>simp[Zi]<;>simp only[Tr.bind,Tr.Rel,RR,QT,Jq,Jc,inN,QM,JT,Ms.pc,Ms.sp,Ms.wz,Ms.af,Ms.pcUp,JW,Jd,JV,Jt,JY,Ms.spDown,Jv,QS,Ms.goTo,Ms.a,Ms.f,Ms.setA,Ms.setF,Ms.hl,Ms.setHL,Ms.pair,Ms.setPair,Ms.holds,QF,JO,Jm,Jb,Ws.pc,Ws.sp,Ws.wz,Ws.hlTo,Ws.af,Ws.tick,Ws.pcUp,Ws.a,Ws.f,Je,JU,Ju,Ws.spDown,Ws.spUp,Jy,QX,Ws.hl,Ws.setHl,Ws.setP,Ws.setP0,Ws.know,Ws.mTo]<;>simp[Jk,J8]
   all_goals (repeat' split)<;>first|rfl|simp_all
 · rcases hy' with rfl|rfl|rfl|rfl|rfl|rfl|rfl|rfl<;>subst hp<;>simp[XX,QB3,jz,QDn,QAU,QGz,XW,Xu,QDy]<;>simp only[Tr.bind,Tr.Rel,RR,QT,Jq,Jc,inN,QM,JT,Ms.pc,Ms.sp,Ms.wz,Ms.af,Ms.pcUp,JW,Jd,JV,Jt,JY,Ms.spDown,Jv,QS,Ms.goTo,Ms.a,Ms.f,Ms.setA,Ms.setF,Ms.hl,Ms.setHL,Ms.pair,Ms.setPair,Ms.holds,QF,JO,Jm,Jb,Ws.pc,Ws.sp,Ws.wz,Ws.hlTo,Ws.af,Ws.tick,Ws.pcUp,Ws.a,Ws.f,Je,JU,Ju,Ws.spDown,Ws.spUp,Jy,QX,Ws.hl,Ws.setHl,Ws.setP,Ws.setP0,Ws.know,Ws.mTo]<;>simp[Jk,J8]
   all_goals (intros;repeat' split)<;>first|rfl|simp_all
 · rcases hq' with h|h<;>rw[h]<;>simp[jS]<;>repeat (first|simp only[Tr.bind,Tr.Rel,RR,QT,Jq,Jc,inN,QM,JT,Ms.pc,Ms.sp,Ms.wz,Ms.af,Ms.pcUp,JW,Jd,JV,Jt,JY,Ms.spDown,Jv,QS,Ms.goTo,Ms.a,Ms.f,Ms.setA,Ms.setF,Ms.hl,Ms.setHL,Ms.pair,Ms.setPair,Ms.holds,QF,JO,Jm,Jb,Ws.pc,Ws.sp,Ws.wz,Ws.hlTo,Ws.af,Ws.tick,Ws.pcUp,Ws.a,Ws.f,Je,JU,Ju,Ws.spDown,Ws.spUp,Jy,QX,Ws.hl,Ws.setHl,Ws.setP,Ws.setP0,Ws.know,Ws.mTo]|simp)
 · by_cases h:y=6
   · have hpl:=h6 (by omega) h
     subst h;subst hpl;simp[ZT,stepW,ZN,ZW,jH,setW,Xn];repeat (first|simp only[Tr.bind,Tr.Rel,RR,QT,Jq,Jc,inN,QM,JT,Ms.pc,Ms.sp,Ms.wz,Ms.af,Ms.pcUp,JW,Jd,JV,Jt,JY,Ms.spDown,Jv,QS,Ms.goTo,Ms.a,Ms.f,Ms.setA,Ms.setF,Ms.hl,Ms.setHL,Ms.pair,Ms.setPair,Ms.holds,QF,JO,Jm,Jb,Ws.pc,Ws.sp,Ws.wz,Ws.hlTo,Ws.af,Ws.tick,Ws.pcUp,Ws.a,Ws.f,Je,JU,Ju,Ws.spDown,Ws.spUp,Jy,QX,Ws.hl,Ws.setHl,Ws.setP,Ws.setP0,Ws.know,Ws.mTo]|simp)
   · simp[ZT,stepW,ZN,ZW,jH,setW,QG,hn,h];repeat (first|simp only[Tr.bind,Tr.Rel,RR,QT,Jq,Jc,inN,QM,JT,Ms.pc,Ms.sp,Ms.wz,Ms.af,Ms.pcUp,JW,Jd,JV,Jt,JY,Ms.spDown,Jv,QS,Ms.goTo,Ms.a,Ms.f,Ms.setA,Ms.setF,Ms.hl,Ms.setHL,Ms.pair,Ms.setPair,Ms.holds,QF,JO,Jm,Jb,Ws.pc,Ws.sp,Ws.wz,Ws.hlTo,Ws.af,Ws.tick,Ws.pcUp,Ws.a,Ws.f,Je,JU,Ju,Ws.spDown,Ws.spUp,Jy,QX,Ws.hl,Ws.setHl,Ws.setP,Ws.setP0,Ws.know,Ws.mTo]|simp[hn,h])
 · by_cases h:y=6
   · have hpl:=h6 (by omega) h
     subst h;subst hpl;simp[ZT,stepW,ZN,ZW,jH,setW,Xn];repeat (first|simp only[Tr.bind,Tr.Rel,RR,QT,Jq,Jc,inN,QM,JT,Ms.pc,Ms.sp,Ms.wz,Ms.af,Ms.pcUp,JW,Jd,JV,Jt,JY,Ms.spDown,Jv,QS,Ms.goTo,Ms.a,Ms.f,Ms.setA,Ms.setF,Ms.hl,Ms.setHL,Ms.pair,Ms.setPair,Ms.holds,QF,JO,Jm,Jb,Ws.pc,Ws.sp,Ws.wz,Ws.hlTo,Ws.af,Ws.tick,Ws.pcUp,Ws.a,Ws.f,Je,JU,Ju,Ws.spDown,Ws.spUp,Jy,QX,Ws.hl,Ws.setHl,Ws.setP,Ws.setP0,Ws.know,Ws.mTo]|simp)
   · simp[ZT,stepW,ZN,ZW,jH,setW,QG,hn,h];repeat (first|simp only[Tr.bind,Tr.Rel,RR,QT,Jq,Jc,inN,QM,JT,Ms.pc,Ms.sp,Ms.wz,Ms.af,Ms.pcUp,JW,Jd,JV,Jt,JY,Ms.spDown,Jv,QS,Ms.goTo,Ms.a,Ms.f,Ms.setA,Ms.setF,Ms.hl,Ms.setHL,Ms.pair,Ms.setPair,Ms.holds,QF,JO,Jm,Jb,Ws.pc,Ws.sp,Ws.wz,Ws.hlTo,Ws.af,Ws.tick,Ws.pcUp,Ws.a,Ws.f,Je,JU,Ju,Ws.spDown,Ws.spUp,Jy,QX,Ws.hl,Ws.setHl,Ws.setP,Ws.setP0,Ws.know,Ws.mTo]|simp[hn,h])
 · by_cases h:y=6
   · have hpl:=h6 (by omega) h
     subst h;subst hpl;simp[Q8,ZW,setW,Xn];repeat (first|simp only[Tr.bind,Tr.Rel,RR,QT,Jq,Jc,inN,QM,JT,Ms.pc,Ms.sp,Ms.wz,Ms.af,Ms.pcUp,JW,Jd,JV,Jt,JY,Ms.spDown,Jv,QS,Ms.goTo,Ms.a,Ms.f,Ms.setA,Ms.setF,Ms.hl,Ms.setHL,Ms.pair,Ms.setPair,Ms.holds,QF,JO,Jm,Jb,Ws.pc,Ws.sp,Ws.wz,Ws.hlTo,Ws.af,Ws.tick,Ws.pcUp,Ws.a,Ws.f,Je,JU,Ju,Ws.spDown,Ws.spUp,Jy,QX,Ws.hl,Ws.setHl,Ws.setP,Ws.setP0,Ws.know,Ws.mTo]|simp)
   · simp[Q8,ZW,setW,QG,hn,h];repeat (first|simp only[Tr.bind,Tr.Rel,RR,QT,Jq,Jc,inN,QM,JT,Ms.pc,Ms.sp,Ms.wz,Ms.af,Ms.pcUp,JW,Jd,JV,Jt,JY,Ms.spDown,Jv,QS,Ms.goTo,Ms.a,Ms.f,Ms.setA,Ms.setF,Ms.hl,Ms.setHL,Ms.pair,Ms.setPair,Ms.holds,QF,JO,Jm,Jb,Ws.pc,Ws.sp,Ws.wz,Ws.hlTo,Ws.af,Ws.tick,Ws.pcUp,Ws.a,Ws.f,Je,JU,Ju,Ws.spDown,Ws.spUp,Jy,QX,Ws.hl,Ws.setHl,Ws.setP,Ws.setP0,Ws.know,Ws.mTo]|simp[hn,h])
 · unfold ZQ zb
   simp
   repeat' split
   all_goals first|rfl|exact trivial|simp_all
theorem QMT (r:Rg)(plane y z p q:Int)(code:Int)(hn:XT plane code=false)(hh:¬(y=6∧z=6))(h6:y=6∨z=6→plane=0) :
 (zM ⟨r,plane,1,y,z,p,q,r.hl,false⟩).Rel RR ((jH z ⟨r,plane,code,0,false⟩).bind fun b=>setW y b.1 b.2):=by
 by_cases hy:y=6
 · have hpl:=h6 (.inl hy)
   subst hy;subst hpl
   have hz:z≠6:=fun h=>hh ⟨rfl,h⟩
   simp[zM,hz,ZN,ZW,jH,setW,Xn,QG,hn];repeat (first|simp only[Tr.bind,Tr.Rel,RR,QT,Jq,Jc,inN,QM,JT,Ms.pc,Ms.sp,Ms.wz,Ms.af,Ms.pcUp,JW,Jd,JV,Jt,JY,Ms.spDown,Jv,QS,Ms.goTo,Ms.a,Ms.f,Ms.setA,Ms.setF,Ms.hl,Ms.setHL,Ms.pair,Ms.setPair,Ms.holds,QF,JO,Jm,Jb,Ws.pc,Ws.sp,Ws.wz,Ws.hlTo,Ws.af,Ws.tick,Ws.pcUp,Ws.a,Ws.f,Je,JU,Ju,Ws.spDown,Ws.spUp,Jy,QX,Ws.hl,Ws.setHl,Ws.setP,Ws.setP0,Ws.know,Ws.mTo]|simp[hn])
 · by_cases hz:z=6
   · have hpl:=h6 (.inr hz)
     subst hz;subst hpl
     simp[zM,hy,ZN,ZW,jH,setW,Xn,QG,hn];repeat (first|simp only[Tr.bind,Tr.Rel,RR,QT,Jq,Jc,inN,QM,JT,Ms.pc,Ms.sp,Ms.wz,Ms.af,Ms.pcUp,JW,Jd,JV,Jt,JY,Ms.spDown,Jv,QS,Ms.goTo,Ms.a,Ms.f,Ms.setA,Ms.setF,Ms.hl,Ms.setHL,Ms.pair,Ms.setPair,Ms.holds,QF,JO,Jm,Jb,Ws.pc,Ws.sp,Ws.wz,Ws.hlTo,Ws.af,Ws.tick,Ws.pcUp,Ws.a,Ws.f,Je,JU,Ju,Ws.spDown,Ws.spUp,Jy,QX,Ws.hl,Ws.setHl,Ws.setP,Ws.setP0,Ws.know,Ws.mTo]|simp[hn])
   · simp[zM,hy,hz,ZN,ZW,jH,setW,Xn,QG,hn];repeat (first|simp only[Tr.bind,Tr.Rel,RR,QT,Jq,Jc,inN,QM,JT,Ms.pc,Ms.sp,Ms.wz,Ms.af,Ms.pcUp,JW,Jd,JV,Jt,JY,Ms.spDown,Jv,QS,Ms.goTo,Ms.a,Ms.f,Ms.setA,Ms.setF,Ms.hl,Ms.setHL,Ms.pair,Ms.setPair,Ms.holds,QF,JO,Jm,Jb,Ws.pc,Ws.sp,Ws.wz,Ws.hlTo,Ws.af,Ws.tick,Ws.pcUp,Ws.a,Ws.f,Je,JU,Ju,Ws.spDown,Ws.spUp,Jy,QX,Ws.hl,Ws.setHl,Ws.setP,Ws.setP0,Ws.know,Ws.mTo]|simp[hn])
theorem QIY (r:Rg)(plane y z p q:Int)(code:Int)(hn:XT plane code=false)(hy:0≤y∧y≤7)(h6:z=6→plane=0) :
 (jE ⟨r,plane,2,y,z,p,q,r.hl,false⟩).Rel RR ((jH z ⟨r,plane,code,0,false⟩).bind fun b=>.done (j7 y b.1 b.2)):=by
 by_cases hz:z=6
 · have hpl:=h6 hz
   subst hz;subst hpl
   simp[jE,ZN,jH,Xn];repeat (first|simp only[Tr.bind,Tr.Rel,RR,QT,Jq,Jc,inN,QM,JT,Ms.pc,Ms.sp,Ms.wz,Ms.af,Ms.pcUp,JW,Jd,JV,Jt,JY,Ms.spDown,Jv,QS,Ms.goTo,Ms.a,Ms.f,Ms.setA,Ms.setF,Ms.hl,Ms.setHL,Ms.pair,Ms.setPair,Ms.holds,QF,JO,Jm,Jb,Ws.pc,Ws.sp,Ws.wz,Ws.hlTo,Ws.af,Ws.tick,Ws.pcUp,Ws.a,Ws.f,Je,JU,Ju,Ws.spDown,Ws.spUp,Jy,QX,Ws.hl,Ws.setHl,Ws.setP,Ws.setP0,Ws.know,Ws.mTo]|simp[hn])
   intro b hb;exact QCa _ _ _ _ _ _ _ _ _ _ _ _ _ hy
 · simp[jE,hz,ZN,jH,QG,hn];repeat (first|simp only[Tr.bind,Tr.Rel,RR,QT,Jq,Jc,inN,QM,JT,Ms.pc,Ms.sp,Ms.wz,Ms.af,Ms.pcUp,JW,Jd,JV,Jt,JY,Ms.spDown,Jv,QS,Ms.goTo,Ms.a,Ms.f,Ms.setA,Ms.setF,Ms.hl,Ms.setHL,Ms.pair,Ms.setPair,Ms.holds,QF,JO,Jm,Jb,Ws.pc,Ws.sp,Ws.wz,Ws.hlTo,Ws.af,Ws.tick,Ws.pcUp,Ws.a,Ws.f,Je,JU,Ju,Ws.spDown,Ws.spUp,Jy,QX,Ws.hl,Ws.setHl,Ws.setP,Ws.setP0,Ws.know,Ws.mTo]|simp[hn])
   exact QCa _ _ _ _ _ _ _ _ _ _ _ _ _ hy
theorem QKV (r:Rg)(plane x y z p q spot:Int)(near:Bool)(pl2 code m:Int)(known:Bool)(b:Int)(hy:0≤y∧y≤7):(Qz b ⟨r,plane,x,y,z,p,q,spot,near⟩).r=(j7 y b ⟨r,pl2,code,m,known⟩).r:=by
 have hc:∀ t:Bool,((one t) != 0)=t:=by intro t;cases t<;>rfl
 unfold Qz j7
 dsimp only[Ms.carry,Ms.f,Ms.a,Ws.a,Ws.f,Ms.af,Ws.af]
 simp only[hc]
 repeat' split
 all_goals first|rfl|omega
theorem QUG {plane c:Int}(h:XT plane c=true)(hp:plane=0∨plane=3∨plane=4):(plane=3∨plane=4)∧j0 c=true:=by
 unfold XT at h
 by_cases hq:plane=3∨plane=4
 · rw[if_pos hq] at h;exact⟨hq,h⟩
 · rw[if_neg hq] at h
   rcases hp with rfl|rfl|rfl<;>simp[qv] at h hq
theorem QJu {plane c:Int}(h:XT plane c=false)(hq:plane=3∨plane=4):j0 c=false:=by
 unfold XT at h
 rwa [if_pos hq] at h
theorem QNH (s:Ms)(c:Int)(hs:MsB s)(hnr:s.near=false)(hc:B8 c)(h:XT s.plane c=true) :
 ((Xg c s.atHL).bind XV).Rel RR (QAY s.plane c ⟨s.r,0,0,0,false⟩):=by
 obtain⟨r,plane,x0,y0,z0,p0,q0,spot,near⟩:=s
 obtain⟨hp34,hpt⟩:=QUG h hs.plane
 have hx':fx c=0∨fx c=1∨fx c=2∨fx c=3:=by unfold fx;have:=hc.1;have:=hc.2;omega
 have hz':0≤fz c∧fz c≤7:=by unfold fz;omega
 have hy':0≤fy c∧fy c≤7:=by unfold fy;omega
 simp only at hp34
 have hg:∀ (g:Rg) (y:Int),qd g 0 y=qd g 0 y:=fun _ _=>rfl
 unfold j0 at hpt
 unfold Xg QAY
 rcases hx' with hx|hx|hx|hx<;>simp only[hx] at hpt ⊢<;>simp at hpt
 · obtain⟨hy,hz⟩:=hpt
   have hz3:fz c=4∨fz c=5∨fz c=6:=by omega
   rcases hz3 with hz|hz|hz<;>rcases hp34 with rfl|rfl <;>
    simp[Ms.atHL,Ms.split,Ws.at_,hx,hy,hz,h,QET,QJs,stepW,jH,setW,Xn,XV,ZV,ZT,Q8,ZN,ZW]<;>repeat (first|simp only[Tr.bind,Tr.Rel,RR,QT,Jq,Jc,inN,QM,JT,Ms.pc,Ms.sp,Ms.wz,Ms.af,Ms.pcUp,JW,Jd,JV,Jt,JY,Ms.spDown,Jv,QS,Ms.goTo,Ms.a,Ms.f,Ms.setA,Ms.setF,Ms.hl,Ms.setHL,Ms.pair,Ms.setPair,Ms.holds,QF,JO,Jm,Jb,Ws.pc,Ws.sp,Ws.wz,Ws.hlTo,Ws.af,Ws.tick,Ws.pcUp,Ws.a,Ws.f,Je,JU,Ju,Ws.spDown,Ws.spUp,Jy,QX,Ws.hl,Ws.setHl,Ws.setP,Ws.setP0,Ws.know,Ws.mTo]|simp[hx,hy,hz,Jk,XV,ZV,ZT,Q8,ZN,ZW])
 · rcases hp34 with rfl|rfl<;>by_cases hy:fy c=6<;>by_cases hz:fz c=6<;>(try simp[hy,hz] at hpt) <;>
    simp[Ms.atHL,Ms.split,Ws.at_,hx,hy,hz,h,QET,jH,setW,Xn,QG,XV,zM,ZN,ZW]<;>repeat (first|simp only[Tr.bind,Tr.Rel,RR,QT,Jq,Jc,inN,QM,JT,Ms.pc,Ms.sp,Ms.wz,Ms.af,Ms.pcUp,JW,Jd,JV,Jt,JY,Ms.spDown,Jv,QS,Ms.goTo,Ms.a,Ms.f,Ms.setA,Ms.setF,Ms.hl,Ms.setHL,Ms.pair,Ms.setPair,Ms.holds,QF,JO,Jm,Jb,Ws.pc,Ws.sp,Ws.wz,Ws.hlTo,Ws.af,Ws.tick,Ws.pcUp,Ws.a,Ws.f,Je,JU,Ju,Ws.spDown,Ws.spUp,Jy,QX,Ws.hl,Ws.setHl,Ws.setP,Ws.setP0,Ws.know,Ws.mTo]|simp[hx,hy,hz,h,Jk,XV,zM,ZN,ZW])
   all_goals first|(intros;rfl)|exact absurd (by rw[beq_eq_false_iff_ne.2 hy,beq_eq_false_iff_ne.2 hz]) hpt
 · rcases hp34 with rfl|rfl <;> 
    simp[Ms.atHL,Ms.split,Ws.at_,hx,hpt,h,QET,jH,setW,Xn,QG,XV,jE,ZN,ZW]<;>repeat (first|simp only[Tr.bind,Tr.Rel,RR,QT,Jq,Jc,inN,QM,JT,Ms.pc,Ms.sp,Ms.wz,Ms.af,Ms.pcUp,JW,Jd,JV,Jt,JY,Ms.spDown,Jv,QS,Ms.goTo,Ms.a,Ms.f,Ms.setA,Ms.setF,Ms.hl,Ms.setHL,Ms.pair,Ms.setPair,Ms.holds,QF,JO,Jm,Jb,Ws.pc,Ws.sp,Ws.wz,Ws.hlTo,Ws.af,Ws.tick,Ws.pcUp,Ws.a,Ws.f,Je,JU,Ju,Ws.spDown,Ws.spUp,Jy,QX,Ws.hl,Ws.setHl,Ws.setP,Ws.setP0,Ws.know,Ws.mTo]|simp[hx,hpt,h,Jk,XV,jE,ZN,ZW])
   all_goals (intros;exact QKV _ _ _ _ _ _ _ _ _ _ _ _ _ _ hy')
theorem QJv (s:Ms)(c:Int)(hs:MsB s)(hnr:s.near=false)(hc:B8 c) :
 ((Xg c s.atHL).bind XV).Rel RR (QAY s.plane c ⟨s.r,0,0,0,false⟩):=by
 cases h:XT s.plane c with
 | true=>exact QNH s c hs hnr hc h
 | false =>
   obtain⟨r,plane,x0,y0,z0,p0,q0,spot,near⟩:=s
   have hnr':near=false:=hnr
   subst hnr'
   have hpl:plane=0∨plane=3∨plane=4:=hs.plane
   have h':XT plane c=false:=h
   have hfar:plane≠0→j0 c=false:=fun h0=>QJu h' (by omega)
   have hx':fx c=0∨fx c=1∨fx c=2∨fx c=3:=by unfold fx;have:=hc.1;have:=hc.2;omega
   have hz':0≤fz c∧fz c≤7:=by unfold fz;omega
   have hy':0≤fy c∧fy c≤7:=by unfold fy;omega
   have hpy:fp c=fy c / 2:=by unfold fp fy;have:=hc.1;have:=hc.2;omega
   have hqy:fq c=fy c%2:=by unfold fq fy;have:=hc.1;have:=hc.2;omega
   have hq':0≤fq c∧fq c≤1:=by unfold fq;omega
   have hp':0≤fp c∧fp c≤3:=by unfold fp;omega
   have e:Xg c (Ms.atHL ⟨r,plane,x0,y0,z0,p0,q0,spot,false⟩)=.done ⟨r,plane,fx c,fy c,fz c,fp c,fq c,r.hl,false⟩:=by
    unfold Xg
    rw[if_neg (by show ¬XT plane c=true;rw[h'];simp)]
    rfl
   rw[e,Tr.bind_done]
   unfold XV QAY
   show (if fx c=0 then _ else _:Tr Ms).Rel RR _
   unfold j0 at hfar
   rcases hx' with hx|hx|hx|hx<;>simp only[hx] at hfar ⊢
   · exact QMi r plane 0 (fy c) (fz c) (fp c) (fq c) c hz' hy' hpy hqy h' (fun h1 h2=>by
      by_cases h0:plane=0
      · exact h0
      · have:=hfar h0;simp[h2] at this;omega)
   · by_cases hh:fy c=6∧fz c=6
     · simp[hh,zM];exact rfl
     · simp only[hh]
       exact QMT r plane (fy c) (fz c) (fp c) (fq c) c h' hh (fun h1=>by
        by_cases h0:plane=0
        · exact h0
        · have:=hfar h0
          rcases h1 with h1|h1<;>simp[h1] at this<;>exact absurd ⟨by first|exact h1|exact this,by first|exact h1|exact this⟩ hh)
   · exact QIY r plane (fy c) (fz c) (fp c) (fq c) c h' hy' (fun h1=>by
      by_cases h0:plane=0
      · exact h0
      · have:=hfar h0;simp[h1] at this)
   · exact QJr r plane 3 (fy c) (fz c) (fp c) (fq c) r.hl false c 0 false hz' hy' hp' hq'
theorem QMv:∀ b0 b1 b2 b3 c i:Bool,JQ (JQ (mkM b0 b1 b2 false b3 false false false) 0 c) 2 i=mkM (isM (mkM b0 b1 b2 false b3 false false false) 7) (isM (mkM b0 b1 b2 false b3 false false false) 6) (isM (mkM b0 b1 b2 false b3 false false false) 5) (isM (mkM b0 b1 b2 false b3 false false false) 4) (isM (mkM b0 b1 b2 false b3 false false false) 3) i (isM (mkM b0 b1 b2 false b3 false false false) 1) c:=by decide +kernel
theorem QO0 (b:Int)(c i:Bool):JQ (JQ (JE b) 0 c) 2 i=mkM (isM (JE b) 7) (isM (JE b) 6) (isM (JE b) 5) (isM (JE b) 4) (isM (JE b) 3) i (isM (JE b) 1) c:=QMv ..
theorem QCf:XT 0 0=false:=rfl
theorem QKN {a f:Int}(hf:B8 f):(256*a+f)%256=f:=by have:=hf.1;have:=hf.2;omega
theorem QE7 (r:Rg)(x y z p q:Int)(hz:0≤z∧z < 4)(hy:4≤y∧y≤7)(d:Int) :
 (zW d ⟨r,0,x,y,z,p,q,r.hl,false⟩).Rel RR (QA0 d y z ⟨r,0,0,0,false⟩):=by
 have hz':z=0∨z=1∨z=2∨z=3:=by omega
 have hm:∀ a b bc f,∀ a2,(256*a2+moveF a b bc f)%256=moveF a b bc f:=fun a b bc f _=>QKN (jR ..)
 have hf:∀ a b bc f,∀ a2,(256*a2+Zu a b bc f)%256=Zu a b bc f:=fun a b bc f _=>QKN (jY ..)
 have hp:∀ a b c,∀ a2,(256*a2+Qs a b c)%256=Qs a b c:=fun a b c _=>QKN (XE ..)
 have h5:(5 < y)=(6≤y):=by apply propext;omega
 unfold zW QA0
 rcases hz' with rfl|rfl|rfl|rfl
 · simp[Zl,QCz];repeat (first|simp only[Tr.bind,Tr.Rel,RR,QT,Jq,Jc,inN,QM,JT,Ms.pc,Ms.sp,Ms.wz,Ms.af,Ms.pcUp,JW,Jd,JV,Jt,JY,Ms.spDown,Jv,QS,Ms.goTo,Ms.a,Ms.f,Ms.setA,Ms.setF,Ms.hl,Ms.setHL,Ms.pair,Ms.setPair,Ms.holds,QF,JO,Jm,Jb,Ws.pc,Ws.sp,Ws.wz,Ws.hlTo,Ws.af,Ws.tick,Ws.pcUp,Ws.a,Ws.f,Je,JU,Ju,Ws.spDown,Ws.spUp,Jy,QX,Ws.hl,Ws.setHl,Ws.setP,Ws.setP0,Ws.know,Ws.mTo]|simp[Ms.hlBy,Ms.deBy,Ms.bcDown,Ws.hlBy,Ws.deBy,Ws.bcDown,hm,h5])
   intros;split<;>repeat (first|simp only[Tr.bind,Tr.Rel,RR,QT,Jq,Jc,inN,QM,JT,Ms.pc,Ms.sp,Ms.wz,Ms.af,Ms.pcUp,JW,Jd,JV,Jt,JY,Ms.spDown,Jv,QS,Ms.goTo,Ms.a,Ms.f,Ms.setA,Ms.setF,Ms.hl,Ms.setHL,Ms.pair,Ms.setPair,Ms.holds,QF,JO,Jm,Jb,Ws.pc,Ws.sp,Ws.wz,Ws.hlTo,Ws.af,Ws.tick,Ws.pcUp,Ws.a,Ws.f,Je,JU,Ju,Ws.spDown,Ws.spUp,Jy,QX,Ws.hl,Ws.setHl,Ws.setP,Ws.setP0,Ws.know,Ws.mTo]|simp[ja])
 · simp[Zn,QCz];repeat (first|simp only[Tr.bind,Tr.Rel,RR,QT,Jq,Jc,inN,QM,JT,Ms.pc,Ms.sp,Ms.wz,Ms.af,Ms.pcUp,JW,Jd,JV,Jt,JY,Ms.spDown,Jv,QS,Ms.goTo,Ms.a,Ms.f,Ms.setA,Ms.setF,Ms.hl,Ms.setHL,Ms.pair,Ms.setPair,Ms.holds,QF,JO,Jm,Jb,Ws.pc,Ws.sp,Ws.wz,Ws.hlTo,Ws.af,Ws.tick,Ws.pcUp,Ws.a,Ws.f,Je,JU,Ju,Ws.spDown,Ws.spUp,Jy,QX,Ws.hl,Ws.setHl,Ws.setP,Ws.setP0,Ws.know,Ws.mTo]|simp[Ms.hlBy,Ms.deBy,Ms.bcDown,Ws.hlBy,Ws.deBy,Ws.bcDown,hf,h5])
   intros;split<;>repeat (first|simp only[Tr.bind,Tr.Rel,RR,QT,Jq,Jc,inN,QM,JT,Ms.pc,Ms.sp,Ms.wz,Ms.af,Ms.pcUp,JW,Jd,JV,Jt,JY,Ms.spDown,Jv,QS,Ms.goTo,Ms.a,Ms.f,Ms.setA,Ms.setF,Ms.hl,Ms.setHL,Ms.pair,Ms.setPair,Ms.holds,QF,JO,Jm,Jb,Ws.pc,Ws.sp,Ws.wz,Ws.hlTo,Ws.af,Ws.tick,Ws.pcUp,Ws.a,Ws.f,Je,JU,Ju,Ws.spDown,Ws.spUp,Jy,QX,Ws.hl,Ws.setHl,Ws.setP,Ws.setP0,Ws.know,Ws.mTo]|simp[ja])
 · simp[Zm,QCz];repeat (first|simp only[Tr.bind,Tr.Rel,RR,QT,Jq,Jc,inN,QM,JT,Ms.pc,Ms.sp,Ms.wz,Ms.af,Ms.pcUp,JW,Jd,JV,Jt,JY,Ms.spDown,Jv,QS,Ms.goTo,Ms.a,Ms.f,Ms.setA,Ms.setF,Ms.hl,Ms.setHL,Ms.pair,Ms.setPair,Ms.holds,QF,JO,Jm,Jb,Ws.pc,Ws.sp,Ws.wz,Ws.hlTo,Ws.af,Ws.tick,Ws.pcUp,Ws.a,Ws.f,Je,JU,Ju,Ws.spDown,Ws.spUp,Jy,QX,Ws.hl,Ws.setHl,Ws.setP,Ws.setP0,Ws.know,Ws.mTo]|simp[Ms.hlBy,Ms.deBy,Ms.bcDown,Ws.hlBy,Ws.deBy,Ws.bcDown,Ms.lessB,Ms.left,Ws.less,Ws.left,qd,QCF,Jk,J8,hp,h5])
   intros;split<;>repeat (first|simp only[Tr.bind,Tr.Rel,RR,QT,Jq,Jc,inN,QM,JT,Ms.pc,Ms.sp,Ms.wz,Ms.af,Ms.pcUp,JW,Jd,JV,Jt,JY,Ms.spDown,Jv,QS,Ms.goTo,Ms.a,Ms.f,Ms.setA,Ms.setF,Ms.hl,Ms.setHL,Ms.pair,Ms.setPair,Ms.holds,QF,JO,Jm,Jb,Ws.pc,Ws.sp,Ws.wz,Ws.hlTo,Ws.af,Ws.tick,Ws.pcUp,Ws.a,Ws.f,Je,JU,Ju,Ws.spDown,Ws.spUp,Jy,QX,Ws.hl,Ws.setHl,Ws.setP,Ws.setP0,Ws.know,Ws.mTo]|simp[ja])
 · simp[Zj,QCz];repeat (first|simp only[Tr.bind,Tr.Rel,RR,QT,Jq,Jc,inN,QM,JT,Ms.pc,Ms.sp,Ms.wz,Ms.af,Ms.pcUp,JW,Jd,JV,Jt,JY,Ms.spDown,Jv,QS,Ms.goTo,Ms.a,Ms.f,Ms.setA,Ms.setF,Ms.hl,Ms.setHL,Ms.pair,Ms.setPair,Ms.holds,QF,JO,Jm,Jb,Ws.pc,Ws.sp,Ws.wz,Ws.hlTo,Ws.af,Ws.tick,Ws.pcUp,Ws.a,Ws.f,Je,JU,Ju,Ws.spDown,Ws.spUp,Jy,QX,Ws.hl,Ws.setHl,Ws.setP,Ws.setP0,Ws.know,Ws.mTo]|simp[Ms.hlBy,Ms.deBy,Ms.bcDown,Ws.hlBy,Ws.deBy,Ws.bcDown,Ms.lessB,Ms.left,Ws.less,Ws.left,qd,QCF,Jk,J8,hp,h5])
   intros;split<;>repeat (first|simp only[Tr.bind,Tr.Rel,RR,QT,Jq,Jc,inN,QM,JT,Ms.pc,Ms.sp,Ms.wz,Ms.af,Ms.pcUp,JW,Jd,JV,Jt,JY,Ms.spDown,Jv,QS,Ms.goTo,Ms.a,Ms.f,Ms.setA,Ms.setF,Ms.hl,Ms.setHL,Ms.pair,Ms.setPair,Ms.holds,QF,JO,Jm,Jb,Ws.pc,Ws.sp,Ws.wz,Ws.hlTo,Ws.af,Ws.tick,Ws.pcUp,Ws.a,Ws.f,Je,JU,Ju,Ws.spDown,Ws.spUp,Jy,QX,Ws.hl,Ws.setHl,Ws.setP,Ws.setP0,Ws.know,Ws.mTo]|simp[ja])
theorem QRC (r:Rg)(hr:RgB r)(c:Int)(hc:B8 c):(qL ⟨r,0,fx c,fy c,fz c,fp c,fq c,r.hl,false⟩).Rel RR (edW c ⟨r,0,0,0,false⟩):=by
 have hx':fx c=0∨fx c=1∨fx c=2∨fx c=3:=by unfold fx;have:=hc.1;have:=hc.2;omega
 have hz':0≤fz c∧fz c≤7:=by unfold fz;omega
 have hy':0≤fy c∧fy c≤7:=by unfold fy;omega
 have hqy:fq c=fy c%2:=by unfold fq fy;have:=hc.1;have:=hc.2;omega
 unfold qL edW
 generalize fx c=x at *
 generalize fy c=y at *
 generalize fz c=z at *
 generalize fp c=p at *
 generalize fq c=q at *
 have hz8:z=0∨z=1∨z=2∨z=3∨z=4∨z=5∨z=6∨z=7:=by omega
 have hy8:y=0∨y=1∨y=2∨y=3∨y=4∨y=5∨y=6∨y=7:=by omega
 have hq':q=0∨q=1:=by omega
 rcases hx' with rfl|rfl|rfl|rfl
 · simp;exact rfl
 · unfold jL
   rcases hz8 with rfl|rfl|rfl|rfl|rfl|rfl|rfl|rfl
   · by_cases h:y=6
     · subst h;simp[qo];repeat (first|simp only[Tr.bind,Tr.Rel,RR,QT,Jq,Jc,inN,QM,JT,Ms.pc,Ms.sp,Ms.wz,Ms.af,Ms.pcUp,JW,Jd,JV,Jt,JY,Ms.spDown,Jv,QS,Ms.goTo,Ms.a,Ms.f,Ms.setA,Ms.setF,Ms.hl,Ms.setHL,Ms.pair,Ms.setPair,Ms.holds,QF,JO,Jm,Jb,Ws.pc,Ws.sp,Ws.wz,Ws.hlTo,Ws.af,Ws.tick,Ws.pcUp,Ws.a,Ws.f,Je,JU,Ju,Ws.spDown,Ws.spUp,Jy,QX,Ws.hl,Ws.setHl,Ws.setP,Ws.setP0,Ws.know,Ws.mTo]|simp)
     · simp[qo,h];repeat (first|simp only[Tr.bind,Tr.Rel,RR,QT,Jq,Jc,inN,QM,JT,Ms.pc,Ms.sp,Ms.wz,Ms.af,Ms.pcUp,JW,Jd,JV,Jt,JY,Ms.spDown,Jv,QS,Ms.goTo,Ms.a,Ms.f,Ms.setA,Ms.setF,Ms.hl,Ms.setHL,Ms.pair,Ms.setPair,Ms.holds,QF,JO,Jm,Jb,Ws.pc,Ws.sp,Ws.wz,Ws.hlTo,Ws.af,Ws.tick,Ws.pcUp,Ws.a,Ws.f,Je,JU,Ju,Ws.spDown,Ws.spUp,Jy,QX,Ws.hl,Ws.setHl,Ws.setP,Ws.setP0,Ws.know,Ws.mTo]|simp[h,ZW,setW,QG,QCf])
   · by_cases h:y=6
     · subst h;simp[jh];repeat (first|simp only[Tr.bind,Tr.Rel,RR,QT,Jq,Jc,inN,QM,JT,Ms.pc,Ms.sp,Ms.wz,Ms.af,Ms.pcUp,JW,Jd,JV,Jt,JY,Ms.spDown,Jv,QS,Ms.goTo,Ms.a,Ms.f,Ms.setA,Ms.setF,Ms.hl,Ms.setHL,Ms.pair,Ms.setPair,Ms.holds,QF,JO,Jm,Jb,Ws.pc,Ws.sp,Ws.wz,Ws.hlTo,Ws.af,Ws.tick,Ws.pcUp,Ws.a,Ws.f,Je,JU,Ju,Ws.spDown,Ws.spUp,Jy,QX,Ws.hl,Ws.setHl,Ws.setP,Ws.setP0,Ws.know,Ws.mTo]|simp)
     · simp[jh,h];repeat (first|simp only[Tr.bind,Tr.Rel,RR,QT,Jq,Jc,inN,QM,JT,Ms.pc,Ms.sp,Ms.wz,Ms.af,Ms.pcUp,JW,Jd,JV,Jt,JY,Ms.spDown,Jv,QS,Ms.goTo,Ms.a,Ms.f,Ms.setA,Ms.setF,Ms.hl,Ms.setHL,Ms.pair,Ms.setPair,Ms.holds,QF,JO,Jm,Jb,Ws.pc,Ws.sp,Ws.wz,Ws.hlTo,Ws.af,Ws.tick,Ws.pcUp,Ws.a,Ws.f,Je,JU,Ju,Ws.spDown,Ws.spUp,Jy,QX,Ws.hl,Ws.setHl,Ws.setP,Ws.setP0,Ws.know,Ws.mTo]|simp[h,ZN,jH,QG,QCf])
   · rcases hq' with h|h<;>simp[X6,h]<;>repeat (first|simp only[Tr.bind,Tr.Rel,RR,QT,Jq,Jc,inN,QM,JT,Ms.pc,Ms.sp,Ms.wz,Ms.af,Ms.pcUp,JW,Jd,JV,Jt,JY,Ms.spDown,Jv,QS,Ms.goTo,Ms.a,Ms.f,Ms.setA,Ms.setF,Ms.hl,Ms.setHL,Ms.pair,Ms.setPair,Ms.holds,QF,JO,Jm,Jb,Ws.pc,Ws.sp,Ws.wz,Ws.hlTo,Ws.af,Ws.tick,Ws.pcUp,Ws.a,Ws.f,Je,JU,Ju,Ws.spDown,Ws.spUp,Jy,QX,Ws.hl,Ws.setHl,Ws.setP,Ws.setP0,Ws.know,Ws.mTo]|simp[h])
   · rcases hq' with h|h<;>simp[Xp,QFQ,XW,Xu,h]<;>repeat (first|simp only[Tr.bind,Tr.Rel,RR,QT,Jq,Jc,inN,QM,JT,Ms.pc,Ms.sp,Ms.wz,Ms.af,Ms.pcUp,JW,Jd,JV,Jt,JY,Ms.spDown,Jv,QS,Ms.goTo,Ms.a,Ms.f,Ms.setA,Ms.setF,Ms.hl,Ms.setHL,Ms.pair,Ms.setPair,Ms.holds,QF,JO,Jm,Jb,Ws.pc,Ws.sp,Ws.wz,Ws.hlTo,Ws.af,Ws.tick,Ws.pcUp,Ws.a,Ws.f,Je,JU,Ju,Ws.spDown,Ws.spUp,Jy,QX,Ws.hl,Ws.setHl,Ws.setP,Ws.setP0,Ws.know,Ws.mTo]|simp[h])
     all_goals (intros;unfold J8;repeat' split)<;>rfl
   · simp;repeat (first|simp only[Tr.bind,Tr.Rel,RR,QT,Jq,Jc,inN,QM,JT,Ms.pc,Ms.sp,Ms.wz,Ms.af,Ms.pcUp,JW,Jd,JV,Jt,JY,Ms.spDown,Jv,QS,Ms.goTo,Ms.a,Ms.f,Ms.setA,Ms.setF,Ms.hl,Ms.setHL,Ms.pair,Ms.setPair,Ms.holds,QF,JO,Jm,Jb,Ws.pc,Ws.sp,Ws.wz,Ws.hlTo,Ws.af,Ws.tick,Ws.pcUp,Ws.a,Ws.f,Je,JU,Ju,Ws.spDown,Ws.spUp,Jy,QX,Ws.hl,Ws.setHl,Ws.setP,Ws.setP0,Ws.know,Ws.mTo]|simp)
   · have m2:∀ a:Int,((a+1)%65536+1)%65536=(a+2)%65536:=by intro a;omega
     simp[QCK];repeat (first|simp only[Tr.bind,Tr.Rel,RR,QT,Jq,Jc,inN,QM,JT,Ms.pc,Ms.sp,Ms.wz,Ms.af,Ms.pcUp,JW,Jd,JV,Jt,JY,Ms.spDown,Jv,QS,Ms.goTo,Ms.a,Ms.f,Ms.setA,Ms.setF,Ms.hl,Ms.setHL,Ms.pair,Ms.setPair,Ms.holds,QF,JO,Jm,Jb,Ws.pc,Ws.sp,Ws.wz,Ws.hlTo,Ws.af,Ws.tick,Ws.pcUp,Ws.a,Ws.f,Je,JU,Ju,Ws.spDown,Ws.spUp,Jy,QX,Ws.hl,Ws.setHl,Ws.setP,Ws.setP0,Ws.know,Ws.mTo]|simp[m2])
   · by_cases h2:y%4=2
     · simp[h2];exact rfl
     · by_cases h3:y%4=3
       · simp[h2,h3];exact rfl
       · simp[h2,h3];exact rfl
   · rcases hy8 with rfl|rfl|rfl|rfl|rfl|rfl|rfl|rfl<;>simp[qf,QN2,ZJ]<;>repeat (first|simp only[Tr.bind,Tr.Rel,RR,QT,Jq,Jc,inN,QM,JT,Ms.pc,Ms.sp,Ms.wz,Ms.af,Ms.pcUp,JW,Jd,JV,Jt,JY,Ms.spDown,Jv,QS,Ms.goTo,Ms.a,Ms.f,Ms.setA,Ms.setF,Ms.hl,Ms.setHL,Ms.pair,Ms.setPair,Ms.holds,QF,JO,Jm,Jb,Ws.pc,Ws.sp,Ws.wz,Ws.hlTo,Ws.af,Ws.tick,Ws.pcUp,Ws.a,Ws.f,Je,JU,Ju,Ws.spDown,Ws.spUp,Jy,QX,Ws.hl,Ws.setHl,Ws.setP,Ws.setP0,Ws.know,Ws.mTo]|simp[QDD,QKL,QO0])
 · by_cases h:z < 4∧3 < y
   · have h1:¬(4≤z∨y < 4):=by omega
     simp only[qq,QDz,h,h1]
     rcases hq' with h2|h2
     · have h3:¬(y%2=1):=by omega
       simp[h2,h3]
       exact QE7 r 2 y z p 0 (by omega) (by omega) 1
     · have h3:y%2=1:=by omega
       simp[h2,h3]
       exact QE7 r 2 y z p 1 (by omega) (by omega) (-1)
   · have h1:4≤z∨y < 4:=by omega
     simp[qq,h,h1]
     exact rfl
 · simp;exact rfl
theorem QRW (r:Rg)(c:Int)(hc:B8 c):(Z6 ⟨r,0,fx c,fy c,fz c,fp c,fq c,r.hl,false⟩).Rel RR (QHX false c ⟨r,0,0,0,false⟩):=by
 have hx':fx c=0∨fx c=1∨fx c=2∨fx c=3:=by unfold fx;have:=hc.1;have:=hc.2;omega
 unfold Z6 QHX
 generalize fx c=x at *
 generalize fy c=y at *
 generalize fz c=z at *
 generalize fp c=p at *
 generalize fq c=q at *
 by_cases h:z=6
 · subst h
   rcases hx' with rfl|rfl|rfl|rfl<;>simp[Ws.at_,jH,Xn,Za,jb,XQ,XO,jF,Ms.inMem,QBb,zu,setW]<;>repeat (first|simp only[Tr.bind,Tr.Rel,RR,QT,Jq,Jc,inN,QM,JT,Ms.pc,Ms.sp,Ms.wz,Ms.af,Ms.pcUp,JW,Jd,JV,Jt,JY,Ms.spDown,Jv,QS,Ms.goTo,Ms.a,Ms.f,Ms.setA,Ms.setF,Ms.hl,Ms.setHL,Ms.pair,Ms.setPair,Ms.holds,QF,JO,Jm,Jb,Ws.pc,Ws.sp,Ws.wz,Ws.hlTo,Ws.af,Ws.tick,Ws.pcUp,Ws.a,Ws.f,Je,JU,Ju,Ws.spDown,Ws.spUp,Jy,QX,Ws.hl,Ws.setHl,Ws.setP,Ws.setP0,Ws.know,Ws.mTo]|simp)
 · rcases hx' with rfl|rfl|rfl|rfl<;>simp[Ws.at_,jH,Xn,Za,jb,XQ,XO,jF,Ms.inMem,QBb,zu,setW,h,ZN,QG,QCf]<;>repeat (first|simp only[Tr.bind,Tr.Rel,RR,QT,Jq,Jc,inN,QM,JT,Ms.pc,Ms.sp,Ms.wz,Ms.af,Ms.pcUp,JW,Jd,JV,Jt,JY,Ms.spDown,Jv,QS,Ms.goTo,Ms.a,Ms.f,Ms.setA,Ms.setF,Ms.hl,Ms.setHL,Ms.pair,Ms.setPair,Ms.holds,QF,JO,Jm,Jb,Ws.pc,Ws.sp,Ws.wz,Ws.hlTo,Ws.af,Ws.tick,Ws.pcUp,Ws.a,Ws.f,Je,JU,Ju,Ws.spDown,Ws.spUp,Jy,QX,Ws.hl,Ws.setHl,Ws.setP,Ws.setP0,Ws.know,Ws.mTo]|simp[h,ZW,QG,QCf])
theorem QOy (r:Rg)(c spot pl code:Int)(hc:B8 c):(Z6 ⟨r,0,fx c,fy c,fz c,fp c,fq c,spot,true⟩).Rel RR (QHX true c ⟨r,pl,code,spot,true⟩):=by
 have hx':fx c=0∨fx c=1∨fx c=2∨fx c=3:=by unfold fx;have:=hc.1;have:=hc.2;omega
 unfold Z6 QHX
 generalize fx c=x at *
 generalize fy c=y at *
 generalize fz c=z at *
 generalize fp c=p at *
 generalize fq c=q at *
 by_cases h:z=6
 · subst h
   rcases hx' with rfl|rfl|rfl|rfl<;>simp[Ws.at_,jH,Xn,Za,jb,XQ,XO,jF,Ms.inMem,QBb,zu,setW]<;>repeat (first|simp only[Tr.bind,Tr.Rel,RR,QT,Jq,Jc,inN,QM,JT,Ms.pc,Ms.sp,Ms.wz,Ms.af,Ms.pcUp,JW,Jd,JV,Jt,JY,Ms.spDown,Jv,QS,Ms.goTo,Ms.a,Ms.f,Ms.setA,Ms.setF,Ms.hl,Ms.setHL,Ms.pair,Ms.setPair,Ms.holds,QF,JO,Jm,Jb,Ws.pc,Ws.sp,Ws.wz,Ws.hlTo,Ws.af,Ws.tick,Ws.pcUp,Ws.a,Ws.f,Je,JU,Ju,Ws.spDown,Ws.spUp,Jy,QX,Ws.hl,Ws.setHl,Ws.setP,Ws.setP0,Ws.know,Ws.mTo]|simp)
 · rcases hx' with rfl|rfl|rfl|rfl<;>simp[Ws.at_,jH,Xn,Za,jb,XQ,XO,jF,Ms.inMem,QBb,zu,setW,h,ZN,QG,QCf]<;>repeat (first|simp only[Tr.bind,Tr.Rel,RR,QT,Jq,Jc,inN,QM,JT,Ms.pc,Ms.sp,Ms.wz,Ms.af,Ms.pcUp,JW,Jd,JV,Jt,JY,Ms.spDown,Jv,QS,Ms.goTo,Ms.a,Ms.f,Ms.setA,Ms.setF,Ms.hl,Ms.setHL,Ms.pair,Ms.setPair,Ms.holds,QF,JO,Jm,Jb,Ws.pc,Ws.sp,Ws.wz,Ws.hlTo,Ws.af,Ws.tick,Ws.pcUp,Ws.a,Ws.f,Je,JU,Ju,Ws.spDown,Ws.spUp,Jy,QX,Ws.hl,Ws.setHl,Ws.setP,Ws.setP0,Ws.know,Ws.mTo]|simp[h,ZW,QG,QCf])
theorem QGC:QBr:=by
 intro s c hs hnr hc hp
 show (QBP c s).Rel RR _
 unfold QBP QEW
 by_cases h3:c=203
 · subst h3
   rw[if_pos rfl,if_neg (by decide)]
   obtain⟨r,plane,x0,y0,z0,p0,q0,spot,near⟩:=s
   have hnr':near=false:=hnr
   subst hnr'
   have hpl:plane=0∨plane=3∨plane=4:=hs.plane
   by_cases h0:plane=0
   · subst h0
     simp only[Zd,Ms.atHL]
     simp only[Tr.bind,Tr.Rel,RR,QT,Jq,Jc,inN,QM,JT,Ms.pc,Ms.sp,Ms.wz,Ms.af,Ms.pcUp,JW,Jd,JV,Jt,JY,Ms.spDown,Jv,QS,Ms.goTo,Ms.a,Ms.f,Ms.setA,Ms.setF,Ms.hl,Ms.setHL,Ms.pair,Ms.setPair,Ms.holds,QF,JO,Jm,Jb,Ws.pc,Ws.sp,Ws.wz,Ws.hlTo,Ws.af,Ws.tick,Ws.pcUp,Ws.a,Ws.f,Je,JU,Ju,Ws.spDown,Ws.spUp,Jy,QX,Ws.hl,Ws.setHl,Ws.setP,Ws.setP0,Ws.know,Ws.mTo]
     simp only[true_and,Ms.split]
     refine⟨rfl,fun b hb=>?_⟩
     exact QRW _ b hb
   · have h0':¬((203:Int)=203∧plane=0):=fun h=>h0 h.2
     rw[if_neg h0',if_pos rfl]
     have h34:plane=3∨plane=4:=hpl.resolve_left h0
     rcases h34 with rfl|rfl
     · simp[Zd,Ms.atHL,QOR,QET,Ws.at_]
       simp only[Tr.bind,Tr.Rel,RR,QT,Jq,Jc,inN,QM,JT,Ms.pc,Ms.sp,Ms.wz,Ms.af,Ms.pcUp,JW,Jd,JV,Jt,JY,Ms.spDown,Jv,QS,Ms.goTo,Ms.a,Ms.f,Ms.setA,Ms.setF,Ms.hl,Ms.setHL,Ms.pair,Ms.setPair,Ms.holds,QF,JO,Jm,Jb,Ws.pc,Ws.sp,Ws.wz,Ws.hlTo,Ws.af,Ws.tick,Ws.pcUp,Ws.a,Ws.f,Je,JU,Ju,Ws.spDown,Ws.spUp,Jy,QX,Ws.hl,Ws.setHl,Ws.setP,Ws.setP0,Ws.know,Ws.mTo]
       simp[Ms.split,Jk]
       intro b hb c hc _ _
       exact QOy _ c _ _ _ hc
     · simp[Zd,Ms.atHL,QOR,QET,Ws.at_]
       simp only[Tr.bind,Tr.Rel,RR,QT,Jq,Jc,inN,QM,JT,Ms.pc,Ms.sp,Ms.wz,Ms.af,Ms.pcUp,JW,Jd,JV,Jt,JY,Ms.spDown,Jv,QS,Ms.goTo,Ms.a,Ms.f,Ms.setA,Ms.setF,Ms.hl,Ms.setHL,Ms.pair,Ms.setPair,Ms.holds,QF,JO,Jm,Jb,Ws.pc,Ws.sp,Ws.wz,Ws.hlTo,Ws.af,Ws.tick,Ws.pcUp,Ws.a,Ws.f,Je,JU,Ju,Ws.spDown,Ws.spUp,Jy,QX,Ws.hl,Ws.setHl,Ws.setP,Ws.setP0,Ws.know,Ws.mTo]
       simp[Ms.split,Jk]
       intro b hb c hc _ _
       exact QOy _ c _ _ _ hc
 · by_cases h7:c=237
   · subst h7
     rw[if_neg (by decide),if_pos rfl,if_pos rfl]
     obtain⟨r,plane,x0,y0,z0,p0,q0,spot,near⟩:=s
     have hnr':near=false:=hnr
     subst hnr'
     simp only[Ms.atHL,Ms.toPlane]
     simp only[Tr.bind,Tr.Rel,RR,QT,Jq,Jc,inN,QM,JT,Ms.pc,Ms.sp,Ms.wz,Ms.af,Ms.pcUp,JW,Jd,JV,Jt,JY,Ms.spDown,Jv,QS,Ms.goTo,Ms.a,Ms.f,Ms.setA,Ms.setF,Ms.hl,Ms.setHL,Ms.pair,Ms.setPair,Ms.holds,QF,JO,Jm,Jb,Ws.pc,Ws.sp,Ws.wz,Ws.hlTo,Ws.af,Ws.tick,Ws.pcUp,Ws.a,Ws.f,Je,JU,Ju,Ws.spDown,Ws.spUp,Jy,QX,Ws.hl,Ws.setHl,Ws.setP,Ws.setP0,Ws.know,Ws.mTo]
     simp only[true_and,Ms.split,Ws.at_]
     intro b hb
     refine QRC _ ?_ b hb
     have ht:RgB (ZI r 1):=hs.r.tick 1
     exact⟨ht.af,ht.bc,ht.de,ht.hl,ht.af2,ht.bc2,ht.de2,ht.hl2,ht.ix,ht.iy,ht.sp,Wd16.mod _,ht.wz,ht.i,ht.r,ht.mode⟩
   · rw[if_neg h3,if_neg h7,if_neg h7,if_neg (fun h=>h3 h.1),if_neg h3]
     exact QJv s c hs hnr hc
theorem QJ1 {g:Rg}(hg:RgB g){c:Int}(hc:B8 c){xs:List Int}(hx:Bytes8 xs):QBI (Xx g c xs)=QD1 (QAW g c xs):=(QJq QGC hg hc hx).tell
theorem QLi {g:Rg}(hg:RgB g){xs:List Int}(hx:Bytes8 xs):QBI (Qu g xs)=QD1 (jy g xs):=(QMZ QGC hg hx).tell
def T3.v (T:T3):Value:=.tuple #[cyV T.c,JH T.g,.bool T.b]
def Qi:List Cy→List Value
 | []=>[]
 | c :: r=>.int .i64 c.kind :: .int .u16 c.addr :: .int .u8 c.data :: .int .i64 c.t :: Qi r
theorem jm:∀ l:List Cy,(Qi l).length=l.length*4
 | []=>rfl
 | c :: r=>by simp only[Qi,List.length_cons,jm r];omega
theorem QDL:∀ l m:List Cy,Qi l++Qi m=Qi (l++m)
 | [],_=>rfl
 | c :: r,m=>by simp only[Qi,List.cons_append,QDL r m]
theorem QJB:∀ l:List Cy,∀ u∈Qi l,u.oneCell'=true
 | [],_,h=>by cases h
 | c :: r,u,h=>by
   simp only[Qi,List.mem_cons] at h
   rcases h with rfl|rfl|rfl|rfl|h
   · rfl
   · rfl
   · rfl
   · rfl
   · exact QJB r u h
theorem QGp:∀ (l:List Cy) (k:Nat) (hk:k < l.length),(Qi l)[k*4]? = some (.int .i64 l[k].kind)∧(Qi l)[k*4+1]? = some (.int .u16 l[k].addr)∧(Qi l)[k*4+2]? = some (.int .u8 l[k].data)∧(Qi l)[k*4+3]? = some (.int .i64 l[k].t)
 | [],k,h=>by simp at h
 | c :: r,0,_=>⟨rfl,rfl,rfl,rfl⟩
 | c :: r,k+1,h=>by
   have:=QGp r k (by simpa using h)
   rw[show (k+1)*4=k*4+1+1+1+1 by omega,show k*4+1+1+1+1+1=k*4+1+1+1+1+1 from rfl,show k*4+1+1+1+1+2=k*4+2+1+1+1+1 by omega,show k*4+1+1+1+1+3=k*4+3+1+1+1+1 by omega]
   simp only[Qi,List.getElem?_cons_succ,List.getElem_cons_succ]
   exact this
def CysIn (w:World)(B:Nat)(A:Option Addr)(l:List Cy):Prop:=∀ (j:Nat) (u:Value),(Qi l)[j]? = some u→∃ p,A=some p∧p.block < B∧w.cell? (p.add j)=some u
theorem CysIn.keep {w w':World} {B:Nat} {A:Option Addr} {l:List Cy}(h:CysIn w B A l)(k:∀ b,b < B→w'.heap[b]? = w.heap[b]?):CysIn w' B A l:=fun j c hc=>by
 obtain⟨p,e,hb,h1⟩:=h j c hc
 exact⟨p,e,hb,(World.cell?_of_block (by rw[add_block];exact k _ hb)).trans h1⟩
theorem CysIn.more {w:World} {B B':Nat} {A:Option Addr} {l:List Cy}(h:CysIn w B A l)(k:B≤B'):CysIn w B' A l:=fun j c hc=>by
 obtain⟨p,e,hb,h1⟩:=h j c hc
 exact⟨p,e,Nat.lt_of_lt_of_le hb k,h1⟩
theorem CysIn.below {w w':World} {B:Nat} {A:Option Addr} {l:List Cy}(h:CysIn w B A l)(k:Below B w w'):CysIn w' B A l:=h.keep fun b hb=>k.block b hb
theorem CysIn.addr {w:World} {B:Nat} {A:Option Addr} {l:List Cy}(h:CysIn w B A l){k:Nat}(hk:k < l.length):∃ p,A=some p:=by
 obtain⟨p,e,-⟩:=h _ _ (QGp l k hk).1
 exact⟨p,e⟩
theorem CysIn.values {w:World} {B:Nat} {p:Addr} {l:List Cy}(h:CysIn w B (some p) l):∀ j u,(Qi l)[j]? = some u→w.cell? (p.add j)=some u:=fun j u hu=>by
 obtain⟨q,e,-,h1⟩:=h j u hu
 cases e
 exact h1
theorem CysIn.of_values {w:World} {B:Nat} {p:Addr} {l:List Cy}(hb:p.block < B)(h:∀ j u,(Qi l)[j]? = some u→w.cell? (p.add j)=some u):CysIn w B (some p) l:=fun j c hc=>⟨p,rfl,hb,h j c hc⟩
theorem QTe {w:World} {p:Addr} {a b c d:Int}(h0:w.cell? p=some (.int .i64 a))(h1:w.cell? (p.add 1)=some (.int .u16 b))(h2:w.cell? (p.add 2)=some (.int .u8 c))(h3:w.cell? (p.add 3)=some (.int .i64 d)):(Instr.loadAt 29 (.pointer (some p))).run Tryz.prog w=.ok (cyV ⟨a,b,c,d⟩) w:=by
 have e1:w.cell? { block:=p.block,off:=p.off+1 }=some (.int .u16 b):=by simpa [Addr.add] using h1
 have e2:w.cell? { block:=p.block,off:=p.off+2 }=some (.int .u8 c):=by simpa [Addr.add] using h2
 have e3:w.cell? { block:=p.block,off:=p.off+3 }=some (.int .i64 d):=by simpa [Addr.add] using h3
 simp[go_sem,h0,e1,e2,e3]
theorem ZG (p:Addr)(a b:Nat)(hb:b≠0):(p.add a).add b=p.add (a+b):=by
 cases p
 unfold Addr.add
 split<;>split<;>simp_all<;>omega
theorem CysIn.ld {w:World} {B:Nat} {p:Addr} {l:List Cy}(h:CysIn w B (some p) l){k:Nat}(hk:k < l.length):(Instr.loadAt 29 (.pointer (some (p.add (k*4))))).run Tryz.prog w=.ok (cyV l[k]) w:=by
 obtain⟨h0,h1,h2,h3⟩:=QGp l k hk
 exact QTe (h.values _ _ h0) (by rw[ZG _ _ _ (by omega)];exact h.values _ _ h1) (by rw[ZG _ _ _ (by omega)];exact h.values _ _ h2) (by rw[ZG _ _ _ (by omega)];exact h.values _ _ h3)
theorem QTK (p:Addr)(n c k:Nat)(h:k < n)(w:World):(Instr.indexAt 99 (.slice (some p) n c) (.int .i64 (k:Int))).run Tryz.prog w=.ok (.pointer (some (p.add (k*4)))) w:=by
 have h1:(k:Int) < n:=by omega
 simp[go_sem,h]
theorem QPe:(Tryz.prog.info? 29).map (fun i=>(i.zero,i.size,i.bytes))=some (some (cyV JL),4,24):=by kernel_rfl
section
variable {ops:Array Oper} {Q:Exit→Act→World→Prop} {base:List Value} {rest:List Oper} {l:J0} {w:World} {o:Oper}
theorem qAy (s x:Operand)(bs B:Nat)(v:Value)(n:Nat)(got:List Cy)(p:Addr)(c m:Nat)(ys:List Cy)(hbs:bs≤w.heap.size)
 (hown:w.ownsRow bs 29 4 v n (Qi got))(hy:CysIn w B (some p) ys)(hm:m=ys.length)(hmax:n+m≤1000000)
 (h:∀ v' w',w'.ownsRow bs 29 4 v' (n+m) (Qi (got++ys))→w.grownBy w' v.ownBlock→WO Tryz.prog ops Q base rest (XL o.dst v' l) w')
 (ho:o.op=.call { callee:=.builtin .append,args:=#[s,x],argTypes:=#[99,99] }:=by exact rfl)(hg:o.guard=none:=by exact rfl)(hs:evO base l s=v:=by kernel_rfl)(hx:evO base l x=.slice (some p) m c:=by kernel_rfl)(hd:XH o.dst base.length=true:=by kernel_rfl):WO Tryz.prog ops Q base (o :: rest) l w :=
 ⟨fun hi=>⟨by
  obtain⟨i0,hi0,hz0,hz1,hz2⟩:=info_parts QPe
  subst hm
  refine wpList_append_own_at _ hg s x _ ho bs 29 i0 _ 4 24 Tryz.underlying99 hi0 hz0 hz1 hz2 rfl (by omega) v n (Qi got) (by rw[QH hi];exact hs) hown p ys.length c (Qi ys) (by rw[QH hi];exact hx) (jm ys) hy.values (QJB ys) (by simp only[maxLen];omega) (by omega) hbs ?_
  intro v' w' own' hgr _ _
  rw[QDL] at own'
  rw[Qa]
  exact ((h v' w' own' hgr).h (jZ hd hi)).h⟩⟩
end
theorem QAf (w:World)(l:List Cy)(t:TypeId):CysIn (w.alloc (.cells (Qi l).toArray t)) (w.heap.size+1) (some ⟨w.heap.size,0,none⟩) l:=CysIn.of_values (by simp) (QDd w (Qi l) t)
theorem QAl {w:World} {b:Nat} {t:TypeId} {l:List Cy}(h:Row w b t (Qi l).toArray):CysIn w w.heap.size (some ⟨b,0,none⟩) l:=CysIn.of_values h.lt fun j u hu=>by
 rw[show (⟨b,0,none⟩:Addr).add j=⟨b,j,none⟩ by simp[Addr.add];omega,h.cell j]
 simpa using hu
theorem QDo {w:World} {b:Nat} {t:TypeId} {cur:List Value} {l:List Cy}(n:Nat)(h:Row w b t cur.toArray)(e:cur.take n=Qi l):CysIn w w.heap.size (some ⟨b,0,none⟩) l:=CysIn.of_values h.lt fun j u hu=>by
 rw[show (⟨b,0,none⟩:Addr).add j=⟨b,j,none⟩ by simp[Addr.add];omega,h.cell j]
 rw[←e,List.getElem?_take] at hu
 split at hu
 · simpa using hu
 · cases hu
theorem QFW {w:World} {b base:Nat} {l:List Cy}(n:Nat)(h:Row w b 29 (Qi l).toArray)(hb:base≤b)(hn:n=l.length)(hm:n≤1000):w.ownsRow base 29 4 (.slice (some ⟨b,0,none⟩) n n) n (Qi l) :=
 ⟨by rw[jm,hn],.inr ⟨b,n,_,rfl,hb,h,Nat.le_refl _,by simp only[maxLen];omega,by simp[jm,hn],by simp only[];exact List.take_of_length_le (by rw[jm,hn];exact Nat.le_refl _)⟩⟩
section
variable {ops:Array Oper} {Q:Exit→Act→World→Prop} {base:List Value} {l:J0} {w w0:World} {L:List Nat} {rs:List RowK}
theorem soZ {n f i:Nat} {listed:Array Bool} {x y:Operand}(j b:Nat)(hm:Many w0 L rs w)(h:∀ w',Many w0 L rs w'→PO Tryz.prog ops Q (Many w0 L rs) n base f (listed.setIfInBounds i true) l w')
 (hj:rs[j]? = some ⟨b,29,(cyC JL).toList.map some⟩:=by kernel_rfl)(ho:(Z0 ops i).op=.store 29 x y:=by exact rfl)(hx:evO base l x=pT b 0:=by kernel_rfl)(hy:evO base l y=cyV JL:=by kernel_rfl)
 (hd:((Z0 ops i).dst.isNone,decide (i < n),QA ops base.length base l (Z0 ops i),(ops[i]?).isSome)=(true,true,some true,true):=by kernel_rfl):SO Tryz.prog ops Q (Many w0 L rs) n base f listed i l w:=by
 simp only[Prod.mk.injEq] at hd
 obtain⟨d1,d2,d3,d4⟩:=hd
 have ho':=QAg d4
 have hdn:(Z0 ops i).dst=none:=Option.isNone_iff_eq_none.1 d1
 have r:=hm.row j (cyC JL).toList hj
 have hs:=QBY (c:=JL) r
 have he:∀ l',(execOp (evO base l) (Z0 ops i)).run Tryz.prog w=.ok .skip l'↔l'=w.setCells b 0 (cyC JL).toList:=fun l'=>by
  rw[QFA hs ho hx hy]
  constructor
  · intro e;injection e with _ e;exact e.symm
  · rintro rfl;rfl
 have e1:=(he _).2 rfl
 have hm':Many w0 L rs (w.setCells b 0 (cyC JL).toList):=by
  have k:=hm.turn (cs:=(cyC JL).toList.map some) hj (r.setAll rfl) ⟨by simp,fun k v e=>by rw[List.getElem?_map] at e;obtain⟨u,h1,h2⟩:=Option.map_eq_some_iff.1 e;injection h2 with h2;rw[←h2,←Array.getElem?_toList];exact h1⟩ (QJW b _ 0 (Besides.refl ..))
  have:rs.set j ⟨b,29,(cyC JL).toList.map some⟩=rs:=by
   apply List.ext_getElem?
   intro q
   rw[List.getElem?_set]
   split
   · rename_i e;subst e;split
     · exact hj.symm
     · rename_i e;rw[List.getElem?_eq_none (by omega)]
   · rfl
  rwa [this] at k
 refine⟨fun hi hr inv=>⟨of_decide_eq_true d2,?_⟩⟩
 unfold wpOp
 simp only[ho',J2 d3 hi,if_true]
 refine .inl ?_
 unfold Oper.wp
 rw[QH hi,e1,Oper.upon_skip,hdn]
 exact⟨hm',(h _ hm').h hi (inv.set hr (of_decide_eq_true d2))⟩
end
section
variable {base:List Value} {l:J0} {w w0:World} {L:List Nat} {rs:List RowK}
theorem Many.rowK (h:Many w0 L rs w)(i:Nat)(vs:List Value){b:Nat}(e:(rs[i]?).map (fun r=>(pT r.b 0,r.cs))=some (pT b 0,vs.map some)):∃ t,Row w b t vs.toArray:=by
 cases hr:rs[i]? with
 | none=>rw[hr] at e;cases e
 | some r =>
   obtain⟨rb,rt,rc⟩:=r
   rw[hr] at e
   injection e with e;injection e with e1 e2
   injection e1 with e1;injection e1 with e1;injection e1 with e1
   dsimp only at e1 e2
   subst e1 e2
   exact⟨rt,h.row i vs hr⟩
theorem Zz {fn:Func} {R:Ending→World→Prop} {s1 s2 s3:Tmp}(i j:Nat)(c:Cy)(g:Rg)(b:Bool)(b1 b2:Nat)(hm:Many w0 L rs w)(hR:R (.returned (.tuple #[cyV c,JH g,.bool b])) w)
 (hres:fn.results=#[.cell s1 29,.cell s2 24,.tmp s3]:=by exact rfl)
 (h1:(rs[i]?).map (fun r=>(pT r.b 0,r.cs))=some (pT b1 0,(cyC c).toList.map some):=by kernel_rfl)(h2:(rs[j]?).map (fun r=>(pT r.b 0,r.cs))=some (pT b2 0,(JJ g).toList.map some):=by kernel_rfl)
 (k1:lkO base s1 l=pT b1 0:=by kernel_rfl)(k2:lkO base s2 l=pT b2 0:=by kernel_rfl)(k3:lkO base s3 l=.bool b:=by kernel_rfl):EO (bodyPost Tryz.prog fn R) .ret base l w:=by
 obtain⟨t1,r1⟩:=hm.rowK i _ h1
 obtain⟨t2,r2⟩:=hm.rowK j _ h2
 exact⟨fun hin=>bodyPost_ret (Qe hres ((congrFun (QH hin) (.tmp s1)).trans k1) ((congrFun (QH hin) (.tmp s2)).trans k2) ((congrFun (QH hin) (.tmp s3)).trans k3) r1 r2) rfl hR⟩
theorem QIg {fn:Func} {t1 t3:Tmp} {u:TypeId}(h:fn.results=#[.cell t1 29,.tmp t3]){tmps:Array Value} {w:World} {L:Nat} {c:Cy} {b:Bool}
 (h1:tmps.getD t1 undef=pT L 0)(h3:tmps.getD t3 undef=.bool b)(hL:Row w L u (cyC c)):(results fn tmps).run Tryz.prog w=.ok (.tuple #[cyV c,.bool b]) w:=by
 have h1':tmps[t1]?.getD undef=pT L 0:=by simpa using h1
 have h3':tmps[t3]?.getD undef=.bool b:=by simpa using h3
 have e1:=X5 (P:=Tryz.prog) hL Tryz.underlying29 rfl QEm
 simp[results,h,h1',h3',asAddr,e1]
theorem QS1 {fn:Func} {R:Ending→World→Prop} {s1 s3:Tmp}(i:Nat)(c:Cy)(b:Bool)(b1:Nat)(hm:Many w0 L rs w)(hR:R (.returned (.tuple #[cyV c,.bool b])) w)
 (hres:fn.results=#[.cell s1 29,.tmp s3]:=by exact rfl)
 (h1:(rs[i]?).map (fun r=>(pT r.b 0,r.cs))=some (pT b1 0,(cyC c).toList.map some):=by kernel_rfl)
 (k1:lkO base s1 l=pT b1 0:=by kernel_rfl)(k3:lkO base s3 l=.bool b:=by kernel_rfl):EO (bodyPost Tryz.prog fn R) .ret base l w:=by
 obtain⟨t1,r1⟩:=hm.rowK i _ h1
 exact⟨fun hin=>bodyPost_ret (QIg hres ((congrFun (QH hin) (.tmp s1)).trans k1) ((congrFun (QH hin) (.tmp s3)).trans k3) r1) rfl hR⟩
end
@[reducible] def coC (c:CoT)(v:Value):Array Value:=#[.int .u16 c.r.af,.int .u16 c.r.bc,.int .u16 c.r.de,.int .u16 c.r.hl,.int .u16 c.r.af2,.int .u16 c.r.bc2,.int .u16 c.r.de2,.int .u16 c.r.hl2,.int .u16 c.r.ix,.int .u16 c.r.iy,.int .u16 c.r.sp,.int .u16 c.r.pc,.int .u16 c.r.wz,
 .int .u8 c.r.i,.int .u8 c.r.r,.bool c.r.iff1,.bool c.r.iff2,.bool c.r.halted,.bool c.r.late,.int .i64 c.r.mode,.int .i64 c.wh,v,.int .i64 c.a.c.kind,.int .u16 c.a.c.addr,.int .u8 c.a.c.data,.int .i64 c.a.c.t,.int .i64 c.a.k,.int .i64 c.a.w,.int .u8 c.b,.bool c.nmi,.bool c.was,.bool c.off]
@[reducible] def coV (c:CoT)(v:Value):Value:=.agg (coC c v)
@[reducible] def lnC (l:LnT):Array Value:=#[.bool l.wait,.bool l.bus,.bool l.irq,.bool l.nmi,.bool l.reset]
@[reducible] def lnV (l:LnT):Value:=.agg (lnC l)
def GotIn (w:World)(B:Nat)(v:Value)(xs:List Int):Prop:=∃ A cap,v=.slice A xs.length cap∧xs.length≤cap∧BytesIn w B A xs∧(A=none→cap=0)
theorem GotIn.below {w w':World} {B:Nat} {v:Value} {xs:List Int}(h:GotIn w B v xs)(k:Below B w w'):GotIn w' B v xs:=by
 obtain⟨A,cap,e,h1,h2,h3⟩:=h
 exact⟨A,cap,e,h1,h2.below k,h3⟩
theorem GotIn.more {w:World} {B B':Nat} {v:Value} {xs:List Int}(h:GotIn w B v xs)(k:B≤B'):GotIn w B' v xs:=by
 obtain⟨A,cap,e,h1,h2,h3⟩:=h
 exact⟨A,cap,e,h1,h2.more k,h3⟩
theorem GotIn.on {w w':World} {v:Value} {xs:List Int}(h:GotIn w w.heap.size v xs)(k:Below w.heap.size w w'):GotIn w' w'.heap.size v xs:=(h.below k).more k.size
theorem QB1 (w:World)(B:Nat):GotIn w B (.slice none 0 0) []:=⟨none,0,rfl,Nat.le_refl _,BytesIn.nil _ _ _,fun _=>rfl⟩
theorem GotIn.stay {w w':World} {S:Nat→Prop} {v:Value} {xs:List Int}(h:GotIn w w.heap.size v xs)(k:Kept S w w')(n:xs≠[]→∀ x,v.ownBlock=some x→¬S x):GotIn w' w'.heap.size v xs:=by
 obtain⟨A,cap,rfl,h1,h2,h3⟩:=h
 refine⟨A,cap,rfl,h1,fun j x hx=>?_,h3⟩
 obtain⟨ad,rfl,hb,hc⟩:=h2 j x hx
 exact⟨ad,rfl,Nat.lt_of_lt_of_le hb k.size,(World.cell?_of_block (by rw[add_block];exact k.block _ hb (n (fun e=>by rw[e] at hx;cases hx) ad.block rfl))).trans hc⟩
def LnsIn (w:World)(B:Nat)(A:Option Addr)(l:List LnT):Prop:=∀ (k:Nat) (hk:k < l.length),∃ p,A=some p∧p.block < B∧w.cell? (p.add (k*5))=some (.bool l[k].wait)∧w.cell? (p.add (k*5+1))=some (.bool l[k].bus)∧w.cell? (p.add (k*5+2))=some (.bool l[k].irq)∧w.cell? (p.add (k*5+3))=some (.bool l[k].nmi)∧w.cell? (p.add (k*5+4))=some (.bool l[k].reset)
theorem LnsIn.keep {w w':World} {B:Nat} {A:Option Addr} {l:List LnT}(h:LnsIn w B A l)(k:∀ b,b < B→w'.heap[b]? = w.heap[b]?):LnsIn w' B A l:=fun j hj=>by
 obtain⟨p,e,hb,h0,h1,h2,h3,h4⟩:=h j hj
 have f:∀ i,w'.cell? (p.add i)=w.cell? (p.add i):=fun i=>World.cell?_of_block (by rw[add_block];exact k _ hb)
 exact⟨p,e,hb,(f _).trans h0,(f _).trans h1,(f _).trans h2,(f _).trans h3,(f _).trans h4⟩
theorem LnsIn.more {w:World} {B B':Nat} {A:Option Addr} {l:List LnT}(h:LnsIn w B A l)(k:B≤B'):LnsIn w B' A l:=fun j hj=>by
 obtain⟨p,e,hb,h1⟩:=h j hj
 exact⟨p,e,Nat.lt_of_lt_of_le hb k,h1⟩
theorem LnsIn.below {w w':World} {B:Nat} {A:Option Addr} {l:List LnT}(h:LnsIn w B A l)(k:Below B w w'):LnsIn w' B A l:=h.keep fun b hb=>k.block b hb
theorem LnsIn.on {w w':World} {A:Option Addr} {l:List LnT}(h:LnsIn w w.heap.size A l)(k:Below w.heap.size w w'):LnsIn w' w'.heap.size A l:=(h.below k).more k.size
theorem QTh {w:World} {p:Addr} {a b c d e:Bool}(h0:w.cell? p=some (.bool a))(h1:w.cell? (p.add 1)=some (.bool b))(h2:w.cell? (p.add 2)=some (.bool c))(h3:w.cell? (p.add 3)=some (.bool d))(h4:w.cell? (p.add 4)=some (.bool e)):(Instr.loadAt 40 (.pointer (some p))).run Tryz.prog w=.ok (lnV ⟨a,b,c,d,e⟩) w:=by
 have e1:w.cell? { block:=p.block,off:=p.off+1 }=some (.bool b):=by simpa [Addr.add] using h1
 have e2:w.cell? { block:=p.block,off:=p.off+2 }=some (.bool c):=by simpa [Addr.add] using h2
 have e3:w.cell? { block:=p.block,off:=p.off+3 }=some (.bool d):=by simpa [Addr.add] using h3
 have e4:w.cell? { block:=p.block,off:=p.off+4 }=some (.bool e):=by simpa [Addr.add] using h4
 simp[go_sem,h0,e1,e2,e3,e4]
theorem LnsIn.ld {w:World} {B:Nat} {p:Addr} {l:List LnT}(h:LnsIn w B (some p) l){k:Nat}(hk:k < l.length):(Instr.loadAt 40 (.pointer (some (p.add (k*5))))).run Tryz.prog w=.ok (lnV l[k]) w:=by
 obtain⟨q,e,hb,h0,h1,h2,h3,h4⟩:=h k hk
 cases e
 exact QTh h0 (by rw[ZG _ _ _ (by omega)];exact h1) (by rw[ZG _ _ _ (by omega)];exact h2) (by rw[ZG _ _ _ (by omega)];exact h3) (by rw[ZG _ _ _ (by omega)];exact h4)
theorem LnsIn.addr {w:World} {B:Nat} {A:Option Addr} {l:List LnT}(h:LnsIn w B A l){k:Nat}(hk:k < l.length):∃ p,A=some p:=by
 obtain⟨p,e,-⟩:=h k hk
 exact⟨p,e⟩
theorem ixLn (p:Addr)(n c k:Nat)(h:k < n)(w:World):(Instr.indexAt 25 (.slice (some p) n c) (.int .i64 (k:Int))).run Tryz.prog w=.ok (.pointer (some (p.add (k*5)))) w:=by
 have h1:(k:Int) < n:=by omega
 simp[go_sem,h]
end Go.Proofs.YtkenebbjodcbcaaGreatDoor
