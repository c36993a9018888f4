/- Contracts and facts that the claim's proof wants (several texts in one). -/
import Derived.Lib.OthersKept
import Derived.Test.YtmgcgiecimnncaaGreatDoorTlG24
namespace Go.Proofs.YtmgcgiecimnncaaGreatDoor
open Go.RowKit
set_option linter.unusedVariables false
set_option linter.unusedSimpArgs false
set_option maxRecDepth 20000
set_option maxHeartbeats 20000000
theorem QNu (pl c d m le sk x y z p q:Int)(f:Value)(hy:0≤y∧y≤7)(w:World)(h:TextTabs w) :
 Calls Tryz.prog 96 #[shV pl c d m le sk x y z p q f,.string ⟨#[67]⟩] w fun e w'=>e=.returned (.string (sb (pick QY y)))∧Below w.heap.size w w':=by
 have t1:=fun o=>JI w o (h.conds.of QME y (by omega) (by simp[QY];omega))
 clear h
 go_enter Tryz.func96,Tryz.ntmps96
 go_wp2
 go_ret
 exact⟨rfl,(by repeat (first|exact Below.refl _ _|assumption|refine JF ?_ (by assumption)|refine Below.drew ?_|refine Below.alloc ?_ (by first|(simp;done)|(simp;omega)|omega) _|refine Below.setCell ?_ (by first|(simp;done)|(simp;omega)|omega) _))⟩
theorem QMd (pl c d m le sk x y z p q:Int)(f:Value)(hy:0≤y∧y≤7)(w:World)(h:TextTabs w) :
 Calls Tryz.prog 96 #[shV pl c d m le sk x y z p q f,.string ⟨#[74]⟩] w fun e w'=>e=.returned (.string (sb (pick QY (y%4))))∧Below w.heap.size w w':=by
 have t1:=fun o=>JI w o (h.conds.of QME (y%4) (by omega) (by simp[QY];omega))
 have r0:y.tmod 4=y%4:=by rw[Int.tmod_eq_emod_of_nonneg hy.1]
 have r1:0≤y%4:=by omega
 have r2:y%4 < 8:=by omega
 clear h
 go_enter Tryz.func96,Tryz.ntmps96
 go_wp2
 go_ret
 exact⟨rfl,(by repeat (first|exact Below.refl _ _|assumption|refine JF ?_ (by assumption)|refine Below.drew ?_|refine Below.alloc ?_ (by first|(simp;done)|(simp;omega)|omega) _|refine Below.setCell ?_ (by first|(simp;done)|(simp;omega)|omega) _))⟩
theorem QNv (pl c d m le sk x y z p q:Int)(f:Value)(hy:0≤y∧y≤7)(w:World)(h:TextTabs w) :
 Calls Tryz.prog 96 #[shV pl c d m le sk x y z p q f,.string ⟨#[65]⟩] w fun e w'=>e=.returned (.string (sb (pick QBB y)))∧Below w.heap.size w w':=by
 have t1:=fun o=>JI w o (h.sums.of QVD y (by omega) (by simp[QBB];omega))
 clear h
 go_enter Tryz.func96,Tryz.ntmps96
 go_wp2
 go_ret
 exact⟨rfl,(by repeat (first|exact Below.refl _ _|assumption|refine JF ?_ (by assumption)|refine Below.drew ?_|refine Below.alloc ?_ (by first|(simp;done)|(simp;omega)|omega) _|refine Below.setCell ?_ (by first|(simp;done)|(simp;omega)|omega) _))⟩
theorem QN5 (pl c d m le sk x y z p q:Int)(f:Value)(hy:0≤y∧y≤7)(w:World)(h:TextTabs w) :
 Calls Tryz.prog 96 #[shV pl c d m le sk x y z p q f,.string ⟨#[75]⟩] w fun e w'=>e=.returned (.string (sb (pick ZW y)))∧Below w.heap.size w w':=by
 have t1:=fun o=>JI w o (h.shifts.of QQa y (by omega) (by simp[ZW];omega))
 clear h
 go_enter Tryz.func96,Tryz.ntmps96
 go_wp2
 go_ret
 exact⟨rfl,(by repeat (first|exact Below.refl _ _|assumption|refine JF ?_ (by assumption)|refine Below.drew ?_|refine Below.alloc ?_ (by first|(simp;done)|(simp;omega)|omega) _|refine Below.setCell ?_ (by first|(simp;done)|(simp;omega)|omega) _))⟩
theorem QM4 (pl c d m le sk x y z p q:Int)(f:Value)(hy:0≤y∧y≤7)(w:World)(h:TextTabs w) :
 Calls Tryz.prog 96 #[shV pl c d m le sk x y z p q f,.string ⟨#[77]⟩] w fun e w'=>e=.returned (.string (sb (pick QI7 y)))∧Below w.heap.size w w':=by
 have t1:=fun o=>JI w o (h.modes.of QRk y (by omega) (by simp[QI7];omega))
 clear h
 go_enter Tryz.func96,Tryz.ntmps96
 go_wp2
 go_ret
 exact⟨rfl,(by repeat (first|exact Below.refl _ _|assumption|refine JF ?_ (by assumption)|refine Below.drew ?_|refine Below.alloc ?_ (by first|(simp;done)|(simp;omega)|omega) _|refine Below.setCell ?_ (by first|(simp;done)|(simp;omega)|omega) _))⟩
theorem QNr (pl c d m le sk x y z p q:Int)(f:Value)(hd:B8 d)(w:World)(h:TextTabs w) :
 Calls Tryz.prog 96 #[shV pl c d m le sk x y z p q f,.string ⟨#[73]⟩] w fun e w'=>e=.returned (.string (sy pl d m [259]))∧Below w.heap.size w w':=by
 have kn:=Lib.hid (fun W (hW:Below w.heap.size w W)=>QEv pl d hd W (h.below hW))
 clear h
 go_enter Tryz.func96,Tryz.ntmps96
 go_wp2_with (first
  | (go_at_call 117;refine (kn.out _ ((by repeat (first|exact Below.refl _ _|assumption|refine JF ?_ (by assumption)|refine Below.drew ?_|refine Below.alloc ?_ (by first|(simp;done)|(simp;omega)|omega) _|refine Below.setCell ?_ (by first|(simp;done)|(simp;omega)|omega) _)))).mono ?_;rintro e w' ⟨rfl,hb⟩;have hsz:=hb.size))
 go_ret
 exact⟨Qa (QEN pl d m),(by repeat (first|exact Below.refl _ _|assumption|refine JF ?_ (by assumption)|refine Below.drew ?_|refine Below.alloc ?_ (by first|(simp;done)|(simp;omega)|omega) _|refine Below.setCell ?_ (by first|(simp;done)|(simp;omega)|omega) _))⟩
theorem QQB:∀ k:Fin 8,zu (k.val:Int)=(pick zl (k.val:Int)).map UInt8.ofNat:=by decide +kernel
theorem QOF (y:Int)(hy:0≤y∧y≤7):(⟨(zu y).toArray⟩:ByteArray)=sb (pick zl y):=by
 have:=QQB ⟨y.toNat,by omega⟩
 rw[show (((⟨y.toNat,by omega⟩:Fin 8).val:Nat):Int)=y by show (y.toNat:Int)=y;omega] at this
 unfold sb
 rw[this]
theorem QRo:∀ k:Fin 8,QEe (8*(k.val:Int)) 2=(pick QFc (k.val:Int)).map UInt8.ofNat:=by decide +kernel
theorem QQQ (y:Int)(hy:0≤y∧y≤7):(⟨(QEe (8*y) 2).toArray⟩:ByteArray)=sb (pick QFc y):=by
 have:=QRo ⟨y.toNat,by omega⟩
 rw[show (((⟨y.toNat,by omega⟩:Fin 8).val:Nat):Int)=y by show (y.toNat:Int)=y;omega] at this
 unfold sb
 rw[this]
theorem QKh (pl d m:Int)(k:Nat):sy pl d m [k]=⟨(tok pl d m k).toArray⟩:=by
 unfold sy
 rw[QAV,QG5,List.append_nil]
theorem QNF (pl c d m le sk x y z p q:Int)(f:Value)(hy:0≤y∧y≤7)(w:World)(h:TextTabs w) :
 Calls Tryz.prog 96 #[shV pl c d m le sk x y z p q f,.string ⟨#[89]⟩] w fun e w'=>e=.returned (.string (sb (pick zl y)))∧Below w.heap.size w w':=by
 have kn:=Lib.hid (fun W (hW:Below w.heap.size w W)=>QID y (by omega) (by omega) W (h.below hW))
 clear h
 go_enter Tryz.func96,Tryz.ntmps96
 go_wp2_with (first
  | (go_at_call 26;refine (kn.out _ ((by repeat (first|exact Below.refl _ _|assumption|refine JF ?_ (by assumption)|refine Below.drew ?_|refine Below.alloc ?_ (by first|(simp;done)|(simp;omega)|omega) _|refine Below.setCell ?_ (by first|(simp;done)|(simp;omega)|omega) _)))).mono ?_;rintro e w' ⟨rfl,hb⟩;have hsz:=hb.size))
 go_ret
 exact⟨Qa (QOF y hy),(by repeat (first|exact Below.refl _ _|assumption|refine JF ?_ (by assumption)|refine Below.drew ?_|refine Below.alloc ?_ (by first|(simp;done)|(simp;omega)|omega) _|refine Below.setCell ?_ (by first|(simp;done)|(simp;omega)|omega) _))⟩
theorem QMy (pl c d m le sk x y z p q:Int)(f:Value)(hy:0≤y∧y≤7)(w:World)(h:TextTabs w) :
 Calls Tryz.prog 96 #[shV pl c d m le sk x y z p q f,.string ⟨#[86]⟩] w fun e w'=>e=.returned (.string (sb (pick QFc y)))∧Below w.heap.size w w':=by
 have kn:=Lib.hid (fun W (hW:Below w.heap.size w W)=>QEB (8*y) 2 (by omega) (by omega) (by omega) (by omega) W (h.below hW))
 clear h
 go_enter Tryz.func96,Tryz.ntmps96
 go_wp2_with (first
  | (go_at_call 16;refine (kn.out _ ((by repeat (first|exact Below.refl _ _|assumption|refine JF ?_ (by assumption)|refine Below.drew ?_|refine Below.alloc ?_ (by first|(simp;done)|(simp;omega)|omega) _|refine Below.setCell ?_ (by first|(simp;done)|(simp;omega)|omega) _)))).mono ?_;rintro e w' ⟨rfl,hb⟩;have hsz:=hb.size))
 go_ret
 exact⟨Qa (QQQ y hy),(by repeat (first|exact Below.refl _ _|assumption|refine JF ?_ (by assumption)|refine Below.drew ?_|refine Below.alloc ?_ (by first|(simp;done)|(simp;omega)|omega) _|refine Below.setCell ?_ (by first|(simp;done)|(simp;omega)|omega) _))⟩
theorem QMZ (pl c d m le sk x y z p q:Int)(f:Value)(hm:0≤m∧m≤65535)(w:World)(h:TextTabs w) :
 Calls Tryz.prog 96 #[shV pl c d m le sk x y z p q f,.string ⟨#[78]⟩] w fun e w'=>e=.returned (.string (sy pl d m [256]))∧Below w.heap.size w w':=by
 have kl:=Lib.hid (fun w=>Zx m hm.1 hm.2 w)
 have kn:=Lib.hid (fun W (hW:Below w.heap.size w W)=>QEB (m%256) 2 (by omega) (by omega) (by omega) (by omega) W (h.below hW))
 have hx:=QUE (m%256) (by omega) (by omega)
 have m0:0≤m%256:=by omega
 have m1:m%256≤255:=by omega
 rw[QKh]
 have HX:=Lib.hid (show tok pl d m 256=QEe (m%256) 2 from hx.symm)
 clear hx
 clear h
 go_enter Tryz.func96,Tryz.ntmps96
 go_wp2_with (first
  | (go_at_call 118;refine (kl.out _).mono ?_;rintro e w' ⟨rfl,rfl⟩)
  | (go_at_call 16;refine (kn.out _ ((by repeat (first|exact Below.refl _ _|assumption|refine JF ?_ (by assumption)|refine Below.drew ?_|refine Below.alloc ?_ (by first|(simp;done)|(simp;omega)|omega) _|refine Below.setCell ?_ (by first|(simp;done)|(simp;omega)|omega) _)))).mono ?_;rintro e w' ⟨rfl,hb⟩;have hsz:=hb.size))
 go_ret
 exact⟨Qa (by rw[HX.out]),(by repeat (first|exact Below.refl _ _|assumption|refine JF ?_ (by assumption)|refine Below.drew ?_|refine Below.alloc ?_ (by first|(simp;done)|(simp;omega)|omega) _|refine Below.setCell ?_ (by first|(simp;done)|(simp;omega)|omega) _))⟩
theorem QMi (pl c d m le sk x y z p q:Int)(f:Value)(hm:0≤m∧m≤65535)(w:World)(h:TextTabs w) :
 Calls Tryz.prog 96 #[shV pl c d m le sk x y z p q f,.string ⟨#[87]⟩] w fun e w'=>e=.returned (.string (sy pl d m [257]))∧Below w.heap.size w w':=by
 have kn:=Lib.hid (fun W (hW:Below w.heap.size w W)=>QEB m 4 (by omega) (by omega) (by omega) (by omega) W (h.below hW))
 have hx:=QT0 m (by omega) (by omega)
 rw[QKh]
 have HX:=Lib.hid (show tok pl d m 257=QEe m 4 from hx.symm)
 clear hx
 clear h
 go_enter Tryz.func96,Tryz.ntmps96
 go_wp2_with (first
  | (go_at_call 16;refine (kn.out _ ((by repeat (first|exact Below.refl _ _|assumption|refine JF ?_ (by assumption)|refine Below.drew ?_|refine Below.alloc ?_ (by first|(simp;done)|(simp;omega)|omega) _|refine Below.setCell ?_ (by first|(simp;done)|(simp;omega)|omega) _)))).mono ?_;rintro e w' ⟨rfl,hb⟩;have hsz:=hb.size))
 go_ret
 exact⟨Qa (by rw[HX.out]),(by repeat (first|exact Below.refl _ _|assumption|refine JF ?_ (by assumption)|refine Below.drew ?_|refine Below.alloc ?_ (by first|(simp;done)|(simp;omega)|omega) _|refine Below.setCell ?_ (by first|(simp;done)|(simp;omega)|omega) _))⟩
theorem QMo (pl c d m le sk x y z p q:Int)(f:Value)(hm:0≤m∧m≤65535)(w:World)(h:TextTabs w) :
 Calls Tryz.prog 96 #[shV pl c d m le sk x y z p q f,.string ⟨#[84]⟩] w fun e w'=>e=.returned (.string (sy pl d m [258]))∧Below w.heap.size w w':=by
 have hb:B8 (m%256):=⟨by omega,by omega⟩
 have hs:=QAl (m%256) hb
 have kl:=Lib.hid (fun w=>Zx m hm.1 hm.2 w)
 have ks:=Lib.hid (fun w=>QBa (m%256) hb.1 hb.2 w)
 have kn:=Lib.hid (fun W (hW:Below w.heap.size w W)=>QDJ (JL (m%256)+2) (by omega) (by omega) W (h.below hW))
 rw[QKh]
 have HX:=Lib.hid (show tok pl d m 258=36 :: ZI (JL (m%256)+2) from rfl)
 have gl:=Xp (JL (m%256)+2)
 have gs:=Q4 (ZI (JL (m%256)+2))
 generalize ZI (JL (m%256)+2)=G at *
 generalize JL (m%256)=X at *
 clear hb
 clear h
 go_enter Tryz.func96,Tryz.ntmps96
 go_wp2_with (first
  | (go_at_call 118;refine (kl.out _).mono ?_;rintro e w' ⟨rfl,rfl⟩)
  | (go_at_call 120;refine (ks.out _).mono ?_;rintro e w' ⟨rfl,rfl⟩)
  | (go_at_call 119;refine (kn.out _ ((by repeat (first|exact Below.refl _ _|assumption|refine JF ?_ (by assumption)|refine Below.drew ?_|refine Below.alloc ?_ (by first|(simp;done)|(simp;omega)|omega) _|refine Below.setCell ?_ (by first|(simp;done)|(simp;omega)|omega) _)))).mono ?_;rintro e w' ⟨rfl,hb⟩;have hsz:=hb.size))
 go_ret
 exact⟨Qa (by rw[HX.out];exact Xu [36] G),(by repeat (first|exact Below.refl _ _|assumption|refine JF ?_ (by assumption)|refine Below.drew ?_|refine Below.alloc ?_ (by first|(simp;done)|(simp;omega)|omega) _|refine Below.setCell ?_ (by first|(simp;done)|(simp;omega)|omega) _))⟩
theorem Xz (k j:Nat)(hk:k < 256)(hj:j < 256)(h:k≠j):(UInt8.ofNat k==UInt8.ofNat j)=false:=by
 rw[beq_eq_false_iff_ne]
 intro c
 have:=congrArg UInt8.toNat c
 simp only[UInt8.toNat_ofNat'] at this
 omega
theorem QOC (pl c d m le sk x y z p q:Int)(f:Value)(k:Nat)(hk:k < 256)(hn:k ∉ [82,83,80,81,72,73,67,74,65,75,77,89,86,78,87,84])(w:World) :
 Calls Tryz.prog 96 #[shV pl c d m le sk x y z p q f,.string ⟨#[UInt8.ofNat k]⟩] w fun e w'=>e=.returned (.string ⟨#[UInt8.ofNat k]⟩)∧Below w.heap.size w w':=by
 simp only[List.mem_cons,List.not_mem_nil,or_false,not_or] at hn
 obtain⟨n1,n2,n3,n4,n5,n6,n7,n8,n9,n10,n11,n12,n13,n14,n15,n16⟩:=hn
 have e1:(UInt8.ofNat k==82)=false:=Xz k 82 hk (by omega) n1
 have e2:(UInt8.ofNat k==83)=false:=Xz k 83 hk (by omega) n2
 have e3:(UInt8.ofNat k==80)=false:=Xz k 80 hk (by omega) n3
 have e4:(UInt8.ofNat k==81)=false:=Xz k 81 hk (by omega) n4
 have e5:(UInt8.ofNat k==72)=false:=Xz k 72 hk (by omega) n5
 have e6:(UInt8.ofNat k==73)=false:=Xz k 73 hk (by omega) n6
 have e7:(UInt8.ofNat k==67)=false:=Xz k 67 hk (by omega) n7
 have e8:(UInt8.ofNat k==74)=false:=Xz k 74 hk (by omega) n8
 have e9:(UInt8.ofNat k==65)=false:=Xz k 65 hk (by omega) n9
 have e10:(UInt8.ofNat k==75)=false:=Xz k 75 hk (by omega) n10
 have e11:(UInt8.ofNat k==77)=false:=Xz k 77 hk (by omega) n11
 have e12:(UInt8.ofNat k==89)=false:=Xz k 89 hk (by omega) n12
 have e13:(UInt8.ofNat k==86)=false:=Xz k 86 hk (by omega) n13
 have e14:(UInt8.ofNat k==78)=false:=Xz k 78 hk (by omega) n14
 have e15:(UInt8.ofNat k==87)=false:=Xz k 87 hk (by omega) n15
 have e16:(UInt8.ofNat k==84)=false:=Xz k 84 hk (by omega) n16
 clear n1 n2 n3 n4 n5 n6 n7 n8 n9 n10 n11 n12 n13 n14 n15 n16
 generalize UInt8.ofNat k=K at *
 clear hk
 go_enter Tryz.func96,Tryz.ntmps96
 go_wp2
 go_ret
 exact⟨rfl,(by repeat (first|exact Below.refl _ _|assumption|refine JF ?_ (by assumption)|refine Below.drew ?_|refine Below.alloc ?_ (by first|(simp;done)|(simp;omega)|omega) _|refine Below.setCell ?_ (by first|(simp;done)|(simp;omega)|omega) _))⟩
def QAH (pl c d m le sk:Int):Value:=if pl=3∨pl=4 then ZB pl c d m le sk else ZC pl c d m le sk
theorem Z8 {pl:Int}(h:¬(pl=3∨pl=4))(n:Bool)(t:List Nat):XC pl n t=t:=by unfold XC;rw[if_neg h]
theorem XM (l:List (List Nat))(h:∀ t∈l,∀ k∈t,k < 256)(i:Int):∀ k∈pick l i,k < 256:=by
 intro k hk
 unfold pick at hk
 rw[List.getD_eq_getElem?_getD] at hk
 cases e:l[i.toNat]? with
 | none=>rw[e] at hk;simp at hk
 | some t=>rw[e] at hk;exact h t (List.mem_of_getElem? e) k hk
theorem QHr (pl c d m le sk x y z p q:Int)(hc:B8 c)(hd:B8 d)(hm:0≤m∧m≤65535)(hy:0≤y∧y≤7)(hz:0≤z∧z≤7)(hp:0≤p∧p≤3)(k:Nat)(hk:k < 256)(w:World)(h:TextTabs w) :
 Calls Tryz.prog 96 #[shV pl c d m le sk x y z p q (QAH pl c d m le sk),.string ⟨#[UInt8.ofNat k]⟩] w fun e w'=>e=.returned (.string (sy pl d m (opT pl (JP pl c) y z p k)))∧Below w.heap.size w w':=by
 unfold QAH
 by_cases k1:k=82
 · subst k1
   show Calls _ _ #[_,.string ⟨#[82]⟩] w fun e w'=>e=.returned (.string (sy pl d m (XC pl (JP pl c) (pick QL y))))∧Below w.heap.size w w'
   by_cases h3:pl=3∨pl=4
   · rw[if_pos h3];exact QRx pl c d m le sk x y z p q h3 hc hd hy w h
   · rw[if_neg h3,Z8 h3,←Zk pl d m _ (XM _ (by decide) _)];exact QTs pl c d m le sk x y z p q hy w h
 by_cases k2:k=83
 · subst k2
   show Calls _ _ #[_,.string ⟨#[83]⟩] w fun e w'=>e=.returned (.string (sy pl d m (XC pl (JP pl c) (pick QL z))))∧Below w.heap.size w w'
   by_cases h3:pl=3∨pl=4
   · rw[if_pos h3];exact QS8 pl c d m le sk x y z p q h3 hc hd hz w h
   · rw[if_neg h3,Z8 h3,←Zk pl d m _ (XM _ (by decide) _)];exact QRP pl c d m le sk x y z p q hz w h
 by_cases k3:k=80
 · subst k3
   show Calls _ _ #[_,.string ⟨#[80]⟩] w fun e w'=>e=.returned (.string (sy pl d m (XC pl (JP pl c) (pick QX p))))∧Below w.heap.size w w'
   by_cases h3:pl=3∨pl=4
   · rw[if_pos h3];exact QRc pl c d m le sk x y z p q h3 hc hd hp w h
   · rw[if_neg h3,Z8 h3,←Zk pl d m _ (XM _ (by decide) _)];exact QSp pl c d m le sk x y z p q hp w h
 by_cases k4:k=81
 · subst k4
   show Calls _ _ #[_,.string ⟨#[81]⟩] w fun e w'=>e=.returned (.string (sy pl d m (XC pl (JP pl c) (pick Xw p))))∧Below w.heap.size w w'
   by_cases h3:pl=3∨pl=4
   · rw[if_pos h3];exact QTV pl c d m le sk x y z p q h3 hc hd hp w h
   · rw[if_neg h3,Z8 h3,←Zk pl d m _ (XM _ (by decide) _)];exact QTS pl c d m le sk x y z p q hp w h
 by_cases k5:k=72
 · subst k5
   show Calls _ _ #[_,.string ⟨#[72]⟩] w fun e w'=>e=.returned (.string (sy pl d m (XC pl (JP pl c) [104,108])))∧Below w.heap.size w w'
   by_cases h3:pl=3∨pl=4
   · rw[if_pos h3];exact QSU pl c d m le sk x y z p q h3 hc hd w h
   · rw[if_neg h3,Z8 h3,←Zk pl d m _ (by decide)];exact QSi pl c d m le sk x y z p q w h
 generalize (if pl=3∨pl=4 then ZB pl c d m le sk else ZC pl c d m le sk)=f
 by_cases k6:k=73
 · subst k6
   have:=QNr pl c d m le sk x y z p q f hd w h
   skip
   exact this
 by_cases k7:k=67
 · subst k7
   have:=QNu pl c d m le sk x y z p q f hy w h
   rw[Zk pl d m _ (XM _ (by decide) _)] at this
   exact this
 by_cases k8:k=74
 · subst k8
   have:=QMd pl c d m le sk x y z p q f hy w h
   rw[Zk pl d m _ (XM _ (by decide) _)] at this
   exact this
 by_cases k9:k=65
 · subst k9
   have:=QNv pl c d m le sk x y z p q f hy w h
   rw[Zk pl d m _ (XM _ (by decide) _)] at this
   exact this
 by_cases k10:k=75
 · subst k10
   have:=QN5 pl c d m le sk x y z p q f hy w h
   rw[Zk pl d m _ (XM _ (by decide) _)] at this
   exact this
 by_cases k11:k=77
 · subst k11
   have:=QM4 pl c d m le sk x y z p q f hy w h
   rw[Zk pl d m _ (XM _ (by decide) _)] at this
   exact this
 by_cases k12:k=89
 · subst k12
   have:=QNF pl c d m le sk x y z p q f hy w h
   rw[Zk pl d m _ (XM _ (by decide) _)] at this
   exact this
 by_cases k13:k=86
 · subst k13
   have:=QMy pl c d m le sk x y z p q f hy w h
   rw[Zk pl d m _ (XM _ (by decide) _)] at this
   exact this
 by_cases k14:k=78
 · subst k14
   have:=QMZ pl c d m le sk x y z p q f hm w h
   skip
   exact this
 by_cases k15:k=87
 · subst k15
   have:=QMi pl c d m le sk x y z p q f hm w h
   skip
   exact this
 by_cases k16:k=84
 · subst k16
   have:=QMo pl c d m le sk x y z p q f hm w h
   skip
   exact this
 have e:opT pl (JP pl c) y z p k=[k]:=by
  unfold opT
  rw[if_neg k1,if_neg k2,if_neg k3,if_neg k4,if_neg k5,if_neg k6,if_neg k7,if_neg k8,if_neg k9,if_neg k10,if_neg k11,if_neg k12,if_neg k13,if_neg k14,if_neg k15,if_neg k16]
 rw[e,←Zk pl d m [k] (by simpa using hk)]
 exact QOC pl c d m le sk x y z p q f k hk (by simp only[List.mem_cons,List.not_mem_nil,or_false,not_or];omega) w
theorem QFX {T e:TypeId} {B b:Nat} {bs:List Value} {W W':World}(h:Lib.IsBuilderF T e B b bs W)(hb:Below W.heap.size W W'):Lib.IsBuilderF T e B b bs W':=by
 have key:∀ p,Lib.BuilderAtF T e B b p bs W→Lib.BuilderAtF T e B b p bs W':=by
  intro p h
  have hlt:=h.lt
  obtain⟨hB,v,hv,hown,hne⟩:=h
  exact⟨hB,v,(hb.block b hlt).trans hv,hown.kept (row:=none) ⟨hb.os,hb.tape,hb.output,hb.size,fun k hk _=>hb.block k hk⟩ (Classical.em _),hne⟩
 exact h.elim (fun x=>.inl (key _ x)) (fun x=>.inr (key _ x))
theorem QIb (l:List UInt8):Lib.strCells ⟨l.toArray⟩=Lib.byteCells l:=by simp[Lib.strCells,Lib.byteCells]
theorem QFn (a b:List UInt8):Lib.byteCells a++Lib.byteCells b=Lib.byteCells (a++b):=by simp[Lib.byteCells]
theorem QVk (pl d m:Int)(k:Nat):(tok pl d m k).length≤8:=by
 have h1:=Xp (JL d)
 have h2:=Xp (JL (m%256)+2)
 unfold tok
 split
 · simp[QEw]
 split
 · simp[QBC]
 split
 · simp[toL];omega
 split
 · simp[QBQ];omega
 · simp
theorem QHk (pl d m:Int)(l:List Nat):(say pl d m l).length≤8*l.length:=by
 induction l with
 | nil=>simp[say]
 | cons k l ih =>
   have:=QVk pl d m k
   rw[QAV,List.length_append,List.length_cons]
   omega
theorem Jv (l:List (List Nat))(h:∀ t∈l,t.length≤8)(i:Int):(pick l i).length≤8:=by
 unfold pick
 rw[List.getD_eq_getElem?_getD]
 cases e:l[i.toNat]? with
 | none=>simp
 | some t=>exact h t (List.mem_of_getElem? e)
theorem QAM (pl:Int)(n:Bool)(t:List Nat)(h:t.length≤8):(XC pl n t).length≤10:=by
 have hix:(ixT pl).length=2:=rfl
 unfold XC
 split
 · split
   · omega
   · split
     · simp
     · split
       · split
         · omega
         · rw[List.length_append];omega
       · omega
 · omega
theorem QVN {c:Prop} [Decidable c] {a b:List Nat} {n:Nat}(h1:a.length≤n)(h2:b.length≤n):(if c then a else b).length≤n:=by split<;>assumption
theorem QOd (pl:Int)(n:Bool)(y z p:Int)(k:Nat):(opT pl n y z p k).length≤10:=by
 have r1:=QAM pl n _ (Jv QL (by decide) y)
 have r2:=QAM pl n _ (Jv QL (by decide) z)
 have r3:=QAM pl n _ (Jv QX (by decide) p)
 have r4:=QAM pl n _ (Jv Xw (by decide) p)
 have r5:=QAM pl n [104,108] (by simp)
 have c1:=Jv QY (by decide) y
 have c2:=Jv QY (by decide) (y%4)
 have c3:=Jv QBB (by decide) y
 have c4:=Jv ZW (by decide) y
 have c5:=Jv QI7 (by decide) y
 have c6:=Jv zl (by decide) y
 have c7:=Jv QFc (by decide) y
 unfold opT
 iterate 16 refine QVN (by first|omega|(show 1≤10;omega)) ?_
 show 1≤10
 omega
def filled (pl:Int)(nr:Bool)(y z p:Int)(F:List Nat)(n:Nat):List Nat:=(F.take n).flatMap (opT pl nr y z p)
theorem QDE (pl:Int)(nr:Bool)(y z p:Int)(F:List Nat)(n:Nat)(h:n < F.length):filled pl nr y z p F (n+1)=filled pl nr y z p F n++opT pl nr y z p (F.getD n 0):=by
 unfold filled
 rw[List.take_add_one,List.getElem?_eq_getElem h,List.flatMap_append]
 simp[h]
theorem QN6 (pl:Int)(nr:Bool)(y z p:Int)(F:List Nat)(n:Nat):(filled pl nr y z p F n).length≤10*n:=by
 induction n with
 | zero=>simp[filled]
 | succ n ih =>
   by_cases h:n < F.length
   · rw[QDE _ _ _ _ _ _ _ h,List.length_append]
     have:=QOd pl nr y z p (F.getD n 0)
     omega
   · have e:filled pl nr y z p F (n+1)=filled pl nr y z p F n:=by unfold filled;rw[List.take_of_length_le (by omega),List.take_of_length_le (by omega)]
     rw[e]
     omega
theorem QVs (F:List Nat)(n:Nat)(h:n < F.length):(sb F).extract n (n+1)=⟨#[UInt8.ofNat (F.getD n 0)]⟩:=by
 apply ByteArray.ext
 simp only[ByteArray.data_extract]
 unfold sb
 apply Array.ext
 · simp;omega
 · intro i h1 h2
   have:i=0:=by simp at h2;omega
   subst this
   simp[h]
abbrev shC (pl c d m le sk x y z p q:Int)(f:Value):Array Value:=#[.int .i64 pl,.int .u8 c,.int .u8 d,.int .u16 m,.int .i64 le,.int .i64 sk,.int .i64 x,.int .i64 y,.int .i64 z,.int .i64 p,.int .i64 q,f]
def Box12 (W:World)(B:Nat)(pl c d m le sk x y z p q:Int)(f:Value):Prop:=W.cell? ⟨B,0,none⟩=some (.int .i64 pl)∧W.cell? ⟨B,1,none⟩=some (.int .u8 c)∧W.cell? ⟨B,2,none⟩=some (.int .u8 d)∧W.cell? ⟨B,3,none⟩=some (.int .u16 m)∧W.cell? ⟨B,4,none⟩=some (.int .i64 le)∧W.cell? ⟨B,5,none⟩=some (.int .i64 sk)∧W.cell? ⟨B,6,none⟩=some (.int .i64 x)∧W.cell? ⟨B,7,none⟩=some (.int .i64 y)∧W.cell? ⟨B,8,none⟩=some (.int .i64 z)∧W.cell? ⟨B,9,none⟩=some (.int .i64 p)∧W.cell? ⟨B,10,none⟩=some (.int .i64 q)∧W.cell? ⟨B,11,none⟩=some f
theorem Box12.keep {W W':World} {B K:Nat} {pl c d m le sk x y z p q:Int} {f:Value}(k:Below K W W')(hB:B < K)(h:W.cell? ⟨B,0,none⟩=some (.int .i64 pl)∧W.cell? ⟨B,1,none⟩=some (.int .u8 c)∧W.cell? ⟨B,2,none⟩=some (.int .u8 d)∧W.cell? ⟨B,3,none⟩=some (.int .u16 m)∧W.cell? ⟨B,4,none⟩=some (.int .i64 le)∧W.cell? ⟨B,5,none⟩=some (.int .i64 sk)∧W.cell? ⟨B,6,none⟩=some (.int .i64 x)∧W.cell? ⟨B,7,none⟩=some (.int .i64 y)∧W.cell? ⟨B,8,none⟩=some (.int .i64 z)∧W.cell? ⟨B,9,none⟩=some (.int .i64 p)∧W.cell? ⟨B,10,none⟩=some (.int .i64 q)∧W.cell? ⟨B,11,none⟩=some f):W'.cell? ⟨B,0,none⟩=some (.int .i64 pl)∧W'.cell? ⟨B,1,none⟩=some (.int .u8 c)∧W'.cell? ⟨B,2,none⟩=some (.int .u8 d)∧W'.cell? ⟨B,3,none⟩=some (.int .u16 m)∧W'.cell? ⟨B,4,none⟩=some (.int .i64 le)∧W'.cell? ⟨B,5,none⟩=some (.int .i64 sk)∧W'.cell? ⟨B,6,none⟩=some (.int .i64 x)∧W'.cell? ⟨B,7,none⟩=some (.int .i64 y)∧W'.cell? ⟨B,8,none⟩=some (.int .i64 z)∧W'.cell? ⟨B,9,none⟩=some (.int .i64 p)∧W'.cell? ⟨B,10,none⟩=some (.int .i64 q)∧W'.cell? ⟨B,11,none⟩=some f:=by
 have e:∀ i,W'.cell? ⟨B,i,none⟩=W.cell? ⟨B,i,none⟩:=fun i=>World.cell?_of_block (k.block B hB)
 simp only[e]
 exact h
theorem QOy (pl c d m le sk x y z p q:Int)(hc:B8 c)(hd:B8 d)(hm:0≤m∧m≤65535)(hy:0≤y∧y≤7)(hz:0≤z∧z≤7)(hp:0≤p∧p≤3)(F:List Nat)(hF:∀ k∈F,k < 256)(hl:F.length≤16)(w:World)(h:TextTabs w) :
 Calls Tryz.prog 62 #[shV pl c d m le sk x y z p q (QAH pl c d m le sk),.string (sb F)] w fun e w'=>e=.returned (.string (sy pl d m (filled pl (JP pl c) y z p F F.length)))∧Below w.heap.size w w':=by
 have kn:=Lib.hid (fun (n:Nat) (hn:n < F.length) W (hW:Below w.heap.size w W)=>QHr pl c d m le sk x y z p q hc hd hm hy hz hp (F.getD n 0) (hF _ (by rw[List.getD_eq_getElem?_getD,List.getElem?_eq_getElem hn];exact List.getElem_mem hn)) W (h.below hW))
 have hlen:=QLr F
 have hcut:=Lib.hid (QVs F)
 clear hF hc hd hm hy hz hp h
 generalize QAH pl c d m le sk=f at *
 go_enter Tryz.func62,Tryz.ntmps62
 go_wp2_with fail
 have hI0:=Lib.IsBuilderF.of (Lib.fresh_isBuilder 91 5 (w.alloc (.cells (shC pl c d m le sk x y z p q f) 104)))
 have hR0:=(Row.new w 104 (shC pl c d m le sk x y z p q f)).alloc (.cells #[.pointer none,.slice none 0 0] 91)
 have hB0:Below w.heap.size w ((w.alloc (.cells (shC pl c d m le sk x y z p q f) 104)).alloc (.cells #[.pointer none,.slice none 0 0] 91)):=(by repeat (first|exact Below.refl _ _|assumption|refine JF ?_ (by assumption)|refine Below.drew ?_|refine Below.alloc ?_ (by first|(simp;done)|(simp;omega)|omega) _|refine Below.setCell ?_ (by first|(simp;done)|(simp;omega)|omega) _))
 simp only[World.size_alloc] at hI0
 have hI0:=Lib.hid hI0
 have hR0:=Lib.hid hR0
 have hB0:=Lib.hid hB0
 go_loopw [9] (fun i wr=>∃ n:Nat,n≤F.length∧i=.int .i64 n∧Lib.IsBuilderF 91 5 (w.heap.size+1) (w.heap.size+1) (Lib.byteCells (say pl d m (filled pl (JP pl c) y z p F n))) wr∧Row wr w.heap.size 104 (shC pl c d m le sk x y z p q f)∧Below w.heap.size w wr) (fun i _=>F.length-(intOf i).toNat)
 case atStart=>exact⟨0,by omega,rfl,hI0.out,hR0.out,hB0.out⟩
 case round =>
  obtain⟨n,hn,rfl,rI,rR,rB⟩:=hrel
  clear hI0 hR0 hB0
  have RI:=Lib.hid rI
  have RB:=Lib.hid rB
  have RR:=Lib.hid rR
  clear rI rB
  by_cases hlt:n < F.length
  · have n0:(0:Int)≤(n:Int):=by omega
    have n1:(n:Int) < (F.length:Int):=by omega
    have hx:(sb F).extract n (n+1)=⟨#[UInt8.ofNat (F.getD n 0)]⟩:=hcut.out n hlt
    have p0:(0:Int)≤(n:Int)+1:=by omega
    have p1:(n:Int)+1≤(F.length:Int):=by omega
    have p2:((n:Int)+1).toNat=n+1:=by omega
    have p3:(n:Int)≤(n:Int)+1:=by omega
    have hw:IntKind.i64.wrap ((n:Int)+1)=(n:Int)+1:=by rw[IntKind.wrap_i64];omega
    have kn2:=Lib.hid (show ∀ W,Below w.heap.size w W→Calls Tryz.prog 96 #[shV pl c d m le sk x y z p q f,.string ⟨#[UInt8.ofNat (F.getD n 0)]⟩] W fun e w'=>e=.returned (.string ⟨(say pl d m (opT pl (JP pl c) y z p (F.getD n 0))).toArray⟩)∧Below W.heap.size W w' from kn.out n hlt)
    clear kn
    have hf:=Lib.hid (QDE pl (JP pl c) y z p F n hlt)
    have g1:=QHk pl d m (opT pl (JP pl c) y z p (F.getD n 0))
    have g2:=QOd pl (JP pl c) y z p (F.getD n 0)
    have hf:=hf.out
    generalize F.getD n 0=kk at *
    have HF:=Lib.hid hf
    clear hf
    have g3:=QHk pl d m (filled pl (JP pl c) y z p F n)
    have g4:=QN6 pl (JP pl c) y z p F n
    have hsy:=Q4 (say pl d m (opT pl (JP pl c) y z p (F.getD n 0)))
    have hs:wr.cell? ⟨w.heap.size,0,none⟩=some (.int .i64 pl)∧wr.cell? ⟨w.heap.size,1,none⟩=some (.int .u8 c)∧wr.cell? ⟨w.heap.size,2,none⟩=some (.int .u8 d)∧wr.cell? ⟨w.heap.size,3,none⟩=some (.int .u16 m)∧wr.cell? ⟨w.heap.size,4,none⟩=some (.int .i64 le)∧wr.cell? ⟨w.heap.size,5,none⟩=some (.int .i64 sk)∧wr.cell? ⟨w.heap.size,6,none⟩=some (.int .i64 x)∧wr.cell? ⟨w.heap.size,7,none⟩=some (.int .i64 y)∧wr.cell? ⟨w.heap.size,8,none⟩=some (.int .i64 z)∧wr.cell? ⟨w.heap.size,9,none⟩=some (.int .i64 p)∧wr.cell? ⟨w.heap.size,10,none⟩=some (.int .i64 q)∧wr.cell? ⟨w.heap.size,11,none⟩=some f :=
     ⟨rR.cell 0,rR.cell 1,rR.cell 2,rR.cell 3,rR.cell 4,rR.cell 5,rR.cell 6,rR.cell 7,rR.cell 8,rR.cell 9,rR.cell 10,rR.cell 11⟩
    clear rR
    have hlt2:w.heap.size+1 < wr.heap.size:=by
     rcases RI.out with h|h
     · exact h.lt
     · exact h.lt
    have hK:w.heap.size < wr.heap.size:=by omega
    go_wp2_with fail
    go_region_held3 (fun w'=>w'.cell? ⟨w.heap.size,0,none⟩=some (.int .i64 pl)∧w'.cell? ⟨w.heap.size,1,none⟩=some (.int .u8 c)∧w'.cell? ⟨w.heap.size,2,none⟩=some (.int .u8 d)∧w'.cell? ⟨w.heap.size,3,none⟩=some (.int .u16 m)∧w'.cell? ⟨w.heap.size,4,none⟩=some (.int .i64 le)∧w'.cell? ⟨w.heap.size,5,none⟩=some (.int .i64 sk)∧w'.cell? ⟨w.heap.size,6,none⟩=some (.int .i64 x)∧w'.cell? ⟨w.heap.size,7,none⟩=some (.int .i64 y)∧w'.cell? ⟨w.heap.size,8,none⟩=some (.int .i64 z)∧w'.cell? ⟨w.heap.size,9,none⟩=some (.int .i64 p)∧w'.cell? ⟨w.heap.size,10,none⟩=some (.int .i64 q)∧w'.cell? ⟨w.heap.size,11,none⟩=some f) (first|assumption|exact Box12.keep hb hK (by assumption)|exact Box12.keep hb2 (Nat.lt_succ_self _) (by assumption))
     (first
     | (go_at_call 96;refine (kn2.out _ RB.out.drew).mono ?_;rintro e w1 ⟨rfl,hb⟩;have hI1:=QFX (W:=wr) RI.out ((Below.drew (Below.refl _ wr)).trans hb))
     | (go_at_call 57;refine (Sh.Builder_WriteString_k (w.heap.size+1) (w.heap.size+1) _ _ _ hI1 (by rw[Lib.byteCells_length];rw[Q4];omega) (by have:=hb.size;first|omega|(simp at this;omega))).mono ?_;rintro e w2 ⟨rfl,hI2,hb2,hk2⟩))
    have hW:Below w.heap.size w w1:=RB.out.drew.trans (hb.mono RB.out.size)
    have hW2:Below w.heap.size w w2:=hW.trans (hb2.mono (by omega))
    have hR2:Row w2 w.heap.size 104 (shC pl c d m le sk x y z p q f):=(RR.out.below ((Below.drew (Below.refl _ wr)).trans hb) hK).below hb2 (Nat.lt_succ_self _)
    have hI3:Lib.IsBuilderF 91 5 (w.heap.size+1) (w.heap.size+1) (Lib.byteCells (say pl d m (filled pl (JP pl c) y z p F (n+1)))) w2:=by
     rw[HF.out,QLy,←QFn,←QIb (say pl d m (opT pl (JP pl c) y z p kk))]
     exact .inr hI2
    have HI3:=Lib.hid hI3
    have HW2:=Lib.hid hW2
    have HR2:=Lib.hid hR2
    clear hI3 hW2 hR2 hW hI2 hb hb2 hk2 hI1 hs
    go_wp2
    go_roundw
    case rel=>exact⟨n+1,by omega,by go_num,HI3.out,HR2.out,HW2.out⟩
    case measure=>simp[intOf];omega
  · obtain rfl:n=F.length:=by omega
    have hlt2:w.heap.size+1 < wr.heap.size:=by
     rcases RI.out with h|h
     · exact h.lt
     · exact h.lt
    go_wp2_with fail
    refine (Sh.Builder_String_any_k (w.heap.size+1) (w.heap.size+1) _ _ RI.out (by omega)).mono ?_
    rintro e w2 ⟨rfl,-,hb2,-⟩
    have hW2:Below w.heap.size w w2:=RB.out.trans (hb2.mono (by omega))
    go_wp2
    go_ret
    exact⟨rfl,hW2⟩
abbrev QE0 (pl c d m le sk x y z p q:Int)(f:Value):Value:=.agg #[.int .i64 pl,.int .u8 c,.int .u8 d,.int .u16 m,.int .i64 le,.int .i64 sk,.int .i64 x,.int .i64 y,.int .i64 z,.int .i64 p,.int .i64 q,f]
theorem j9 {a b:ByteArray}(h:a=b):Ending.returned (.string a)=.returned (.string b):=by rw[h]
theorem QKd (pl c d m le sk x y z p q:Int)(f:Value)(w:World)  :
 Calls Tryz.prog 132 #[QE0 pl c d m le sk x y z p q f] w fun e w'=>e=.returned (.string (sb (QHD p q)))∧Below w.heap.size w w':=by
 go_enter Tryz.func132,Tryz.ntmps132
 go_wp2
 all_goals
  go_ret
  refine⟨j9 ?_,(by repeat (first|exact Below.refl _ _|assumption|refine JF ?_ (by assumption)|refine Below.drew ?_|refine Below.alloc ?_ (by first|(simp;done)|(simp;omega)|omega) _|refine Below.setCell ?_ (by first|(simp;done)|(simp;omega)|omega) _))⟩
  (try simp only[beq_iff_eq,beq_eq_false_iff_ne,ne_eq] at *)
  simp only[QHD]
  (try simp[*])
  (try rfl)
theorem QLK (pl c d m le sk x y z p q:Int)(f:Value)(w:World)(ht:TextTabs w)(hy:0≤y∧y≤7)(hz:0≤z∧z≤7)(hq:0≤q∧q≤1) :
 Calls Tryz.prog 121 #[QE0 pl c d m le sk x y z p q f] w fun e w'=>e=.returned (.string (sb (QJ4 y z q)))∧Below w.heap.size w w':=by
 have t1:=fun o=>JI w o (ht.jumps.of QRN y hy.1 (by simp[QJs];omega))
 have t2:=fun o=>JI w o (ht.ofPairs.of QNm q hq.1 (by simp[QEX];omega))
 have t3:=fun o=>JI w o (ht.moves.of QSY y hy.1 (by simp[QKS];omega))
 have t4:=fun o=>JI w o (ht.counts.of QOv q hq.1 (by simp[QHe];omega))
 have t5:=fun o=>JI w o (ht.onA.of QW0 y hy.1 (by simp[QPh];omega))
 go_enter Tryz.func121,Tryz.ntmps121
 go_wp2
 all_goals
  go_ret
  refine⟨j9 ?_,(by repeat (first|exact Below.refl _ _|assumption|refine JF ?_ (by assumption)|refine Below.drew ?_|refine Below.alloc ?_ (by first|(simp;done)|(simp;omega)|omega) _|refine Below.setCell ?_ (by first|(simp;done)|(simp;omega)|omega) _))⟩
  (try simp only[beq_iff_eq,beq_eq_false_iff_ne,ne_eq] at *)
  simp only[QJ4]
  (try simp[*])
  (try rfl)
theorem QNS (pl c d m le sk x y z p q:Int)(f:Value)(w:World)(ht:TextTabs w)(hy:0≤y∧y≤7)(hz:0≤z∧z≤7)(hp:0≤p∧p≤3)(hq:0≤q∧q≤1) :
 Calls Tryz.prog 122 #[QE0 pl c d m le sk x y z p q f] w fun e w'=>e=.returned (.string (sb (QQA y z p q)))∧Below w.heap.size w w':=by
 have t1:=fun o=>JI w o (ht.returns.of QMk p hp.1 (by simp[QES];omega))
 have t2:=fun o=>JI w o (ht.mixed.of QRl y hy.1 (by simp[QKV];omega))
 go_enter Tryz.func122,Tryz.ntmps122
 go_wp2_with (first
  | (go_at_call 132;refine (QKd _ _ _ _ _ _ _ _ _ _ _ _ _).mono ?_;rintro e w' ⟨rfl,hb⟩;have hsz:=hb.size))
 all_goals
  go_ret
  refine⟨j9 ?_,(by repeat (first|exact Below.refl _ _|assumption|refine JF ?_ (by assumption)|refine Below.drew ?_|refine Below.alloc ?_ (by first|(simp;done)|(simp;omega)|omega) _|refine Below.setCell ?_ (by first|(simp;done)|(simp;omega)|omega) _))⟩
  (try simp only[beq_iff_eq,beq_eq_false_iff_ne,ne_eq] at *)
  simp only[QQA]
  (try simp[*])
  (try rfl)
theorem QIG (pl c d m le sk x y z p q:Int)(f:Value)(w:World)(ht:TextTabs w)(hy:0≤y∧y≤7)(hz:0≤z∧z≤7)(hq:0≤q∧q≤1) :
 Calls Tryz.prog 123 #[QE0 pl c d m le sk x y z p q f] w fun e w'=>e=.returned (.string (sb (QG8 y z q)))∧Below w.heap.size w w':=by
 have t1:=fun o=>JI w o (ht.carried.of QNz q hq.1 (by simp[QD7];omega))
 have t2:=fun o=>JI w o (ht.stores.of QP5 q hq.1 (by simp[QG0];omega))
 have t3:=fun o=>JI w o (ht.special.of QMh y hy.1 (by simp[zE];omega))
 go_enter Tryz.func123,Tryz.ntmps123
 go_wp2
 all_goals
  go_ret
  refine⟨j9 ?_,(by repeat (first|exact Below.refl _ _|assumption|refine JF ?_ (by assumption)|refine Below.drew ?_|refine Below.alloc ?_ (by first|(simp;done)|(simp;omega)|omega) _|refine Below.setCell ?_ (by first|(simp;done)|(simp;omega)|omega) _))⟩
  (try simp only[beq_iff_eq,beq_eq_false_iff_ne,ne_eq] at *)
  simp only[QG8]
  (try simp[*])
  (try rfl)
theorem QDN (x:Int):(sb (pick onBitsF x)).size≤6:=by
 rw[QLr]
 unfold pick
 rcases Nat.lt_or_ge x.toNat 4 with h|h
 · have:∀ k:Fin 4,(onBitsF.getD k.val []).length≤6:=by decide
   exact this ⟨_,h⟩
 · have e:onBitsF.getD x.toNat []=[]:=by rw[List.getD_eq_getElem?_getD,List.getElem?_eq_none (by simpa [onBitsF] using h)];rfl
   rw[e]
   decide
theorem QMU (pl c d m le sk x y z p q:Int)(f:Value)(w:World)(ht:TextTabs w)(hx:0≤x∧x≤3) :
 Calls Tryz.prog 99 #[QE0 pl c d m le sk x y z p q f] w fun e w'=>e=.returned (.string (sb (QQu x z)))∧Below w.heap.size w w':=by
 have hs:=QDN x
 have t1:=fun o=>JI w o (ht.onBits.of QJT x hx.1 (by simp[onBitsF];omega))
 go_enter Tryz.func99,Tryz.ntmps99
 go_wp2
 all_goals
  go_ret
  refine⟨j9 ?_,(by repeat (first|exact Below.refl _ _|assumption|refine JF ?_ (by assumption)|refine Below.drew ?_|refine Below.alloc ?_ (by first|(simp;done)|(simp;omega)|omega) _|refine Below.setCell ?_ (by first|(simp;done)|(simp;omega)|omega) _))⟩
  (try simp only[beq_iff_eq,beq_eq_false_iff_ne,ne_eq] at *)
  simp only[QQu]
  (try simp only[show (⟨#[73]⟩:ByteArray)=sb [73] from rfl,show (⟨#[44,83]⟩:ByteArray)=sb [44,83] from rfl,QO0,List.append_assoc])
  (first|(rw[if_pos (show x=1∨z=6 by omega)])|(rw[if_neg (show ¬(x=1∨z=6) by omega)]))
  all_goals (try simp[*])
theorem TextTabs.alloc {w:World}(h:TextTabs w)(o:Obj):TextTabs (w.alloc o):=h.below ((Below.refl _ w).alloc (Nat.le_refl _) o)
theorem QFg (pl c d m le sk y z p q:Int)(f:Value)(w:World)(ht:TextTabs w)(hy:0≤y∧y≤7)(hz:0≤z∧z≤7)(hq:0≤q∧q≤1) :
 Calls Tryz.prog 98 #[QE0 pl c d m le sk 1 y z p q f] w fun e w'=>e=.returned (.string (sb (ZJ 1 y z q)))∧Below w.heap.size w w':=by
 go_enter Tryz.func98,Tryz.ntmps98
 go_wp2_with (first
  | (go_at_call 123;refine (QIG _ _ _ _ _ _ _ _ _ _ _ _ _ (ht.alloc _) (by assumption) (by assumption) (by assumption)).mono ?_;rintro e w' ⟨rfl,hb⟩;have hsz:=hb.size))
 all_goals
  go_ret
  refine⟨j9 ?_,(by repeat (first|exact Below.refl _ _|assumption|refine JF ?_ (by assumption)|refine Below.drew ?_|refine Below.alloc ?_ (by first|(simp;done)|(simp;omega)|omega) _|refine Below.setCell ?_ (by first|(simp;done)|(simp;omega)|omega) _))⟩
  (try simp only[beq_iff_eq,beq_eq_false_iff_ne,ne_eq] at *)
  simp only[ZJ]
  (try simp[*])
  (try rfl)
theorem QFj (pl c d m le sk p q:Int)(f:Value)(w:World)(ht:TextTabs w):∀ (z y:Fin 4),
 Calls Tryz.prog 98 #[QE0 pl c d m le sk 2 (y.val+4:Nat) (z.val:Nat) p q f] w fun e w'=>e=.returned (.string (sb (ZJ 2 (y.val+4:Nat) (z.val:Nat) q)))∧Below w.heap.size w w':=by
 have tb:=fun (k:Nat) (hk:k < 16) (o:Obj)=>JI w o (ht.blocks.at_ QQY k (by simpa [QGh] using hk))
 intro z y
 have hz:=z.isLt
 have hy:=y.isLt
 have t:=tb (z.val*4+y.val) (by omega)
 obtain⟨z,_⟩:=z
 obtain⟨y,_⟩:=y
 simp only at hz hy t ⊢
 obtain rfl|rfl|rfl|rfl:z=0∨z=1∨z=2∨z=3:=by omega
 all_goals obtain rfl|rfl|rfl|rfl:y=0∨y=1∨y=2∨y=3:=by omega
 all_goals
  clear tb
  simp only[Nat.reduceAdd,Nat.reduceMul,Int.cast_ofNat_Int] at t ⊢
  go_enter Tryz.func98,Tryz.ntmps98
  go_wp2
  go_region
  go_wp2
  go_ret
  exact⟨rfl,(by repeat (first|exact Below.refl _ _|assumption|refine JF ?_ (by assumption)|refine Below.drew ?_|refine Below.alloc ?_ (by first|(simp;done)|(simp;omega)|omega) _|refine Below.setCell ?_ (by first|(simp;done)|(simp;omega)|omega) _))⟩
theorem QFT (pl c d m le sk x y z p q:Int)(f:Value)(w:World)(hx:x≠1)(hn:¬(x=2∧z < 4∧4≤y)) :
 Calls Tryz.prog 98 #[QE0 pl c d m le sk x y z p q f] w fun e w'=>e=.returned (.string (sb (ZJ x y z q)))∧Below w.heap.size w w':=by
 have e0:ZJ x y z q=[110,111,112,42]:=by unfold ZJ;rw[if_neg hx,if_neg hn]
 rw[e0]
 have e1:(x==1)=false:=by simpa using hx
 clear e0 hx
 by_cases h2:x=2
 · subst h2
   by_cases h4:z < 4
   · have h5:y < 4:=by omega
     clear hn
     go_enter Tryz.func98,Tryz.ntmps98
     go_wp2
     go_ret
     exact⟨rfl,(by repeat (first|exact Below.refl _ _|assumption|refine JF ?_ (by assumption)|refine Below.drew ?_|refine Below.alloc ?_ (by first|(simp;done)|(simp;omega)|omega) _|refine Below.setCell ?_ (by first|(simp;done)|(simp;omega)|omega) _))⟩
   · have h5:4≤z:=by omega
     clear hn h4
     go_enter Tryz.func98,Tryz.ntmps98
     go_wp2
     go_ret
     exact⟨rfl,(by repeat (first|exact Below.refl _ _|assumption|refine JF ?_ (by assumption)|refine Below.drew ?_|refine Below.alloc ?_ (by first|(simp;done)|(simp;omega)|omega) _|refine Below.setCell ?_ (by first|(simp;done)|(simp;omega)|omega) _))⟩
 · have e2:(x==2)=false:=by simpa using h2
   clear hn h2
   go_enter Tryz.func98,Tryz.ntmps98
   go_wp2
   go_ret
   exact⟨rfl,(by repeat (first|exact Below.refl _ _|assumption|refine JF ?_ (by assumption)|refine Below.drew ?_|refine Below.alloc ?_ (by first|(simp;done)|(simp;omega)|omega) _|refine Below.setCell ?_ (by first|(simp;done)|(simp;omega)|omega) _))⟩
theorem QFl (pl c d m le sk x y z p q:Int)(f:Value)(w:World)(ht:TextTabs w)(hy:0≤y∧y≤7)(hz:0≤z∧z≤7)(hq:0≤q∧q≤1) :
 Calls Tryz.prog 98 #[QE0 pl c d m le sk x y z p q f] w fun e w'=>e=.returned (.string (sb (ZJ x y z q)))∧Below w.heap.size w w':=by
 by_cases h1:x=1
 · subst h1
   exact QFg pl c d m le sk y z p q f w ht hy hz hq
 · by_cases h2:x=2∧z < 4∧4≤y
   · have h:=QFj pl c d m le sk p q f w ht ⟨z.toNat,by omega⟩ ⟨(y-4).toNat,by omega⟩
     simp only at h
     rw[show (((y-4).toNat+4:Nat):Int)=y by omega,show ((z.toNat:Nat):Int)=z by omega] at h
     rw[h2.1]
     exact h
   · exact QFT pl c d m le sk x y z p q f w h1 h2
theorem QNt (pl c d m le sk x y z p q:Int)(f:Value)(w:World)(ht:TextTabs w)(hy:0≤y∧y≤7)(hz:0≤z∧z≤7)(hp:0≤p∧p≤3)(hq:0≤q∧q≤1) :
 Calls Tryz.prog 97 #[QE0 pl c d m le sk x y z p q f] w fun e w'=>e=.returned (.string (sb (QPz x y z p q)))∧Below w.heap.size w w':=by
 go_enter Tryz.func97,Tryz.ntmps97
 go_wp2_with (first
  | (go_at_call 121;refine (QLK _ _ _ _ _ _ _ _ _ _ _ _ _ (ht.alloc _) (by assumption) (by assumption) (by assumption)).mono ?_;rintro e w' ⟨rfl,hb⟩;have hsz:=hb.size)
  | (go_at_call 122;refine (QNS _ _ _ _ _ _ _ _ _ _ _ _ _ (ht.alloc _) (by assumption) (by assumption) (by assumption) (by assumption)).mono ?_;rintro e w' ⟨rfl,hb⟩;have hsz:=hb.size))
 all_goals
  go_ret
  refine⟨j9 ?_,(by repeat (first|exact Below.refl _ _|assumption|refine JF ?_ (by assumption)|refine Below.drew ?_|refine Below.alloc ?_ (by first|(simp;done)|(simp;omega)|omega) _|refine Below.setCell ?_ (by first|(simp;done)|(simp;omega)|omega) _))⟩
  (try simp only[beq_iff_eq,beq_eq_false_iff_ne,ne_eq] at *)
  simp only[QPz]
  (try simp[*])
  (try rfl)
theorem QNJ (pl c d m le sk x y z p q:Int)(f:Value)(w:World)(ht:TextTabs w)(hx:0≤x∧x≤3)(hy:0≤y∧y≤7)(hz:0≤z∧z≤7)(hp:0≤p∧p≤3)(hq:0≤q∧q≤1) :
 Calls Tryz.prog 63 #[QE0 pl c d m le sk x y z p q f] w fun e w'=>e=.returned (.string (sb (X2 pl x y z p q)))∧Below w.heap.size w w':=by
 have hs:=QDN x
 have t1:=fun o=>JI w o (ht.onBits.of QJT x hx.1 (by simp[onBitsF];omega))
 go_enter Tryz.func63,Tryz.ntmps63
 go_wp2_with (first
  | (go_at_call 97;refine (QNt _ _ _ _ _ _ _ _ _ _ _ _ _ (ht.alloc _) (by assumption) (by assumption) (by assumption) (by assumption)).mono ?_;rintro e w' ⟨rfl,hb⟩;have hsz:=hb.size)
  | (go_at_call 98;refine (QFl _ _ _ _ _ _ _ _ _ _ _ _ _ (ht.alloc _) (by assumption) (by assumption) (by assumption)).mono ?_;rintro e w' ⟨rfl,hb⟩;have hsz:=hb.size)
  | (go_at_call 99;refine (QMU _ _ _ _ _ _ _ _ _ _ _ _ _ (ht.alloc _) (by assumption)).mono ?_;rintro e w' ⟨rfl,hb⟩;have hsz:=hb.size))
 all_goals
  go_ret
  refine⟨j9 ?_,(by repeat (first|exact Below.refl _ _|assumption|refine JF ?_ (by assumption)|refine Below.drew ?_|refine Below.alloc ?_ (by first|(simp;done)|(simp;omega)|omega) _|refine Below.setCell ?_ (by first|(simp;done)|(simp;omega)|omega) _))⟩
  (try simp only[beq_iff_eq,beq_eq_false_iff_ne,ne_eq] at *)
  simp only[X2]
  (try simp only[show (⟨#[83]⟩:ByteArray)=sb [83] from rfl,QO0])
  (try simp[*])
  (try rfl)
end Go.Proofs.YtmgcgiecimnncaaGreatDoor
