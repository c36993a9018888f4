/- The statement 'CoreOne': for every input the law returns true, and each argument reads behind the call as it read before. The package's tables read as the program's text lays them (the card's tie). -/
import Derived.Test.YtkenebbjodcbcaaGreatDoorCoreOneProofz
namespace Go.Proofs.YtkenebbjodcbcaaGreatDoor.coreOneLaw
open Go.ChangeShapes Go.WideShapes Go.ChangeAt Go.RowKit
set_option linter.unusedVariables false
theorem plain (f:FuncId)(fn:Func)(hf:Tryz.pinned.checked.prog.funcNamed "charabanc/charabanclaw18.CoreOne"=some f)(hfn:Tryz.pinned.checked.prog.funcs[f]? = some fn) :
 true=Tryz.pinned.checked.prog.looks []∧∀ (j:Nat) t,fn.params[j]? = some t→Tryz.pinned.checked.prog.wantsStandIn t=false:=by
 obtain rfl:f=4:=Option.some.inj ((show Tryz.prog.funcNamed "charabanc/charabanclaw18.CoreOne"=some 4 by kernel_rfl).symm.trans hf) |>.symm
 obtain rfl:fn=Tryz.f4:=(Option.some.inj (Tryz.func4.symm.trans hfn)).symm
 refine⟨by kernel_rfl,fun j t ht=>?_⟩
 rw[Tryz.params4] at ht
 have hmem:=Array.mem_of_getElem? ht
 have key:∀ t∈(#[33,40,5]:Array TypeId),Tryz.prog.wantsStandIn t=false:=by
  intro t ht
  simp only[List.mem_toArray,List.mem_cons,List.not_mem_nil,or_false] at ht
  rcases ht with rfl|rfl|rfl<;>kernel_rfl
 exact key t hmem
theorem proved:Rows.CoreOneCardSaid :=
 Claim7.holds_tied_plain_at .later [] _ _ _ _ said (fun _ h=>by cases h) (by kernel_rfl) (fun _ h=>by cases h) coreOne_row_tie rfl ⟨rfl,rfl⟩ (by kernel_rfl) rfl plain (by kernel_rfl)
#print axioms proved
end Go.Proofs.YtkenebbjodcbcaaGreatDoor.coreOneLaw
