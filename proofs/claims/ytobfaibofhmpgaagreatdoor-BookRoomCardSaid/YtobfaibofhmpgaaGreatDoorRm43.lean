/- Texts brought together, and only what the theorem reaches. -/
import Derived.Test.YtobfaibofhmpgaaGreatDoorRm42
set_option linter.unusedVariables false
namespace Go.Proofs.YtobfaibofhmpgaaGreatDoor.lawBookRoom
open Go.Lib Go.RowKit Go.Shelf Go.ChangeShapes Go.WideShapes Go.ChangeAt Ch Bo
open Go.ChangeMaps (open_string shut_string)
theorem plain (f:FuncId) (fn:Func) (hf:Tryz.pinned.checked.prog.funcNamed Rows.bookRoomRow.func=some f) (hfn:Tryz.pinned.checked.prog.funcs[f]?=some fn) :
    false=Tryz.pinned.checked.prog.looks []∧∀ (j:Nat) t,fn.params[j]?=some t→Tryz.pinned.checked.prog.wantsStandIn t=false:=by
  obtain rfl:f=6:=Option.some.inj ((show Tryz.prog.funcNamed Rows.bookRoomRow.func=some 6 by kernel_rfl).symm.trans hf) |>.symm
  obtain rfl:fn=Tryz.f6:=(Option.some.inj (Tryz.func6.symm.trans hfn)).symm
  refine ⟨by kernel_rfl,fun j t ht=>?_⟩
  rw [Tryz.params6] at ht
  obtain rfl:t=3:=by simpa using Array.mem_of_getElem? ht
  exact (show Tryz.prog.wantsStandIn 3=false by kernel_rfl)
theorem card:Rows.BookRoomCardSaid :=
  Claim7.holds_tied_plain_at .later [] _ _ _ _ said (fun _ h=>by cases h) (by kernel_rfl) (fun _ h=>by cases h) bookRoom_row_tie rfl ⟨rfl,rfl⟩ (by kernel_rfl) rfl plain (by kernel_rfl)
end Go.Proofs.YtobfaibofhmpgaaGreatDoor.lawBookRoom
