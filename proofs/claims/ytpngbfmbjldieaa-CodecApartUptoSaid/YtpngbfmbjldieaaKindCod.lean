/-
  A PARAMETER OF TYPE api.Command, TOLD IN THE CODEC's WORDS.
-/
import Derived.Test.YtpngbfmbjldieaaKindCmd
import Derived.Test.YtpngbfmbjldieaaCodMem
set_option linter.unusedVariables false
namespace Go.Proofs.Ytpngbfmbjldieaa.Kc
open Go.Lib Go.RowKit Cd
open Bo (Row sv sv_data)

def comOf (c : Cm) : Com := ⟨c.op, c.bk.data.toList, c.nm.data.toList, c.dt.data.toList, c.mt.data.toList, c.nn.data.toList, c.tk.data.toList, c.names, c.pos, c.ses, c.seq⟩
theorem com_is (c : Cm) (nv : Value) : (.agg (cells c nv).toArray : Value) = comV (comOf c) nv := by
  unfold cells comV comC comOf
  simp only [sv_data]
theorem flat_text (xs : List Row) : flatN Ly.text xs ≤ 8 * szN xs := by
  unfold flatN szN
  induction xs with
  | nil => simp
  | cons x r ih =>
    rw [List.map_cons, List.flatten_cons, List.length_append, text_len, List.map_cons, List.sum_cons]
    omega
theorem com_len {c : Cm} (h : c.sz ≤ 1048576) : 88 + (comOf c).book.length + (comOf c).name.length + (comOf c).data.length + (comOf c).mat.length + (comOf c).non.length + (comOf c).tok.length + flatN Ly.text (comOf c).names ≤ 16777216 := by
  have hf := flat_text c.names
  unfold Cm.sz at h
  show 88 + c.bk.data.toList.length + c.nm.data.toList.length + c.dt.data.toList.length + c.mt.data.toList.length + c.nn.data.toList.length + c.tk.data.toList.length + flatN Ly.text c.names ≤ _
  rw [← Lib.size_eq, ← Lib.size_eq, ← Lib.size_eq, ← Lib.size_eq, ← Lib.size_eq, ← Lib.size_eq]
  omega
theorem is_64 {z : Int} (h : i64 z) : is64 z := by
  unfold i64 at h
  unfold is64
  omega
theorem com_ok {c : Cm} (h : c.sz ≤ 1048576) (w : c.Wf) : okCom (comOf c) := by
  have hl := com_len h
  have hn := len_flat text_pos (comOf c).names
  refine ⟨is_64 w.op, ?_, ?_, ?_, ?_, ?_, ?_, ⟨?_, fun x hx => ?_⟩, is_64 w.pos, is_64 w.ses, is_64 w.seq⟩
  case refine_8 =>
    have := szN_mem (l := c.names) hx
    unfold Cm.sz at h
    unfold isT isC
    omega
  all_goals
    first | (unfold isT isC; omega) | (unfold isC; omega)
end Go.Proofs.Ytpngbfmbjldieaa.Kc
