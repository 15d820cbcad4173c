/-
  A WRITER IN MEMORY: the walks of Text, Flag; rows that stay while more is laid ('RowsAt.wn').
-/
import Derived.Test.YtpngbfmbjldieaaWrtA
set_option linter.unusedVariables false
namespace Go.Proofs.Ytpngbfmbjldieaa.Ly
open Go.Lib Go.RowKit
open Bo (Kp Row ownsRow_heap sv sv_data)
open Cd (wrd wrd_len RowsAt text_len)

/-- a row that lies neither in the writer nor in its bytes -/
def Apart (wb : Nat) (v av : Value) : Prop := ∀ nb off n c, av = .slice (some ⟨nb, off, none⟩) n c → nb ≠ wb ∧ v.ownBlock ≠ some nb
theorem Apart.low {wb B : Nat} {v av : Value} {l : Row} {w : World} (h : WAt B wb v l w) (hw : B ≤ wb) (ha : ∀ nb off n c, av = .slice (some ⟨nb, off, none⟩) n c → nb < B) : Apart wb v av := fun nb off n c e => by
  have := ha nb off n c e
  refine ⟨by omega, fun e2 => ?_⟩
  have := (World.ownsRow.lt h.own nb e2).1
  omega
/-- a row that was made behind -/
theorem Apart.new {wb B : Nat} {v av : Value} {l : Row} {w : World} (h : WAt B wb v l w) (ha : ∀ nb off n c, av = .slice (some ⟨nb, off, none⟩) n c → w.heap.size ≤ nb) : Apart wb v av := fun nb off n c e => by
  have h1 := ha nb off n c e
  have h2 := h.lt
  refine ⟨by omega, fun e2 => ?_⟩
  have := (World.ownsRow.lt h.own nb e2).2
  omega
theorem _root_.Go.Proofs.Ytpngbfmbjldieaa.Cd.RowsAt.wn {α : Type} {size : Nat} {enc : α → List Value} {B wb : Nat} {w w' : World} {v v' av : Value} {l : Row} {xs : List α} (h : RowsAt size enc w av xs) (hW : Wn B wb w w' v v' l) (ha : 0 < xs.length → Apart wb v av) : RowsAt size enc w' av xs := by
  obtain ⟨A, b, off, c, h1, h2, h3, h4, h5⟩ := h
  refine ⟨A, b, off, c, h1, h2, h3, fun hl => ⟨(h4 hl).1, Nat.lt_of_lt_of_le (h4 hl).2 hW.size⟩, fun j x hj q u hu => ?_⟩
  have hl : 0 < xs.length := by have := (List.getElem?_eq_some_iff.1 hj).1; omega
  obtain ⟨hA, hlt⟩ := h4 hl
  have hap := ha hl b off _ _ (by rw [h1, hA])
  have e : w'.cell? ⟨b, off + j * size + q, none⟩ = w.cell? ⟨b, off + j * size + q, none⟩ := by simp [World.cell?, hW.block hlt hap.1 hap.2]
  rw [e]
  exact h5 j x hj q u hu

set_option maxHeartbeats 8000000 in
set_option maxRecDepth 100000 in
theorem textW_any (w : World) (B wb : Nat) (v : Value) (l t : Row) (h : WAt B wb v l w) (hl : l.length + (8 + t.length) ≤ 140737488355328) (hB : B ≤ w.heap.size) :
    Calls Try.prog 57 #[rp wb, sv t] w fun e w' => e = .returned (.tuple #[]) ∧ ∃ v', Wn B wb w w' v v' (l ++ text t) := by
  unfold sv
  obtain ⟨b, hb⟩ : ∃ b : ByteArray, (⟨t.toArray⟩ : ByteArray) = b := ⟨_, rfl⟩
  have hbt : b.data.toList = t := by rw [← hb]
  have hbs : b.size = t.length := by rw [← hb]; show t.toArray.size = _; exact List.size_toArray
  rw [hb]
  have cN := numberW_any w B wb v l (b.size : Int) h (by omega) hB
  rw [Cd.wrd_nat (by omega)] at cN
  have hR := Lib.hid (show (l ++ word b.size) ++ b.data.toList = l ++ text t by unfold text; rw [hbt, hbs, List.append_assoc])
  have hlb : l.length + (8 + b.size) ≤ 140737488355328 := by omega
  clear hb hbt hbs hl
  go_enter Try.func57, Try.ntmps57
  go_wp2_with fail
  go_at_call 43
  refine cN.mono ?_
  rintro e w1 ⟨rfl, v1, h1⟩
  obtain ⟨x, hx⟩ : ∃ x, l ++ word b.size = x := ⟨_, rfl⟩
  rw [hx] at h1 hR
  have hxl : x.length + b.size ≤ 140737488355328 := by rw [← hx, List.length_append, word_len]; omega
  have hsz : B ≤ w1.heap.size := Nat.le_trans hB h1.size
  obtain ⟨a1, c1, rfl⟩ := h1.at_.own.form
  have k1 := Lib.cell_of_heap h1.at_.cell 0
  have hst := Lib.hid (fun w2 v2 (hw : Wr B w1 w2 (.slice a1 x.length c1) v2 (x ++ b.data.toList)) => And.intro (And.intro (Lib.cell_of_heap ((hw.block h1.at_.lt h1.at_.ne).trans h1.at_.cell) 0) (Lib.frozen_of_heap ((hw.block h1.at_.lt h1.at_.ne).trans h1.at_.cell) 0)) (h1.then (Wr.store hw h1.at_)))
  have hown := Lib.hid h1.at_.own
  clear cN hx h1 hlb
  go_wp2_with (first
    | (at_builtin; refine append_text b rfl _ _ rfl B _ x rfl rfl hown.out hxl hsz ?_; intro v2 w2 hw2; have hf : w2.frozen? ⟨wb, 0, none⟩ = false := (hst.out w2 v2 hw2).1.2; have hc : w2.cell? ⟨wb, 0, none⟩ = some (.slice a1 x.length c1) := (hst.out w2 v2 hw2).1.1; have hW2 := Lib.hid (hst.out w2 v2 hw2).2; obtain ⟨a2, n2, c2, rfl⟩ : ∃ a n c, v2 = .slice a n c := by { obtain ⟨a, c, e⟩ := hw2.own.form; exact ⟨_, _, _, e⟩ })
    | fail)
  clear hw2
  go_wp2
  go_end0
  exact ⟨rfl, _, by rw [← hR.out]; exact hW2.out⟩

end Go.Proofs.Ytpngbfmbjldieaa.Ly
