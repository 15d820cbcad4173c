/-
  THE WALK OF calepinlaw16.first; parts as arguments.
-/
import Derived.Test.YtpngbfmbjldieaaCrcCodeB
import Derived.Test.YtpngbfmbjldieaaCrcRef
import Derived.Lib.SlBytesConst
set_option linter.unusedVariables false
namespace Go.Proofs.Ytpngbfmbjldieaa.Cr
open Go.Lib Go.RowKit
open Bo (Row)
open Ly (BtsAt)

/-- a row of parts that was just built -/
theorem pts_new (w : World) (t : TypeId) (vs : List Value) (ls : List Row) (n : Nat) (hn : vs.length = n) (hm : n ≤ maxLen) (cs : Array Value) (hc : cs = vs.toArray) (hl : vs.length = ls.length) (ha : ∀ (j : Nat) u l, vs[j]? = some u → ls[j]? = some l → BtsAt w u l) : PtsAt (w.alloc (.cells cs t)) (.slice (some ⟨w.heap.size, 0, none⟩) n n) vs ls := by
  subst hc
  have hb : Below w.heap.size w (w.alloc (.cells vs.toArray t)) := (Below.refl _ _).alloc (Nat.le_refl _) _
  have hnew := heap_alloc_new w (.cells vs.toArray t)
  refine ⟨hl, ⟨_, w.heap.size, 0, n, by rw [← hn], by omega, hm, fun _ => ⟨rfl, (Array.getElem?_eq_some_iff.1 hnew).1⟩, fun j p hj q u hu => ?_⟩, fun j u l hu hll => (ha j u l hu hll).kept hb⟩
  match q, hu with
  | 0, hu =>
    simp at hu
    subst hu
    rw [Nat.mul_one, Nat.add_zero, Nat.zero_add, Lib.cell_of_heap hnew]
    simpa using hj
  | q + 1, hu => simp at hu
/-- bytes that were just built -/
theorem row_bts (w : World) (t : TypeId) (fr : Nat × Nat) (l : Row) (n : Nat) (hn : l.length = n) (hm : n ≤ maxLen) : BtsAt (w.alloc (.cells (l.map fun b => Value.int .u8 (b.toNat : Int)).toArray t fr)) (.slice (some ⟨w.heap.size, 0, none⟩) n n) l := by
  have hnew := heap_alloc_new w (.cells (l.map fun b => Value.int .u8 (b.toNat : Int)).toArray t fr)
  refine ⟨_, w.heap.size, 0, n, by rw [← hn], by omega, hm, fun _ => ⟨rfl, (Array.getElem?_eq_some_iff.1 hnew).1⟩, fun j p hj q u hu => ?_⟩
  match q, hu with
  | 0, hu =>
    have hu' : Value.int .u8 (p.toNat : Int) = u := by simpa [Ly.encB] using hu
    rw [← hu', Nat.mul_one, Nat.add_zero, Nat.zero_add, Lib.cell_of_heap hnew]
    simp [hj]
  | q + 1, hu => simp [Ly.encB] at hu
theorem pts_nil (w : World) : PtsAt w (.slice none 0 0) [] [] := ⟨rfl, Cd.RowsAt.nil w, fun j u l h => by simp at h⟩
set_option maxHeartbeats 4000000 in
set_option maxRecDepth 100000 in
theorem first_any (w : World) : Calls Try.prog 22 #[] w fun e w' => e = .returned (.bool true) ∧ Below w.heap.size w w' := by
  have kc := fun (w : World) (C : Array Value) (n c : Nat) => Lib.run_convert_bytes_const (P := Try.prog) w 22 5 C n c Try.underlying22 Try.underlying5
  obtain ⟨w1, hw1⟩ : ∃ w1, w.alloc (.cells #[.int .u8 49, .int .u8 50, .int .u8 51, .int .u8 52, .int .u8 53, .int .u8 54, .int .u8 55, .int .u8 56, .int .u8 57] 5 (9, 10)) = w1 := ⟨_, rfl⟩
  have pD : BtsAt w1 (.slice (some ⟨w.heap.size, 0, none⟩) 9 9) [49, 50, 51, 52, 53, 54, 55, 56, 57] := by rw [← hw1]; exact row_bts w 5 (9, 10) [49, 50, 51, 52, 53, 54, 55, 56, 57] 9 rfl (by decide)
  have hb1 : Below w.heap.size w w1 := by rw [← hw1]; exact (Below.refl _ _).alloc (Nat.le_refl _) _
  have hs1 : w1.heap.size = w.heap.size + 1 := by rw [← hw1]; exact size_alloc _ _
  have cS := sum_any (w1.alloc (.cells #[.slice (some ⟨w.heap.size, 0, none⟩) 9 9] 22)) _ _ _ (pts_new w1 22 [.slice (some ⟨w.heap.size, 0, none⟩) 9 9] [[49, 50, 51, 52, 53, 54, 55, 56, 57]] 1 rfl (by decide) _ rfl rfl (fun j u l h1 h2 => by
    match j, h1, h2 with
    | 0, h1, h2 => simp at h1 h2; subst h1 h2; exact pD
    | j + 1, h1, h2 => simp at h1))
  rw [show ([[49, 50, 51, 52, 53, 54, 55, 56, 57]] : List Row).flatten = [49, 50, 51, 52, 53, 54, 55, 56, 57] from rfl, sum_digits, hs1] at cS
  have hb2 : Below w.heap.size w (w1.alloc (.cells #[.slice (some ⟨w.heap.size, 0, none⟩) 9 9] 22)) := hb1.alloc hb1.size _
  have hb2' := Lib.hid hb2
  clear pD hb1 hb2
  go_enter Try.func22, Try.ntmps22
  go_wp2_with fail
  go_at_call 24
  refine cS.mono ?_
  rintro e w3 ⟨rfl, hb3⟩
  have hb4 := Lib.hid (hb2'.out.trans (hb3.mono hb2'.out.size))
  have cN := sum_any w3 _ _ _ (pts_nil w3)
  rw [show ([] : List Row).flatten = [] from rfl, sum_nil] at cN
  clear cS hb3
  go_wp2_with fail
  go_at_call 24
  refine cN.mono ?_
  rintro e w5 ⟨rfl, hb5⟩
  have hb6 := Lib.hid (hb4.out.trans (hb5.mono hb4.out.size))
  clear cN hb5
  go_wp2
  go_ret
  exact ⟨rfl, hb6.out⟩
end Go.Proofs.Ytpngbfmbjldieaa.Cr
