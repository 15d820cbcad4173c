/-
  THE WALK OF 'first' OF LAYER line.
-/
import Derived.Test.YthkcjfoihieooaaDoorLineParse
set_option linter.unusedVariables false
namespace Go.Proofs.YthkcjfoihieooaaDoor.Li
open Go.Lib Go.RowKit Bu

def firstS : ByteArray := ⟨#[97, 46, 84, 69, 76, 59, 84, 89, 80, 69, 61, 104, 111, 109, 101, 44, 34, 120, 44, 121, 34, 58, 43, 49]⟩
def firstL : LD := ⟨[97], [84, 69, 76], [⟨[84, 89, 80, 69], [[104, 111, 109, 101], [120, 44, 121]]⟩], [43, 49]⟩
theorem first_parse : parse firstS.data.toList = .ok firstL := by kernel_rfl
theorem first_parse2 : parse (⟨#[58, 49]⟩ : ByteArray).data.toList = .bad 30 := by kernel_rfl

theorem nameIs (s : ByteArray) (v : Bool) (hs : s.size ≤ 9223372036854775807) (h : nameB s.data.toList = v) (w : World) : Calls Tryd.prog 12 #[.string s] w fun e w' => e = .returned (.bool v) ∧ Below w.heap.size w w' := by
  have := name_any s w hs
  rwa [h] at this

set_option maxHeartbeats 4000000 in
set_option maxRecDepth 100000 in
theorem first_any (w : World) (hT : Ch.Tabs w) : Calls Tryd.prog 8 #[] w fun e w' => e = .returned (.bool true) ∧ Below w.heap.size w w' := by
  have hT' := Lib.hid hT
  clear hT
  have n1 := nameIs ⟨#[65, 45, 49]⟩ true (by decide) (by kernel_rfl)
  have n2 := nameIs ⟨#[65, 32, 98]⟩ false (by decide) (by kernel_rfl)
  go_enter Tryd.func8, Tryd.ntmps8
  go_wp2_with fail
  go_at_call 9
  refine (parse_any firstS w hT'.out (by decide)).mono ?_
  rintro e w1 ⟨hP, hb1⟩
  rcases hP with ⟨n, h, _, _, _⟩ | ⟨L, v, h, rfl, hown⟩
  · rw [first_parse] at h; cases h
  · rw [first_parse] at h
    obtain rfl := LR.ok.inj h
    clear h
    obtain ⟨pv, rfl, A, b, off, c, rfl, hc1, hc2, hA, hP⟩ := hown.at
    obtain ⟨hA1, hbl⟩ := hA (by decide)
    subst hA1
    obtain ⟨p1, u, p2, A2, b2, o2, c2, rfl, _⟩ := hP 0 _ rfl
    rw [show firstL.params.length = 1 from rfl, show sv firstL.group = .string ⟨#[97]⟩ from rfl, show sv firstL.name = .string ⟨#[84, 69, 76]⟩ from rfl, show sv firstL.value = .string ⟨#[43, 49]⟩ from rfl]
    rw [show (⟨[84, 89, 80, 69], [[104, 111, 109, 101], [120, 44, 121]]⟩ : PD).vals.length = 2 from rfl, Nat.zero_mul, Nat.add_zero] at p2
    clear hP hA hc1 hc2 hown p1
    go_wp2_with fail
    go_at_call 9
    refine (parse_any ⟨#[58, 49]⟩ _ (Ch.tabs_below hT'.out (hb1.trans ((Below.refl _ _).alloc hb1.size _))) (by decide)).mono ?_
    rintro e w2 ⟨hP, hb0⟩
    rcases hP with ⟨n, h, _, _, rfl⟩ | ⟨L, v, h, _, _⟩
    · rw [first_parse2] at h
      obtain rfl := LR.bad.inj h
      clear h
      have hk2 : w2.heap[w1.heap.size]? = some (.cells #[.string ⟨#[97]⟩, .string ⟨#[84, 69, 76]⟩, .slice (some ⟨b, off, none⟩) 1 c, .string ⟨#[43, 49]⟩] 25 (0, 0)) := by
        rw [hb0.block w1.heap.size (by simp)]
        exact heap_alloc_new w1 _
      have hb2 : Below w1.heap.size w1 w2 := ((Below.refl _ _).alloc (Nat.le_refl _) _).trans (hb0.mono (by simp))
      have hz : w1.heap.size < w2.heap.size := by have := hb0.size; simp at this; omega
      have hB := below_then hb1 hb2
      obtain ⟨c0, c1, c2', c3, _, _, _, _⟩ := res4 hk2
      rw [← hb2.cell (p := ⟨b, off + 1, none⟩) hbl] at p2
      have hbl2 : b < w2.heap.size := by omega
      clear hk2
      go_wp2_with fail
      go_at_call 12
      refine (n1 _).mono ?_
      rintro e w3 ⟨rfl, hb3⟩
      clear n1
      go_wp2_with fail
      go_at_call 12
      refine (n2 _).mono ?_
      rintro e w4 ⟨rfl, hb4⟩
      clear n2
      go_wp2
      go_ret
      have hk : Below w2.heap.size w2 (w2.alloc (.cells #[.string ⟨#[]⟩, .string ⟨#[]⟩, .slice none 0 0, .string ⟨#[]⟩] 25)) := (Below.refl _ _).alloc (Nat.le_refl _) _
      exact ⟨rfl, below_then (below_then (below_then hB hk) hb3) hb4⟩
    · rw [first_parse2] at h; cases h
end Go.Proofs.YthkcjfoihieooaaDoor.Li
