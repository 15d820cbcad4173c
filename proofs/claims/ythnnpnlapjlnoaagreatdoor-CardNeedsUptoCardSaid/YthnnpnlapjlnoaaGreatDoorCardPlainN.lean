/-
  PLAIN LAWS FOR CardNeeds: a right card without its FN lines is none, nor one with a second line of those that may be there once, or with a frame's line.
-/
import Derived.Test.YthnnpnlapjlnoaaGreatDoorMg23
set_option linter.unusedVariables false
namespace Go.Proofs.YthnnpnlapjlnoaaGreatDoor.Ca
open Li (LD PD chk pr)

theorem checkE_wrong {Ls : List LD} (h : ∀ L ∈ Ls, chk L = 0) (hr : rightB Ls ≠ true) : checkE Ls = 50 := by rw [checkE_ok h, if_neg hr]
/-- the lines that are no FN -/
def noFN (Ls : List LD) : List LD := Ls.filter fun L => decide (Ch.up L.name ≠ kFN)
theorem noFN_wrong {Ls : List LD} (h : checkE Ls = 0) : checkE (noFN Ls) = 50 := by
  obtain ⟨h1, h2⟩ := checkE_zero.1 h
  refine checkE_wrong (fun L hL => h1 L (List.mem_filter.1 hL).1) (fun hr => ?_)
  have h3 := ((right_iff _).1 hr).2.2
  obtain ⟨M, hM, e⟩ := List.mem_map.1 (List.count_pos_iff.1 h3)
  have := (List.mem_filter.1 hM).2
  simp [e] at this
theorem noFN_snoc (Ls : List LD) (k : Nat) (L : LD) (h : Ls[k]? = some L) : noFN (Ls.take (k + 1)) = if Ch.up L.name = kFN then noFN (Ls.take k) else noFN (Ls.take k) ++ [L] := by
  have hk := (List.getElem?_eq_some_iff.1 h).1
  have e : Ls.take (k + 1) = Ls.take k ++ [L] := by rw [List.take_succ_eq_append_getElem hk, (List.getElem?_eq_some_iff.1 h).2]
  unfold noFN
  rw [e, List.filter_append]
  by_cases c : Ch.up L.name = kFN
  · rw [if_pos c]; simp [c]
  · rw [if_neg c]; simp [c]
theorem noFN_pr (Ls : List LD) : prsum (noFN Ls) ≤ prsum Ls := by
  unfold prsum noFN
  induction Ls with
  | nil => simp
  | cons L Ls ih =>
    rw [List.filter_cons]
    split
    · simp only [List.map_cons, List.sum_cons]; omega
    · simp only [List.map_cons, List.sum_cons]; omega
/-- a line of a name and a value alone -/
def bare (n v : Row) : LD := ⟨[], n, [], v⟩
def once5 : List (Row × Row) := [([85, 73, 68], [117]), ([75, 73, 78, 68], [103, 114, 111, 117, 112]), ([66, 68, 65, 89], [120]), ([82, 69, 86], [120]), ([78], [59, 59, 59, 59])]
def bad3 : List Row := [[66, 69, 71, 73, 78], [101, 110, 100], [86, 101, 114, 115, 105, 111, 110]]
def v40 : Row := [52, 46, 48]
theorem once_chk : ∀ p ∈ once5, chk (bare p.1 p.2) = 0 := by decide +kernel
theorem bad_chk : ∀ n ∈ bad3, chk (bare n v40) = 0 := by decide +kernel
theorem names_app (Ls Ms : List LD) : namesL (Ls ++ Ms) = namesL Ls ++ namesL Ms := List.map_append
theorem once_wrong {Ls : List LD} (h : checkE Ls = 0) {p : Row × Row} (hp : p ∈ once5) : checkE (Ls ++ [bare p.1 p.2, bare p.1 p.2]) = 50 := by
  obtain ⟨h1, h2⟩ := checkE_zero.1 h
  refine checkE_wrong (fun L hL => ?_) (fun hr => ?_)
  · rcases List.mem_append.1 hL with hL | hL
    · exact h1 L hL
    · have e : L = bare p.1 p.2 := by simpa using hL
      rw [e]; exact once_chk p hp
  · have hf := ((right_iff _).1 hr).2.1
    rw [names_app] at hf
    have e : namesL [bare p.1 p.2, bare p.1 p.2] = [Ch.up p.1, Ch.up p.1] := rfl
    rw [e] at hf
    have key : few [Ch.up p.1, Ch.up p.1] := by
      obtain ⟨a1, a2, a3, a4, a5, a6, a7, a8⟩ := hf
      simp only [List.count_append] at a1 a2 a3 a4 a5 a6 a7 a8
      exact ⟨by omega, by omega, by omega, by omega, by omega, by omega, by omega, by omega⟩
    have no : ∀ p ∈ once5, ¬ few [Ch.up p.1, Ch.up p.1] := by unfold few; decide +kernel
    exact no p hp key
theorem bad_wrong {Ls : List LD} (h : checkE Ls = 0) {n : Row} (hn : n ∈ bad3) : checkE (Ls ++ [bare n v40]) = 50 := by
  obtain ⟨h1, h2⟩ := checkE_zero.1 h
  refine checkE_wrong (fun L hL => ?_) (fun hr => ?_)
  · rcases List.mem_append.1 hL with hL | hL
    · exact h1 L hL
    · have e : L = bare n v40 := by simpa using hL
      rw [e]; exact bad_chk n hn
  · have hf := ((right_iff _).1 hr).2.1
    rw [names_app] at hf
    have e : namesL [bare n v40] = [Ch.up n] := rfl
    rw [e] at hf
    have key : few [Ch.up n] := by
      obtain ⟨a1, a2, a3, a4, a5, a6, a7, a8⟩ := hf
      simp only [List.count_append] at a1 a2 a3 a4 a5 a6 a7 a8
      exact ⟨by omega, by omega, by omega, by omega, by omega, by omega, by omega, by omega⟩
    have no : ∀ n ∈ bad3, ¬ few [Ch.up n] := by unfold few; decide +kernel
    exact no n hn key
theorem bare_pr (n v : Row) : (pr (bare n v)).length = n.length + 1 + v.length := by
  unfold Li.pr bare
  simp [Li.wprms]
  omega
end Go.Proofs.YthnnpnlapjlnoaaGreatDoor.Ca
