import Derived.Test.YthnnpnlapjlnoaaGreatDoorMg19
import Derived.Test.YthnnpnlapjlnoaaGreatDoorMg22
import Derived.Deep.RegionWith
import Derived.Test.YthnnpnlapjlnoaaGreatDoorMg12

/-
  THE WALK OF THE LAW CardSame.
-/
set_option linter.unusedVariables false
namespace Go.Proofs.YthnnpnlapjlnoaaGreatDoor.Ca
open Go.Lib Go.RowKit
open Li (LD PD sv LineAt PrmsAt chk pr)

theorem low_sv {l : Row} {x : ByteArray} (h : sv l = .string x) (w : World) (hs : l.length ≤ 281474976710656) :
    Calls Tryz.prog 20 #[.string x] w fun e w' => e = .returned (sv (Ch.low l)) ∧ Below w.heap.size w w' := by
  have hx : x.data.toList = l := sv_size h
  have := Ch.refLower_any x w (by rw [Lib.size_eq, hx]; exact hs)
  rw [hx] at this
  exact this

theorem lnF_pr : ∀ (rows : List Row) (acc : List LD), prsum (lnF acc rows).2 ≤ prsum acc + 3 * Fo.tot rows
  | [], acc => by
    have e : (lnF acc []).2 = acc := rfl
    rw [e]; omega
  | r :: rs, acc => by
    have ht : Fo.tot (r :: rs) = r.length + 1 + Fo.tot rs := by unfold Fo.tot; simp
    cases h : Li.parse r with
    | bad n =>
      rw [lnF_bad h]
      simp [prsum]
    | ok L =>
      rw [lnF_ok h]
      have h1 := lnF_pr rs (acc ++ [L])
      have h2 := Li.parse_len h
      have h3 : prsum (acc ++ [L]) = prsum acc + ((pr L).length + 1) := by unfold prsum; simp
      omega
theorem pcard_pr (t : Row) : prsum (pcard t).2 ≤ 196608 := by
  have h0 : prsum [] = 0 := rfl
  unfold pcard
  by_cases h1 : 65536 < t.length
  · rw [if_pos h1]; simp [h0]
  · rw [if_neg h1]
    by_cases h2 : Ch.valid t = true
    · rw [if_pos h2]
      cases hr : Fo.R [] t with
      | none => simp [pcR, h0]
      | some rows =>
        have ht := Fo.R_tot t rows hr
        have hl := lnF_pr rows []
        have hm := prsum_sub (Ls := (lnF [] rows).2)
        show prsum (pc2 (lnF [] rows)).2 ≤ _
        unfold pc2
        split
        · split
          · show prsum (midL _) ≤ _; omega
          · simp [h0]
        · simp [h0]
    · rw [if_neg h2]; simp [h0]
theorem canonP_pr (Ms : List LD) : prsum (canonP Ms) ≤ 2 * prsum Ms := by
  unfold canonP
  by_cases h : codeP Ms = 0
  · rw [if_pos h]
    have hc : checkE Ms = 0 := by
      rcases Nat.eq_zero_or_pos (checkE Ms) with h1 | h1
      · exact h1
      · rw [codeP_bad (by omega)] at h; omega
    exact prsum_canC hc
  · rw [if_neg h]; simp [prsum]
theorem canonP_again {Ms : List LD} (h : codeP Ms = 0) : codeP (canonP Ms) = 0 ∧ textP (canonP Ms) = textP Ms := by
  have hc : checkE Ms = 0 := by
    rcases Nat.eq_zero_or_pos (checkE Ms) with h1 | h1
    · exact h1
    · rw [codeP_bad (by omega)] at h; omega
  have hl : ¬ 65536 < (cardT (canC Ms)).length := fun hl => by rw [codeP_long hc hl] at h; cases h
  have e : canonP Ms = canC Ms := if_pos h
  have h1 := canC_check hc
  have h2 := canC_again hc
  have h3 : codeP (canC Ms) = 0 := codeP_ok h1 (by rw [h2]; omega)
  rw [e]
  refine ⟨h3, ?_⟩
  unfold textP
  rw [if_pos h3, if_pos h, h2]
theorem bytes_of {x y : ByteArray} {l : Row} (h : x.data.toList = l) (h' : y.data.toList = l) : x = y := by
  rw [← Lib.mk_data x, ← Lib.mk_data y, h, h']
end Go.Proofs.YthnnpnlapjlnoaaGreatDoor.Ca

/-
  THE LAST STEP of a row whose call left all that there was (for cards).
-/
set_option linter.unusedVariables false
namespace Go.Proofs.YthnnpnlapjlnoaaGreatDoor.La
open Go.Lib Go.RowKit Go.Shelf Go.ChangeShapes Go.WideShapes Go.ChangeAt Li

/-- the last step of a row whose call left all that there was -/
theorem post_left {P : Program} {f : Func} {s : OpenSpec} {F : Stop.Interp} {apart fresh handsOn again : Bool} {H : Type} {enc : TypeId × Value → H} {W W' : World} {args : Array Value} {v : Value} {ds gs : List (DataW H)} {before pa pv : List MemPlace}
    (hW : DataW.Whole enc P f.params.toList s.vars apart W args.toList ds gs before)
    (hres : ∀ (b : Nat) (sp : Nat → Bool) (hd : Bool), DataW.TrodAll enc P W' b sp hd f.resultTypes.toList (v.resultList f.resultTypes.size) ((s.at F).fn H (ds ++ gs)).results [])
    (hargs : DataW.TrodAll enc P W' 0 (fun b => decide (b < W.heap.size)) true f.params.toList args.toList ((s.at F).fn H (ds ++ gs)).args pa)
    (hvars : DataW.TrodVars enc P W' (fun b => decide (b < W.heap.size)) s.vars ((s.at F).fn H (ds ++ gs)).vars pv)
    (hps : before = pa ++ pv) (hb : Below W.heap.size W W') (hag : again = false) :
    (s.at F).post enc P f apart fresh handsOn again W args v W' := by
  subst hag
  have hsp : (fun b => decide (b < W.heap.size)) = (fun b => decide (b < W.heap.size)) := rfl
  exact ⟨ds, gs, before, [], pa, pv, hW, hres _ _ _, hargs, hvars, World.keptBut_mono (fun p hp => ⟨hp, by rw [hps, List.mem_append] at hp; exact Or.inr hp⟩) (hb.frame (· ∈ before)), fun h => by cases h⟩
end Go.Proofs.YthnnpnlapjlnoaaGreatDoor.La
