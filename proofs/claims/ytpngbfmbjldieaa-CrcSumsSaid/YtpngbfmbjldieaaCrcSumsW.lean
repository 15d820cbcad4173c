/-
  CrcSums: what the sum of every bytes is, however they are parted. (Written by tools/gencrcs.py.)
-/
import Derived.Test.YtpngbfmbjldieaaCrcBurstsW
import Derived.Test.YtpngbfmbjldieaaRegHeld
import Derived.Deep.CutRange
set_option linter.unusedVariables false
namespace Go.Proofs.Ytpngbfmbjldieaa.Cr
open Go.Lib Go.RowKit
open Bo (Row)
open Ly (BtsAt)

/-- the bytes behind a cut -/
theorem bts_drop {w : World} {A : Option Addr} {c k : Nat} {l : Row} (h : BtsAt w (.slice A l.length c) l) (hk : k ≤ l.length) : BtsAt w (.slice (if c = k then A else A.map fun a => a.add k) (l.length - k) (c - k)) (l.drop k) := by
  obtain ⟨A', b, off, c', h1, h2, h3, h4, h5⟩ := h
  injection h1 with h1 _ h6
  subst h1 h6
  have hl : (l.drop k).length = l.length - k := List.length_drop
  refine ⟨_, b, off + k, _, by rw [hl], by omega, by omega, fun h0 => ?_, fun j p hj q u hu => ?_⟩
  · obtain ⟨e, hlt⟩ := h4 (by omega)
    refine ⟨?_, hlt⟩
    rw [if_neg (by omega), e]
    show some ((⟨b, off, none⟩ : Addr).add k) = _
    congr 1
    unfold Addr.add
    split <;> simp_all
  · have := h5 (k + j) p (by rw [List.getElem?_drop] at hj; exact hj) q u hu
    rw [show off + k + j * 1 + q = off + (k + j) * 1 + q by omega]
    exact this
theorem pts_three (w : World) (v u : Value) (l m : Row) (hb : BtsAt w v l) (hc : BtsAt w u m) : PtsAt (w.alloc (.cells #[v, .slice none 0 0, u] 22)) (.slice (some ⟨w.heap.size, 0, none⟩) 3 3) [v, .slice none 0 0, u] [l, [], m] :=
  pts_new w 22 [v, .slice none 0 0, u] [l, [], m] 3 rfl (by decide) _ rfl rfl fun j u l h1 h2 => by
    match j, h1, h2 with
    | 0, h1, h2 => simp at h1 h2; subst h1 h2; exact hb
    | 1, h1, h2 => simp at h1 h2; subst h1 h2; exact Cd.RowsAt.nil w
    | 2, h1, h2 => simp at h1 h2; subst h1 h2; exact hc
    | j + 3, h1, h2 => simp at h1
theorem sum_three (w : World) (v u : Value) (l m : Row) (hb : BtsAt w v l) (hc : BtsAt w u m) : Calls Try.prog 24 #[.slice (some ⟨w.heap.size, 0, none⟩) 3 3] (w.alloc (.cells #[v, .slice none 0 0, u] 22)) fun e w' => e = .returned (.int .u32 ((sum (l ++ m) : Nat) : Int)) ∧ Below w.heap.size w w' := by
  have h := sum_any _ _ _ _ (pts_three w v u l m hb hc)
  rw [show ([l, [], m] : List Row).flatten = l ++ m by simp] at h
  refine h.mono ?_
  rintro e w' ⟨he, hb⟩
  have h0 : Below w.heap.size w (w.alloc (.cells #[v, .slice none 0 0, u] 22)) := (Below.refl _ _).alloc (Nat.le_refl _) _
  exact ⟨he, h0.trans (hb.mono h0.size)⟩

set_option maxHeartbeats 16000000 in
set_option maxRecDepth 100000 in
theorem sums_walk (w : World) (v : Value) (l : Row) (z : Int) (hb : BtsAt w v l) :
    Calls Try.prog 5 #[v, .int .i64 z] w fun e w' => e = .returned (.bool true) ∧ Below w.heap.size w w' := by
  have cF := first_any w
  obtain ⟨A, db, off, c, rfl, k1, k2, k3, k4⟩ := Ly.bts_one hb
  have hlen : l.length ≤ 9223372036854775807 := by unfold maxLen at k2; omega
  have hb' := Lib.hid hb
  clear hb k3 k4
  obtain ⟨N, hN1, hN2, hmin⟩ := min_nat l.length 5000
  have hmin' : min (l.length : Int) 5000 = (N : Int) := hmin
  obtain ⟨M, hM⟩ : ∃ M, N + 1 = M := ⟨_, rfl⟩
  obtain ⟨K, hK, hKe⟩ := Ly.rem_of z M (by omega) (by omega)
  have hNi : (N : Int) + 1 = (M : Int) := by omega
  have hKN : K ≤ N := by omega
  have hM0 : 0 < M := by omega
  have hMw : IntKind.u64.wrap (M : Int) = (M : Int) := Cd.wrapU_nat (by omega)
  clear hmin hM hK
  go_enter Try.func5, Try.ntmps5
  go_wp2_with fail
  go_at_call 22
  refine cF.mono ?_
  rintro e w1 ⟨rfl, hb1⟩
  have hx : BtsAt w1 (.slice A N c) (l.take N) := (bts_take hb'.out hN1).kept hb1
  obtain ⟨x, hxe⟩ : ∃ x, l.take N = x := ⟨_, rfl⟩
  have hxl : x.length = N := by rw [← hxe, List.length_take]; omega
  rw [hxe] at hx
  have hxl' := Lib.hid hxl
  have hx' := Lib.hid hx
  have hb1' := Lib.hid hb1
  have cR := refSum_any w1 _ _ hx
  obtain ⟨s, hs⟩ : ∃ s, sum x = s := ⟨_, rfl⟩
  rw [hs] at cR
  have hs' := Lib.hid hs
  clear cF hx hb1 hxe hxl hs
  go_wp2_with fail
  rw [hKe]
  go_at_call 23
  refine cR.mono ?_
  rintro e w2 ⟨rfl, rfl⟩
  clear cR
  go_upto_region 6 with fail
  have hxS := Lib.hid (show BtsAt w2 (.slice A x.length c) x by rw [hxl'.out]; exact hx'.out)
  have hP := bts_take hxS.out (n := K) (by rw [hxl'.out]; exact hKN)
  have hQ := bts_drop hxS.out (k := K) (by rw [hxl'.out]; exact hKN)
  rw [hxl'.out] at hQ
  have hcat : x.take K ++ x.drop K = x := List.take_append_drop K x
  have c1 := Lib.hid (fun (W : World) (h : Below w2.heap.size w2 W) => sum_one W (.slice A N c) x (hx'.out.kept h))
  have c2 := Lib.hid (fun (W : World) (h : Below w2.heap.size w2 W) => sum_three W (.slice A K c) (.slice (if c = K then A else A.map fun a => a.add K) (N - K) (c - K)) (x.take K) (x.drop K) (hP.kept h) (hQ.kept h))
  have c3 := Lib.hid (fun (W : World) (h : Below w2.heap.size w2 W) => sum_one W (.slice A K c) (x.take K) (hP.kept h))
  have c4 := Lib.hid (fun (W : World) (h : Below w2.heap.size w2 W) => more_any W (sum (x.take K)) (sum_lt _) (.slice (if c = K then A else A.map fun a => a.add K) (N - K) (c - K)) (x.drop K) (hQ.kept h))
  rw [hcat, hs'.out] at c2
  rw [sum_more, hcat, hs'.out] at c4
  rw [hs'.out] at c1
  obtain ⟨y, hy⟩ : ∃ y, sum (x.take K) = y := ⟨_, rfl⟩
  rw [hy] at c3 c4
  have g1 : (K : Int) ≤ (c : Int) := by omega
  have g2 : (K : Int) ≤ (N : Int) := by omega
  have g3 : (N : Int) ≤ (c : Int) := by omega
  clear hP hQ hcat hy hxS hM0 hMw hNi hKe
  refine wp_region_held_drew (S := fun W => Below w2.heap.size w2 W) (by kernel_rfl) (Below.drew (Below.refl _ _)) (fun hHeld => ?_)
  refine wpAnyH_take (i := 0) (oi := ?o_0) (v := ?v_0) ?hi_0 (by kernel_rfl) (by kernel_rfl) (by kernel_rfl) ?hq_0 (Or.inl ⟨?hw_0, ?hy_0⟩) (by assumption) ?_
  case hi_0 => (simp only [List.getElem?_toArray, List.getElem?_cons_zero]; rfl)
  case hq_0 => exact fun _ _ _ h => h
  case hw_0 => rfl
  case hy_0 => (intro w hSw; (try dsimp only at hSw); go_simp; (try with_reducible rfl))
  try simp only [Act.put, List.setIfInBounds_toArray, List.set_cons_zero, List.set_cons_succ]
  refine wpAnyH_take (i := 3) (oi := ?o_3) (v := ?v_3) ?hi_3 (by kernel_rfl) (by kernel_rfl) (by kernel_rfl) ?hq_3 (Or.inl ⟨?hw_3, ?hy_3⟩) (by assumption) ?_
  case hi_3 => (simp only [List.getElem?_toArray, List.getElem?_cons_succ, List.getElem?_cons_zero]; rfl)
  case hq_3 => exact fun _ _ _ h => h
  case hw_3 => rfl
  case hy_3 => (intro w hSw; (try dsimp only at hSw); go_simp; (try with_reducible rfl))
  try simp only [Act.put, List.setIfInBounds_toArray, List.set_cons_zero, List.set_cons_succ]
  refine wpAnyH_ready (rs := [1]) (by kernel_rfl) (by simp) ?_
  refine AllReadyH.cons (o := _) rfl (fun Kc hKc => ?_) AllReadyH.nil
  go_simp
  have hHeld1 : Below w2.heap.size w2 (w2.drew.alloc (.cells #[.slice A N c] 22)) := hHeld.alloc hHeld.size _
  refine hKc _ _ hHeld1 (fun _ => ?_)
  clear hKc Kc
  try simp only [Act.put, List.setIfInBounds_toArray, List.set_cons_zero, List.set_cons_succ]
  refine wpAnyH_ready (rs := [2]) (by kernel_rfl) (by simp) ?_
  refine AllReadyH.cons (o := _) rfl (fun Kc hKc => ?_) AllReadyH.nil
  go_simp
  refine (c1.out w2.drew hHeld).mono ?_
  rintro e wA ⟨rfl, hbb⟩
  replace hHeld : Below w2.heap.size w2 wA := hHeld.trans (hbb.mono hHeld.size)
  refine hKc _ _ hHeld (fun _ => ?_)
  clear hKc Kc hbb
  try simp only [Act.put, List.setIfInBounds_toArray, List.set_cons_zero, List.set_cons_succ]
  refine wpAnyH_take (i := 4) (oi := ?o_4) (v := ?v_4) ?hi_4 (by kernel_rfl) (by kernel_rfl) (by kernel_rfl) ?hq_4 (Or.inl ⟨?hw_4, ?hy_4⟩) (by assumption) ?_
  case hi_4 => (simp only [List.getElem?_toArray, List.getElem?_cons_succ, List.getElem?_cons_zero]; rfl)
  case hq_4 => exact fun _ _ _ h => h
  case hw_4 => rfl
  case hy_4 => (intro w hSw; (try dsimp only at hSw); go_simp; (try with_reducible rfl))
  try simp only [Act.put, List.setIfInBounds_toArray, List.set_cons_zero, List.set_cons_succ]
  refine wpAnyH_take (i := 5) (oi := ?o_5) (v := ?v_5) ?hi_5 (by kernel_rfl) (by kernel_rfl) (by kernel_rfl) ?hq_5 (Or.inl ⟨?hw_5, ?hy_5⟩) (by assumption) ?_
  case hi_5 => (simp only [List.getElem?_toArray, List.getElem?_cons_succ, List.getElem?_cons_zero]; rfl)
  case hq_5 => exact fun _ _ _ h => h
  case hw_5 => rfl
  case hy_5 => (intro w hSw; (try dsimp only at hSw); go_simp; (try with_reducible rfl))
  try simp only [Act.put, List.setIfInBounds_toArray, List.set_cons_zero, List.set_cons_succ]
  refine wpAnyH_take (i := 6) (oi := ?o_6) (v := ?v_6) ?hi_6 (by kernel_rfl) (by kernel_rfl) (by kernel_rfl) ?hq_6 (Or.inl ⟨?hw_6, ?hy_6⟩) (by assumption) ?_
  case hi_6 => (simp only [List.getElem?_toArray, List.getElem?_cons_succ, List.getElem?_cons_zero]; rfl)
  case hq_6 => exact fun _ _ _ h => h
  case hw_6 => rfl
  case hy_6 => (intro w hSw; (try dsimp only at hSw); go_simp; (try with_reducible rfl))
  try simp only [Act.put, List.setIfInBounds_toArray, List.set_cons_zero, List.set_cons_succ]
  refine wpAnyH_take (i := 7) (oi := ?o_7) (v := ?v_7) ?hi_7 (by kernel_rfl) (by kernel_rfl) (by kernel_rfl) ?hq_7 (Or.inl ⟨?hw_7, ?hy_7⟩) (by assumption) ?_
  case hi_7 => (simp only [List.getElem?_toArray, List.getElem?_cons_succ, List.getElem?_cons_zero]; rfl)
  case hq_7 => exact fun _ _ _ h => h
  case hw_7 => rfl
  case hy_7 => (intro w hSw; (try dsimp only at hSw); go_simp; (try with_reducible rfl))
  try simp only [Act.put, List.setIfInBounds_toArray, List.set_cons_zero, List.set_cons_succ]
  refine wpAnyH_take (i := 8) (oi := ?o_8) (v := ?v_8) ?hi_8 (by kernel_rfl) (by kernel_rfl) (by kernel_rfl) ?hq_8 (Or.inl ⟨?hw_8, ?hy_8⟩) (by assumption) ?_
  case hi_8 => (simp only [List.getElem?_toArray, List.getElem?_cons_succ, List.getElem?_cons_zero]; rfl)
  case hq_8 => exact fun _ _ _ h => h
  case hw_8 => rfl
  case hy_8 => (intro w hSw; (try dsimp only at hSw); go_simp; (try with_reducible rfl))
  try simp only [Act.put, List.setIfInBounds_toArray, List.set_cons_zero, List.set_cons_succ]
  refine wpAnyH_take (i := 9) (oi := ?o_9) (v := ?v_9) ?hi_9 (by kernel_rfl) (by kernel_rfl) (by kernel_rfl) ?hq_9 (Or.inl ⟨?hw_9, ?hy_9⟩) (by assumption) ?_
  case hi_9 => (simp only [List.getElem?_toArray, List.getElem?_cons_succ, List.getElem?_cons_zero]; rfl)
  case hq_9 => exact fun _ _ _ h => h
  case hw_9 => rfl
  case hy_9 => (intro w hSw; (try dsimp only at hSw); go_simp; (try with_reducible rfl))
  try simp only [Act.put, List.setIfInBounds_toArray, List.set_cons_zero, List.set_cons_succ]
  refine wpAnyH_take (i := 10) (oi := ?o_10) (v := ?v_10) ?hi_10 (by kernel_rfl) (by kernel_rfl) (by kernel_rfl) ?hq_10 (Or.inl ⟨?hw_10, ?hy_10⟩) (by assumption) ?_
  case hi_10 => (simp only [List.getElem?_toArray, List.getElem?_cons_succ, List.getElem?_cons_zero]; rfl)
  case hq_10 => exact fun _ _ _ h => h
  case hw_10 => rfl
  case hy_10 => (intro w hSw; (try dsimp only at hSw); go_simp; (try with_reducible rfl))
  try simp only [Act.put, List.setIfInBounds_toArray, List.set_cons_zero, List.set_cons_succ]
  refine wpAnyH_take (i := 11) (oi := ?o_11) (v := ?v_11) ?hi_11 (by kernel_rfl) (by kernel_rfl) (by kernel_rfl) ?hq_11 (Or.inl ⟨?hw_11, ?hy_11⟩) (by assumption) ?_
  case hi_11 => (simp only [List.getElem?_toArray, List.getElem?_cons_succ, List.getElem?_cons_zero]; rfl)
  case hq_11 => exact fun _ _ _ h => h
  case hw_11 => rfl
  case hy_11 => (intro w hSw; (try dsimp only at hSw); go_simp; (try with_reducible rfl))
  try simp only [Act.put, List.setIfInBounds_toArray, List.set_cons_zero, List.set_cons_succ]
  refine wpAnyH_take (i := 14) (oi := ?o_14) (v := ?v_14) ?hi_14 (by kernel_rfl) (by kernel_rfl) (by kernel_rfl) ?hq_14 (Or.inl ⟨?hw_14, ?hy_14⟩) (by assumption) ?_
  case hi_14 => (simp only [List.getElem?_toArray, List.getElem?_cons_succ, List.getElem?_cons_zero]; rfl)
  case hq_14 => exact fun _ _ _ h => h
  case hw_14 => rfl
  case hy_14 => (intro w hSw; (try dsimp only at hSw); go_simp; (try with_reducible rfl))
  try simp only [Act.put, List.setIfInBounds_toArray, List.set_cons_zero, List.set_cons_succ]
  refine wpAnyH_ready (rs := [12]) (by kernel_rfl) (by simp) ?_
  refine AllReadyH.cons (o := _) rfl (fun Kc hKc => ?_) AllReadyH.nil
  go_simp
  have hHeld2 : Below w2.heap.size w2 (wA.alloc (.cells #[.slice A K c, .slice none 0 0, .slice (if c = K then A else A.map fun a => a.add K) (N - K) (c - K)] 22)) := hHeld.alloc hHeld.size _
  refine hKc _ _ hHeld2 (fun _ => ?_)
  clear hKc Kc
  try simp only [Act.put, List.setIfInBounds_toArray, List.set_cons_zero, List.set_cons_succ]
  refine wpAnyH_ready (rs := [13]) (by kernel_rfl) (by simp) ?_
  refine AllReadyH.cons (o := _) rfl (fun Kc hKc => ?_) AllReadyH.nil
  go_simp
  refine (c2.out wA hHeld).mono ?_
  rintro e wB ⟨rfl, hbb⟩
  replace hHeld : Below w2.heap.size w2 wB := hHeld.trans (hbb.mono hHeld.size)
  refine hKc _ _ hHeld (fun _ => ?_)
  clear hKc Kc hbb
  try simp only [Act.put, List.setIfInBounds_toArray, List.set_cons_zero, List.set_cons_succ]
  refine wpAnyH_take (i := 15) (oi := ?o_15) (v := ?v_15) ?hi_15 (by kernel_rfl) (by kernel_rfl) (by kernel_rfl) ?hq_15 (Or.inl ⟨?hw_15, ?hy_15⟩) (by assumption) ?_
  case hi_15 => (simp only [List.getElem?_toArray, List.getElem?_cons_succ, List.getElem?_cons_zero]; rfl)
  case hq_15 => exact fun _ _ _ h => h
  case hw_15 => rfl
  case hy_15 => (intro w hSw; (try dsimp only at hSw); go_simp; (try with_reducible rfl))
  try simp only [Act.put, List.setIfInBounds_toArray, List.set_cons_zero, List.set_cons_succ]
  refine wpAnyH_take (i := 16) (oi := ?o_16) (v := ?v_16) ?hi_16 (by kernel_rfl) (by kernel_rfl) (by kernel_rfl) ?hq_16 (Or.inl ⟨?hw_16, ?hy_16⟩) (by assumption) ?_
  case hi_16 => (simp only [List.getElem?_toArray, List.getElem?_cons_succ, List.getElem?_cons_zero]; rfl)
  case hq_16 => exact fun _ _ _ h => h
  case hw_16 => rfl
  case hy_16 => (intro w hSw; (try dsimp only at hSw); go_simp; (try with_reducible rfl))
  try simp only [Act.put, List.setIfInBounds_toArray, List.set_cons_zero, List.set_cons_succ]
  refine wpAnyH_take (i := 17) (oi := ?o_17) (v := ?v_17) ?hi_17 (by kernel_rfl) (by kernel_rfl) (by kernel_rfl) ?hq_17 (Or.inl ⟨?hw_17, ?hy_17⟩) (by assumption) ?_
  case hi_17 => (simp only [List.getElem?_toArray, List.getElem?_cons_succ, List.getElem?_cons_zero]; rfl)
  case hq_17 => exact fun _ _ _ h => h
  case hw_17 => rfl
  case hy_17 => (intro w hSw; (try dsimp only at hSw); go_simp; (try with_reducible rfl))
  try simp only [Act.put, List.setIfInBounds_toArray, List.set_cons_zero, List.set_cons_succ]
  refine wpAnyH_take (i := 18) (oi := ?o_18) (v := ?v_18) ?hi_18 (by kernel_rfl) (by kernel_rfl) (by kernel_rfl) ?hq_18 (Or.inl ⟨?hw_18, ?hy_18⟩) (by assumption) ?_
  case hi_18 => (simp only [List.getElem?_toArray, List.getElem?_cons_succ, List.getElem?_cons_zero]; rfl)
  case hq_18 => exact fun _ _ _ h => h
  case hw_18 => rfl
  case hy_18 => (intro w hSw; (try dsimp only at hSw); go_simp; (try with_reducible rfl))
  try simp only [Act.put, List.setIfInBounds_toArray, List.set_cons_zero, List.set_cons_succ]
  refine wpAnyH_take (i := 19) (oi := ?o_19) (v := ?v_19) ?hi_19 (by kernel_rfl) (by kernel_rfl) (by kernel_rfl) ?hq_19 (Or.inl ⟨?hw_19, ?hy_19⟩) (by assumption) ?_
  case hi_19 => (simp only [List.getElem?_toArray, List.getElem?_cons_succ, List.getElem?_cons_zero]; rfl)
  case hq_19 => exact fun _ _ _ h => h
  case hw_19 => rfl
  case hy_19 => (intro w hSw; (try dsimp only at hSw); go_simp; (try with_reducible rfl))
  try simp only [Act.put, List.setIfInBounds_toArray, List.set_cons_zero, List.set_cons_succ]
  refine wpAnyH_take (i := 20) (oi := ?o_20) (v := ?v_20) ?hi_20 (by kernel_rfl) (by kernel_rfl) (by kernel_rfl) ?hq_20 (Or.inl ⟨?hw_20, ?hy_20⟩) (by assumption) ?_
  case hi_20 => (simp only [List.getElem?_toArray, List.getElem?_cons_succ, List.getElem?_cons_zero]; rfl)
  case hq_20 => exact fun _ _ _ h => h
  case hw_20 => rfl
  case hy_20 => (intro w hSw; (try dsimp only at hSw); go_simp; (try with_reducible rfl))
  try simp only [Act.put, List.setIfInBounds_toArray, List.set_cons_zero, List.set_cons_succ]
  refine wpAnyH_take (i := 23) (oi := ?o_23) (v := ?v_23) ?hi_23 (by kernel_rfl) (by kernel_rfl) (by kernel_rfl) ?hq_23 (Or.inl ⟨?hw_23, ?hy_23⟩) (by assumption) ?_
  case hi_23 => (simp only [List.getElem?_toArray, List.getElem?_cons_succ, List.getElem?_cons_zero]; rfl)
  case hq_23 => exact fun _ _ _ h => h
  case hw_23 => rfl
  case hy_23 => (intro w hSw; (try dsimp only at hSw); go_simp; (try with_reducible rfl))
  try simp only [Act.put, List.setIfInBounds_toArray, List.set_cons_zero, List.set_cons_succ]
  refine wpAnyH_take (i := 24) (oi := ?o_24) (v := ?v_24) ?hi_24 (by kernel_rfl) (by kernel_rfl) (by kernel_rfl) ?hq_24 (Or.inl ⟨?hw_24, ?hy_24⟩) (by assumption) ?_
  case hi_24 => (simp only [List.getElem?_toArray, List.getElem?_cons_succ, List.getElem?_cons_zero]; rfl)
  case hq_24 => exact fun _ _ _ h => h
  case hw_24 => rfl
  case hy_24 => (intro w hSw; (try dsimp only at hSw); go_simp; (try with_reducible rfl))
  try simp only [Act.put, List.setIfInBounds_toArray, List.set_cons_zero, List.set_cons_succ]
  refine wpAnyH_take (i := 25) (oi := ?o_25) (v := ?v_25) ?hi_25 (by kernel_rfl) (by kernel_rfl) (by kernel_rfl) ?hq_25 (Or.inl ⟨?hw_25, ?hy_25⟩) (by assumption) ?_
  case hi_25 => (simp only [List.getElem?_toArray, List.getElem?_cons_succ, List.getElem?_cons_zero]; rfl)
  case hq_25 => exact fun _ _ _ h => h
  case hw_25 => rfl
  case hy_25 => (intro w hSw; (try dsimp only at hSw); go_simp; (try with_reducible rfl))
  try simp only [Act.put, List.setIfInBounds_toArray, List.set_cons_zero, List.set_cons_succ]
  refine wpAnyH_take (i := 27) (oi := ?o_27) (v := ?v_27) ?hi_27 (by kernel_rfl) (by kernel_rfl) (by kernel_rfl) ?hq_27 (Or.inl ⟨?hw_27, ?hy_27⟩) (by assumption) ?_
  case hi_27 => (simp only [List.getElem?_toArray, List.getElem?_cons_succ, List.getElem?_cons_zero]; rfl)
  case hq_27 => exact fun _ _ _ h => h
  case hw_27 => rfl
  case hy_27 => (intro w hSw; (try dsimp only at hSw); go_simp; (try with_reducible rfl))
  try simp only [Act.put, List.setIfInBounds_toArray, List.set_cons_zero, List.set_cons_succ]
  refine wpAnyH_ready (rs := [21]) (by kernel_rfl) (by simp) ?_
  refine AllReadyH.cons (o := _) rfl (fun Kc hKc => ?_) AllReadyH.nil
  go_simp
  have hHeld3 : Below w2.heap.size w2 (wB.alloc (.cells #[.slice A K c] 22)) := hHeld.alloc hHeld.size _
  refine hKc _ _ hHeld3 (fun _ => ?_)
  clear hKc Kc
  try simp only [Act.put, List.setIfInBounds_toArray, List.set_cons_zero, List.set_cons_succ]
  refine wpAnyH_ready (rs := [22]) (by kernel_rfl) (by simp) ?_
  refine AllReadyH.cons (o := _) rfl (fun Kc hKc => ?_) AllReadyH.nil
  go_simp
  refine (c3.out wB hHeld).mono ?_
  rintro e wC ⟨rfl, hbb⟩
  replace hHeld : Below w2.heap.size w2 wC := hHeld.trans (hbb.mono hHeld.size)
  refine hKc _ _ hHeld (fun _ => ?_)
  clear hKc Kc hbb
  try simp only [Act.put, List.setIfInBounds_toArray, List.set_cons_zero, List.set_cons_succ]
  refine wpAnyH_ready (rs := [26]) (by kernel_rfl) (by simp) ?_
  refine AllReadyH.cons (o := _) rfl (fun Kc hKc => ?_) AllReadyH.nil
  go_simp
  refine (c4.out wC hHeld).mono ?_
  rintro e wD ⟨rfl, hbb⟩
  replace hHeld : Below w2.heap.size w2 wD := hHeld.trans (hbb.mono hHeld.size)
  refine hKc _ _ hHeld (fun _ => ?_)
  clear hKc Kc hbb
  try simp only [Act.put, List.setIfInBounds_toArray, List.set_cons_zero, List.set_cons_succ]
  refine wpAnyH_take (i := 28) (oi := ?o_28) (v := ?v_28) ?hi_28 (by kernel_rfl) (by kernel_rfl) (by kernel_rfl) ?hq_28 (Or.inl ⟨?hw_28, ?hy_28⟩) (by assumption) ?_
  case hi_28 => (simp only [List.getElem?_toArray, List.getElem?_cons_succ, List.getElem?_cons_zero]; rfl)
  case hq_28 => exact fun _ _ _ h => h
  case hw_28 => rfl
  case hy_28 => (intro w hSw; (try dsimp only at hSw); go_simp; (try with_reducible rfl))
  try simp only [Act.put, List.setIfInBounds_toArray, List.set_cons_zero, List.set_cons_succ]
  refine wpAnyH_take (i := 29) (oi := ?o_29) (v := ?v_29) ?hi_29 (by kernel_rfl) (by kernel_rfl) (by kernel_rfl) ?hq_29 (Or.inl ⟨?hw_29, ?hy_29⟩) (by assumption) ?_
  case hi_29 => (simp only [List.getElem?_toArray, List.getElem?_cons_succ, List.getElem?_cons_zero]; rfl)
  case hq_29 => exact fun _ _ _ h => h
  case hw_29 => rfl
  case hy_29 => (intro w hSw; (try dsimp only at hSw); go_simp; (try with_reducible rfl))
  try simp only [Act.put, List.setIfInBounds_toArray, List.set_cons_zero, List.set_cons_succ]
  refine wpAnyH_take (i := 30) (oi := ?o_30) (v := ?v_30) ?hi_30 (by kernel_rfl) (by kernel_rfl) (by kernel_rfl) ?hq_30 (Or.inl ⟨?hw_30, ?hy_30⟩) (by assumption) ?_
  case hi_30 => (simp only [List.getElem?_toArray, List.getElem?_cons_succ, List.getElem?_cons_zero]; rfl)
  case hq_30 => exact fun _ _ _ h => h
  case hw_30 => rfl
  case hy_30 => (intro w hSw; (try dsimp only at hSw); go_simp; (try with_reducible rfl))
  try simp only [Act.put, List.setIfInBounds_toArray, List.set_cons_zero, List.set_cons_succ]
  refine wpAnyH_done (by kernel_rfl) ?_ _
  have hF := Lib.hid (hb1'.out.trans (hHeld.mono hb1'.out.size))
  clear hHeld c1 c2 c3 c4
  generalize (if c = K then A else A.map fun a => a.add K) = Ax
  go_wp2
  go_ret
  exact ⟨rfl, hF.out⟩
end Go.Proofs.Ytpngbfmbjldieaa.Cr
