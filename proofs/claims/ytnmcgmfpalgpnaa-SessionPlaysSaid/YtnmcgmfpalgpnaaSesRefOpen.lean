/-
  THE WALK OF THE REFERENCE's Open.
-/
import Derived.Test.YtnmcgmfpalgpnaaSesRefAsk
set_option linter.unusedVariables false
namespace Go.Proofs.Ytnmcgmfpalgpnaa.Se
open Go.Lib Go.RowKit

/-- the first of the least uses among the first i -/
def MinAt {α : Type} (t : Tb α) (k i : Nat) : Prop := ∃ r, t[k]? = some r ∧ (∀ (j : Nat) (y : Ro α), j < i → t[j]? = some y → r.used ≤ y.used) ∧ ∀ (j : Nat) (y : Ro α), j < k → t[j]? = some y → r.used < y.used
theorem min_new {α : Type} {t : Tb α} {i : Nat} {r : Ro α} (h : t[i]? = some r) (hi : i = 0) : MinAt t i (i + 1) := by
  subst hi
  refine ⟨r, h, fun j y hj hy => ?_, fun j y hj => absurd hj (by omega)⟩
  obtain rfl : j = 0 := by omega
  rw [h] at hy
  cases hy
  exact Int.le_refl _
theorem min_less {α : Type} {t : Tb α} {k i : Nat} (h : MinAt t k i) (hk : k < i) {r y : Ro α} (hr : t[k]? = some r) (hy : t[i]? = some y) (hl : y.used < r.used) : MinAt t i (i + 1) := by
  obtain ⟨r', h1, h2, h3⟩ := h
  rw [hr] at h1
  cases h1
  refine ⟨y, hy, fun j x hj hx => ?_, fun j x hj hx => ?_⟩
  · by_cases e : j = i
    · subst e; rw [hy] at hx; cases hx; exact Int.le_refl _
    · have := h2 j x (by omega) hx; omega
  · have := h2 j x hj hx; omega
theorem min_keep {α : Type} {t : Tb α} {k i : Nat} (h : MinAt t k i) {r y : Ro α} (hr : t[k]? = some r) (hy : t[i]? = some y) (hl : ¬ y.used < r.used) : MinAt t k (i + 1) := by
  obtain ⟨r', h1, h2, h3⟩ := h
  rw [hr] at h1
  cases h1
  refine ⟨r, hr, fun j x hj hx => ?_, h3⟩
  by_cases e : j = i
  · subst e; rw [hy] at hx; cases hx; omega
  · exact h2 j x (by omega) hx
theorem min_drop {α : Type} {t : Tb α} {k : Nat} (h : MinAt t k t.length) : dropLeast t = t.eraseIdx k := by
  obtain ⟨r, h1, h2, h3⟩ := h
  obtain ⟨hl, hv⟩ := List.getElem?_eq_some_iff.1 h1
  have hle : ∀ y ∈ t, r.used ≤ y.used := fun y hy => by
    obtain ⟨j, hj⟩ := List.getElem?_of_mem hy
    exact h2 j y (List.getElem?_eq_some_iff.1 hj).1 hj
  obtain ⟨m, hm, hml, q, hq, hqm⟩ := least_some (t := t) (by rintro rfl; simp at h1)
  have hmr : m = r.used := by
    have := hml r (List.mem_of_getElem? h1)
    have := hle q hq
    omega
  unfold dropLeast
  rw [hm, hmr]
  have ht : t = t.take k ++ r :: t.drop (k + 1) := by rw [← hv, ← List.drop_eq_getElem_cons hl, List.take_append_drop]
  have hno : ∀ y ∈ t.take k, ¬ (decide (y.used = r.used) = true) := fun y hy => by
    obtain ⟨j, hj⟩ := List.getElem?_of_mem hy
    have hjk := (List.getElem?_eq_some_iff.1 hj).1
    rw [List.getElem?_take, if_pos (by simp at hjk; omega)] at hj
    have := h3 j y (by simp at hjk; omega) hj
    simp; omega
  show t.eraseP (fun y => decide (y.used = r.used)) = t.eraseIdx k
  rw [List.eraseIdx_eq_take_drop_succ]
  conv => lhs; rw [ht]
  rw [List.eraseP_append_right _ hno, List.eraseP_cons_of_pos (by simp)]
/-- what is kept of the first i -/
def keptAt {α : Type} (t : Tb α) (k i : Nat) : Tb α := if t.length < 8 then t.take i else (t.take i).eraseIdx k
theorem kept_zero {α : Type} (t : Tb α) (k : Nat) : keptAt t k 0 = [] := by unfold keptAt; split <;> simp
theorem kept_len {α : Type} (t : Tb α) (k i : Nat) : (keptAt t k i).length ≤ t.length := by
  unfold keptAt
  split
  · simp; omega
  · have := List.length_eraseIdx_le (t.take i) k
    simp at this ⊢; omega
theorem kept_more {α : Type} {t : Tb α} {k i : Nat} {r : Ro α} (hr : t[i]? = some r) (h : t.length < 8 ∨ i ≠ k) : keptAt t k (i + 1) = keptAt t k i ++ [r] := by
  obtain ⟨hl, hv⟩ := List.getElem?_eq_some_iff.1 hr
  unfold keptAt
  rw [List.take_succ_eq_append_getElem hl, hv]
  split
  · rfl
  · rename_i h8
    have hik : i ≠ k := by rcases h with h | h
                           · exact absurd h h8
                           · exact h
    by_cases hlt : k < i
    · rw [List.eraseIdx_append_of_lt_length (by simp; omega)]
    · rw [List.eraseIdx_of_length_le (by simp; omega), List.eraseIdx_of_length_le (by simp; omega)]
theorem kept_less {α : Type} {t : Tb α} {k : Nat} {r : Ro α} (hr : t[k]? = some r) (h : ¬ t.length < 8) : keptAt t k (k + 1) = keptAt t k k := by
  obtain ⟨hl, hv⟩ := List.getElem?_eq_some_iff.1 hr
  unfold keptAt
  rw [if_neg h, if_neg h, List.take_succ_eq_append_getElem hl, hv, List.eraseIdx_append_of_length_le (by simp; omega)]
  rw [List.eraseIdx_of_length_le (l := t.take k) (by simp; omega)]
  have : k - (t.take k).length = 0 := by simp; omega
  rw [this]
  simp
theorem kept_all {α : Type} {t : Tb α} {k : Nat} (h : t.length = 0 ∨ MinAt t k t.length) : keptAt t k t.length = if t.length < 8 then t else dropLeast t := by
  unfold keptAt
  rw [List.take_length]
  split
  · rfl
  · rcases h with h | h
    · omega
    · rw [min_drop h]
theorem open_no {α : Type} (z : α) {t : Tb α} {now : Int} (h : now < 1 ∨ ∃ r ∈ t, now ≤ r.used ∨ now ≤ r.id) : openT z t now = (t, false) := by
  unfold openT
  rw [if_pos]
  rcases h with h | ⟨r, hr, h⟩
  · exact .inl h
  · exact .inr (List.any_eq_true.2 ⟨r, hr, by simpa using h⟩)
theorem open_yes {α : Type} (z : α) {t : Tb α} {now : Int} (h : ¬ now < 1) (h2 : ∀ r ∈ t, r.used < now ∧ r.id < now) : openT z t now = ((if t.length < 8 then t else dropLeast t) ++ [⟨now, 0, now, z⟩], true) := by
  unfold openT
  rw [if_neg]
  rintro (h' | h')
  · exact h h'
  · obtain ⟨r, hr, hr2⟩ := List.any_eq_true.1 h'
    have := h2 r hr
    simp at hr2
    omega

set_option maxHeartbeats 8000000 in
set_option maxRecDepth 100000 in
theorem refOpen_any (B b : Nat) (v : Value) (t : Tb ByteArray) (now : Int) (w : World) (hT : TabR B b v t w) (hB : B ≤ w.heap.size) (ht : t.length ≤ 1099511627776) :
    Calls Try.prog 9 #[.pointer (some ⟨b, 0, none⟩), .int .i64 now] w fun e w' =>
      e = .returned (.bool (openT nS t now).2) ∧ After eS 29 42 B b v (openT nS t now).1 w w' := by
  have hv : RsS w v t := hT.own.at
  have hblt := hT.lt
  have hno : (now < 1 ∨ ∃ r ∈ t, now ≤ r.used ∨ now ≤ r.id) → ∀ w', Below w.heap.size w w' → Ending.returned (.bool false) = .returned (.bool (openT nS t now).2) ∧ After eS 29 42 B b v (openT nS t now).1 w w' := fun h w' hw => by
    rw [open_no nS h]
    exact ⟨rfl, After.same hT hw⟩
  have hyes : ¬ now < 1 → (∀ r ∈ t, r.used < now ∧ r.id < now) → ∀ (k : Nat) (v' : Value) (w' : World), (t.length = 0 ∨ MinAt t k t.length) → Below w.heap.size w w' → RsOwn eS 42 w.heap.size v' (keptAt t k t.length ++ [⟨now, 0, now, nS⟩]) w' →
      Ending.returned (.bool true) = .returned (.bool (openT nS t now).2) ∧ After eS 29 42 B b v (openT nS t now).1 w (w'.setCell ⟨b, 0, none⟩ v') := fun h1 h2 k v' w' hk hw hn => by
    rw [open_yes nS h1 h2]
    rw [kept_all hk] at hn
    exact ⟨rfl, After.laid hT hw hn hB⟩
  generalize openT nS t now = R at hno hyes ⊢
  have hbl := hT.blk
  have hsz : B ≤ b := hT.low
  obtain ⟨A, g, off, c, rfl, h1, h2, h3, h4⟩ := hv
  obtain ⟨n, hn⟩ : ∃ n, t.length = n := ⟨_, rfl⟩
  rw [hn] at hbl ht h1 h3 hno hyes ⊢
  have hn' := Lib.hid hn
  have hno' := Lib.hid hno
  have hyes' := Lib.hid hyes
  have h3' := Lib.hid h3
  have h4' := Lib.hid h4
  have hbl' := Lib.hid hbl
  have hcell : ∀ W, Below w.heap.size w W → W.cell? ⟨b, 0, none⟩ = some (.slice A n c) := fun W hW => by
    rw [Lib.cell_of_heap ((hW.block b hblt).trans hbl)]; rfl
  have hcell' := Lib.hid hcell
  have hc0 := hcell w (Below.refl _ _)
  unfold maxLen at h2
  clear hno hyes hn h3 h4 hbl hT hcell
  by_cases hnow : now < 1
  · have hR := Lib.hid (hno'.out (.inl hnow))
    go_enter Try.func9, Try.ntmps9
    go_wp2
    go_ret
    exact hR.out _ (Below.refl _ _)
  · go_enter Try.func9, Try.ntmps9
    go_wp2
    go_loopw [5, 18] (fun s5 s18 wr => ∃ (i : Nat) (z : Int), s5 = .int .i64 z ∧ s18 = .int .i64 (i : Int) ∧ i ≤ n ∧ Below w.heap.size w wr ∧ (∀ y ∈ t.take i, y.used < now ∧ y.id < now) ∧ (i = 0 ∧ z = -1 ∨ ∃ k : Nat, z = (k : Int) ∧ k < i ∧ MinAt t k i)) (fun s5 s18 wr => n - (RowKit.intOf s18).toNat)
    case atStart => exact ⟨0, -1, rfl, rfl, Nat.zero_le _, Below.refl _ _, fun x hx => by simp at hx, .inl ⟨rfl, rfl⟩⟩
    case round =>
      obtain ⟨i, z, rfl, rfl, hi, hbw, hall, hmin⟩ := hrel
      have hall' := Lib.hid hall
      have hmin' := Lib.hid hmin
      have hcw := hcell'.out wr hbw
      clear hall hmin hc0
      by_cases hlt : i < n
      · obtain ⟨r, hr⟩ : ∃ r, t[i]? = some r := ⟨_, List.getElem?_eq_getElem (by rw [hn'.out]; exact hlt)⟩
        obtain ⟨rfl, hg⟩ := h3'.out (by omega)
        have hC : ∀ (W : World), Below w.heap.size w W → ∀ (j : Nat) (y : Ro ByteArray), t[j]? = some y → RoCells eS W g (off + j * 4) y := fun W hW j y hy => (h4'.out j y hy).kept eS hg hW
        obtain ⟨hc, hc1, hc2, hc3⟩ := hC wr hbw i r hr
        have hC' := Lib.hid hC
        have hr' := Lib.hid hr
        have hbw' := Lib.hid hbw
        obtain ⟨rid, rl, ru, rx⟩ := r
        have hal : Below w.heap.size w (wr.alloc (.cells #[.int .i64 rid, .int .i64 rl, .int .i64 ru, .string rx] 42)) := hbw.alloc hbw.size _
        have hal' := Lib.hid hal
        simp only at hc hc1 hc2 hc3
        clear hr hbw hal hC
        have hlate : now ≤ ru ∨ now ≤ rid → ∃ r ∈ t, now ≤ r.used ∨ now ≤ r.id := fun h => ⟨_, List.mem_of_getElem? hr'.out, h⟩
        by_cases e1 : now ≤ ru
        · have hR := Lib.hid (hno'.out (.inr (hlate (.inl e1))))
          clear hlate
          go_wp2
          go_ret
          exact hR.out _ hal'.out
        · by_cases e2 : now ≤ rid
          · have hR := Lib.hid (hno'.out (.inr (hlate (.inr e2))))
            clear hlate
            go_wp2
            go_ret
            exact hR.out _ hal'.out
          · have hnx := Lib.hid (take_more hr'.out hall'.out (P := fun y : Ro ByteArray => y.used < now ∧ y.id < now) ⟨by show ru < now; omega, by show rid < now; omega⟩)
            clear hlate
            rcases hmin'.out with ⟨hi0, rfl⟩ | ⟨k, rfl, hki, hm⟩
            · have hm1 := Lib.hid (min_new hr'.out hi0)
              clear hmin' hi0
              go_wp2
              go_quiet (fail)
              go_wp2
              go_roundw
              case rel => exact ⟨i + 1, i, rfl, by go_num, by omega, below_drewN _ hal'.out, hnx.out, .inr ⟨i, rfl, by omega, hm1.out⟩⟩
              case measure => simp [RowKit.intOf]; omega
            · obtain ⟨q, hq, _⟩ := id hm
              obtain ⟨_, _, hq2, _⟩ := hC'.out _ hal'.out k q hq
              have hca := hcell'.out _ hal'.out
              obtain ⟨qid, ql, qu, qx⟩ := q
              simp only at hq2
              have hkn : k < n := by omega
              have d0 : decide ((k : Int) < 0) = false := by simp
              by_cases e3 : ru < qu
              · have hm1 := Lib.hid (min_less hm hki hq hr'.out e3)
                have d1 : decide (ru < qu) = true := by simpa using e3
                clear hmin' hm hq
                go_wp2
                go_quiet (fail)
                go_wp2
                go_roundw
                case rel => exact ⟨i + 1, i, rfl, by go_num, by omega, below_drewN _ hal'.out, hnx.out, .inr ⟨i, rfl, by omega, hm1.out⟩⟩
                case measure => simp [RowKit.intOf]; omega
              · have hm1 := Lib.hid (min_keep hm hq hr'.out e3)
                have d1 : decide (ru < qu) = false := by simpa using e3
                clear hmin' hm hq
                go_wp2
                go_quiet (fail)
                go_wp2
                go_roundw
                case rel => exact ⟨i + 1, k, rfl, by go_num, by omega, below_drewN _ hal'.out, hnx.out, .inr ⟨k, rfl, by omega, hm1.out⟩⟩
                case measure => simp [RowKit.intOf]; omega
      · have hin : i = n := by omega
        have hall2 : ∀ y ∈ t, y.used < now ∧ y.id < now := by
          have := hall'.out
          rw [List.take_of_length_le (by rw [hn'.out]; omega)] at this
          exact this
        obtain ⟨k, hk1, hk2⟩ : ∃ k : Nat, (0 < n → z = (k : Int)) ∧ (t.length = 0 ∨ MinAt t k t.length) := by
          rw [hn'.out]
          rcases hmin'.out with ⟨h, _⟩ | ⟨k, h, _, hm⟩
          · exact ⟨0, fun h0 => by omega, .inl (by omega)⟩
          · exact ⟨k, fun _ => h, .inr (by rw [← hin]; exact hm)⟩
        have hfin := Lib.hid (fun v' w' => hyes'.out hnow hall2 k v' w' (by rw [← hn'.out]; exact hk2))
        have hk1' := Lib.hid hk1
        have hzn : (z = -1 ∨ True) := .inr trivial
        clear hmin' hall' hall2 hno' hyes' hk2 hk1 hin
        go_wp2
        go_loopw [8, 55] (fun s8 s55 wx => ∃ (m : Nat), s55 = .int .i64 (m : Int) ∧ m ≤ n ∧ Below w.heap.size w wx ∧ RsOwn eS 42 w.heap.size s8 (keptAt t k m) wx) (fun s8 s55 wx => n - (RowKit.intOf s55).toNat)
        case atStart => exact ⟨0, rfl, Nat.zero_le _, hbw, by rw [kept_zero]; exact RsOwn.nil _ _ _ _⟩
        case round =>
          obtain ⟨m, rfl, hm, hbx, hown⟩ := hrel
          have hcx := hcell'.out wr hbx
          by_cases hltm : m < n
          · obtain ⟨r, hr⟩ : ∃ r, t[m]? = some r := ⟨_, List.getElem?_eq_getElem (by rw [hn'.out]; exact hltm)⟩
            obtain ⟨rfl, hg⟩ := h3'.out (by omega)
            obtain rfl := hk1'.out (by omega)
            obtain ⟨hc, hc1, hc2, hc3⟩ := (h4'.out m r hr).kept eS hg hbx
            have hr' := Lib.hid hr
            obtain ⟨rid, rl, ru, rx⟩ := r
            have hal : Below w.heap.size w (wr.alloc (.cells #[.int .i64 rid, .int .i64 rl, .int .i64 ru, .string rx] 42)) := hbx.alloc hbx.size _
            have hca := hcell'.out _ hal
            have hal' := Lib.hid hal
            have hownA := World.ownsRow.alloc hown (.cells #[.int .i64 rid, .int .i64 rl, .int .i64 ru, .string rx] 42)
            have hownA' := Lib.hid hownA
            have hlen : (keptAt t k m).length ≤ 1099511627776 := Nat.le_trans (kept_len t k m) (by rw [hn'.out]; exact ht)
            have hlen' := Lib.hid hlen
            have hbx' := Lib.hid hbx
            have hown' := Lib.hid hown
            simp only at hc hc1 hc2 hc3
            clear hr hal hownA hlen hbx hown
            by_cases h8 : n < 8
            · have hkm := Lib.hid (kept_more hr'.out (.inl (by rw [hn'.out]; exact h8)) (k := k))
              have d0 : decide ((n : Int) < 8) = true := by simp; omega
              go_wp2_with (at_builtin; refine append_rs (w0 := (wr.alloc (.cells #[.int .i64 rid, .int .i64 rl, .int .i64 ru, .string rx] 42))) rid rl ru rx rfl _ _ rfl w.heap.size _ (keptAt t k m) _ (by simp) rfl rfl hownA'.out hlen'.out hal'.out.size ?_)
              intro v' w3 hown3 hg3
              have hbw3 := left_of hownA'.out hg3 _ _ hal'.out (Nat.le_refl _) hal'.out.size
              have hown3' := Lib.hid hown3
              clear hg3 hown3
              go_wp2
              go_roundw
              case rel => exact ⟨m + 1, by go_num, by omega, hbw3, by rw [hkm.out]; exact hown3'.out⟩
              case measure => simp [RowKit.intOf]; omega
            · have d0 : decide ((n : Int) < 8) = false := by simp; omega
              by_cases hmk : m = k
              · subst hmk
                have hkm := Lib.hid (kept_less hr'.out (by rw [hn'.out]; exact h8))
                go_wp2
                go_roundw
                case rel => exact ⟨m + 1, by go_num, by omega, hal'.out, by rw [hkm.out]; exact hownA'.out⟩
                case measure => simp [RowKit.intOf]; omega
              · have hkm := Lib.hid (kept_more hr'.out (.inr hmk))
                have d1 : ((m : Int) != (k : Int)) = true := by simp; omega
                go_wp2_with (at_builtin; refine append_rs (w0 := (wr.alloc (.cells #[.int .i64 rid, .int .i64 rl, .int .i64 ru, .string rx]   42  ))) rid rl ru rx rfl _ _ rfl w.heap.size _ (keptAt t k m) _ (by simp) rfl rfl hownA'.out hlen'.out hal'.out.size ?_)
                intro v' w3 hown3 hg3
                have hbw3 := left_of hownA'.out hg3 _ _ hal'.out (Nat.le_refl _) hal'.out.size
                have hown3' := Lib.hid hown3
                clear hg3 hown3
                go_wp2
                go_roundw
                case rel => exact ⟨m + 1, by go_num, by omega, hbw3, by rw [hkm.out]; exact hown3'.out⟩
                case measure => simp [RowKit.intOf]; omega
          · obtain rfl : m = n := by omega
            have hlen : (keptAt t k m).length ≤ 1099511627776 := Nat.le_trans (kept_len t k m) (by rw [hn'.out]; exact ht)
            have hlen' := Lib.hid hlen
            have hbx' := Lib.hid hbx
            have hown' := Lib.hid hown
            clear hlen hbx hown
            go_wp2_with (at_builtin; refine append_rs (w0 := wr) now 0 now nS rfl _ _ rfl w.heap.size _ (keptAt t k m) _ rfl rfl rfl hown'.out hlen'.out hbx'.out.size ?_)
            intro v' w3 hown3 hg3
            have hbw3 := left_of hown'.out hg3 _ _ hbx'.out (Nat.le_refl _) hbx'.out.size
            have hfin2 := Lib.hid (hfin.out v' w3 hbw3 hown3)
            have hb3 := (hbw3.block b hblt).trans hbl'.out
            have d1 := hcell'.out w3 hbw3
            have f1 : w3.frozen? ⟨b, 0, none⟩ = false := Lib.frozen_of_heap hb3 0
            obtain ⟨ao, c3, rfl⟩ := ownsRow_form hown3
            clear hg3 hown3 hbw3 hb3
            go_wp2
            go_ret
            have hF := hfin2.out
            rw [List.length_append] at hF
            exact hF
end Go.Proofs.Ytnmcgmfpalgpnaa.Se
