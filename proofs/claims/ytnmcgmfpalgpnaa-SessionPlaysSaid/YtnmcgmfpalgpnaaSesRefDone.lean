/-
  THE WALK OF THE REFERENCE's Done.
-/
import Derived.Test.YtnmcgmfpalgpnaaSesRefSet
set_option linter.unusedVariables false
namespace Go.Proofs.Ytnmcgmfpalgpnaa.Se
open Go.Lib Go.RowKit

def doneR {α : Type} (id seq now : Int) (x : α) (r : Ro α) : Ro α := if r.id = id then ⟨r.id, seq, now, x⟩ else r
def mixT {α : Type} (f : Ro α → Ro α) (t : Tb α) (i : Nat) : Tb α := (t.take i).map f ++ t.drop i
theorem mix_zero {α : Type} (f : Ro α → Ro α) (t : Tb α) : mixT f t 0 = t := by simp [mixT]
theorem mix_all {α : Type} (f : Ro α → Ro α) (t : Tb α) : mixT f t t.length = t.map f := by simp [mixT]
theorem mix_len {α : Type} (f : Ro α → Ro α) (t : Tb α) (i : Nat) : (mixT f t i).length = t.length := by simp [mixT]; omega
theorem mix_at {α : Type} {f : Ro α → Ro α} {t : Tb α} {i : Nat} {r : Ro α} (h : t[i]? = some r) : (mixT f t i)[i]? = some r := by
  have hl := (List.getElem?_eq_some_iff.1 h).1
  unfold mixT
  rw [List.getElem?_append_right (by simp; omega)]
  simp
  rw [Nat.min_eq_left (by omega)]
  simpa using h
theorem mix_step {α : Type} {f : Ro α → Ro α} {t : Tb α} {i : Nat} {r : Ro α} (h : t[i]? = some r) : mixT f t (i + 1) = (mixT f t i).set i (f r) := by
  obtain ⟨hl, hv⟩ := List.getElem?_eq_some_iff.1 h
  unfold mixT
  rw [List.take_succ_eq_append_getElem hl, hv, List.map_append, List.drop_eq_getElem_cons hl, hv, List.set_append_right _ _ (by simp; omega)]
  have : i - ((t.take i).map f).length = 0 := by simp; omega
  rw [this]
  simp
theorem mix_same {α : Type} {f : Ro α → Ro α} {t : Tb α} {i : Nat} {r : Ro α} (h : t[i]? = some r) (hf : f r = r) : mixT f t (i + 1) = mixT f t i := by
  rw [mix_step h, hf]
  have := mix_at (f := f) h
  obtain ⟨hl, hv⟩ := List.getElem?_eq_some_iff.1 this
  rw [← hv, List.set_getElem_self]
theorem done_no {α : Type} (z : α) {t : Tb α} {id seq now : Int} (x : α) (h : (askT z t id seq).1 ≠ 1 ∨ ∃ r ∈ t, now < r.used) : doneT z t id seq now x = (t, false) := by
  unfold doneT
  rw [if_pos]
  rcases h with h | ⟨r, hr, h⟩
  · exact .inl h
  · exact .inr (List.any_eq_true.2 ⟨r, hr, by simpa using h⟩)
theorem done_yes {α : Type} (z : α) {t : Tb α} {id seq now : Int} (x : α) (h : (askT z t id seq).1 = 1) (h2 : ∀ r ∈ t, ¬ now < r.used) : doneT z t id seq now x = (t.map (doneR id seq now x), true) := by
  unfold doneT
  rw [if_neg]
  · rfl
  · rintro (h' | h')
    · exact h' h
    · obtain ⟨r, hr, hr2⟩ := List.any_eq_true.1 h'
      exact h2 r hr (by simpa using hr2)

set_option maxHeartbeats 8000000 in
set_option maxRecDepth 100000 in
theorem refDone_any (B b : Nat) (v : Value) (t : Tb ByteArray) (id seq now : Int) (x : ByteArray) (w : World) (hT : TabR B b v t w) (hB : B ≤ w.heap.size) (ht : t.length ≤ 1099511627776) :
    Calls Try.prog 13 #[.pointer (some ⟨b, 0, none⟩), .int .i64 id, .int .i64 seq, .int .i64 now, .string x] w fun e w' =>
      e = .returned (.bool (doneT nS t id seq now x).2) ∧ After eS 29 42 B b v (doneT nS t id seq now x).1 w w' := by
  have cA := refAsk_any b v t id seq w hT.blk hT.own.at ht
  unfold askE at cA
  have hno : ((askT nS t id seq).1 ≠ 1 ∨ ∃ r ∈ t, now < r.used) → ∀ w', Below w.heap.size w w' → Ending.returned (.bool false) = .returned (.bool (doneT nS t id seq now x).2) ∧ After eS 29 42 B b v (doneT nS t id seq now x).1 w w' := fun h w' hw => by
    rw [done_no nS x h]
    exact ⟨rfl, After.same hT hw⟩
  have hyes : (askT nS t id seq).1 = 1 → (∀ r ∈ t, ¬ now < r.used) → ∀ w', TabR B b v (mixT (doneR id seq now x) t t.length) w' → Else b v w w' →
      Ending.returned (.bool true) = .returned (.bool (doneT nS t id seq now x).2) ∧ After eS 29 42 B b v (doneT nS t id seq now x).1 w w' := fun h1 h2 w' hw hE => by
    rw [done_yes nS x h1 h2]
    rw [mix_all] at hw
    exact ⟨rfl, v, hw, fun k hk => .inl hk, hE⟩
  generalize doneT nS t id seq now x = R at hno hyes ⊢
  generalize askT nS t id seq = a at cA hno hyes
  obtain ⟨a, y⟩ := a
  simp only at cA hno hyes
  have hT0 := Lib.hid hT
  obtain ⟨n, hn⟩ : ∃ n, t.length = n := ⟨_, rfl⟩
  have hv : RsS w v t := hT.own.at
  obtain ⟨A, g, off, c, hve, h1, h2, h3, h4⟩ := hv
  have hform : ∀ i, i < n → ∃ g, A = some ⟨g, 0, none⟩ ∧ g ≠ b := fun i hi => by
    rcases hT.own.2 with ⟨e1, e2⟩ | ⟨g', cap, cur, e1, _⟩
    · omega
    · rw [hve] at e1
      injection e1 with e1
      refine ⟨g', e1, fun e => hT.apart (by rw [hve, e1, e]; rfl)⟩
  have hblt := hT.lt
  rw [hn] at hve h1 h3
  rw [hve] at hT hT0 hno hyes ⊢
  clear hve
  have hbl := hT.blk
  have hcell : ∀ W, Below w.heap.size w W → W.cell? ⟨b, 0, none⟩ = some (.slice A n c) := fun W hW => by
    rw [Lib.cell_of_heap ((hW.block b hblt).trans hbl)]; rfl
  have hn' := Lib.hid hn
  have hno' := Lib.hid hno
  have hyes' := Lib.hid hyes
  have h3' := Lib.hid h3
  have h4' := Lib.hid h4
  have hcell' := Lib.hid hcell
  have hform' := Lib.hid hform
  unfold maxLen at h2
  clear hno hyes hn h3 h4 hbl hT hcell hform
  go_enter Try.func13, Try.ntmps13
  go_wp2_with fail
  go_at_call 11
  refine cA.mono ?_
  rintro e w1 ⟨rfl, hb1⟩
  clear cA
  by_cases ha : a = 1
  · subst ha
    have hc1 := hcell'.out w1 hb1
    go_wp2
    go_loopw [30] (fun s30 wr => ∃ i : Nat, s30 = .int .i64 (i : Int) ∧ i ≤ n ∧ Below w.heap.size w wr ∧ ∀ y ∈ t.take i, ¬ now < y.used) (fun s30 wr => n - (RowKit.intOf s30).toNat)
    case atStart => exact ⟨0, rfl, Nat.zero_le _, hb1, fun x hx => by simp at hx⟩
    case round =>
      obtain ⟨i, rfl, hi, hbw, hall⟩ := hrel
      have hall' := Lib.hid hall
      clear hall
      by_cases hlt : i < n
      · obtain ⟨r, hr⟩ : ∃ r, t[i]? = some r := ⟨_, List.getElem?_eq_getElem (by rw [hn'.out]; exact hlt)⟩
        obtain ⟨rfl, hg⟩ := h3'.out (by omega)
        obtain ⟨hc, hc1, hc2, hc3⟩ := (h4'.out i r hr).kept eS hg hbw
        have hr' := Lib.hid hr
        obtain ⟨rid, rl, ru, rx⟩ := r
        have hal : Below w.heap.size w (wr.alloc (.cells #[.int .i64 rid, .int .i64 rl, .int .i64 ru, .string rx] 42)) := hbw.alloc hbw.size _
        have hal' := Lib.hid hal
        simp only at hc hc1 hc2 hc3
        clear hr hbw hal
        by_cases e1 : now < ru
        · have hR := Lib.hid (hno'.out (.inr ⟨_, List.mem_of_getElem? hr'.out, e1⟩))
          go_wp2
          go_ret
          exact hR.out _ hal'.out
        · have hnx := Lib.hid (take_more hr'.out hall'.out (P := fun y : Ro ByteArray => ¬ now < y.used) e1)
          go_wp2
          go_roundw
          case rel => exact ⟨i + 1, by go_num, by omega, hal'.out, hnx.out⟩
          case measure => simp [RowKit.intOf]; omega
      · have hfin := Lib.hid (hyes'.out (by first | rfl | trivial) (fun r hr => by have := hall'.out; rw [List.take_of_length_le (by rw [hn'.out]; omega)] at this; have := this r hr; omega))
        have hcw := hcell'.out wr hbw
        have hT1 : TabR B b (.slice A n c) t wr := hT0.out.kept hbw
        have hE1 : Else b (.slice A n c) w wr := Else.of_below hbw
        have hT1' := Lib.hid hT1
        have hE1' := Lib.hid hE1
        clear hall' hno' hyes' hT1 hE1 hbw
        go_wp2
        go_loopw [44] (fun s44 wx => ∃ i : Nat, s44 = .int .i64 (i : Int) ∧ i ≤ n ∧ TabR B b (.slice A n c) (mixT (doneR id seq now x) t i) wx ∧ Else b (.slice A n c) w wx) (fun s44 wx => n - (RowKit.intOf s44).toNat)
        case atStart => exact ⟨0, rfl, Nat.zero_le _, by rw [mix_zero]; exact hT1'.out, hE1'.out⟩
        case round =>
          obtain ⟨m, rfl, hm, hTx, hEx⟩ := hrel
          have hTx' := Lib.hid hTx
          have hEx' := Lib.hid hEx
          have hcx : wr.cell? ⟨b, 0, none⟩ = some (.slice A n c) := by rw [Lib.cell_of_heap hTx.blk]; rfl
          by_cases hltm : m < n
          · obtain ⟨r, hr⟩ : ∃ r, t[m]? = some r := ⟨_, List.getElem?_eq_getElem (by rw [hn'.out]; exact hltm)⟩
            obtain ⟨g2, rfl, hgb⟩ := hform'.out m hltm
            have hml : (mixT (doneR id seq now x) t m).length = n := by rw [mix_len, hn'.out]
            have hma : (mixT (doneR id seq now x) t m)[m]? = some r := mix_at hr
            obtain ⟨⟨k0, k1, k2, k3⟩, hfz⟩ := hTx.cells hml hma
            have f1 := hfz (m * 4 + 1)
            have f2 := hfz (m * 4 + 2)
            have f3 := hfz (m * 4 + 3)
            have hst := hTx.stored hml hma seq now x
            have hsame : r.id ≠ id → mixT (doneR id seq now x) t (m + 1) = mixT (doneR id seq now x) t m := fun h => mix_same hr (by unfold doneR; rw [if_neg h])
            have hstep : r.id = id → mixT (doneR id seq now x) t (m + 1) = (mixT (doneR id seq now x) t m).set m ⟨r.id, seq, now, x⟩ := fun h => by rw [mix_step hr]; unfold doneR; rw [if_pos h]
            obtain ⟨rid, rl, ru, rx⟩ := r
            simp only at k0 k1 k2 k3 hst hsame hstep
            have hst' := Lib.hid hst
            clear hfz hma hml hTx hEx hr hst
            by_cases e1 : rid = id
            · have d1 : (rid == id) = true := by simpa using e1
              have hS := Lib.hid (hstep e1)
              clear hsame hstep e1
              go_wp2
              exact ⟨⟨m + 1, by go_num, by omega, by rw [hS.out]; exact hst'.out.1, hEx'.out.trans hst'.out.2⟩, by simp [RowKit.intOf]; omega⟩
            · have d1 : (rid == id) = false := by simpa using e1
              have hS := Lib.hid (hsame e1)
              clear hsame hstep e1
              go_wp2
              go_roundw
              case rel => exact ⟨m + 1, by go_num, by omega, by rw [hS.out]; exact hTx'.out, hEx'.out⟩
              case measure => simp [RowKit.intOf]; omega
          · obtain rfl : m = n := by omega
            have hR := Lib.hid (hfin.out wr (by rw [hn'.out]; exact hTx) hEx)
            clear hTx hEx
            go_wp2
            go_ret
            exact hR.out
  · have hR := Lib.hid (hno'.out (.inl ha) w1 hb1)
    have d1 : ((a : Int) != 1) = true := by simp; omega
    go_wp2
    go_ret
    exact hR.out
end Go.Proofs.Ytnmcgmfpalgpnaa.Se
