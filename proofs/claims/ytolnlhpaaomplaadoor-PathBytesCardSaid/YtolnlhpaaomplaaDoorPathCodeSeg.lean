/-
  THE WALKS OF path.write AND path.Segment.
-/
import Derived.Test.YtolnlhpaaomplaaDoorPathCode
import Derived.Test.YtolnlhpaaomplaaDoorBuild
set_option linter.unusedVariables false
namespace Go.Proofs.YtolnlhpaaomplaaDoor.Pa
open Go.Lib Go.RowKit Bu

theorem hexU_at : ∀ q : Fin 16, (⟨#[48, 49, 50, 51, 52, 53, 54, 55, 56, 57, 65, 66, 67, 68, 69, 70]⟩ : ByteArray)[q.val]'q.isLt = hexU.getD q.val 0 := by decide +kernel
set_option maxHeartbeats 4000000 in
set_option maxRecDepth 100000 in
theorem write_seg (t : ByteArray) (w : World) (hcl : t.size ≤ 64) :
    Calls Tryd.prog 17 #[.string t] w fun e w' => (∃ x : ByteArray, x.data.toList = seg t.data.toList ∧ e = .returned (.string x)) ∧ Below w.heap.size w w' := by
  obtain ⟨b, hb⟩ : ∃ b, w.heap.size = b := ⟨_, rfl⟩
  obtain ⟨w2, hw2⟩ : ∃ w2, w.alloc (.cells #[.pointer none, .slice none 0 0] 46) = w2 := ⟨_, rfl⟩
  have hbd : Bd b b [] w2 := by rw [← hw2, ← hb]; exact fresh w
  have hB2 : Below b w w2 := by rw [← hw2, ← hb]; exact (Below.refl _ _).alloc (Nat.le_refl _) _
  have hbd' := Lib.hid hbd
  have hB2' := Lib.hid hB2
  clear hbd hB2
  go_enter Tryd.func17, Tryd.ntmps17
  go_wp2
  go_loopw [4] (fun s5 wr => ∃ k : Nat, s5 = .int .i64 (k : Int) ∧ k ≤ t.size ∧ Bd b b (seg (t.data.toList.take k)) wr ∧ Below b w wr) (fun s5 wr => t.size - (RowKit.intOf s5).toNat)
  case atStart => exact ⟨0, rfl, Nat.zero_le _, hbd'.out, hB2'.out⟩
  case round =>
    obtain ⟨k, rfl, hk, hbd, hB⟩ := hrel
    have hlen := seg_len (t.data.toList.take k)
    rw [List.length_take] at hlen
    have hbs : b ≤ wr.heap.size := by have := hB.size; omega
    by_cases hlt : k < t.size
    · have hst := seg_take t k hlt
      obtain ⟨c, hc⟩ : ∃ c, t[k]'hlt = c := ⟨_, rfl⟩
      rw [hc] at hst
      by_cases hbr : bare c = true
      · have cB := bare_any c wr
        rw [hbr] at cB
        have cW := byte_any b b _ c wr hbd (by omega) hbs
        have hn := Lib.hid (show seg (t.data.toList.take k) ++ [c] = seg (t.data.toList.take (k + 1)) by rw [hst]; unfold escB; rw [if_pos hbr])
        have hB' := Lib.hid hB
        clear hst hbr hbd hB
        go_wp2_with fail
        go_at_call 25
        with_reducible refine cB.mono ?_
        rintro e w3 ⟨rfl, rfl⟩
        go_wp2_with fail
        go_at_call 26
        refine cW.mono ?_
        rintro e w4 ⟨rfl, hbd4, hB4⟩
        rw [hn.out] at hbd4
        have hbd4' := Lib.hid hbd4
        have hB4' := Lib.hid (hB'.out.trans hB4)
        clear hbd4 hB4 cW cB
        go_wp2
        go_roundw
        case rel => exact ⟨k + 1, by go_num, by omega, hbd4'.out, hB4'.out⟩
        case measure => simp [RowKit.intOf]; omega
      · have hbf : bare c = false := by simpa using hbr
        have cB := bare_any c wr
        rw [hbf] at cB
        have cW := byte_any b b _ 37 wr hbd (by omega) hbs
        obtain ⟨v, hv⟩ : ∃ v, c.toNat = v := ⟨_, rfl⟩
        have hv256 : v < 256 := by rw [← hv]; exact c.toNat_lt
        obtain ⟨q, hq⟩ : ∃ q, v / 16 = q := ⟨_, rfl⟩
        obtain ⟨r, hr⟩ : ∃ r, v % 16 = r := ⟨_, rfl⟩
        have hq16 : q < 16 := by omega
        have hr16 : r < 16 := by omega
        have d1 : (v : Int) / 16 = (q : Int) := by omega
        have d2 : (v : Int) % 16 = (r : Int) := by omega
        have d3 : (q : Int) < 16 := by omega
        have d4 : (r : Int) < 16 := by omega
        have d5 : (0 : Int) ≤ (q : Int) := by omega
        have d6 : (0 : Int) ≤ (r : Int) := by omega
        have hqs : q < (⟨#[48, 49, 50, 51, 52, 53, 54, 55, 56, 57, 65, 66, 67, 68, 69, 70]⟩ : ByteArray).size := hq16
        have hrs : r < (⟨#[48, 49, 50, 51, 52, 53, 54, 55, 56, 57, 65, 66, 67, 68, 69, 70]⟩ : ByteArray).size := hr16
        obtain ⟨x, hx⟩ : ∃ x, (⟨#[48, 49, 50, 51, 52, 53, 54, 55, 56, 57, 65, 66, 67, 68, 69, 70]⟩ : ByteArray)[q]'hqs = x := ⟨_, rfl⟩
        obtain ⟨y, hy⟩ : ∃ x, (⟨#[48, 49, 50, 51, 52, 53, 54, 55, 56, 57, 65, 66, 67, 68, 69, 70]⟩ : ByteArray)[r]'hrs = x := ⟨_, rfl⟩
        have ex := hexU_at ⟨q, hq16⟩
        have ey := hexU_at ⟨r, hr16⟩
        have hn := Lib.hid (show seg (t.data.toList.take k) ++ [37] ++ [x] ++ [y] = seg (t.data.toList.take (k + 1)) by
          rw [hst]; unfold escB escH; rw [if_neg hbr, hv, hq, hr, ← hx, ← hy, ex, ey]; simp)
        have hB' := Lib.hid hB
        have hsl : (seg (t.data.toList.take k)).length ≤ 3 * 64 := by omega
        clear hst hbr hbd hB ex ey hlen hq hr
        subst hv
        go_wp2_with fail
        go_at_call 25
        with_reducible refine cB.mono ?_
        rintro e w3 ⟨rfl, rfl⟩
        go_wp2_with fail
        go_at_call 26
        refine cW.mono ?_
        rintro e w4 ⟨rfl, hbd4, hB4⟩
        have cX := byte_any b b _ x w4 hbd4 (by simp; omega) (by have := hB4.size; omega)
        have hB4' := Lib.hid (hB'.out.trans hB4)
        clear cW cB hbd4
        go_wp2_with fail
        go_at_call 26
        refine cX.mono ?_
        rintro e w5 ⟨rfl, hbd5, hB5⟩
        have cY := byte_any b b _ y w5 hbd5 (by simp; omega) (by have := hB4.size; have := hB5.size; omega)
        have hB5' := Lib.hid (hB4'.out.trans hB5)
        clear cX hbd5 hB4 hB5
        go_wp2_with fail
        go_at_call 26
        refine cY.mono ?_
        rintro e w6 ⟨rfl, hbd6, hB6⟩
        rw [hn.out] at hbd6
        have hbd6' := Lib.hid hbd6
        have hB6' := Lib.hid (hB5'.out.trans hB6)
        clear cY hbd6 hB6
        go_wp2
        go_roundw
        case rel => exact ⟨k + 1, by go_num, by omega, hbd6'.out, hB6'.out⟩
        case measure => simp [RowKit.intOf]; omega
    · have hfull : seg (t.data.toList.take k) = seg t.data.toList := by rw [List.take_of_length_le (by rw [← Lib.size_eq]; omega)]
      rw [hfull] at hbd
      have cT := text_any b b _ wr hbd hbs
      have hB' := Lib.hid hB
      clear hbd hB hfull
      go_wp2_with fail
      go_at_call 27
      with_reducible refine cT.mono ?_
      rintro e w3 ⟨rfl, _, hB3⟩
      have hfin := Lib.hid (hB'.out.trans hB3)
      clear cT hB3
      go_wp2
      go_ret
      exact ⟨⟨_, by simp, rfl⟩, by rw [hb]; exact hfin.out⟩

set_option maxHeartbeats 4000000 in
set_option maxRecDepth 100000 in
theorem segment_any : SegC := fun t w ht hT => by
  have cF := fits_any t w (by unfold mostS at ht; omega) hT
  by_cases hf : fits t.data.toList = true
  · rw [hf] at cF
    have hcl := fits_len hf
    rw [← Lib.size_eq] at hcl
    have cW := fun W => write_seg t W (by omega)
    have hf' := Lib.hid hf
    clear hf hT ht
    go_enter Tryd.func8, Tryd.ntmps8
    go_wp2_with fail
    go_at_call 16
    with_reducible refine cF.mono ?_
    rintro e w1 ⟨rfl, hb1⟩
    have hb1' := Lib.hid hb1
    clear cF hb1
    go_wp2_with fail
    go_at_call 17
    with_reducible refine (cW _).mono ?_
    rintro e w2 ⟨⟨x, hx, rfl⟩, hb2⟩
    have hx' := Lib.hid hx
    have hfin := Lib.hid (below_then hb1'.out hb2)
    clear cW hb2 hx
    go_wp2
    go_ret2
    exact ⟨.inr ⟨hf'.out, _, hx'.out, rfl⟩, hfin.out⟩
  · have hff : fits t.data.toList = false := by simpa using hf
    rw [hff] at cF
    have hff' := Lib.hid hff
    clear hf hff hT
    go_enter Tryd.func8, Tryd.ntmps8
    go_wp2_with fail
    go_at_call 16
    with_reducible refine cF.mono ?_
    rintro e w1 ⟨rfl, hb1⟩
    have hb1' := Lib.hid hb1
    clear hb1 cF
    go_wp2
    go_ret2
    exact ⟨.inl ⟨hff'.out, rfl⟩, hb1'.out⟩
end Go.Proofs.YtolnlhpaaomplaaDoor.Pa
