/-
  THE WALK OF path.read.
-/
import Derived.Test.YtolnlhpaaomplaaDoorPathCodeSeg
set_option linter.unusedVariables false
namespace Go.Proofs.YtolnlhpaaomplaaDoor.Pa
open Go.Lib Go.RowKit Bu

def TextQ (t : Row) (e : Ending) : Prop := (textS t = none ∧ e = .returned (.tuple #[.string ⟨#[]⟩, .bool false])) ∨ ∃ x : ByteArray, textS t = some x.data.toList ∧ e = .returned (.tuple #[.string x, .bool true])
theorem textQ_none {t : Row} (h : rdS t = none) : TextQ t (.returned (.tuple #[.string ⟨#[]⟩, .bool false])) := .inl ⟨by unfold textS; rw [h]; rfl, rfl⟩
theorem textQ_bad {t l : Row} (h : rdS t = some l) (hf : fits l = false) : TextQ t (.returned (.tuple #[.string ⟨#[]⟩, .bool false])) := .inl ⟨by unfold textS; rw [h]; simp [hf], rfl⟩
theorem textQ_ok {t l : Row} (h : rdS t = some l) (hf : fits l = true) : TextQ t (.returned (.tuple #[.string ⟨l.toArray⟩, .bool true])) := .inr ⟨_, by unfold textS; rw [h]; simp [hf], rfl⟩

theorem At.escT {s : ByteArray} {i : Nat} {l : Row} (h : At s.data.toList i l) (hi : i < s.size) (hc : s[i]'hi = 37) {d f : UInt8} {r : Row} (ht : s.data.toList.drop (i + 1) = d :: f :: r) (h3 : hexv d < 16) (h4 : hexv f < 16) :
    At s.data.toList (i + 2 + 1) (l ++ [UInt8.ofNat (16 * hexv d + hexv f)]) := by
  unfold At at h ⊢
  have hr : s.data.toList.drop (i + 2 + 1) = r := by
    have := congrArg (List.drop 2) ht
    rw [List.drop_drop] at this
    rw [show i + 2 + 1 = i + 1 + 2 by omega, this]; rfl
  rw [h, drop_head s i hi, hc, ht, hr, rdS_esc _ _ _ h3 h4, Option.map_map]
  congr 1
  funext y
  simp
theorem At.badT {s : ByteArray} {i : Nat} {l : Row} (h : At s.data.toList i l) (hi : i < s.size) (hc : s[i]'hi = 37) (ht : ∀ d f r, s.data.toList.drop (i + 1) = d :: f :: r → ¬ (hexv d < 16 ∧ hexv f < 16)) : rdS s.data.toList = none := by
  unfold At at h
  rw [h, drop_head s i hi, hc]
  match hd : s.data.toList.drop (i + 1) with
  | [] => rw [rdS_short _ (by simp)]; rfl
  | [d] => rw [rdS_short _ (by simp)]; rfl
  | d :: f :: r => rw [rdS_bad _ _ _ (ht d f r hd)]; rfl
theorem below_dN {B : Nat} {a w : World} (n : Nat) (h : Below B a w) : Below B a (w.drewN n) := ⟨h.os, h.tape, h.output, h.size, h.block⟩
theorem bd_dN {B b : Nat} {l : Row} {w : World} (n : Nat) (h : Bd B b l w) : Bd B b l (w.drewN n) := h.kept (below_dN n (Below.refl _ _))
theorem plain_same {c : UInt8} {r : Bool} (h : bare c = r) (W : World) : Calls Tryd.prog 25 #[.int .u8 (c.toNat : Int)] W fun e w' => e = .returned (.bool r) ∧ w' = W :=
  (bare_any c W).mono fun e w' q => ⟨by rw [← h]; exact q.1, q.2.symm⟩
set_option maxHeartbeats 4000000 in
set_option maxRecDepth 100000 in
theorem text_any' (s : ByteArray) (w : World) (hs : s.size ≤ mostS) (hT : Ch.Tabs w) :
    Calls Tryd.prog 22 #[.string s] w fun e w' => TextQ s.data.toList e ∧ Below w.heap.size w w' := by
  unfold mostS at hs
  obtain ⟨b, hb⟩ : ∃ b, w.heap.size = b := ⟨_, rfl⟩
  obtain ⟨w2, hw2⟩ : ∃ w2, w.alloc (.cells #[.pointer none, .slice none 0 0] 46) = w2 := ⟨_, rfl⟩
  have hbd : Bd b b [] w2 := by rw [← hw2, ← hb]; exact fresh w
  have hB2 : Below b w w2 := by rw [← hw2, ← hb]; exact (Below.refl _ _).alloc (Nat.le_refl _) _
  have hbd' := Lib.hid hbd
  have hB2' := Lib.hid hB2
  have hT' := Lib.hid hT
  clear hbd hB2 hT
  go_enter Tryd.func22, Tryd.ntmps22
  go_wp2
  go_loopw [5] (fun s5 wr => ∃ (i : Nat) (l : Row), s5 = .int .i64 (i : Int) ∧ i ≤ s.size ∧ l.length ≤ i ∧ At s.data.toList i l ∧ Bd b b l wr ∧ Below b w wr) (fun s5 wr => s.size - (RowKit.intOf s5).toNat)
  case atStart => exact ⟨0, [], rfl, Nat.zero_le _, Nat.zero_le _, by unfold At; simp, hbd'.out, hB2'.out⟩
  case round =>
    obtain ⟨i, l, rfl, hi, hl, hR, hbd, hB⟩ := hrel
    have hbs : b ≤ wr.heap.size := by have := hB.size; omega
    by_cases hlt : i < s.size
    · obtain ⟨c, hc⟩ : ∃ c, s[i]'hlt = c := ⟨_, rfl⟩
      by_cases c1 : c = 37
      · subst c1
        have cB := plain_same bare_pct
        obtain ⟨A, hA⟩ : ∃ A, i + 1 = A := ⟨_, rfl⟩
        have k1 : (i : Int) + 1 = (A : Int) := by omega
        have k2 : (A : Int) ≤ (s.size : Int) := by omega
        have k3 : A ≤ s.size := by omega
        obtain ⟨T, hTt⟩ : ∃ T, s.extract A s.size = T := ⟨_, rfl⟩
        have hTd : T.data.toList = s.data.toList.drop (i + 1) := by rw [← hTt, Lib.extract_to_end, hA]
        have hTs : T.size = s.size - A := by rw [Lib.size_eq, hTd, List.length_drop, ← Lib.size_eq, hA]
        have cE := fun W => escape_any T W
        rw [hTd] at cE
        have hE : Hid (∀ d f r, s.data.toList.drop (i + 1) = d :: f :: r → hexv d < 16 → hexv f < 16 → i + 2 < s.size ∧ At s.data.toList (i + 2 + 1) (l ++ [UInt8.ofNat (16 * hexv d + hexv f)])) := Lib.hid fun d f r q q1 q2 => ⟨by
          have := congrArg List.length q
          rw [List.length_drop, ← Lib.size_eq, List.length_cons, List.length_cons] at this
          omega, hR.escT hlt hc q q1 q2⟩
        have hN : Hid ((∀ d f r, s.data.toList.drop (i + 1) = d :: f :: r → ¬ (hexv d < 16 ∧ hexv f < 16)) → TextQ s.data.toList (.returned (.tuple #[.string ⟨#[]⟩, .bool false]))) := Lib.hid fun q => textQ_none (hR.badT hlt hc q)
        have hB' := Lib.hid hB
        have hbd' := Lib.hid hbd
        clear hR hB hbd hTd
        go_wp2_with fail
        go_quiet ((go_at_call 25; exact Calls.quiet_of_same (cB _)))
        go_wp2_with fail
        go_at_call 31
        with_reducible refine (cE _).mono ?_
        rintro e w3 ⟨hp, rfl⟩
        rcases hp with ⟨d, f, r, q, q1, q2, rfl⟩ | ⟨q, z, rfl⟩
        · obtain ⟨hlt2, hn⟩ := hE.out d f r q q1 q2
          have hn' := Lib.hid hn
          obtain ⟨x, hx⟩ : ∃ x, UInt8.ofNat (16 * hexv d + hexv f) = x := ⟨_, rfl⟩
          rw [hx] at hn' ⊢
          have cW := fun m => byte_any b b _ x (wr.drewN m) (bd_dN m hbd'.out) (by omega) hbs
          clear hE hN q q1 q2 hx hn cE cB hbd'
          go_wp2_with fail
          go_at_call 26
          refine (cW _).mono ?_
          rintro e w4 ⟨rfl, hbd4, hB4⟩
          have hbd4' := Lib.hid hbd4
          have hB4' := Lib.hid ((below_dN _ hB'.out).trans hB4)
          clear hbd4 hB4 cW
          go_wp2
          go_roundw
          case rel => exact ⟨i + 2 + 1, _, by go_num, by omega, by simp; omega, hn'.out, hbd4'.out, hB4'.out⟩
          case measure => simp [RowKit.intOf]; omega
        · have hfin := Lib.hid (hN.out q)
          clear hE hN cE cB q
          go_wp2
          go_ret2
          exact ⟨hfin.out, by rw [hb]; exact below_dN _ hB'.out⟩
      · have d1 : (((c.toNat : Nat) : Int) == 37) = false := tn (m := 37) rfl c1
        by_cases hbr : bare c = true
        · have hn := Lib.hid (hR.own hlt (by rw [hc]; exact hbr))
          rw [hc] at hn
          have cB := plain_same hbr
          have cW := fun m => byte_any b b _ c (wr.drewN m) (bd_dN m hbd) (by omega) hbs
          have hB' := Lib.hid hB
          clear hR hbr c1 hbd hB
          go_wp2_with fail
          go_quiet ((go_at_call 25; exact Calls.quiet_of_same (cB _)))
          go_wp2_with fail
          go_at_call 26
          refine (cW _).mono ?_
          rintro e w4 ⟨rfl, hbd4, hB4⟩
          have hbd4' := Lib.hid hbd4
          have hB4' := Lib.hid ((below_dN _ hB'.out).trans hB4)
          clear hbd4 hB4 cW cB
          go_wp2
          go_roundw
          case rel => exact ⟨i + 1, _, by go_num, by omega, by simp; omega, hn.out, hbd4'.out, hB4'.out⟩
          case measure => simp [RowKit.intOf]; omega
        · have hbf : bare c = false := by simpa using hbr
          have hf := Lib.hid (textQ_none (hR.no hlt (by rw [hc]; exact hbf) (by rw [hc]; exact c1)))
          have cB := plain_same hbf
          have hB' := Lib.hid hB
          clear hR hbr hbf c1 hbd hB hl
          go_wp2_with fail
          go_quiet ((go_at_call 25; exact Calls.quiet_of_same (cB _)))
          go_wp2
          go_ret2
          exact ⟨hf.out, by rw [hb]; exact below_dN _ hB'.out⟩
    · have hfr := Lib.hid (hR.fin (by omega))
      have cT := text_any b b _ wr hbd hbs
      have hB' := Lib.hid hB
      clear hR hbd hB
      go_wp2_with fail
      go_at_call 27
      with_reducible refine cT.mono ?_
      rintro e w3 ⟨rfl, hbd3, hB3⟩
      have hB3' := hB'.out.trans hB3
      have cF := fits_any ⟨l.toArray⟩ w3 (by rw [Lib.size_eq, data_toArray]; omega) (Ch.tabs_below hT'.out (by rw [hb]; exact hB3'))
      rw [data_toArray] at cF
      have hB3'' := Lib.hid hB3'
      have hbd3' := Lib.hid hbd3
      clear cT hB3 hB3' hbd3
      go_wp2_with fail
      go_at_call 16
      with_reducible refine cF.mono ?_
      rintro e w4 ⟨rfl, hB4⟩
      have hbd4 := hbd3'.out.kept hB4
      have hB5 := hB3''.out.trans (hB4.mono (by have := hB3''.out.size; omega))
      have cT := text_any b b _ w4 hbd4 (by have := hB5.size; omega)
      have hfin := Lib.hid hB5
      clear cF hB4 hB5 hbd4
      by_cases hf : fits l = true
      · have hq := Lib.hid (textQ_ok hfr.out hf)
        rw [hf]
        clear hf
        go_wp2_with fail
        go_at_call 27
        with_reducible refine cT.mono ?_
        rintro e w5 ⟨rfl, _, hB5⟩
        have hfin' := Lib.hid (hfin.out.trans hB5)
        clear cT hB5
        go_wp2
        go_ret2
        exact ⟨hq.out, by rw [hb]; exact hfin'.out⟩
      · have hff : fits l = false := by simpa using hf
        have hq := Lib.hid (textQ_bad hfr.out hff)
        rw [hff]
        clear hf hff cT
        go_wp2
        go_ret2
        exact ⟨hq.out, by rw [hb]; exact hfin.out⟩
end Go.Proofs.YtolnlhpaaomplaaDoor.Pa
