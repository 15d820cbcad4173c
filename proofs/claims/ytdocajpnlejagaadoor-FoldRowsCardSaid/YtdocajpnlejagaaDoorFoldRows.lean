/-
  THE WALK OF THE STATEMENT FoldRows: for every string within the reach.
-/
import Derived.Test.YtdocajpnlejagaaDoorFoldFirst
import Derived.Test.YtdocajpnlejagaaDoorFoldRefGood
set_option linter.unusedVariables false
namespace Go.Proofs.YtdocajpnlejagaaDoor.Fo
open Go.Lib Go.RowKit Bu

/-- where the look at a folded text stands: the row begins at a, the look is at i -/
def Inv (F : Row) (a i : Nat) : Prop := Rws (F.drop a) ∧ a ≤ F.length ∧ i ≤ F.length ∧ ((i + 1 = a ∧ F[i]? = some 10) ∨ (a ≤ i ∧ 13 ∉ (F.drop a).take (i - a)))
theorem inv_zero (F : Row) (h : Rws F) : Inv F 0 0 := ⟨h, Nat.zero_le _, Nat.zero_le _, .inr ⟨Nat.le_refl _, by simp⟩⟩
theorem rws_split (G : Row) (h : Rws G) (hne : G ≠ []) : ∃ r t, G = r ++ 13 :: 10 :: t ∧ 13 ∉ r ∧ r.length ≤ 75 ∧ (t ≠ [] → ∃ u, t = 32 :: u ∧ u ≠ [] ∧ 75 < r.length + sz u) ∧ Rws t := by
  cases h with
  | nil => exact absurd rfl hne
  | row r t h1 h2 h3 h4 => exact ⟨r, t, rfl, h1, h2, h3, h4⟩
theorem inv_end (F : Row) (a i : Nat) (h : Inv F a i) (hge : F.length ≤ i + 1) : a = F.length := by
  obtain ⟨h1, h2, h3, ⟨h4, _⟩ | ⟨h4, h5⟩⟩ := h
  · omega
  · rcases Nat.lt_or_ge a F.length with hlt | hge2
    · exfalso
      have hne : F.drop a ≠ [] := fun e => by have := List.drop_eq_nil_iff.1 e; omega
      obtain ⟨r, t, e, g1, _⟩ := rws_split _ h1 hne
      have hl := congrArg List.length e
      rw [List.length_drop, List.length_append] at hl
      simp only [List.length_cons] at hl
      rw [e] at h5
      apply h5
      rw [List.take_append, List.mem_append]
      right
      have : i - a - r.length = (i - a - r.length - 1) + 1 := by omega
      rw [this]
      simp
    · omega
theorem inv_step (F : Row) (a i : Nat) (h : Inv F a i) (hlt : i + 1 < F.length) :
    (∃ x, F[i]? = some x ∧ x ≠ 13 ∧ Inv F a (i + 1)) ∨
    (F[i]? = some 13 ∧ F[i + 1]? = some 10 ∧ a ≤ i ∧ i - a ≤ 75 ∧ Inv F (i + 2) (i + 1) ∧ (i + 2 < F.length → i + 3 ≤ F.length ∧ 75 < (i - a) + sz (F.drop (i + 3)))) := by
  obtain ⟨h1, h2, h3, ⟨h4, h5⟩ | ⟨h4, h5⟩⟩ := h
  · left
    exact ⟨10, h5, by decide, h1, h2, by omega, .inr ⟨by omega, by rw [show i + 1 - a = 0 by omega]; simp⟩⟩
  · have hne : F.drop a ≠ [] := fun e => by have := List.drop_eq_nil_iff.1 e; omega
    obtain ⟨r, t, e, g1, g2, g3, g4⟩ := rws_split _ h1 hne
    have hl := congrArg List.length e
    rw [List.length_drop, List.length_append] at hl
    simp only [List.length_cons] at hl
    have hget : ∀ j, F[a + j]? = (r ++ 13 :: 10 :: t)[j]? := fun j => by rw [← e, List.getElem?_drop]
    have hgi : F[i]? = (r ++ 13 :: 10 :: t)[i - a]? := by
      have := hget (i - a)
      rwa [show a + (i - a) = i by omega] at this
    rcases Nat.lt_trichotomy (i - a) r.length with c | c | c
    · left
      refine ⟨r[i - a], by rw [hgi, List.getElem?_append_left (by omega), List.getElem?_eq_getElem c], fun hx => g1 (by rw [← hx]; exact List.getElem_mem c), h1, h2, by omega, .inr ⟨by omega, ?_⟩⟩
      rw [e, List.take_append_of_le_length (by omega)]
      exact fun hm => g1 (List.mem_of_mem_take hm)
    · right
      have e0 : F[i]? = some 13 := by rw [hgi, c, List.getElem?_append_right (Nat.le_refl _)]; simp
      have e1 : F[i + 1]? = some 10 := by
        rw [show i + 1 = a + (r.length + 1) by omega, hget, List.getElem?_append_right (by omega)]; simp
      have e2 : F.drop (i + 2) = t := by
        rw [show i + 2 = a + (r.length + 2) by omega, ← List.drop_drop, e, List.drop_append, List.drop_eq_nil_of_le (by omega), List.nil_append]
        simp
      refine ⟨e0, e1, h4, by omega, ⟨by rw [e2]; exact g4, by omega, by omega, .inl ⟨rfl, e1⟩⟩, fun hlt2 => ?_⟩
      have htne : t ≠ [] := fun e3 => by
        rw [e3] at e2
        have := List.drop_eq_nil_iff.1 e2
        omega
      obtain ⟨u, hu, hune, hsz⟩ := g3 htne
      have e3 : F.drop (i + 3) = u := by rw [show i + 3 = (i + 2) + 1 by omega, ← List.drop_drop, e2, hu]; rfl
      rw [e3, c]
      exact ⟨by omega, hsz⟩
    · exfalso
      rw [e] at h5
      apply h5
      rw [List.take_append, List.mem_append]
      right
      have : i - a - r.length = (i - a - r.length - 1) + 1 := by omega
      rw [this]
      simp

set_option maxHeartbeats 4000000 in
set_option maxRecDepth 100000 in
theorem rows_walk (x : ByteArray) (w : World) (hT : Tabs w) (hs : x.size ≤ 140737488355328) :
    Calls Tryd.prog 4 #[.string x] w fun e w' => e = .returned (.bool true) ∧ Below w.heap.size w w' := by
  have hT' := Lib.hid hT
  clear hT
  by_cases hbig : 3000 < x.size
  · have d1 : decide ((3000 : Int) < (x.size : Int)) = true := decide_eq_true (by omega)
    clear hbig
    go_enter Tryd.func4, Tryd.ntmps4
    go_wp2_with (go_at_call 7; refine (first_any w hT'.out).mono ?_; rintro e w1 ⟨rfl, hb1⟩)
    go_ret
    exact ⟨rfl, hb1⟩
  · have d1 : decide ((3000 : Int) < (x.size : Int)) = false := decide_eq_false (by omega)
    have cG := fun W => refGood_any x W hs
    cases hv : goodL x.data.toList
    · rw [hv] at cG
      clear hbig hv
      go_enter Tryd.func4, Tryd.ntmps4
      go_wp2_with (first
        | (go_at_call 7; refine (first_any w hT'.out).mono ?_; rintro e w1 ⟨rfl, hb1⟩)
        | (go_at_call 10; refine (cG _).mono ?_; rintro e w2 ⟨rfl, rfl⟩))
      go_ret
      exact ⟨rfl, hb1⟩
    · rw [hv] at cG
      obtain ⟨hne, hhb, hpl⟩ := goodL_tells _ hv
      have hrw := rws_line _ hpl hne
      have hfl : (foldL x.data.toList).length ≤ 4 * x.size := by rw [Lib.size_eq]; exact foldF_len _ _ 75 (by omega)
      obtain ⟨s, hsd⟩ : ∃ s : ByteArray, (⟨(foldL x.data.toList).toArray⟩ : ByteArray) = s := ⟨_, rfl⟩
      have hsl : foldL x.data.toList = s.data.toList := by rw [← hsd]
      have cF := fun W hW => fold_one x W hW (by omega)
      rw [hsd] at cF
      rw [hsl] at hrw hfl
      rw [← Lib.size_eq] at hfl
      have hss : s.size ≤ 12000 := by omega
      have hinv := Lib.hid (inv_zero _ hrw)
      clear hbig hv hne hhb hpl hrw hfl hsd hsl
      go_enter Tryd.func4, Tryd.ntmps4
      go_wp2_with (first
        | (go_at_call 7; refine (first_any w hT'.out).mono ?_; rintro e w1 ⟨rfl, hb1⟩)
        | (go_at_call 10; refine (cG _).mono ?_; rintro e w2 ⟨rfl, rfl⟩)
        | (go_at_call 11; refine (cF w1 (tabs_below hT'.out hb1)).mono ?_; rintro e w3 ⟨rfl, hb3⟩))
      have hb := below_then hb1 hb3
      clear hb1 hb3 cG cF
      go_loop [4, 5, 6] (fun s4 s5 _ => ∃ a i : Nat, s4 = .int .i64 (a : Int) ∧ s5 = .int .i64 (i : Int) ∧ i ≤ s.size ∧ a ≤ s.size ∧ Inv s.data.toList a i) (fun _ s5 _ => s.size - (RowKit.intOf s5).toNat)
      case atStart => exact ⟨0, 0, rfl, rfl, Nat.zero_le _, Nat.zero_le _, hinv.out⟩
      case round =>
        obtain ⟨a, i, rfl, rfl, hi, ha, hI⟩ := hrel
        have hI' := Lib.hid hI
        clear hI
        by_cases hlt : i + 1 < s.size
        · have hi0 : i < s.size := by omega
          have g0 := Lib.data_getElem? s i hi0
          have g1 := Lib.data_getElem? s (i + 1) hlt
          rcases inv_step _ a i hI'.out (by rw [← Lib.size_eq]; exact hlt) with ⟨c, e1, e2, e3⟩ | ⟨e1, e2, e3, e4, e5, e6⟩
          · rw [g0] at e1
            obtain rfl := Option.some.inj e1
            have d13 : (((s[i]'hi0).toNat : Int) != 13) = true := by
              rw [bne_iff_ne]
              intro he
              exact e2 (UInt8.toNat_inj.1 (by show _ = 13; omega))
            have e3' := Lib.hid e3
            clear g0 g1 e1 e2 e3
            go_wp2
            go_round
            case rel => exact ⟨a, i + 1, rfl, by go_num, by omega, ha, e3'.out⟩
            case measure => simp [RowKit.intOf]; omega
          · rw [g0] at e1
            rw [g1] at e2
            have e1 := Option.some.inj e1
            have e2 := Option.some.inj e2
            have d13 : (((s[i]'hi0).toNat : Int) != 13) = false := by rw [e1]; rfl
            have d10 : (((s[i + 1]'hlt).toNat : Int) != 10) = false := by rw [e2]; rfl
            have e5' := Lib.hid e5
            have d75 : ¬ 75 < i - a := by omega
            clear g0 g1 e1 e2 e5
            by_cases hl2 : i + 2 < s.size
            · obtain ⟨f1, f2⟩ := e6 (by rw [← Lib.size_eq]; exact hl2)
              have hd : (s.extract (i + 3) s.size).data.toList = s.data.toList.drop (i + 3) := Lib.extract_to_end s (i + 3)
              have hes : (s.extract (i + 3) s.size).size ≤ 9223372036854775807 := by rw [ByteArray.size_extract]; omega
              have cS := fun W => refSize_any (s.extract (i + 3) s.size) W hes
              rw [hd] at cS
              obtain ⟨n, hn⟩ : ∃ n, sz (s.data.toList.drop (i + 3)) = n := ⟨_, rfl⟩
              have hnb := (sz_bd (s.data.toList.drop (i + 3))).2
              rw [hn] at cS f2 hnb
              clear hd hes hn f1 e6
              go_wp2_with (go_at_call 12; refine (cS _).mono ?_; rintro e w4 ⟨rfl, rfl⟩)
              go_round
              case rel => exact ⟨i + 2, i + 1, by go_num, by go_num, by omega, by omega, e5'.out⟩
              case measure => simp [RowKit.intOf]; omega
            · clear e6
              go_wp2
              go_round
              case rel => exact ⟨i + 2, i + 1, by go_num, by go_num, by omega, by omega, e5'.out⟩
              case measure => simp [RowKit.intOf]; omega
        · have hfin : a = s.size := by rw [Lib.size_eq]; exact inv_end _ a i hI'.out (by rw [← Lib.size_eq]; omega)
          have dfin : ((a : Int) == (s.size : Int)) = true := by simp; omega
          clear hfin
          go_wp2
          go_ret
          exact ⟨rfl, hb⟩
end Go.Proofs.YtdocajpnlejagaaDoor.Fo
