/-
  WALKS OF THE PROGRAM's LAYER http: responseRow.
-/
import Derived.Test.YtiaollhiggeolaaDoorHttpCodeD
set_option linter.unusedVariables false
namespace Go.Proofs.YtiaollhiggeolaaDoor.Ht
open Go.Lib Go.RowKit Go.Shelf

theorem rng_isD (d : Row) : rng 48 57 false d = d.all Ch.isD := by
  unfold rng Ch.isD
  congr 1
  funext c
  rw [Bool.false_and, Bool.or_false]
theorem stat3 (d : Row) : (100 ≤ (Ch.numS d 599).1 ↔ (d.length = 3 ∧ rng 48 57 false d = true ∧ (49 ≤ (d.getD 0 0).toNat ∧ (d.getD 0 0).toNat ≤ 53))) ∧
    (100 ≤ (Ch.numS d 599).1 → (Ch.numS d 599).1 = 100 * ((d.getD 0 0).toNat - 48) + 10 * ((d.getD 1 0).toNat - 48) + ((d.getD 2 0).toNat - 48)) := by
  rw [rng_isD]
  have hD : ∀ c : UInt8, Ch.isD c = true → 48 ≤ c.toNat ∧ c.toNat ≤ 57 := fun c h => of_decide_eq_true h
  unfold Ch.numS
  by_cases hy : Ch.numOk d = true ∧ Ch.numV d ≤ 599
  · rw [if_pos hy]
    obtain ⟨h1, h2⟩ := hy
    unfold Ch.numOk at h1
    simp only [Bool.and_eq_true, Bool.not_eq_true'] at h1
    obtain ⟨⟨h3, h4⟩, h5⟩ := h1
    match d, h2, h3, h4, h5 with
    | [a], h2, h3, h4, h5 =>
      simp only [List.all_cons, List.all_nil, Bool.and_true] at h5
      have := hD a h5
      simp [Ch.numV, Ch.numF] at h2 ⊢
      omega
    | [a, b], h2, h3, h4, h5 =>
      simp only [List.all_cons, List.all_nil, Bool.and_true, Bool.and_eq_true] at h5
      have h6 := hD a h5.1
      have h7 := hD b h5.2
      simp [Ch.numV, Ch.numF] at h2 ⊢
      omega
    | [a, b, c], h2, h3, h4, h5 =>
      have h5' := h5
      simp only [List.all_cons, List.all_nil, Bool.and_true, Bool.and_eq_true] at h5
      have h6 := hD a h5.1
      have h7 := hD b h5.2.1
      have h8 := hD c h5.2.2
      have h9 : ¬ a.toNat = 48 := fun e => by
        unfold Ch.lead0 at h4
        have := of_decide_eq_false h4
        exact this ⟨by simp, by simpa using e⟩
      rw [h5']
      simp [Ch.numV, Ch.numF] at h2 ⊢
      omega
    | a :: b :: c :: e :: r, h2, h3, h4, h5 =>
      exfalso
      simp only [List.all_cons, Bool.and_eq_true] at h5
      have h6 := hD a h5.1
      have h9 : ¬ a.toNat = 48 := fun e => by
        unfold Ch.lead0 at h4
        have := of_decide_eq_false h4
        exact this ⟨by simp, by simpa using e⟩
      have h10 := Ch.numV_take (a :: b :: c :: e :: r) 4
      simp [Ch.numV, Ch.numF] at h10 h2
      omega
  · rw [if_neg hy]
    refine ⟨⟨fun h => by simp at h, fun h => ?_⟩, fun h => by simp at h⟩
    exfalso
    obtain ⟨h1, h2, h3⟩ := h
    match d, h1, h2, h3 with
    | [a, b, c], h1, h2, h3 =>
      have h5 := h2
      simp only [List.all_cons, List.all_nil, Bool.and_true, Bool.and_eq_true] at h5
      have h6 := hD a h5.1
      have h7 := hD b h5.2.1
      have h8 := hD c h5.2.2
      have h9 : 49 ≤ a.toNat ∧ a.toNat ≤ 53 := by simpa using h3
      refine hy ⟨?_, ?_⟩
      · unfold Ch.numOk
        rw [h2]
        have : Ch.lead0 [a, b, c] = false := by
          unfold Ch.lead0
          refine decide_eq_false fun e => ?_
          have := e.2
          simp at this
          omega
        rw [this]; rfl
      · simp [Ch.numV, Ch.numF]; omega
theorem pre_split (p t : Row) : (p.isPrefixOf t = true ∧ ∃ r, t = p ++ r) ∨ p.isPrefixOf t = false := by
  cases h : p.isPrefixOf t with
  | false => exact .inr rfl
  | true =>
    obtain ⟨r, hr⟩ := List.isPrefixOf_iff_prefix.1 h
    exact .inl ⟨rfl, r, hr.symm⟩
/-- strings.CutPrefix -/
def Pre1 (p t r : ByteArray) (b : Bool) : Prop := r.size ≤ t.size ∧ ((b = true ∧ t.data.toList = p.data.toList ++ r.data.toList) ∨ (b = false ∧ p.data.toList.isPrefixOf t.data.toList = false ∧ r = t))
theorem pre_any (t p : ByteArray) (w : World) : Calls Tryd.prog 47 #[.string t, .string p] w fun e w' => (∃ r b, e = .returned (.tuple #[.string r, .bool b]) ∧ Pre1 p t r b) ∧ w' = w := by
  refine (Tryd.strings_CutPrefix t p w).mono ?_
  rintro e w' ⟨rfl, rfl⟩
  refine ⟨?_, rfl⟩
  rcases pre_split p.data.toList t.data.toList with ⟨h, r, hr⟩ | h
  · have h1 : Lib.hasPrefix t.data.toList p.data.toList = true := h
    have h2 : Lib.trimPrefix t.data.toList p.data.toList = r := by
      unfold Lib.trimPrefix
      rw [h1, hr]; simp
    refine ⟨⟨r.toArray⟩, true, by rw [h1, h2], ?_, .inl ⟨rfl, by rw [hr]⟩⟩
    rw [Lib.size_eq, Lib.size_eq, hr]; simp
  · have h1 : Lib.hasPrefix t.data.toList p.data.toList = false := h
    have h2 : Lib.trimPrefix t.data.toList p.data.toList = t.data.toList := by
      unfold Lib.trimPrefix
      rw [h1]; rfl
    exact ⟨t, false, by rw [h1, h2, Lib.mk_data], Nat.le_refl _, .inr ⟨rfl, h, rfl⟩⟩
def ResP (row : Row) (e : Ending) : Prop := ∃ (n : Nat) (ok : Bool), n ≤ 599 ∧ e = .returned (.tuple #[.int .i64 (n : Int), .bool ok]) ∧ firstA row = if ok = true then some n else none
def verP : ByteArray := ⟨#[72, 84, 84, 80, 47, 49, 46, 49, 32]⟩
theorem ver_no : (32 : UInt8) ∉ verS := by decide
theorem firstA_is {s r d y : ByteArray} {o b : Bool} (h1 : Pre1 verP s r o) (h2 : Cut1 32 r d y b) :
    firstA s.data.toList = if (o && (b && (decide (100 ≤ (Ch.numS d.data.toList 599).1) && y.data.toList.all (rgB 32 126 false)))) = true then some (Ch.numS d.data.toList 599).1 else none := by
  obtain ⟨_, h1⟩ := h1
  obtain ⟨_, _, h2⟩ := h2
  unfold firstA
  rcases h1 with ⟨rfl, h1⟩ | ⟨rfl, h1, rfl⟩
  · have hc : cutB 32 s.data.toList = some (verS, r.data.toList) := by
      rw [h1]
      exact cutB_at _ ver_no
    rw [hc, Option.bind_some]
    simp only
    rcases h2 with ⟨rfl, h2⟩ | ⟨rfl, h2, rfl, rfl⟩
    · rw [h2, Option.bind_some]
      simp only
      obtain ⟨k1, k2⟩ := stat3 d.data.toList
      rw [rng_all 32 126 false y.data.toList]
      by_cases hn : 100 ≤ (Ch.numS d.data.toList 599).1
      · obtain ⟨q1, q2, q3⟩ := k1.1 hn
        rw [← k2 hn, decide_eq_true hn]
        by_cases hy : y.data.toList.all (rgB 32 126 false) = true
        · rw [if_pos ⟨trivial, q1, q2, q3, hy⟩, if_pos (by rw [hy]; rfl)]
        · rw [if_neg (fun h => hy h.2.2.2.2), if_neg (by simpa using hy)]
      · rw [if_neg (fun h => hn (k1.2 ⟨h.2.1, h.2.2.1, h.2.2.2.1⟩)), if_neg (by rw [decide_eq_false hn]; simp)]
    · rw [h2, Option.bind_none, if_neg (by simp)]
  · rw [if_neg (by simp)]
    cases hc : cutB 32 r.data.toList with
    | none => rfl
    | some p =>
      rw [Option.bind_some]
      cases hq : cutB 32 p.2 with
      | none => rfl
      | some q =>
        rw [Option.bind_some]
        rw [if_neg]
        intro h
        have e : r.data.toList = p.1 ++ 32 :: p.2 := cutB_some hc
        rw [e, h.1] at h1
        have : verP.data.toList.isPrefixOf (verS ++ 32 :: p.2) = true := by
          rw [List.isPrefixOf_iff_prefix]
          exact ⟨p.2, by rfl⟩
        rw [this] at h1; cases h1
where
  cutB_some {c : UInt8} : ∀ {l : Row} {p : Row × Row}, cutB c l = some p → l = p.1 ++ c :: p.2
    | [], p, h => by simp [cutB] at h
    | x :: l, p, h => by
      rw [cutB] at h
      split at h
      · rename_i hx
        obtain rfl := Option.some.inj h
        rw [hx]; rfl
      · cases hf : cutB c l with
        | none => rw [hf] at h; cases h
        | some q =>
          rw [hf] at h
          obtain rfl := Option.some.inj h
          show x :: l = x :: (q.1 ++ c :: q.2)
          rw [← cutB_some hf]
set_option maxHeartbeats 4000000 in
set_option maxRecDepth 100000 in
theorem responseRow_any (s : ByteArray) (w : World) (hs : s.size ≤ 140737488355328) : Calls Tryd.prog 32 #[.string s] w fun e w' => ResP s.data.toList e ∧ Below w.heap.size w w' := by
  have cP := pre_any s ⟨#[72, 84, 84, 80, 47, 49, 46, 49, 32]⟩ w
  go_enter Tryd.func32, Tryd.ntmps32
  go_wp2_with fail
  go_at_call 47
  with_reducible refine cP.mono ?_
  rintro e w1 ⟨⟨r, o, rfl, h1⟩, rfl⟩
  have hr := h1.1
  have cD := cut_any 32 r w1 (by omega)
  clear cP
  go_wp2_with fail
  go_at_call 45
  with_reducible refine cD.mono ?_
  rintro e w2 ⟨⟨d, y, b, rfl, h2⟩, hb2⟩
  have hd := h2.1
  have hy := h2.2.1
  have hb := Lib.hid hb2
  have hfin := firstA_is h1 h2
  have hle := Ch.numS_le d.data.toList 599
  have cN := Ch.number_any d 599 w2 (by omega) (by decide)
  unfold Ch.numE at cN
  rw [show ((599 : Nat) : Int) = 599 from rfl] at cN
  clear cD h1 h2 hb2
  obtain ⟨⟨v, g⟩, hv⟩ : ∃ v, Ch.numS d.data.toList 599 = v := ⟨_, rfl⟩
  rw [hv] at cN hfin hle
  simp only at cN hfin hle
  have cW := made_any 49 (rgB 32 126 false) (enters_of Tryd.func49 (by kernel_rfl) rfl) (fun b W => isPrinted_any b W) y w2 (by omega)
  obtain ⟨Y, hY⟩ : ∃ Y, y.data.toList.all (rgB 32 126 false) = Y := ⟨_, rfl⟩
  rw [hY] at cW hfin
  have hfin' := Lib.hid (show ResP s.data.toList (.returned (.tuple #[.int .i64 (v : Int), .bool (o && (b && (decide (100 ≤ v) && Y)))])) from ⟨v, _, hle, rfl, hfin⟩)
  clear hfin hv hY
  have hcv : IntKind.i64.wrap (v : Int) = (v : Int) := IntWalk.i64_in _ (by omega)
  cases o with
  | false =>
    go_wp2_with fail
    go_at_call 48
    with_reducible refine cN.mono ?_
    rintro e w3 ⟨rfl, rfl⟩
    go_wp2
    go_ret2
    exact ⟨hfin'.out, hb.out⟩
  | true =>
    cases b with
    | false =>
      go_wp2_with fail
      go_at_call 48
      with_reducible refine cN.mono ?_
      rintro e w3 ⟨rfl, rfl⟩
      go_wp2
      go_ret2
      exact ⟨hfin'.out, hb.out⟩
    | true =>
      by_cases hn : 100 ≤ v
      · rw [decide_eq_true hn] at hfin'
        go_wp2_with fail
        go_at_call 48
        with_reducible refine cN.mono ?_
        rintro e w3 ⟨rfl, rfl⟩
        go_wp2_with fail
        go_at_call 34
        with_reducible refine cW.mono ?_
        rintro e w3 ⟨rfl, rfl⟩
        go_wp2
        go_ret2
        exact ⟨hfin'.out, hb.out⟩
      · rw [decide_eq_false hn] at hfin'
        go_wp2_with fail
        go_at_call 48
        with_reducible refine cN.mono ?_
        rintro e w3 ⟨rfl, rfl⟩
        go_wp2
        go_ret2
        exact ⟨hfin'.out, hb.out⟩
end Go.Proofs.YtiaollhiggeolaaDoor.Ht
