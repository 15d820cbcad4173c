import Derived.Test.YtjeagjleolmibaaGreatDoorMg20
/-
  THE WALK OF THE LAW XmlNames.
-/
set_option linter.unusedVariables false
namespace Go.Proofs.YtjeagjleolmibaaGreatDoor.Xm
open Go.Lib Go.RowKit

def ownT (p n : Row) : Row := 60 :: (p ++ 58 :: (n ++ 32 :: (xmlnsS ++ 58 :: (p ++ 61 :: 39 :: (davS ++ [39, 47, 62])))))
def bareT (p n : Row) : Row := 60 :: (p ++ 58 :: (n ++ [47, 62]))
def aroundT (p n : Row) : Row := 60 :: 111 :: 32 :: (xmlnsS ++ 58 :: (p ++ 61 :: 39 :: (davS ++ 39 :: 32 :: (xmlnsS ++ 61 :: 39 :: ([117, 114, 110, 58, 120] ++ 39 :: 62 :: 60 :: (p ++ 58 :: (n ++ 47 :: 62 :: 60 :: 47 :: 111 :: [62])))))))
theorem name_ascii {n : Row} (h : nameB n = true) : ∀ x ∈ n, x.toNat < 128 ∧ Ch.ctl x = false := fun x hx => nx_ascii x (nameB_all h x hx)
theorem lit_ascii {l : Row} (h : (l.all fun x => decide (x.toNat < 128) && !Ch.ctl x) = true) : ∀ x ∈ l, x.toNat < 128 ∧ Ch.ctl x = false := fun x hx => by
  have := List.all_eq_true.1 h x hx
  simpa using this
theorem valid_two {p n : Row} (hp : nameB p = true) (hn : nameB n = true) : Ch.valid (ownT p n) = true ∧ Ch.valid (bareT p n) = true ∧ Ch.valid (aroundT p n) = true := by
  have h1 := valid_name hp
  have h2 := valid_name hn
  have q := fun (l : Row) (h : (l.all fun x => decide (x.toNat < 128) && !Ch.ctl x) = true) => valid_ascii l (lit_ascii h)
  refine ⟨?_, ?_, ?_⟩
  · have e : ownT p n = [60] ++ (p ++ ([58] ++ (n ++ ((32 :: (xmlnsS ++ [58])) ++ (p ++ (61 :: 39 :: (davS ++ [39, 47, 62]))))))) := by simp [ownT]
    rw [e]
    exact valid_both (q _ (by decide +kernel)) (valid_both h1 (valid_both (q _ (by decide +kernel)) (valid_both h2 (valid_both (q _ (by decide +kernel)) (valid_both h1 (q _ (by decide +kernel)))))))
  · have e : bareT p n = [60] ++ (p ++ ([58] ++ (n ++ [47, 62]))) := by simp [bareT]
    rw [e]
    exact valid_both (q _ (by decide +kernel)) (valid_both h1 (valid_both (q _ (by decide +kernel)) (valid_both h2 (q _ (by decide +kernel)))))
  · have e : aroundT p n = (60 :: 111 :: 32 :: (xmlnsS ++ [58])) ++ (p ++ ((61 :: 39 :: (davS ++ 39 :: 32 :: (xmlnsS ++ 61 :: 39 :: ([117, 114, 110, 58, 120] ++ [39, 62, 60])))) ++ (p ++ ([58] ++ (n ++ [47, 62, 60, 47, 111, 62]))))) := by simp [aroundT]
    rw [e]
    exact valid_both (q _ (by decide +kernel)) (valid_both h1 (valid_both (q _ (by decide +kernel)) (valid_both h1 (valid_both (q _ (by decide +kernel)) (valid_both h2 (q _ (by decide +kernel)))))))
theorem parse_own {p n : Row} (hp : nameB p = true) (hn : nameB n = true) : parseX (ownT p n) = ([⟨1, 1, n, []⟩, ⟨2, 1, n, []⟩], 0) := by
  have l1 := nameB_len hp
  have l2 := nameB_len hn
  unfold parseX
  rw [if_neg (by simp [ownT, xmlnsS, davS]; omega), if_neg (by rw [(valid_two hp hn).1]; decide), show docP (ownT p n) = _ from doc_own hp hn]
theorem parse_bare {p n : Row} (hp : nameB p = true) (hn : nameB n = true) : parseX (bareT p n) = ([], 70) := by
  have l1 := nameB_len hp
  have l2 := nameB_len hn
  unfold parseX
  rw [if_neg (by simp [bareT]; omega), if_neg (by rw [(valid_two hp hn).2.1]; decide), show docP (bareT p n) = _ from doc_undeclared hp hn]
theorem parse_around {p n : Row} (hp : nameB p = true) (hn : nameB n = true) : parseX (aroundT p n) = ([⟨1, 3, [111], []⟩, ⟨1, 1, n, []⟩, ⟨2, 1, n, []⟩, ⟨2, 3, [111], []⟩], 0) := by
  have l1 := nameB_len hp
  have l2 := nameB_len hn
  unfold parseX
  rw [if_neg (by simp [aroundT, xmlnsS, davS]; omega), if_neg (by rw [(valid_two hp hn).2.2]; decide), show docP (aroundT p n) = _ from doc_around hp hn]

set_option maxHeartbeats 4000000 in
set_option maxRecDepth 100000 in
theorem names_walk (cP : ParseC) (cR : PrintC) (a0 a1 : ByteArray) (ar : Bool) (h0 : a0.size ≤ mostS) (h1 : a1.size ≤ mostS) (w : World) (hT : Gw w) :
    Calls Tryz.prog 4 #[.string a0, .string a1, .bool ar] w fun e w' => e = .returned (.bool true) ∧ Below w.heap.size w w' := by
  have c0 := first_any cP cR w hT
  have n0 := fun W => refName_any a0 W h0
  have n1 := fun W => refName_any a1 W h1
  have i0 := nameN_is a0.data.toList
  have i1 := nameN_is a1.data.toList
  rw [← Lib.size_eq] at i0 i1
  by_cases hg : nameB a0.data.toList = true ∧ nameB a1.data.toList = true
  · obtain ⟨hp, hn⟩ := hg
    obtain ⟨p1, p2⟩ := i0.2 hp
    obtain ⟨q1, q2⟩ := i1.2 hn
    rw [p1] at n0
    rw [q1] at n1
    have l0 : a0.size ≤ 64 := by rw [Lib.size_eq]; exact nameB_len hp
    have l1 : a1.size ≤ 64 := by rw [Lib.size_eq]; exact nameB_len hn
    have x0 : ((a0.size : Int) == 0) = false := beq_eq_false_iff_ne.2 (by omega)
    have x1 : ((a1.size : Int) == 0) = false := beq_eq_false_iff_ne.2 (by omega)
    have x0n : (a0.size == 0) = false := beq_eq_false_iff_ne.2 (by omega)
    have x1n : (a1.size == 0) = false := beq_eq_false_iff_ne.2 (by omega)
    have k1 : Hid (∀ (S : ByteArray) (W : World), S.data.toList = aroundT a0.data.toList a1.data.toList → Below w.heap.size w W → Calls Tryz.prog 14 #[.string S] W fun e w' => (∃ v, e = .returned (.tuple #[v, .int .i64 0]) ∧ PcsAt w' v [⟨1, 3, [111], []⟩, ⟨1, 1, a1.data.toList, []⟩, ⟨2, 1, a1.data.toList, []⟩, ⟨2, 3, [111], []⟩]) ∧ Below W.heap.size W w') := Lib.hid fun S W hS hW => by
      have := cP S W (by rw [Lib.size_eq, hS]; simp [aroundT, xmlnsS, davS]; unfold mostS; have := Lib.size_eq a0; have := Lib.size_eq a1; simp at *; omega) (gw_below hT hW)
      rw [hS, parse_around hp hn] at this
      exact this
    have k2 : Hid (∀ (S : ByteArray) (W : World), S.data.toList = ownT a0.data.toList a1.data.toList → Below w.heap.size w W → Calls Tryz.prog 14 #[.string S] W fun e w' => (∃ v, e = .returned (.tuple #[v, .int .i64 0]) ∧ PcsAt w' v [⟨1, 1, a1.data.toList, []⟩, ⟨2, 1, a1.data.toList, []⟩]) ∧ Below W.heap.size W w') := Lib.hid fun S W hS hW => by
      have := cP S W (by rw [Lib.size_eq, hS]; simp [ownT, xmlnsS, davS]; unfold mostS; have := Lib.size_eq a0; have := Lib.size_eq a1; simp at *; omega) (gw_below hT hW)
      rw [hS, parse_own hp hn] at this
      exact this
    have k3 : Hid (∀ (S : ByteArray) (W : World), S.data.toList = bareT a0.data.toList a1.data.toList → Below w.heap.size w W → Calls Tryz.prog 14 #[.string S] W fun e w' => (∃ v, e = .returned (.tuple #[v, .int .i64 70]) ∧ PcsAt w' v []) ∧ Below W.heap.size W w') := Lib.hid fun S W hS hW => by
      have := cP S W (by rw [Lib.size_eq, hS]; simp [bareT]; unfold mostS; have := Lib.size_eq a0; have := Lib.size_eq a1; simp at *; omega) (gw_below hT hW)
      rw [hS, parse_bare hp hn] at this
      exact this
    clear hp hn hT
    clear i0 i1 p1 p2 q1 q2
    go_enter Tryz.func4, Tryz.ntmps4
    go_wp2_with fail
    go_at_call 8
    with_reducible refine c0.mono ?_
    rintro e w1 ⟨rfl, hb1⟩
    clear c0
    go_wp2_with fail
    go_at_call 15
    with_reducible refine (n0 _).mono ?_
    rintro e w2 ⟨rfl, rfl⟩
    go_wp2_with fail
    go_at_call 15
    with_reducible refine (n1 _).mono ?_
    rintro e w2 ⟨rfl, rfl⟩
    clear n0 n1
    cases ar
    · go_wp2_with fail
      go_at_call 14
      refine (k2.out _ _ (by simp only [ByteArray.data_append, Array.toList_append]; simp [ownT, xmlnsS, davS]) hb1).mono ?_
      rintro e w3 ⟨⟨v, rfl, hv⟩, hb3⟩
      have hB3 := below_then hb1 hb3
      obtain ⟨A, c, e5⟩ := hv.form
      subst e5
      clear hb3
      go_wp2_with fail
      go_at_call 14
      refine (k3.out _ _ (by simp only [ByteArray.data_append, Array.toList_append]; simp [bareT]) hB3).mono ?_
      rintro e w4 ⟨⟨v4, rfl, hv4⟩, hb4⟩
      have hB4 := Lib.hid (below_then hB3 hb4)
      obtain ⟨A', b, off, c', e6, _, hc', hA', hP'⟩ := hv.kept hb4
      injection e6 with e7 e8 e9
      subst e7; subst e9
      obtain ⟨rfl, hAb⟩ := hA' (by simp)
      obtain ⟨g0, g1, g2, g3⟩ := hP' 0 _ rfl
      have g2' : w4.cell? ⟨b, off + 2, none⟩ = some (.string a1) := by rw [← sv_data a1]; simpa using g2
      have g3' : w4.cell? ⟨b, off + 3, none⟩ = some (.string ⟨#[]⟩) := by simpa [sv] using g3
      have g0' : w4.cell? ⟨b, off, none⟩ = some (.int .i64 1) := by simpa using g0
      have g1' : w4.cell? ⟨b, off + 1, none⟩ = some (.int .i64 1) := by simpa using g1
      have hE := eq_pc 1 1 1 1 a1 ⟨#[]⟩ a1 ⟨#[]⟩
      rw [show ((1 : Int) == 1 && (1 : Int) == 1 && a1.toList == a1.toList && (⟨#[]⟩ : ByteArray).toList == (⟨#[]⟩ : ByteArray).toList) = true by simp] at hE
      unfold maxLen at hc'
      clear g0 g1 g2 g3 hv hb4 hP' hA' hv4 hB3 hb1
      go_wp2
      go_ret
      exact ⟨rfl, hB4.out⟩
    · go_wp2_with fail
      go_at_call 14
      refine (k1.out _ _ (by simp only [ByteArray.data_append, Array.toList_append]; simp [aroundT, xmlnsS, davS]) hb1).mono ?_
      rintro e w3 ⟨⟨v, rfl, hv⟩, hb3⟩
      have hB3 := below_then hb1 hb3
      obtain ⟨A, c, e5⟩ := hv.form
      subst e5
      clear hb3
      go_wp2_with fail
      go_at_call 14
      refine (k3.out _ _ (by simp only [ByteArray.data_append, Array.toList_append]; simp [bareT]) hB3).mono ?_
      rintro e w4 ⟨⟨v4, rfl, hv4⟩, hb4⟩
      have hB4 := Lib.hid (below_then hB3 hb4)
      obtain ⟨A', b, off, c', e6, _, hc', hA', hP'⟩ := hv.kept hb4
      injection e6 with e7 e8 e9
      subst e7; subst e9
      obtain ⟨rfl, hAb⟩ := hA' (by simp)
      obtain ⟨g0, g1, g2, g3⟩ := hP' 1 _ rfl
      obtain ⟨_, f1, _, _⟩ := hP' 0 _ rfl
      have g2' : w4.cell? ⟨b, off + 4 + 2, none⟩ = some (.string a1) := by rw [← sv_data a1]; exact g2
      have g3' : w4.cell? ⟨b, off + 4 + 3, none⟩ = some (.string ⟨#[]⟩) := g3
      have g0' : w4.cell? ⟨b, off + 4, none⟩ = some (.int .i64 1) := g0
      have g1' : w4.cell? ⟨b, off + 4 + 1, none⟩ = some (.int .i64 1) := g1
      have f1' : w4.cell? ⟨b, off + 1, none⟩ = some (.int .i64 3) := by simpa using f1
      have hE := eq_pc 1 1 1 1 a1 ⟨#[]⟩ a1 ⟨#[]⟩
      rw [show ((1 : Int) == 1 && (1 : Int) == 1 && a1.toList == a1.toList && (⟨#[]⟩ : ByteArray).toList == (⟨#[]⟩ : ByteArray).toList) = true by simp] at hE
      unfold maxLen at hc'
      clear g0 g1 g2 g3 f1 hv hb4 hP' hA' hv4 hB3 hb1
      go_wp2
      go_ret
      exact ⟨rfl, hB4.out⟩
  · have hb : ((nameN a0.data.toList : Int) == (a0.size : Int)) = false ∨ (((nameN a0.data.toList : Int) == (a0.size : Int)) = true ∧ ((nameN a1.data.toList : Int) == (a1.size : Int)) = false) ∨
        (((nameN a0.data.toList : Int) == (a0.size : Int)) = true ∧ ((nameN a1.data.toList : Int) == (a1.size : Int)) = true ∧ ((nameN a1.data.toList : Int) == 0) = true) ∨
        (((nameN a0.data.toList : Int) == (a0.size : Int)) = true ∧ ((nameN a1.data.toList : Int) == (a1.size : Int)) = true ∧ ((nameN a1.data.toList : Int) == 0) = false ∧ ((nameN a0.data.toList : Int) == 0) = true) := by
      by_cases c1 : (nameN a0.data.toList : Int) = (a0.size : Int)
      · by_cases c2 : (nameN a1.data.toList : Int) = (a1.size : Int)
        · by_cases c3 : (nameN a1.data.toList : Int) = 0
          · exact .inr (.inr (.inl ⟨beq_iff_eq.2 c1, beq_iff_eq.2 c2, beq_iff_eq.2 c3⟩))
          · by_cases c4 : (nameN a0.data.toList : Int) = 0
            · exact .inr (.inr (.inr ⟨beq_iff_eq.2 c1, beq_iff_eq.2 c2, beq_eq_false_iff_ne.2 c3, beq_iff_eq.2 c4⟩))
            · exact absurd ⟨i0.1 ⟨by omega, by omega⟩, i1.1 ⟨by omega, by omega⟩⟩ hg
        · exact .inr (.inl ⟨beq_iff_eq.2 c1, beq_eq_false_iff_ne.2 c2⟩)
      · exact .inl (beq_eq_false_iff_ne.2 c1)
    clear i0 i1 hg hT
    obtain ⟨N0, hN0⟩ : ∃ N, nameN a0.data.toList = N := ⟨_, rfl⟩
    obtain ⟨N1, hN1⟩ : ∃ N, nameN a1.data.toList = N := ⟨_, rfl⟩
    rw [hN0, hN1] at hb
    rw [hN0] at n0
    rw [hN1] at n1
    clear hN0 hN1
    have s0 : (N0 == a0.size) = ((N0 : Int) == (a0.size : Int)) := by rw [Bool.eq_iff_iff, beq_iff_eq, beq_iff_eq]; omega
    have s1 : (N1 == a1.size) = ((N1 : Int) == (a1.size : Int)) := by rw [Bool.eq_iff_iff, beq_iff_eq, beq_iff_eq]; omega
    have s2 : (N1 == 0) = ((N1 : Int) == 0) := by rw [Bool.eq_iff_iff, beq_iff_eq, beq_iff_eq]; omega
    have s3 : (N0 == 0) = ((N0 : Int) == 0) := by rw [Bool.eq_iff_iff, beq_iff_eq, beq_iff_eq]; omega
    have t0 : ((N0 : Int) != (a0.size : Int)) = !((N0 : Int) == (a0.size : Int)) := rfl
    have t1 : ((N1 : Int) != (a1.size : Int)) = !((N1 : Int) == (a1.size : Int)) := rfl
    have u0 : (N0 != a0.size) = !(N0 == a0.size) := rfl
    have u1 : (N1 != a1.size) = !(N1 == a1.size) := rfl
    rcases hb with h | ⟨h, h'⟩ | ⟨h, h', h2⟩ | ⟨h, h', h2, h3⟩
    all_goals
      rw [h] at s0 t0
      rw [s0] at u0
      try rw [h'] at s1 t1
      try rw [s1] at u1
      try rw [h2] at s2
      try rw [h3] at s3
      go_enter Tryz.func4, Tryz.ntmps4
      go_wp2_with fail
      go_at_call 8
      with_reducible refine c0.mono ?_
      rintro e w1 ⟨rfl, hb1⟩
      clear c0
      go_wp2_with fail
      go_at_call 15
      with_reducible refine (n0 _).mono ?_
      rintro e w2 ⟨rfl, rfl⟩
      go_wp2_with fail
      go_at_call 15
      with_reducible refine (n1 _).mono ?_
      rintro e w2 ⟨rfl, rfl⟩
      clear n0 n1
      go_wp2
      go_ret
      exact ⟨rfl, hb1⟩
end Go.Proofs.YtjeagjleolmibaaGreatDoor.Xm

/-
  THE LAW XmlNames, tied: whatever the two texts and the switch, it answers true; its arguments read as they did.
-/
set_option linter.unusedVariables false
namespace Go.Proofs.YtjeagjleolmibaaGreatDoor.lawXmlNames
open Go.Lib Go.RowKit Go.Shelf Go.ChangeShapes Go.WideShapes Go.ChangeAt Xm
open Go.ChangeMaps (open_string shut_string)

theorem laid_tabs {W : World} (hL : laidMetH Tryz.prog Rows.xmlNamesRow.laid W) (hsh : W.ShapedOpen Tryz.prog) : Xm.Gw W :=
  Xm.gw_of (La.first_eq ▸ Lib.laidMet.reads hL (.tail _ (.tail _ (.tail _ (.tail _ (.tail _ (.tail _ (.head _)))))))) (La.accept_eq ▸ Lib.laidMet.reads hL (.tail _ (.tail _ (.tail _ (.head _)))))
    (Lib.laidMet.reads hL (.tail _ (.tail _ (.tail _ (.tail _ (.tail _ (.head _))))))) (Lib.laidMet.reads hL (.tail _ (.tail _ (.tail _ (.tail _ (.head _)))))) hsh
theorem laid_met (os : Os) (args : Array Value) : laidMet Tryz.prog Rows.xmlNamesRow.laid ((Xm.laidWorld os).forCall (fun _ _ => 0) ⟨#[], args, []⟩).memory := Xm.laid_met os args

theorem witness_row (os : Os) {H : Type} (enc : TypeId × Value → H) :
    (OpenSpec.ofChange Rows.xmlNamesSpec).preRow enc Tryz.prog Tryz.f4 Rows.xmlNamesRow.domain false Rows.xmlNamesRow.laid ((Xm.laidWorld os).forCall (fun _ _ => 0) ⟨#[], #[.string ⟨#[]⟩, .string ⟨#[]⟩, .bool false], []⟩).memory #[.string ⟨#[]⟩, .string ⟨#[]⟩, .bool false] := by
  have hw : (DataW.whole enc Tryz.prog ((Xm.laidWorld os).forCall (fun _ _ => 0) ⟨#[], #[.string ⟨#[]⟩, .string ⟨#[]⟩, .bool false], []⟩).memory Tryz.f4.params.toList Rows.xmlNamesSpec.vars false (#[Value.string ⟨#[]⟩, Value.string ⟨#[]⟩, Value.bool false] : Array Value).toList 8).map (fun x => (x.1, x.2.1)) =
      some ([.lit (.string []), .lit (.string []), .lit (.bool false)], []) := by kernel_rfl
  obtain ⟨⟨x1, x2, x3⟩, hx, hx1⟩ := Option.map_eq_some_iff.1 hw
  simp only [Prod.mk.injEq] at hx1
  obtain ⟨rfl, rfl⟩ := hx1
  exact OpenSpec.preRow_of_cond 8 hx (by kernel_rfl) (fun k hk => by cases hk) (by kernel_rfl) (laid_met os _)

set_option maxRecDepth 100000 in
set_option maxHeartbeats 2000000 in
theorem lifted (os : Os) (started : os.Started) (H : Type) (enc : TypeId × Value → H) (F : Stop.Interp) :
    ReturnsInHanded {} Tryz.checked os 4 .any ((OpenSpec.ofChange Rows.xmlNamesSpec).preRow enc Tryz.prog Tryz.f4 Rows.xmlNamesRow.domain false Rows.xmlNamesRow.laid) (((OpenSpec.ofChange Rows.xmlNamesSpec).at F).post enc Tryz.prog Tryz.f4 false true false false) := by
  refine returnsInHanded_of_row (C := Tryz.checked) (s := (OpenSpec.ofChange Rows.xmlNamesSpec)) La.own started (by kernel_rfl) Tryz.func4
    (witness_row_atRef (enc := enc) (C := Tryz.checked) false (Xm.laidWorld os) #[.string ⟨#[]⟩, .string ⟨#[]⟩, .bool false] rfl (by kernel_rfl) (by kernel_rfl) (by kernel_rfl) (witness_row os enc)) ?_
  intro W base args ds gs before hval0 hW _ hcond hsz hL hsh _
  have hval : ∀ (j : Nat) t v, Tryz.f4.params[j]? = some t → args[j]? = some v → Value.okWide Tryz.prog W .any base t v := hval0
  have hW' := hW
  obtain ⟨p, q, hA0, hV0, rfl, _, _⟩ := hW
  have hA : DataW.TrodAll enc Tryz.prog W 0 (fun _ => true) true Tryz.f4.params.toList args.toList ds p := hA0
  rw [Tryz.params4] at hA hval
  obtain ⟨v0, v1, v2, d0, d1, d2, p0, p1, p2, rfl, rfl, rfl, h0, h1, h2⟩ := trodAll_three hA
  obtain ⟨rfl, rfl⟩ := trodVars_none hV0
  obtain ⟨s0, rfl, rfl, rfl, ws0⟩ := open_string Tryz.underlying9 (hval 0 9 v0 rfl rfl) h0
  obtain ⟨s1, rfl, rfl, rfl, ws1⟩ := open_string Tryz.underlying9 (hval 1 9 v1 rfl rfl) h1
  obtain ⟨s2, rfl, rfl, rfl⟩ := open_bool Tryz.underlying4 (hval 2 4 v2 rfl rfl) h2
  have r0 : s0.data.toList.length ≤ reachBytes := sized_string (j := 0) (t := 9) hsz rfl rfl
  have r1 : s1.data.toList.length ≤ reachBytes := sized_string (j := 1) (t := 9) hsz rfl rfl
  clear hA0 hV0 hval0 hsz
  refine (names_walk parse_any print_any s0 s1 s2 (most_of r0) (most_of r1) W (laid_tabs hL hsh)).mono ?_
  rintro e W' ⟨rfl, bel⟩
  have e1 : ((OpenSpec.ofChange Rows.xmlNamesSpec).at F).fn H ([.lit (.string s0.data.toList), .lit (.string s1.data.toList), .lit (.bool s2)] ++ []) = { results := [.lit (.bool true)], args := [.lit (.string s0.data.toList), .lit (.string s1.data.toList), .lit (.bool s2)] } := rfl
  refine ⟨_, rfl, _, _, _, [], [], [], hW', ?_, ?_, ?_, bel.frame _, fun h => by cases h⟩
  · rw [e1]; exact trodAll_mk1 (shut_bool Tryz.underlying4 _)
  · rw [e1]; exact trodAll_mk3 (shut_string Tryz.underlying9 ws0) (shut_string Tryz.underlying9 ws1) (shut_bool Tryz.underlying4 s2)
  · rw [e1]; rfl

theorem said : Rows.XmlNamesSaid :=
  OpenClaim.holds_of_cond 4 Tryz.f4 rfl rfl rfl rfl rfl rfl rfl ⟨rfl, rfl, rfl, rfl, rfl⟩ rfl rfl rfl rfl rfl (by kernel_rfl) Tryz.func4 (by kernel_rfl)
    (of_decide_eq_true (by kernel_rfl)) (by unfold Func.isWrapper; rw [if_neg (of_decide_eq_false (by kernel_rfl))]; exact ⟨rfl, rfl⟩)
    (fun os started H enc _ F => by rw [OpenClaim.pre_eq_preRow]; exact lifted os started H enc F)

/-- No parameter wants a stand-in; the program's own looks are on. -/
theorem plain (f : FuncId) (fn : Func) (hf : Tryz.pinned.checked.prog.funcNamed Rows.xmlNamesRow.func = some f) (hfn : Tryz.pinned.checked.prog.funcs[f]? = some fn) :
    true = Tryz.pinned.checked.prog.looks [] ∧ ∀ (j : Nat) t, fn.params[j]? = some t → Tryz.pinned.checked.prog.wantsStandIn t = false := by
  obtain rfl : f = 4 := Option.some.inj ((show Tryz.prog.funcNamed Rows.xmlNamesRow.func = some 4 by kernel_rfl).symm.trans hf) |>.symm
  obtain rfl : fn = Tryz.f4 := (Option.some.inj (Tryz.func4.symm.trans hfn)).symm
  refine ⟨by kernel_rfl, fun j t ht => ?_⟩
  rw [Tryz.params4] at ht
  have ht' : t = 9 ∨ t = 9 ∨ t = 4 := by simpa using Array.mem_of_getElem? ht
  rcases ht' with rfl | rfl | rfl
  · exact (show Tryz.prog.wantsStandIn 9 = false by kernel_rfl)
  · exact (show Tryz.prog.wantsStandIn 9 = false by kernel_rfl)
  · exact (show Tryz.prog.wantsStandIn 4 = false by kernel_rfl)

theorem card : Rows.XmlNamesCardSaid :=
  Claim7.holds_tied_plain_at .later [] _ _ _ _ said (fun _ h => by cases h) (by kernel_rfl) (fun _ h => by cases h) xmlNames_row_tie rfl ⟨rfl, rfl⟩ (by kernel_rfl) rfl plain (by kernel_rfl)
end Go.Proofs.YtjeagjleolmibaaGreatDoor.lawXmlNames
