import Derived.Test.YtjeagjleolmibaaGreatDoorMg20
/-
  THE WALK OF THE LAW XmlDeep.
-/
set_option linter.unusedVariables false
namespace Go.Proofs.YtjeagjleolmibaaGreatDoor.Xm
open Go.Lib Go.RowKit

theorem deep_k (z : Int) : ∃ K : Nat, wrap64 (1 + wrap64 ((IntKind.u64.wrap z).tmod 30)) = (K : Int) ∧ 1 ≤ K ∧ K ≤ 30 := by
  have h0 : 0 ≤ IntKind.u64.wrap z := by
    unfold IntKind.wrap
    simp only [IntKind.bits, IntKind.signed]
    simp
    omega
  have e : (IntKind.u64.wrap z).tmod 30 = (IntKind.u64.wrap z) % 30 := Int.tmod_eq_emod_of_nonneg h0
  have h1 := Int.emod_nonneg (IntKind.u64.wrap z) (b := 30) (by omega)
  have h2 := Int.emod_lt_of_pos (IntKind.u64.wrap z) (b := 30) (by omega)
  refine ⟨(1 + (IntKind.u64.wrap z) % 30).toNat, ?_, by omega, by omega⟩
  obtain ⟨q, hq⟩ : ∃ q, (IntKind.u64.wrap z) % 30 = q := ⟨_, rfl⟩
  rw [e, hq]
  rw [hq] at h1 h2
  rw [IntWalk.wrap64_in q ⟨by omega, by omega⟩, IntWalk.wrap64_in (1 + q) ⟨by omega, by omega⟩]
  omega
theorem reps_ascii {n : Nat} {a : Row} (h : ∀ x ∈ a, x.toNat < 128 ∧ Ch.ctl x = false) : ∀ x ∈ reps n a, x.toNat < 128 ∧ Ch.ctl x = false := by
  intro x hx
  unfold reps at hx
  obtain ⟨l, hl, hxl⟩ := List.mem_flatten.1 hx
  rw [List.eq_of_mem_replicate hl] at hxl
  exact h x hxl
theorem szs_app (a b : List Pc) : szs (a ++ b) = szs a + szs b := by simp [szs]
theorem szs_rep (n : Nat) (p : Pc) : szs (List.replicate n p) = n * szP p := by
  induction n with
  | zero => simp [szs]
  | succ n ih =>
    have : szs (p :: List.replicate n p) = szP p + szs (List.replicate n p) := by simp [szs]
    rw [List.replicate_succ, this, ih, Nat.succ_mul]; omega
theorem reps_len (n : Nat) (a : Row) : (reps n a).length = n * a.length := by
  induction n with
  | zero => simp [reps]
  | succ n ih => rw [reps_succ, List.length_append, ih, Nat.succ_mul]; omega
theorem parse_deep {K : Nat} (h1 : 1 ≤ K) (h2 : K ≤ 30) : parseX (reps K eO ++ reps K eC) = if K ≤ 16 then (List.replicate K pO ++ List.replicate K pC, 0) else ([], 70) := by
  have hl : (reps K eO ++ reps K eC).length = 7 * K := by
    rw [List.length_append, reps_len, reps_len]
    show K * 3 + K * 4 = _
    omega
  have hv : Ch.valid (reps K eO ++ reps K eC) = true := valid_ascii _ fun x hx => by
    rcases List.mem_append.1 hx with h | h
    · exact reps_ascii (by decide) x h
    · exact reps_ascii (by decide) x h
  unfold parseX
  rw [if_neg (by rw [hl]; omega), if_neg (by rw [hv]; decide)]
  by_cases hk : K ≤ 16
  · rw [if_pos hk, doc_deep K (by omega) hk]
  · rw [if_neg hk, doc_deeper K (by omega)]
theorem left_row {w0 w1 w' : World} {B : Nat} {v : Value} {ps : List Pc} {o : Obj} (hb : Below B w0 w1) (hown : PsOwn B v ps w1) (hg : (w1.alloc o).grownBy w' v.ownBlock) (hB : B ≤ w1.heap.size) : Below B w0 w' :=
  left_of hown hg B w0 hb (Nat.le_refl _) hB
set_option maxHeartbeats 4000000 in
set_option maxRecDepth 100000 in
theorem deep_walk (cP : ParseC) (cC : CheckC) (cR : PrintC) (z : Int) (w : World) (hT : Gw w) :
    Calls Tryz.prog 5 #[.int .i64 z] w fun e w' => e = .returned (.bool true) ∧ Below w.heap.size w w' := by
  have c0 := first_any cP cR w hT
  have hT' := Lib.hid hT
  clear hT
  go_enter Tryz.func5, Tryz.ntmps5
  go_wp2_with fail
  go_at_call 8
  with_reducible refine c0.mono ?_
  rintro e w1 ⟨rfl, hb1⟩
  clear c0
  obtain ⟨K, hK, hK1, hK2⟩ := deep_k z
  obtain ⟨Z, hZ⟩ : ∃ Z, w.heap.size = Z := ⟨_, rfl⟩
  rw [hZ] at hb1
  have hZ' := Lib.hid hZ
  go_wp2
  rw [hK]
  clear hK hZ
  go_loopw [4, 5, 16] (fun s4 s5 s16 wr => ∃ (j : Nat) (S : ByteArray), s16 = .int .i64 (j : Int) ∧ j ≤ K ∧ s4 = .string S ∧ S.data.toList = reps j eO ∧ PsOwn Z s5 (List.replicate j pO) wr ∧ Below Z w wr) (fun s4 s5 s16 wr => K - (RowKit.intOf s16).toNat)
  case atStart => exact ⟨0, _, rfl, Nat.zero_le _, rfl, rfl, PsOwn.nil _ _, hb1⟩
  case round =>
    obtain ⟨j, S, rfl, hj, rfl, hS, hown, hB⟩ := hrel
    have hZr : Z ≤ wr.heap.size := by have := hB.size; rw [hZ'.out] at this; exact this
    by_cases hlt : j < K
    · have hSz : S.size = 3 * j := by rw [Lib.size_eq, hS, reps_len]; show j * 3 = _; omega
      obtain ⟨S2, hS2⟩ : ∃ S2, S ++ (⟨#[60, 101, 62]⟩ : ByteArray) = S2 := ⟨_, rfl⟩
      have hS2d := Lib.hid (show S2.data.toList = reps (j + 1) eO by rw [cat_data hS2, hS, reps_snoc]; rfl)
      have m1 : ¬ 9223372036854775807 < S.size + (⟨#[60, 101, 62]⟩ : ByteArray).size := by rw [show (⟨#[60, 101, 62]⟩ : ByteArray).size = 3 from rfl]; omega
      have m1' : ¬ 9223372036854775807 < S.size + 3 := by omega
      have hown' := Lib.hid hown
      have hB' := Lib.hid hB
      have hl : (List.replicate j pO).length ≤ 1099511627776 := by rw [List.length_replicate]; omega
      clear hown hB hS
      go_wp2_with (at_builtin; refine append_piece pO ⟨#[101]⟩ ⟨#[]⟩ 1 0 rfl rfl rfl rfl rfl _ _ rfl Z _ (List.replicate j pO) _ ?i8 rfl rfl hown'.out hl hZr ?_)
      case i8 => simp
      intro v7 w7 hown7 hg7
      have hB7 := Lib.hid (left_row hB'.out hown'.out hg7 hZr)
      rw [← List.replicate_succ'] at hown7
      have hown7' := Lib.hid hown7
      clear hown7 hg7
      go_wp2
      go_roundw
      case rel => exact ⟨j + 1, S2, by go_num, by omega, rfl, hS2d.out, hown7'.out, hB7.out⟩
      case measure => simp [RowKit.intOf]; omega
    · obtain rfl : K = j := by omega
      have hSz : S.size = 3 * K := by rw [Lib.size_eq, hS, reps_len]; show K * 3 = _; omega
      go_wp2
      go_loopw [4, 5, 26] (fun s4 s5 s26 wr => ∃ (j : Nat) (S : ByteArray), s26 = .int .i64 (j : Int) ∧ j ≤ K ∧ s4 = .string S ∧ S.data.toList = reps K eO ++ reps j eC ∧ PsOwn Z s5 (List.replicate K pO ++ List.replicate j pC) wr ∧ Below Z w wr) (fun s4 s5 s26 wr => K - (RowKit.intOf s26).toNat)
      case atStart => exact ⟨0, _, rfl, Nat.zero_le _, rfl, by rw [hS]; simp [reps], by simpa using hown, hB⟩
      case round =>
        clear hS hown hB hZr hSz
        obtain ⟨j, S, rfl, hj, rfl, hS, hown, hB⟩ := hrel
        have hZr : Z ≤ wr.heap.size := by have := hB.size; rw [hZ'.out] at this; exact this
        have hSz : S.size = 3 * K + 4 * j := by rw [Lib.size_eq, hS, List.length_append, reps_len, reps_len]; show K * 3 + j * 4 = _; omega
        by_cases hlt : j < K
        · obtain ⟨S2, hS2⟩ : ∃ S2, S ++ (⟨#[60, 47, 101, 62]⟩ : ByteArray) = S2 := ⟨_, rfl⟩
          have hS2d := Lib.hid (show S2.data.toList = reps K eO ++ reps (j + 1) eC by rw [cat_data hS2, hS, reps_snoc, List.append_assoc]; rfl)
          have m1 : ¬ 9223372036854775807 < S.size + (⟨#[60, 47, 101, 62]⟩ : ByteArray).size := by rw [show (⟨#[60, 47, 101, 62]⟩ : ByteArray).size = 4 from rfl]; omega
          have m1' : ¬ 9223372036854775807 < S.size + 4 := by omega
          have hown' := Lib.hid hown
          have hB' := Lib.hid hB
          have hl : (List.replicate K pO ++ List.replicate j pC).length ≤ 1099511627776 := by rw [List.length_append, List.length_replicate, List.length_replicate]; omega
          clear hown hB hS
          go_wp2_with (at_builtin; refine append_piece pC ⟨#[101]⟩ ⟨#[]⟩ 2 0 rfl rfl rfl rfl rfl _ _ rfl Z _ (List.replicate K pO ++ List.replicate j pC) _ ?i8 rfl rfl hown'.out hl hZr ?_)
          case i8 => simp
          intro v7 w7 hown7 hg7
          have hB7 := Lib.hid (left_row hB'.out hown'.out hg7 hZr)
          have e7 : List.replicate K pO ++ List.replicate (j + 1) pC = List.replicate K pO ++ (List.replicate j pC ++ [pC]) := by rw [List.replicate_succ' (n := j)]
          have hown8 : PsOwn Z v7 (List.replicate K pO ++ List.replicate (j + 1) pC) w7 := by rw [e7]; first | exact hown7 | (rw [← List.append_assoc]; exact hown7)
          have hown7' := Lib.hid hown8
          clear hown7 hown8 hg7 e7
          go_wp2
          go_roundw
          case rel => exact ⟨j + 1, S2, by go_num, by omega, rfl, hS2d.out, hown7'.out, hB7.out⟩
          case measure => simp [RowKit.intOf]; omega
        · obtain rfl : K = j := by omega
          have hat := hown.at
          obtain ⟨A, c, e5⟩ := hat.form
          obtain ⟨N, hN⟩ : ∃ N, (List.replicate K pO ++ List.replicate K pC).length = N := ⟨_, rfl⟩
          rw [hN] at e5
          have hsz : szs (List.replicate K pO ++ List.replicate K pC) ≤ mostP := by
            rw [szs_app, szs_rep, szs_rep]
            show K * 2 + K * 2 ≤ 68719476736
            omega
          have hBw : Below w.heap.size w wr := by rw [hZ'.out]; exact hB
          have cp := cP S wr (by unfold mostS; omega) (gw_below hT'.out hBw)
          rw [hS, parse_deep hK1 hK2] at cp
          have hBw' := Lib.hid hBw
          have hat' := Lib.hid hat
          clear hown hB hat hBw
          subst e5
          by_cases hk : K ≤ 16
          · rw [if_pos hk] at cp
            have g1 : ¬ (16 : Int) < (K : Int) := by omega
            go_wp2_with fail
            go_at_call 14
            with_reducible refine cp.mono ?_
            rintro e w2 ⟨⟨v2, rfl, hv2⟩, hb2⟩
            have hB2 := below_then hBw'.out hb2
            have hat2 := hat'.out.kept hb2
            have cs := refSame_any v2 _ _ _ w2 hv2 hat2
            rw [decide_eq_true rfl] at cs
            obtain ⟨A2, c2, e2⟩ := hv2.form
            rw [hN] at e2
            subst e2
            have hB2' := Lib.hid hB2
            have hat2' := Lib.hid hat2
            clear hv2 hb2 hB2 hat2 cp
            go_wp2_with fail
            go_at_call 11
            with_reducible refine cs.mono ?_
            rintro e w3 ⟨rfl, hb3⟩
            have hB3 := below_then hB2'.out hb3
            have cc := cC _ _ w3 (hat2'.out.kept hb3) hsz (gw_below hT'.out hB3)
            rw [right_deep K (by omega), decide_eq_true hk, if_pos rfl] at cc
            have hB3' := Lib.hid hB3
            clear cs hb3 hB3
            go_wp2_with fail
            go_at_call 9
            with_reducible refine cc.mono ?_
            rintro e w4 ⟨rfl, hb4⟩
            have hB4 := Lib.hid (below_then hB3'.out hb4)
            clear cc hb4
            go_wp2
            go_ret
            exact ⟨rfl, hB4.out⟩
          · rw [if_neg hk] at cp
            have g1 : (16 : Int) < (K : Int) := by omega
            go_wp2_with fail
            go_at_call 14
            with_reducible refine cp.mono ?_
            rintro e w2 ⟨⟨v2, rfl, hv2⟩, hb2⟩
            have hB2 := below_then hBw'.out hb2
            have cc := cC _ _ w2 (hat'.out.kept hb2) hsz (gw_below hT'.out hB2)
            rw [right_deep K (by omega), decide_eq_false hk, if_neg (by decide)] at cc
            obtain ⟨A2, c2, e2⟩ := hv2.form
            subst e2
            have hB2' := Lib.hid hB2
            clear hv2 hb2 hB2 cp
            go_wp2_with fail
            go_at_call 9
            with_reducible refine cc.mono ?_
            rintro e w4 ⟨rfl, hb4⟩
            have hB4 := Lib.hid (below_then hB2'.out hb4)
            clear cc hb4
            go_wp2
            go_ret
            exact ⟨rfl, hB4.out⟩
end Go.Proofs.YtjeagjleolmibaaGreatDoor.Xm

/-
  THE LAW XmlDeep, tied: whatever the number, it answers true; its argument reads as it did.
-/
set_option linter.unusedVariables false
namespace Go.Proofs.YtjeagjleolmibaaGreatDoor.lawXmlDeep
open Go.Lib Go.RowKit Go.Shelf Go.ChangeShapes Go.WideShapes Go.ChangeAt Xm
open Go.ChangeMaps (open_string shut_string)

theorem laid_tabs {W : World} (hL : laidMetH Tryz.prog Rows.xmlDeepRow.laid W) (hsh : W.ShapedOpen Tryz.prog) : Xm.Gw W :=
  Xm.gw_of (La.first_eq ▸ Lib.laidMet.reads hL (.tail _ (.tail _ (.tail _ (.tail _ (.tail _ (.tail _ (.head _)))))))) (La.accept_eq ▸ Lib.laidMet.reads hL (.tail _ (.tail _ (.tail _ (.head _)))))
    (Lib.laidMet.reads hL (.tail _ (.tail _ (.tail _ (.tail _ (.tail _ (.head _))))))) (Lib.laidMet.reads hL (.tail _ (.tail _ (.tail _ (.tail _ (.head _)))))) hsh
theorem laid_met (os : Os) (args : Array Value) : laidMet Tryz.prog Rows.xmlDeepRow.laid ((Xm.laidWorld os).forCall (fun _ _ => 0) ⟨#[], args, []⟩).memory := Xm.laid_met os args

theorem witness_row (os : Os) {H : Type} (enc : TypeId × Value → H) :
    (OpenSpec.ofChange Rows.xmlDeepSpec).preRow enc Tryz.prog Tryz.f5 Rows.xmlDeepRow.domain false Rows.xmlDeepRow.laid ((Xm.laidWorld os).forCall (fun _ _ => 0) ⟨#[], #[.int .i64 0], []⟩).memory #[.int .i64 0] := by
  have hw : (DataW.whole enc Tryz.prog ((Xm.laidWorld os).forCall (fun _ _ => 0) ⟨#[], #[.int .i64 0], []⟩).memory Tryz.f5.params.toList Rows.xmlDeepSpec.vars false (#[Value.int .i64 0] : Array Value).toList 8).map (fun x => (x.1, x.2.1)) =
      some ([.lit (.int .i64 0)], []) := by kernel_rfl
  obtain ⟨⟨x1, x2, x3⟩, hx, hx1⟩ := Option.map_eq_some_iff.1 hw
  simp only [Prod.mk.injEq] at hx1
  obtain ⟨rfl, rfl⟩ := hx1
  exact OpenSpec.preRow_of_cond 8 hx (by kernel_rfl) (fun k hk => by cases hk) (by kernel_rfl) (laid_met os _)

set_option maxRecDepth 100000 in
set_option maxHeartbeats 2000000 in
theorem lifted (os : Os) (started : os.Started) (H : Type) (enc : TypeId × Value → H) (F : Stop.Interp) :
    ReturnsInHanded {} Tryz.checked os 5 .any ((OpenSpec.ofChange Rows.xmlDeepSpec).preRow enc Tryz.prog Tryz.f5 Rows.xmlDeepRow.domain false Rows.xmlDeepRow.laid) (((OpenSpec.ofChange Rows.xmlDeepSpec).at F).post enc Tryz.prog Tryz.f5 false true false false) := by
  refine returnsInHanded_of_row (C := Tryz.checked) (s := (OpenSpec.ofChange Rows.xmlDeepSpec)) La.own started (by kernel_rfl) Tryz.func5
    (witness_row_atRef (enc := enc) (C := Tryz.checked) false (Xm.laidWorld os) #[.int .i64 0] rfl (by kernel_rfl) (by kernel_rfl) (by kernel_rfl) (witness_row os enc)) ?_
  intro W base args ds gs before hval0 hW _ hcond hsz hL hsh _
  have hval : ∀ (j : Nat) t v, Tryz.f5.params[j]? = some t → args[j]? = some v → Value.okWide Tryz.prog W .any base t v := hval0
  have hW' := hW
  obtain ⟨p, q, hA0, hV0, rfl, _, _⟩ := hW
  have hA : DataW.TrodAll enc Tryz.prog W 0 (fun _ => true) true Tryz.f5.params.toList args.toList ds p := hA0
  rw [Tryz.params5] at hA hval
  obtain ⟨v0, d0, rfl, rfl, h0⟩ := trodAll_one hA
  obtain ⟨rfl, rfl⟩ := trodVars_none hV0
  obtain ⟨s0, rfl, rfl, rfl, ws0⟩ := open_int Tryz.underlying3 (hval 0 3 v0 rfl rfl) h0
  clear hA0 hV0 hval0 hsz
  refine (deep_walk parse_any check_any print_any s0 W (laid_tabs hL hsh)).mono ?_
  rintro e W' ⟨rfl, bel⟩
  have e1 : ((OpenSpec.ofChange Rows.xmlDeepSpec).at F).fn H ([.lit (.int .i64 s0)] ++ []) = { results := [.lit (.bool true)], args := [.lit (.int .i64 s0)] } := rfl
  refine ⟨_, rfl, _, _, _, [], [], [], hW', ?_, ?_, ?_, bel.frame _, fun h => by cases h⟩
  · rw [e1]; exact trodAll_mk1 (shut_bool Tryz.underlying4 _)
  · rw [e1]; exact trodAll_mk1 (shut_int Tryz.underlying3 ws0)
  · rw [e1]; rfl

theorem said : Rows.XmlDeepSaid :=
  OpenClaim.holds_of_cond 5 Tryz.f5 rfl rfl rfl rfl rfl rfl rfl ⟨rfl, rfl, rfl, rfl, rfl⟩ rfl rfl rfl rfl rfl (by kernel_rfl) Tryz.func5 (by kernel_rfl)
    (of_decide_eq_true (by kernel_rfl)) (by unfold Func.isWrapper; rw [if_neg (of_decide_eq_false (by kernel_rfl))]; exact ⟨rfl, rfl⟩)
    (fun os started H enc _ F => by rw [OpenClaim.pre_eq_preRow]; exact lifted os started H enc F)

/-- No parameter wants a stand-in; the program's own looks are on. -/
theorem plain (f : FuncId) (fn : Func) (hf : Tryz.pinned.checked.prog.funcNamed Rows.xmlDeepRow.func = some f) (hfn : Tryz.pinned.checked.prog.funcs[f]? = some fn) :
    true = Tryz.pinned.checked.prog.looks [] ∧ ∀ (j : Nat) t, fn.params[j]? = some t → Tryz.pinned.checked.prog.wantsStandIn t = false := by
  obtain rfl : f = 5 := Option.some.inj ((show Tryz.prog.funcNamed Rows.xmlDeepRow.func = some 5 by kernel_rfl).symm.trans hf) |>.symm
  obtain rfl : fn = Tryz.f5 := (Option.some.inj (Tryz.func5.symm.trans hfn)).symm
  refine ⟨by kernel_rfl, fun j t ht => ?_⟩
  rw [Tryz.params5] at ht
  obtain rfl : t = 3 := by simpa using Array.mem_of_getElem? ht
  exact (show Tryz.prog.wantsStandIn 3 = false by kernel_rfl)

theorem card : Rows.XmlDeepCardSaid :=
  Claim7.holds_tied_plain_at .later [] _ _ _ _ said (fun _ h => by cases h) (by kernel_rfl) (fun _ h => by cases h) xmlDeep_row_tie rfl ⟨rfl, rfl⟩ (by kernel_rfl) rfl plain (by kernel_rfl)
end Go.Proofs.YtjeagjleolmibaaGreatDoor.lawXmlDeep
