import Derived.Test.YtjeagjleolmibaaGreatDoorMg20
/-
  THE WALK OF THE LAW XmlWrites.
-/
set_option linter.unusedVariables false
namespace Go.Proofs.YtjeagjleolmibaaGreatDoor.Xm
open Go.Lib Go.RowKit

theorem pcells_one : ∀ (ps : List Pc), ∀ u ∈ pcells ps, u.oneCell' = true
  | [], u, h => by cases h
  | p :: ps, u, h => by
    simp only [pcells, List.mem_cons] at h
    rcases h with rfl | rfl | rfl | rfl | h
    · rfl
    · rfl
    · rfl
    · rfl
    · exact pcells_one ps u h
/-- pieces appended onto an empty row, wherever they lie -/
theorem append_pcs {w : World} {ops : Array Oper} {rest : List Oper} {o : Oper} {a : Act} {Q : Exit → Act → World → Prop} (hgd : o.guard = none) (s x : Operand)
    (ho : o.op = .call { callee := .builtin .append, args := #[s, x], argTypes := #[22, 22] }) (base : Nat) (v xv : Value) (ps : List Pc) (hs : a.eval s = v) (hx : a.eval x = xv)
    (hown : PsOwn base v [] w) (hS : PcsAt w xv ps) (hls : ps.length ≤ 1099511627776) (hbase : base ≤ w.heap.size)
    (h : ∀ v' w', PsOwn base v' ps w' → w.grownBy w' v.ownBlock → wpList Tryz.prog ops Q rest (a.put o.dst v') w') : wpList Tryz.prog ops Q (o :: rest) a w := by
  obtain ⟨i0, hi, hz0, hz1, hz2⟩ := info_parts infoPc
  obtain ⟨A, b, off, c, rfl, h1, h2, h3, h4⟩ := hS
  have hown0 : w.ownsRow base 37 4 v 0 [] := hown
  cases A with
  | none =>
    have hl : ps = [] := by
      cases ps with
      | nil => rfl
      | cons y t =>
        obtain ⟨h5, _⟩ := h3 (by simp)
        cases h5
    subst hl
    refine wpList_plain hgd fun K hK => ?_
    have hrun : (Builtin.append_ #[22, 22] o.type #[v, .slice none 0 c]).run Tryz.prog w = .ok v w := by
      rcases hown0.2 with ⟨rfl, _⟩ | ⟨g, cap, cur, rfl, _, _, hnc, _⟩
      · simp [Builtin.append_, run_underlying Tryz.underlying22, sizeOf, typeInfo, hi, Builtin.lenOf, Builtin.firstCells]
      · simp [Builtin.append_, run_underlying Tryz.underlying22, sizeOf, typeInfo, hi, Builtin.lenOf, Builtin.firstCells, storeCells]
    have hk := hK _ _ (h v w hown (World.grownBy.refl w _))
    unfold Oper.wp execOp
    simp only [ho, resolve, invoke, builtin, Sem.run_bind, Sem.run_pure, Result.andThen_ok, List.map_toArray, List.map_cons, List.map_nil, hs, hx]
    rw [show (List.length ([] : List Pc)) = 0 from rfl, hrun]
    exact hk
  | some ad =>
    refine wpList_append_own _ hgd s x 22 ho base 37 i0 zeroPc 4 48 Tryz.underlying22 hi hz0 hz1 hz2 rfl (by decide) v 0 [] hs hown0 ad ps.length c (pcells ps) hx (pcells_len ps) (fun j u hj => ?_) (fun u hu => pcells_one ps u hu) (by unfold maxLen; omega) (by omega) hbase (fun v' w' h5 h6 _ => h v' w' ?_ h6)
    · have hjl := (List.getElem?_eq_some_iff.1 hj).1
      rw [pcells_len] at hjl
      obtain ⟨q, hq⟩ : ∃ q, j / 4 = q := ⟨_, rfl⟩
      have hql : q < ps.length := by omega
      have hp : ps[q]? = some ps[q] := List.getElem?_eq_getElem hql
      obtain ⟨p, hpe⟩ : ∃ p, ps[q] = p := ⟨_, rfl⟩
      rw [hpe] at hp
      obtain ⟨e0, e1, e2, e3⟩ := pcells_at ps q p hp
      obtain ⟨g0, g1, g2, g3⟩ := h4 q p hp
      obtain ⟨he, _⟩ := h3 (by omega)
      obtain rfl := Option.some.inj he
      have hadd : (⟨b, off, none⟩ : Addr).add j = ⟨b, off + j, none⟩ := by
        unfold Addr.add
        split
        · rename_i h; subst h; rfl
        · rfl
      rw [hadd]
      have hr : j = q * 4 ∨ j = q * 4 + 1 ∨ j = q * 4 + 2 ∨ j = q * 4 + 3 := by omega
      rcases hr with hr | hr | hr | hr
      · rw [hr] at hj ⊢; rw [e0] at hj; rw [← Option.some.inj hj]; exact g0
      · rw [hr] at hj ⊢; rw [e1] at hj; rw [← Option.some.inj hj, ← Nat.add_assoc]; exact g1
      · rw [hr] at hj ⊢; rw [e2] at hj; rw [← Option.some.inj hj, ← Nat.add_assoc]; exact g2
      · rw [hr] at hj ⊢; rw [e3] at hj; rw [← Option.some.inj hj, ← Nat.add_assoc]; exact g3
    · unfold PsOwn
      rw [Nat.zero_add, List.nil_append] at h5
      exact h5
theorem parse_pr {ps : List Pc} (h : right ps = true) (hl : (prX ps).length ≤ 65536) : parseX (prX ps) = (ps, 0) := by
  unfold parseX
  rw [if_neg (by omega), if_neg (by rw [valid_pr h]; decide), doc_pr h]

set_option maxHeartbeats 4000000 in
set_option maxRecDepth 100000 in
theorem writes_walk (cP : ParseC) (cC : CheckC) (cR : PrintC) (v : Value) (ps : List Pc) (w : World) (hv : PcsAt w v ps) (hsz : szs ps ≤ 1048576) (hT : Gw w) :
    Calls Tryz.prog 3 #[v] w fun e w' => e = .returned (.bool true) ∧ Below w.heap.size w w' := by
  have c0 := first_any cP cR w hT
  obtain ⟨A, c, ev⟩ := hv.form
  obtain ⟨n, hn⟩ : ∃ n, ps.length = n := ⟨_, rfl⟩
  rw [hn] at ev
  subst ev
  have hv' := Lib.hid hv
  have hT' := Lib.hid hT
  clear hv hT
  by_cases hl : n ≤ 400
  · have g1 : ¬ (400 : Int) < (n : Int) := by omega
    go_enter Tryz.func3, Tryz.ntmps3
    go_wp2_with fail
    go_at_call 8
    with_reducible refine c0.mono ?_
    rintro e w1 ⟨rfl, hb1⟩
    clear c0
    obtain ⟨Z, hZ⟩ : ∃ Z, w.heap.size = Z := ⟨_, rfl⟩
    have hZ1 : Z ≤ w1.heap.size := by rw [← hZ]; exact hb1.size
    have hZ' := Lib.hid hZ
    have hown : PsOwn Z (.slice (some ⟨w1.heap.size, 0, none⟩) 0 0) [] (w1.alloc (.cells #[] 37)) := ⟨rfl, .inr ⟨w1.heap.size, 0, #[], rfl, hZ1, heap_alloc_new w1 _, Nat.le_refl _, Nat.zero_le _, rfl, rfl⟩⟩
    have hal : Below w1.heap.size w1 (w1.alloc (.cells #[] 37)) := (Below.refl _ _).alloc (Nat.le_refl _) _
    have hsrc : PcsAt (w1.alloc (.cells #[] 37)) (.slice A n c) ps := hv'.out.kept (below_then hb1 hal)
    have hps : ps.length ≤ 1099511627776 := by omega
    have hZ2 : Z ≤ (w1.alloc (.cells #[] 37)).heap.size := Nat.le_trans hZ1 hal.size
    have hBa : Below Z w (w1.alloc (.cells #[] 37)) := by rw [← hZ]; exact below_then hb1 hal
    have hown' := Lib.hid hown
    have hsrc' := Lib.hid hsrc
    have hBa' := Lib.hid hBa
    have hZ2' := Lib.hid hZ2
    clear hZ hown hal hsrc hBa hZ2 hb1
    go_wp2_with (at_builtin; refine append_pcs rfl _ _ rfl Z _ _ ps rfl rfl hown'.out hsrc'.out hps hZ2'.out ?_)
    intro vo w2 hown2 hg2
    have hB2 : Below Z w w2 := hBa'.out.grown hg2 hZ2'.out (fun k hk => (hown'.out.lt k hk).1)
    obtain ⟨Ao, co, eo⟩ := ownsRow_form hown2
    rw [hn] at eo
    subst eo
    have hat2 := hown2.at
    have hB2' := Lib.hid (show Below w.heap.size w w2 by rw [hZ'.out]; exact hB2)
    have hown2' := Lib.hid hown2
    have cc := cC _ ps w2 hat2 (by unfold mostP; omega) (gw_below hT'.out hB2'.out)
    obtain ⟨E, hE⟩ : ∃ E : Int, (if right ps = true then (0 : Int) else 70) = E := ⟨_, rfl⟩
    rw [hE] at cc
    have hat2' := Lib.hid hat2
    clear hown2 hg2 hB2 hat2 hown' hsrc' hBa' hZ2'
    go_wp2_with fail
    go_at_call 9
    with_reducible refine cc.mono ?_
    rintro e w3 ⟨rfl, hb3⟩
    have hB3 := Lib.hid (below_then hB2'.out hb3)
    have hat3 := hat2'.out.kept hb3
    have cr := cR _ ps w3 hat3 (by unfold mostP; omega) (gw_below hT'.out hB3.out)
    have hat3' := Lib.hid hat3
    clear cc hb3 hat3
    go_wp2_with fail
    go_at_call 10
    with_reducible refine cr.mono ?_
    rintro e w4 ⟨hp4, hb4⟩
    have hB4 := Lib.hid (below_then hB3.out hb4)
    have hat4 := hat3'.out.kept hb4
    have cs := refSame_any _ _ ps ps w4 hat4 (hv'.out.kept hB4.out)
    rw [decide_eq_true rfl] at cs
    have hk := Lib.hid (fun (W : World) (hW : Below w.heap.size w W) => refRight_any _ ps W (hv'.out.kept hW) (fun p hp => by
      have := szs_mem hp
      unfold szP at this
      omega))
    clear cr hb4 hat4
    rcases hp4 with ⟨hr, rfl⟩ | ⟨hr, hbig, rfl⟩ | ⟨hr, hsm, rfl⟩
    · have hE0 : E = 70 := by rw [← hE, hr]; rfl
      subst hE0
      go_wp2_with fail
      go_at_call 11
      with_reducible refine cs.mono ?_
      rintro e w5 ⟨rfl, hb5⟩
      have hB5 := Lib.hid (below_then hB4.out hb5)
      have ck := hk.out w5 hB5.out
      rw [hr] at ck
      clear cs hb5
      go_wp2_with fail
      go_at_call 12
      with_reducible refine ck.mono ?_
      rintro e w6 ⟨rfl, hb6⟩
      have hB6 := Lib.hid (below_then hB5.out hb6)
      clear ck hb6
      go_wp2
      go_ret
      exact ⟨rfl, hB6.out⟩
    all_goals
      have hE0 : E = 0 := by rw [← hE, hr]; rfl
      subst hE0
      have hkp := Lib.hid (fun (W : World) (hW : Below w.heap.size w W) => refPrint_any _ ps W (hv'.out.kept hW) hr (by have := prX_len ps; omega))
      go_wp2_with fail
      go_at_call 11
      with_reducible refine cs.mono ?_
      rintro e w5 ⟨rfl, hb5⟩
      have hB5 := Lib.hid (below_then hB4.out hb5)
      have ck := hk.out w5 hB5.out
      rw [hr] at ck
      clear cs hb5
      go_wp2_with fail
      go_at_call 12
      with_reducible refine ck.mono ?_
      rintro e w6 ⟨rfl, hb6⟩
      have hB6 := Lib.hid (below_then hB5.out hb6)
      have cp := hkp.out w6 hB6.out
      clear ck hb6
      go_wp2_with fail
      go_at_call 13
      with_reducible refine cp.mono ?_
      rintro e w7 ⟨rfl, hb7⟩
      have hB7 := Lib.hid (below_then hB6.out hb7)
      clear cp hb7
    · have hts : (⟨(prX ps).toArray⟩ : ByteArray).size = (prX ps).length := by rw [Lib.size_eq]
      obtain ⟨T, hT2⟩ : ∃ T, (⟨(prX ps).toArray⟩ : ByteArray) = T := ⟨_, rfl⟩
      rw [hT2] at hts ⊢
      have g2 : (65536 : Int) < (T.size : Int) := by omega
      clear hT2
      go_wp2
      go_ret
      exact ⟨rfl, hB7.out⟩
    · have hts : (⟨(prX ps).toArray⟩ : ByteArray).size = (prX ps).length := by rw [Lib.size_eq]
      obtain ⟨T, hT2⟩ : ∃ T, (⟨(prX ps).toArray⟩ : ByteArray) = T := ⟨_, rfl⟩
      have hTd : T.data.toList = prX ps := by rw [← hT2]
      rw [hT2] at hts ⊢
      have g2 : ¬ (65536 : Int) < (T.size : Int) := by omega
      have cq := cP T w7 (by unfold mostS; omega) (gw_below hT'.out hB7.out)
      rw [hTd, parse_pr hr hsm] at cq
      clear hT2
      go_wp2_with fail
      go_at_call 14
      with_reducible refine cq.mono ?_
      rintro e w8 ⟨⟨v8, rfl, hv8⟩, hb8⟩
      have hB8 := Lib.hid (below_then hB7.out hb8)
      have cs2 := refSame_any _ _ ps ps w8 hv8 (hv'.out.kept hB8.out)
      rw [decide_eq_true rfl] at cs2
      obtain ⟨A8, c8, e8⟩ := hv8.form
      rw [hn] at e8
      subst e8
      clear cq hb8 hv8
      go_wp2_with fail
      go_at_call 11
      with_reducible refine cs2.mono ?_
      rintro e w9 ⟨rfl, hb9⟩
      have hB9 := Lib.hid (below_then hB8.out hb9)
      clear cs2 hb9
      go_wp2
      go_ret
      exact ⟨rfl, hB9.out⟩
  · have g1 : (400 : Int) < (n : Int) := by omega
    go_enter Tryz.func3, Tryz.ntmps3
    go_wp2_with fail
    go_at_call 8
    with_reducible refine c0.mono ?_
    rintro e w1 ⟨rfl, hb1⟩
    clear c0
    go_wp2
    go_ret
    exact ⟨rfl, hb1⟩
end Go.Proofs.YtjeagjleolmibaaGreatDoor.Xm

/-
  THE LAW XmlWrites, tied: whatever pieces of a bulk of at most 2^20, it answers true; its argument reads as it did.
-/
set_option linter.unusedVariables false
namespace Go.Proofs.YtjeagjleolmibaaGreatDoor.lawXmlWrites
open Go.Lib Go.RowKit Go.Shelf Go.ChangeShapes Go.WideShapes Go.ChangeAt Xm
open Go.ChangeMaps (open_string shut_string)

theorem laid_tabs {W : World} (hL : laidMetH Tryz.prog Rows.xmlWritesUptoRow.laid W) (hsh : W.ShapedOpen Tryz.prog) : Xm.Gw W :=
  Xm.gw_of (La.first_eq ▸ Lib.laidMet.reads hL (.tail _ (.tail _ (.tail _ (.tail _ (.tail _ (.tail _ (.head _)))))))) (La.accept_eq ▸ Lib.laidMet.reads hL (.tail _ (.tail _ (.tail _ (.head _)))))
    (Lib.laidMet.reads hL (.tail _ (.tail _ (.tail _ (.tail _ (.tail _ (.head _))))))) (Lib.laidMet.reads hL (.tail _ (.tail _ (.tail _ (.tail _ (.head _)))))) hsh
theorem laid_met (os : Os) (args : Array Value) : laidMet Tryz.prog Rows.xmlWritesUptoRow.laid ((Xm.laidWorld os).forCall (fun _ _ => 0) ⟨#[], args, []⟩).memory := Xm.laid_met os args

theorem witness_row (os : Os) {H : Type} (enc : TypeId × Value → H) :
    (Rows.OpenSpec.upto Rows.xmlWritesSpec).preRow enc Tryz.prog Tryz.f3 Rows.xmlWritesUptoRow.domain false Rows.xmlWritesUptoRow.laid ((Xm.laidWorld os).forCall (fun _ _ => 0) ⟨#[], #[.slice none 0 0], []⟩).memory #[.slice none 0 0] := by
  have hw : (DataW.whole enc Tryz.prog ((Xm.laidWorld os).forCall (fun _ _ => 0) ⟨#[], #[.slice none 0 0], []⟩).memory Tryz.f3.params.toList Rows.xmlWritesSpec.vars false (#[Value.slice none 0 0] : Array Value).toList 8).map (fun x => (x.1, x.2.1)) =
      some ([.nil], []) := by kernel_rfl
  obtain ⟨⟨x1, x2, x3⟩, hx, hx1⟩ := Option.map_eq_some_iff.1 hw
  simp only [Prod.mk.injEq] at hx1
  obtain ⟨rfl, rfl⟩ := hx1
  exact OpenSpec.preRow_of_cond 8 hx (by kernel_rfl) (fun k hk => by cases hk; kernel_rfl) (by kernel_rfl) (laid_met os _)

set_option maxRecDepth 100000 in
set_option maxHeartbeats 2000000 in
theorem lifted (os : Os) (started : os.Started) (H : Type) (enc : TypeId × Value → H) (F : Stop.Interp) :
    ReturnsInHanded {} Tryz.checked os 3 .any ((Rows.OpenSpec.upto Rows.xmlWritesSpec).preRow enc Tryz.prog Tryz.f3 Rows.xmlWritesUptoRow.domain false Rows.xmlWritesUptoRow.laid) (((Rows.OpenSpec.upto Rows.xmlWritesSpec).at F).post enc Tryz.prog Tryz.f3 false true false false) := by
  refine returnsInHanded_of_row (C := Tryz.checked) (s := (Rows.OpenSpec.upto Rows.xmlWritesSpec)) La.own started (by kernel_rfl) Tryz.func3
    (witness_row_atRef (enc := enc) (C := Tryz.checked) false (Xm.laidWorld os) #[.slice none 0 0] rfl (by kernel_rfl) (by kernel_rfl) (by kernel_rfl) (witness_row os enc)) ?_
  intro W base args ds gs before hval0 hW _ hcond hsz hL hsh _
  have hval : ∀ (j : Nat) t v, Tryz.f3.params[j]? = some t → args[j]? = some v → Value.okWide Tryz.prog W .any base t v := hval0
  have hW' := hW
  obtain ⟨p, q, hA0, hV0, rfl, _, _⟩ := hW
  have hA : DataW.TrodAll enc Tryz.prog W 0 (fun _ => true) true Tryz.f3.params.toList args.toList ds p := hA0
  rw [Tryz.params3] at hA hval
  obtain ⟨v0, d0, rfl, rfl, h0⟩ := trodAll_one hA
  obtain ⟨rfl, rfl⟩ := trodVars_none hV0
  have hWlt := hW'.lt
  obtain ⟨P0, lv0, lb0⟩ := La.pcs_open (hval 0 22 v0 rfl rfl) h0
  have hbulk := La.bulk_all (hcond _ rfl)
  have u0 : Xm.szs P0 ≤ 1048576 := by have h := Nat.le_trans (La.bulk_le (d := d0) (by simp)) hbulk; omega
  clear hA0 hV0 hval0 hsz
  refine (writes_walk parse_any check_any print_any v0 P0 W lv0 u0 (laid_tabs hL hsh)).mono ?_
  rintro e W' ⟨rfl, bel⟩
  have e1 : ((Rows.OpenSpec.upto Rows.xmlWritesSpec).at F).fn H ([d0] ++ []) = { results := [.lit (.bool true)], args := [d0] } := rfl
  refine ⟨_, rfl, La.post_left (pa := p) (pv := []) hW' ?_ ?_ ?_ (by simp) bel rfl⟩
  · intro b sp hd; rw [e1]; exact trodAll_mk1 (shut_bool Tryz.underlying4 _)
  · rw [e1]; exact trodAll_mk1 (Below.trod La.laidOut (by kernel_rfl) (of_decide_eq_true (by kernel_rfl)) h0 bel (fun q hq => hWlt q (by simp [hq])))
  · rw [e1]; rfl

theorem said : Rows.XmlWritesUptoSaid :=
  OpenClaim.holds_of_cond 3 Tryz.f3 rfl rfl rfl rfl rfl rfl rfl ⟨rfl, rfl, rfl, rfl, rfl⟩ rfl rfl rfl rfl rfl (by kernel_rfl) Tryz.func3 (by kernel_rfl)
    (of_decide_eq_true (by kernel_rfl)) (by unfold Func.isWrapper; rw [if_neg (of_decide_eq_false (by kernel_rfl))]; exact ⟨rfl, rfl⟩)
    (fun os started H enc _ F => by rw [OpenClaim.pre_eq_preRow]; exact lifted os started H enc F)

/-- No parameter wants a stand-in; the program's own looks are on. -/
theorem plain (f : FuncId) (fn : Func) (hf : Tryz.pinned.checked.prog.funcNamed Rows.xmlWritesUptoRow.func = some f) (hfn : Tryz.pinned.checked.prog.funcs[f]? = some fn) :
    true = Tryz.pinned.checked.prog.looks [] ∧ ∀ (j : Nat) t, fn.params[j]? = some t → Tryz.pinned.checked.prog.wantsStandIn t = false := by
  obtain rfl : f = 3 := Option.some.inj ((show Tryz.prog.funcNamed Rows.xmlWritesUptoRow.func = some 3 by kernel_rfl).symm.trans hf) |>.symm
  obtain rfl : fn = Tryz.f3 := (Option.some.inj (Tryz.func3.symm.trans hfn)).symm
  refine ⟨by kernel_rfl, fun j t ht => ?_⟩
  rw [Tryz.params3] at ht
  obtain rfl : t = 22 := by simpa using Array.mem_of_getElem? ht
  exact (show Tryz.prog.wantsStandIn 22 = false by kernel_rfl)

theorem card : Rows.XmlWritesUptoCardSaid :=
  Claim7.holds_tied_plain_at .later [] _ _ _ _ said (fun _ h => by cases h) (by kernel_rfl) (fun _ h => by cases h) xmlWritesUpto_row_tie rfl ⟨rfl, rfl⟩ (by kernel_rfl) rfl plain (by kernel_rfl)
end Go.Proofs.YtjeagjleolmibaaGreatDoor.lawXmlWrites
