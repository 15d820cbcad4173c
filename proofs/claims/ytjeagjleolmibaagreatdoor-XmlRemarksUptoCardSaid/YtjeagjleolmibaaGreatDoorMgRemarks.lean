import Derived.Test.YtjeagjleolmibaaGreatDoorMg20
/-
  THE WALK OF THE LAW XmlWrites.
-/
set_option linter.unusedVariables false
namespace Go.Proofs.YtjeagjleolmibaaGreatDoor.Xm
open Go.Lib Go.RowKit

theorem pcells_one : ∀ (ps : List Pc), ∀ u ∈ pcells ps, u.oneCell' = true
  | [], u, h => by cases h
  | p :: ps, u, h => by
    simp only [pcells, List.mem_cons] at h
    rcases h with rfl | rfl | rfl | rfl | h
    · rfl
    · rfl
    · rfl
    · rfl
    · exact pcells_one ps u h
/-- pieces appended onto an empty row, wherever they lie -/
theorem append_pcs {w : World} {ops : Array Oper} {rest : List Oper} {o : Oper} {a : Act} {Q : Exit → Act → World → Prop} (hgd : o.guard = none) (s x : Operand)
    (ho : o.op = .call { callee := .builtin .append, args := #[s, x], argTypes := #[22, 22] }) (base : Nat) (v xv : Value) (ps : List Pc) (hs : a.eval s = v) (hx : a.eval x = xv)
    (hown : PsOwn base v [] w) (hS : PcsAt w xv ps) (hls : ps.length ≤ 1099511627776) (hbase : base ≤ w.heap.size)
    (h : ∀ v' w', PsOwn base v' ps w' → w.grownBy w' v.ownBlock → wpList Tryz.prog ops Q rest (a.put o.dst v') w') : wpList Tryz.prog ops Q (o :: rest) a w := by
  obtain ⟨i0, hi, hz0, hz1, hz2⟩ := info_parts infoPc
  obtain ⟨A, b, off, c, rfl, h1, h2, h3, h4⟩ := hS
  have hown0 : w.ownsRow base 37 4 v 0 [] := hown
  cases A with
  | none =>
    have hl : ps = [] := by
      cases ps with
      | nil => rfl
      | cons y t =>
        obtain ⟨h5, _⟩ := h3 (by simp)
        cases h5
    subst hl
    refine wpList_plain hgd fun K hK => ?_
    have hrun : (Builtin.append_ #[22, 22] o.type #[v, .slice none 0 c]).run Tryz.prog w = .ok v w := by
      rcases hown0.2 with ⟨rfl, _⟩ | ⟨g, cap, cur, rfl, _, _, hnc, _⟩
      · simp [Builtin.append_, run_underlying Tryz.underlying22, sizeOf, typeInfo, hi, Builtin.lenOf, Builtin.firstCells]
      · simp [Builtin.append_, run_underlying Tryz.underlying22, sizeOf, typeInfo, hi, Builtin.lenOf, Builtin.firstCells, storeCells]
    have hk := hK _ _ (h v w hown (World.grownBy.refl w _))
    unfold Oper.wp execOp
    simp only [ho, resolve, invoke, builtin, Sem.run_bind, Sem.run_pure, Result.andThen_ok, List.map_toArray, List.map_cons, List.map_nil, hs, hx]
    rw [show (List.length ([] : List Pc)) = 0 from rfl, hrun]
    exact hk
  | some ad =>
    refine wpList_append_own _ hgd s x 22 ho base 37 i0 zeroPc 4 48 Tryz.underlying22 hi hz0 hz1 hz2 rfl (by decide) v 0 [] hs hown0 ad ps.length c (pcells ps) hx (pcells_len ps) (fun j u hj => ?_) (fun u hu => pcells_one ps u hu) (by unfold maxLen; omega) (by omega) hbase (fun v' w' h5 h6 _ => h v' w' ?_ h6)
    · have hjl := (List.getElem?_eq_some_iff.1 hj).1
      rw [pcells_len] at hjl
      obtain ⟨q, hq⟩ : ∃ q, j / 4 = q := ⟨_, rfl⟩
      have hql : q < ps.length := by omega
      have hp : ps[q]? = some ps[q] := List.getElem?_eq_getElem hql
      obtain ⟨p, hpe⟩ : ∃ p, ps[q] = p := ⟨_, rfl⟩
      rw [hpe] at hp
      obtain ⟨e0, e1, e2, e3⟩ := pcells_at ps q p hp
      obtain ⟨g0, g1, g2, g3⟩ := h4 q p hp
      obtain ⟨he, _⟩ := h3 (by omega)
      obtain rfl := Option.some.inj he
      have hadd : (⟨b, off, none⟩ : Addr).add j = ⟨b, off + j, none⟩ := by
        unfold Addr.add
        split
        · rename_i h; subst h; rfl
        · rfl
      rw [hadd]
      have hr : j = q * 4 ∨ j = q * 4 + 1 ∨ j = q * 4 + 2 ∨ j = q * 4 + 3 := by omega
      rcases hr with hr | hr | hr | hr
      · rw [hr] at hj ⊢; rw [e0] at hj; rw [← Option.some.inj hj]; exact g0
      · rw [hr] at hj ⊢; rw [e1] at hj; rw [← Option.some.inj hj, ← Nat.add_assoc]; exact g1
      · rw [hr] at hj ⊢; rw [e2] at hj; rw [← Option.some.inj hj, ← Nat.add_assoc]; exact g2
      · rw [hr] at hj ⊢; rw [e3] at hj; rw [← Option.some.inj hj, ← Nat.add_assoc]; exact g3
    · unfold PsOwn
      rw [Nat.zero_add, List.nil_append] at h5
      exact h5
theorem parse_pr {ps : List Pc} (h : right ps = true) (hl : (prX ps).length ≤ 65536) : parseX (prX ps) = (ps, 0) := by
  unfold parseX
  rw [if_neg (by omega), if_neg (by rw [valid_pr h]; decide), doc_pr h]

set_option maxHeartbeats 4000000 in
set_option maxRecDepth 100000 in
theorem writes_walk (cP : ParseC) (cC : CheckC) (cR : PrintC) (v : Value) (ps : List Pc) (w : World) (hv : PcsAt w v ps) (hsz : szs ps ≤ 1048576) (hT : Gw w) :
    Calls Tryz.prog 3 #[v] w fun e w' => e = .returned (.bool true) ∧ Below w.heap.size w w' := by
  have c0 := first_any cP cR w hT
  obtain ⟨A, c, ev⟩ := hv.form
  obtain ⟨n, hn⟩ : ∃ n, ps.length = n := ⟨_, rfl⟩
  rw [hn] at ev
  subst ev
  have hv' := Lib.hid hv
  have hT' := Lib.hid hT
  clear hv hT
  by_cases hl : n ≤ 400
  · have g1 : ¬ (400 : Int) < (n : Int) := by omega
    go_enter Tryz.func3, Tryz.ntmps3
    go_wp2_with fail
    go_at_call 8
    with_reducible refine c0.mono ?_
    rintro e w1 ⟨rfl, hb1⟩
    clear c0
    obtain ⟨Z, hZ⟩ : ∃ Z, w.heap.size = Z := ⟨_, rfl⟩
    have hZ1 : Z ≤ w1.heap.size := by rw [← hZ]; exact hb1.size
    have hZ' := Lib.hid hZ
    have hown : PsOwn Z (.slice (some ⟨w1.heap.size, 0, none⟩) 0 0) [] (w1.alloc (.cells #[] 37)) := ⟨rfl, .inr ⟨w1.heap.size, 0, #[], rfl, hZ1, heap_alloc_new w1 _, Nat.le_refl _, Nat.zero_le _, rfl, rfl⟩⟩
    have hal : Below w1.heap.size w1 (w1.alloc (.cells #[] 37)) := (Below.refl _ _).alloc (Nat.le_refl _) _
    have hsrc : PcsAt (w1.alloc (.cells #[] 37)) (.slice A n c) ps := hv'.out.kept (below_then hb1 hal)
    have hps : ps.length ≤ 1099511627776 := by omega
    have hZ2 : Z ≤ (w1.alloc (.cells #[] 37)).heap.size := Nat.le_trans hZ1 hal.size
    have hBa : Below Z w (w1.alloc (.cells #[] 37)) := by rw [← hZ]; exact below_then hb1 hal
    have hown' := Lib.hid hown
    have hsrc' := Lib.hid hsrc
    have hBa' := Lib.hid hBa
    have hZ2' := Lib.hid hZ2
    clear hZ hown hal hsrc hBa hZ2 hb1
    go_wp2_with (at_builtin; refine append_pcs rfl _ _ rfl Z _ _ ps rfl rfl hown'.out hsrc'.out hps hZ2'.out ?_)
    intro vo w2 hown2 hg2
    have hB2 : Below Z w w2 := hBa'.out.grown hg2 hZ2'.out (fun k hk => (hown'.out.lt k hk).1)
    obtain ⟨Ao, co, eo⟩ := ownsRow_form hown2
    rw [hn] at eo
    subst eo
    have hat2 := hown2.at
    have hB2' := Lib.hid (show Below w.heap.size w w2 by rw [hZ'.out]; exact hB2)
    have hown2' := Lib.hid hown2
    have cc := cC _ ps w2 hat2 (by unfold mostP; omega) (gw_below hT'.out hB2'.out)
    obtain ⟨E, hE⟩ : ∃ E : Int, (if right ps = true then (0 : Int) else 70) = E := ⟨_, rfl⟩
    rw [hE] at cc
    have hat2' := Lib.hid hat2
    clear hown2 hg2 hB2 hat2 hown' hsrc' hBa' hZ2'
    go_wp2_with fail
    go_at_call 9
    with_reducible refine cc.mono ?_
    rintro e w3 ⟨rfl, hb3⟩
    have hB3 := Lib.hid (below_then hB2'.out hb3)
    have hat3 := hat2'.out.kept hb3
    have cr := cR _ ps w3 hat3 (by unfold mostP; omega) (gw_below hT'.out hB3.out)
    have hat3' := Lib.hid hat3
    clear cc hb3 hat3
    go_wp2_with fail
    go_at_call 10
    with_reducible refine cr.mono ?_
    rintro e w4 ⟨hp4, hb4⟩
    have hB4 := Lib.hid (below_then hB3.out hb4)
    have hat4 := hat3'.out.kept hb4
    have cs := refSame_any _ _ ps ps w4 hat4 (hv'.out.kept hB4.out)
    rw [decide_eq_true rfl] at cs
    have hk := Lib.hid (fun (W : World) (hW : Below w.heap.size w W) => refRight_any _ ps W (hv'.out.kept hW) (fun p hp => by
      have := szs_mem hp
      unfold szP at this
      omega))
    clear cr hb4 hat4
    rcases hp4 with ⟨hr, rfl⟩ | ⟨hr, hbig, rfl⟩ | ⟨hr, hsm, rfl⟩
    · have hE0 : E = 70 := by rw [← hE, hr]; rfl
      subst hE0
      go_wp2_with fail
      go_at_call 11
      with_reducible refine cs.mono ?_
      rintro e w5 ⟨rfl, hb5⟩
      have hB5 := Lib.hid (below_then hB4.out hb5)
      have ck := hk.out w5 hB5.out
      rw [hr] at ck
      clear cs hb5
      go_wp2_with fail
      go_at_call 12
      with_reducible refine ck.mono ?_
      rintro e w6 ⟨rfl, hb6⟩
      have hB6 := Lib.hid (below_then hB5.out hb6)
      clear ck hb6
      go_wp2
      go_ret
      exact ⟨rfl, hB6.out⟩
    all_goals
      have hE0 : E = 0 := by rw [← hE, hr]; rfl
      subst hE0
      have hkp := Lib.hid (fun (W : World) (hW : Below w.heap.size w W) => refPrint_any _ ps W (hv'.out.kept hW) hr (by have := prX_len ps; omega))
      go_wp2_with fail
      go_at_call 11
      with_reducible refine cs.mono ?_
      rintro e w5 ⟨rfl, hb5⟩
      have hB5 := Lib.hid (below_then hB4.out hb5)
      have ck := hk.out w5 hB5.out
      rw [hr] at ck
      clear cs hb5
      go_wp2_with fail
      go_at_call 12
      with_reducible refine ck.mono ?_
      rintro e w6 ⟨rfl, hb6⟩
      have hB6 := Lib.hid (below_then hB5.out hb6)
      have cp := hkp.out w6 hB6.out
      clear ck hb6
      go_wp2_with fail
      go_at_call 13
      with_reducible refine cp.mono ?_
      rintro e w7 ⟨rfl, hb7⟩
      have hB7 := Lib.hid (below_then hB6.out hb7)
      clear cp hb7
    · have hts : (⟨(prX ps).toArray⟩ : ByteArray).size = (prX ps).length := by rw [Lib.size_eq]
      obtain ⟨T, hT2⟩ : ∃ T, (⟨(prX ps).toArray⟩ : ByteArray) = T := ⟨_, rfl⟩
      rw [hT2] at hts ⊢
      have g2 : (65536 : Int) < (T.size : Int) := by omega
      clear hT2
      go_wp2
      go_ret
      exact ⟨rfl, hB7.out⟩
    · have hts : (⟨(prX ps).toArray⟩ : ByteArray).size = (prX ps).length := by rw [Lib.size_eq]
      obtain ⟨T, hT2⟩ : ∃ T, (⟨(prX ps).toArray⟩ : ByteArray) = T := ⟨_, rfl⟩
      have hTd : T.data.toList = prX ps := by rw [← hT2]
      rw [hT2] at hts ⊢
      have g2 : ¬ (65536 : Int) < (T.size : Int) := by omega
      have cq := cP T w7 (by unfold mostS; omega) (gw_below hT'.out hB7.out)
      rw [hTd, parse_pr hr hsm] at cq
      clear hT2
      go_wp2_with fail
      go_at_call 14
      with_reducible refine cq.mono ?_
      rintro e w8 ⟨⟨v8, rfl, hv8⟩, hb8⟩
      have hB8 := Lib.hid (below_then hB7.out hb8)
      have cs2 := refSame_any _ _ ps ps w8 hv8 (hv'.out.kept hB8.out)
      rw [decide_eq_true rfl] at cs2
      obtain ⟨A8, c8, e8⟩ := hv8.form
      rw [hn] at e8
      subst e8
      clear cq hb8 hv8
      go_wp2_with fail
      go_at_call 11
      with_reducible refine cs2.mono ?_
      rintro e w9 ⟨rfl, hb9⟩
      have hB9 := Lib.hid (below_then hB8.out hb9)
      clear cs2 hb9
      go_wp2
      go_ret
      exact ⟨rfl, hB9.out⟩
  · have g1 : (400 : Int) < (n : Int) := by omega
    go_enter Tryz.func3, Tryz.ntmps3
    go_wp2_with fail
    go_at_call 8
    with_reducible refine c0.mono ?_
    rintro e w1 ⟨rfl, hb1⟩
    clear c0
    go_wp2
    go_ret
    exact ⟨rfl, hb1⟩
end Go.Proofs.YtjeagjleolmibaaGreatDoor.Xm

/-
  THE WALK OF THE LAW XmlRemarks.
-/
set_option linter.unusedVariables false
namespace Go.Proofs.YtjeagjleolmibaaGreatDoor.Xm
open Go.Lib Go.RowKit

/-- no two marks so far -/
def NoTwo (t : Row) (k : Nat) : Prop := ∀ i, i < k → ¬ (t.getD i 0 = 45 ∧ t.getD (i + 1) 0 = 45)
theorem noTwo_end {t : Row} {k : Nat} (h : NoTwo t k) (hk : t.length ≤ k + 1) : ∀ i, t.getD i 0 = 45 → t.getD (i + 1) 0 = 45 → t.length ≤ i + 1 := fun i h1 h2 => by
  by_cases hi : i < k
  · exact absurd ⟨h1, h2⟩ (h i hi)
  · omega
theorem getD_at {s : ByteArray} {k : Nat} (hk : k < s.size) : s.data.toList.getD k 0 = s[k]'hk := by
  have hl : k < s.data.toList.length := by rw [← Lib.size_eq]; exact hk
  rw [List.getD_eq_getElem?_getD, List.getElem?_eq_getElem hl]; rfl
theorem getE_at {s : ByteArray} {k : Nat} (hk : k < s.size) : s.data.toList[k]? = some (s[k]'hk) := by
  have hl : k < s.data.toList.length := by rw [← Lib.size_eq]; exact hk
  rw [List.getElem?_eq_getElem hl]; rfl
theorem last_ok {s : ByteArray} (h : 0 < s.size) (hc : s[s.size - 1]'(by omega) ≠ 45) : s.data.toList.getLast? ≠ some 45 := by
  rw [List.getLast?_eq_getElem?, ← Lib.size_eq, getE_at (by omega)]
  exact fun e => hc (Option.some.inj e)
theorem at_k (z : Int) (n : Nat) (h : 1 ≤ n) (hn : n ≤ 4194304) : ∃ k : Nat, wrap64 ((IntKind.u64.wrap z).tmod (n : Int)) = (k : Int) ∧ k < n := by
  have h0 : 0 ≤ IntKind.u64.wrap z := by
    unfold IntKind.wrap
    simp only [IntKind.bits, IntKind.signed]
    simp
    omega
  have e : (IntKind.u64.wrap z).tmod (n : Int) = (IntKind.u64.wrap z) % (n : Int) := Int.tmod_eq_emod_of_nonneg h0
  have h1 := Int.emod_nonneg (IntKind.u64.wrap z) (b := (n : Int)) (by omega)
  have h2 := Int.emod_lt_of_pos (IntKind.u64.wrap z) (b := (n : Int)) (by omega)
  obtain ⟨q, hq⟩ : ∃ q, (IntKind.u64.wrap z) % (n : Int) = q := ⟨_, rfl⟩
  rw [hq] at h1 h2
  refine ⟨q.toNat, ?_, by omega⟩
  rw [e, hq, Int.toNat_of_nonneg h1]
  exact IntWalk.wrap64_in _ ⟨by omega, by omega⟩
/-- what a document with a remark is read as -/
theorem parse_remark {ps : List Pc} (h : right ps = true) (k : Nat) (hk : k = (prX ps).length ∨ (prX ps)[k]? = some 60) (t R : Row) (h1 : ∀ i, t.getD i 0 = 45 → t.getD (i + 1) 0 = 45 → t.length ≤ i + 1) (h2 : t.getLast? ≠ some 45) (hR : R = (prX ps).take k ++ remarkT t ++ (prX ps).drop k) :
    parseX R = if 65536 < R.length then ([], 11) else if Ch.valid t = true then (ps, 0) else ([], 10) := by
  subst hR
  unfold parseX
  rw [valid_remark h k hk t, doc_remark h k hk t h1 h2]
  by_cases hl : 65536 < ((prX ps).take k ++ remarkT t ++ (prX ps).drop k).length
  · rw [if_pos hl, if_pos hl]
  · rw [if_neg hl, if_neg hl]
    cases hv : Ch.valid t
    · rw [if_pos rfl, if_neg (by decide)]
    · rw [if_neg (by decide), if_pos rfl]

set_option maxHeartbeats 4000000 in
set_option maxRecDepth 100000 in
theorem remarks_walk (cP : ParseC) (cR : PrintC) (v : Value) (ps : List Pc) (z : Int) (t : ByteArray) (w : World) (hv : PcsAt w v ps) (hsz : szs ps ≤ 1048576) (ht : t.size ≤ 1048576) (hT : Gw w) :
    Calls Tryz.prog 6 #[v, .int .i64 z, .string t] w fun e w' => e = .returned (.bool true) ∧ Below w.heap.size w w' := by
  have c0 := first_any cP cR w hT
  obtain ⟨A, c, ev⟩ := hv.form
  obtain ⟨n, hn⟩ : ∃ n, ps.length = n := ⟨_, rfl⟩
  rw [hn] at ev
  subst ev
  have hv' := Lib.hid hv
  have hT' := Lib.hid hT
  clear hv hT
  go_enter Tryz.func6, Tryz.ntmps6
  go_wp2_with fail
  go_at_call 8
  with_reducible refine c0.mono ?_
  rintro e w1 ⟨rfl, hb1⟩
  clear c0
  have hb1' := Lib.hid hb1
  clear hb1
  go_wp2
  go_loopw [7] (fun s7 wr => ∃ k : Nat, s7 = .int .i64 (k : Int) ∧ k ≤ t.size ∧ NoTwo t.data.toList k ∧ wr = w1) (fun s7 wr => t.size - (RowKit.intOf s7).toNat)
  case atStart => exact ⟨0, rfl, Nat.zero_le _, fun i hi => absurd hi (Nat.not_lt_zero i), rfl⟩
  case round =>
    obtain ⟨k, rfl, hk, hno, rfl⟩ := hrel
    by_cases hlt : k + 1 < t.size
    · have hlt' : (k : Int) + 1 < (t.size : Int) := by omega
      obtain ⟨K, hK⟩ : ∃ K, k + 1 = K := ⟨_, rfl⟩
      have hKI : (k : Int) + 1 = (K : Int) := by omega
      have hk0 : k < t.size := by omega
      have hKl : K < t.size := by omega
      obtain ⟨x, hx⟩ : ∃ x, t[k]'hk0 = x := ⟨_, rfl⟩
      obtain ⟨y, hy⟩ : ∃ x, t[K]'hKl = x := ⟨_, rfl⟩
      have gx := getD_at hk0
      have gy := getD_at hKl
      rw [hx] at gx
      rw [hy] at gy
      have hnext : Hid (¬ (x = 45 ∧ y = 45) → NoTwo t.data.toList K) := Lib.hid fun q i hi => by
        rcases Nat.lt_or_ge i k with h | h
        · exact hno i h
        · rw [show i = k by omega, gx, hK, gy]; exact q
      clear hno gx gy
      by_cases c1 : x = 45
      · subst c1
        by_cases c2 : y = 45
        · subst c2
          clear hnext
          go_wp2
          go_ret
          exact ⟨rfl, hb1'.out⟩
        · have e2 : (((y.toNat : Nat) : Int) == 45) = false := tn (m := 45) rfl c2
          have hn2 := Lib.hid (hnext.out (fun q => c2 q.2))
          clear hnext c2
          go_wp2
          go_roundw
          case rel => exact ⟨K, by go_num, by omega, hn2.out, trivial⟩
          case measure => simp [RowKit.intOf]; omega
      · have e1 : (((x.toNat : Nat) : Int) == 45) = false := tn (m := 45) rfl c1
        have hn2 := Lib.hid (hnext.out (fun q => c1 q.1))
        clear hnext c1
        go_wp2
        go_roundw
        case rel => exact ⟨K, by go_num, by omega, hn2.out, trivial⟩
        case measure => simp [RowKit.intOf]; omega
    · have hlt' : ¬ (k : Int) + 1 < (t.size : Int) := by omega
      have hno2 := Lib.hid (noTwo_end hno (by rw [← Lib.size_eq]; omega))
      clear hno
      by_cases hl1 : n ≤ 200
      · have g1 : ¬ (200 : Int) < (n : Int) := by omega
        by_cases hl2 : t.size ≤ 2000
        · have g2 : ¬ (2000 : Int) < (t.size : Int) := by omega
          have ck := refRight_any _ ps wr (hv'.out.kept hb1'.out) (fun p hp => by
            have := szs_mem hp
            unfold szP at this
            omega)
          cases hr : right ps with
          | false =>
            rw [hr] at ck
            go_wp2_with fail
            go_at_call 12
            with_reducible refine ck.mono ?_
            rintro e w2 ⟨rfl, hb2⟩
            have hB2 := Lib.hid (below_then hb1'.out hb2)
            clear ck hb2
            go_wp2
            go_ret
            exact ⟨rfl, hB2.out⟩
          | true =>
            rw [hr] at ck
            go_wp2_with fail
            go_at_call 12
            with_reducible refine ck.mono ?_
            rintro e w2 ⟨rfl, hb2⟩
            have hB2 := Lib.hid (below_then hb1'.out hb2)
            clear ck hb2
            have cr := cR _ ps w2 (hv'.out.kept hB2.out) (by unfold mostP; omega) (gw_below hT'.out hB2.out)
            by_cases hbad : 0 < t.size ∧ ∃ h : t.size - 1 < t.size, t[t.size - 1]'h = 45
            · obtain ⟨h0, h1, h2⟩ := hbad
              obtain ⟨L, hL⟩ : ∃ L, t.size - 1 = L := ⟨_, rfl⟩
              have hLI : (t.size : Int) - 1 = (L : Int) := by omega
              have hLt : L < t.size := by omega
              have h2' : t[L]'hLt = 45 := by subst hL; exact h2
              have g3 : (0 : Int) < (t.size : Int) := by omega
              clear h2 cr
              go_wp2
              go_ret
              exact ⟨rfl, hB2.out⟩
            · have hlq : Hid (t.data.toList.getLast? ≠ some 45) := Lib.hid (by
                by_cases h0 : 0 < t.size
                · exact last_ok h0 (fun e => hbad ⟨h0, by omega, e⟩)
                · have : t.data.toList = [] := List.eq_nil_of_length_eq_zero (by rw [← Lib.size_eq]; omega)
                  rw [this]; simp)
              have hc : decide (0 < t.size) = false ∨ ((0 : Int) < (t.size : Int) ∧ ∃ L, ∃ hL : L < t.size, (t.size : Int) - 1 = (L : Int) ∧ (((t[L]'hL).toNat : Int) == 45) = false) := by
                by_cases h0 : 0 < t.size
                · refine .inr ⟨by omega, t.size - 1, by omega, by omega, ?_⟩
                  exact tn (m := 45) rfl (fun e => hbad ⟨h0, by omega, e⟩)
                · exact .inl (decide_eq_false h0)
              clear hbad
              rcases hc with g3 | ⟨g3, L, hLt, hLI, g4⟩
              all_goals
                try have g3' : decide ((0 : Int) < (t.size : Int)) = false := by rw [← g3]; rw [Bool.eq_iff_iff, decide_eq_true_iff, decide_eq_true_iff]; omega
                go_wp2_with fail
                go_at_call 10
                with_reducible refine cr.mono ?_
                rintro e w3 ⟨hp3, hb3⟩
                have hB3 := Lib.hid (below_then hB2.out hb3)
                clear cr hb3
                rcases hp3 with ⟨q, _⟩ | ⟨_, hbig, rfl⟩ | ⟨_, hsm, rfl⟩
                · rw [hr] at q; cases q
                · go_wp2
                  go_ret
                  exact ⟨rfl, hB3.out⟩
                · obtain ⟨T, hT2⟩ : ∃ T, (⟨(prX ps).toArray⟩ : ByteArray) = T := ⟨_, rfl⟩
                  have hTd : T.data.toList = prX ps := by rw [← hT2]
                  have hTs : T.size = (prX ps).length := by rw [Lib.size_eq, hTd]
                  have hT1 : 1 ≤ T.size := by
                    obtain ⟨c', t', e', _⟩ := prX_head hr
                    rw [hTs, e']; simp
                  rw [hT2]
                  obtain ⟨K0, hK0, hK1⟩ := at_k z T.size hT1 (by omega)
                  have hTne : ((T.size : Int) == 0) = false := beq_eq_false_iff_ne.2 (by omega)
                  have hTm : T.size ≤ 65536 := by omega
                  have hTd' := Lib.hid hTd
                  have hTs' := Lib.hid hTs
                  clear hT2 hTd hTs hsm
                  go_wp2
                  rw [hK0]
                  clear hK0
                  go_loopw [10] (fun s10 wr => ∃ j : Nat, s10 = .int .i64 (j : Int) ∧ j ≤ T.size ∧ wr = w3) (fun s10 wr => T.size - (RowKit.intOf s10).toNat)
                  case atStart => exact ⟨K0, rfl, by omega, rfl⟩
                  case round =>
                    obtain ⟨j, rfl, hj, rfl⟩ := hrel
                    by_cases hstop : j < T.size ∧ ∃ h : j < T.size, T[j]'h ≠ 60
                    · obtain ⟨hjl, _, hne⟩ := hstop
                      have e60 : (((T[j]'hjl).toNat : Int) == 60) = false := tn (m := 60) rfl hne
                      have e60' : (((T[j]'hjl).toNat : Int) != 60) = true := by unfold bne; rw [e60]; rfl
                      clear hne
                      go_wp2
                      go_roundw
                      case rel => exact ⟨j + 1, by go_num, by omega, trivial⟩
                      case measure => simp [RowKit.intOf]; omega
                    · have hat : Hid (j = (prX ps).length ∨ (prX ps)[j]? = some 60) := Lib.hid (by
                        by_cases hjl : j < T.size
                        · right
                          rw [← hTd'.out, getE_at hjl]
                          by_cases h : T[j]'hjl = 60
                          · rw [h]
                          · exact absurd ⟨hjl, hjl, h⟩ hstop
                        · left; rw [← hTs'.out]; omega)
                      have hcs : (¬ (j : Int) < (T.size : Int)) ∨ ((j : Int) < (T.size : Int) ∧ ∃ h : j < T.size, (((T[j]'h).toNat : Int) == 60) = true) := by
                        by_cases hjl : j < T.size
                        · refine .inr ⟨by omega, hjl, ?_⟩
                          by_cases h : T[j]'hjl = 60
                          · rw [h]; rfl
                          · exact absurd ⟨hjl, hjl, h⟩ hstop
                        · exact .inl (by omega)
                      clear hstop
                      obtain ⟨P, hP⟩ : ∃ P, T.extract 0 j = P := ⟨_, rfl⟩
                      obtain ⟨Q, hQ⟩ : ∃ Q, T.extract j T.size = Q := ⟨_, rfl⟩
                      have hPd : Hid (P.data.toList = (prX ps).take j) := Lib.hid (by rw [← hP, Lib.extract_data, ← hTd'.out]; simp)
                      have hQd : Hid (Q.data.toList = (prX ps).drop j) := Lib.hid (by rw [← hQ, Lib.extract_to_end, hTd'.out])
                      have hPs : P.size = j := by rw [← hP, ByteArray.size_extract]; omega
                      have hQs : Q.size = T.size - j := by rw [← hQ, ByteArray.size_extract]; omega
                      obtain ⟨y1, hy1⟩ : ∃ y, P ++ (⟨#[60, 33, 45, 45]⟩ : ByteArray) = y := ⟨_, rfl⟩
                      obtain ⟨y2, hy2⟩ : ∃ y, y1 ++ t = y := ⟨_, rfl⟩
                      obtain ⟨y3, hy3⟩ : ∃ y, y2 ++ (⟨#[45, 45, 62]⟩ : ByteArray) = y := ⟨_, rfl⟩
                      obtain ⟨R, hR⟩ : ∃ y, y3 ++ Q = y := ⟨_, rfl⟩
                      have z1 := cat_size hy1
                      have z2 := cat_size hy2
                      have z3 := cat_size hy3
                      have z4 := cat_size hR
                      rw [show (⟨#[60, 33, 45, 45]⟩ : ByteArray).size = 4 from rfl] at z1
                      rw [show (⟨#[45, 45, 62]⟩ : ByteArray).size = 3 from rfl] at z3
                      have hRd : R.data.toList = (prX ps).take j ++ remarkT t.data.toList ++ (prX ps).drop j := by
                        rw [cat_data hR, cat_data hy3, cat_data hy2, cat_data hy1, hPd.out, hQd.out]
                        simp [remarkT, remarkS]
                      have m1 : ¬ 9223372036854775807 < P.size + (⟨#[60, 33, 45, 45]⟩ : ByteArray).size := by rw [show (⟨#[60, 33, 45, 45]⟩ : ByteArray).size = 4 from rfl]; omega
                      have m1' : ¬ 9223372036854775807 < P.size + 4 := by omega
                      have m2 : ¬ 9223372036854775807 < y1.size + t.size := by omega
                      have m3 : ¬ 9223372036854775807 < y2.size + (⟨#[45, 45, 62]⟩ : ByteArray).size := by rw [show (⟨#[45, 45, 62]⟩ : ByteArray).size = 3 from rfl]; omega
                      have m3' : ¬ 9223372036854775807 < y2.size + 3 := by omega
                      have m4 : ¬ 9223372036854775807 < y3.size + Q.size := by omega
                      have jI : (j : Int) ≤ (T.size : Int) := by omega
                      have jI0 : (0 : Int) ≤ (j : Int) := by omega
                      have jI1 : ¬ (T.size : Int) < (j : Int) := by omega
                      have cp := Lib.hid (fun (W : World) (hW : Below w.heap.size w W) => cP R W (by unfold mostS; omega) (gw_below hT'.out hW))
                      have hpr := parse_remark hr j hat.out t.data.toList R.data.toList hno2.out hlq.out hRd
                      rw [hpr, ← Lib.size_eq] at cp
                      obtain ⟨x1, hx1⟩ : ∃ y, (⟨#[60, 97, 62]⟩ : ByteArray) ++ t = y := ⟨_, rfl⟩
                      obtain ⟨X, hX⟩ : ∃ y, x1 ++ (⟨#[60, 47, 97, 62]⟩ : ByteArray) = y := ⟨_, rfl⟩
                      have u1 := cat_size hx1
                      have u2 := cat_size hX
                      rw [show (⟨#[60, 97, 62]⟩ : ByteArray).size = 3 from rfl] at u1
                      rw [show (⟨#[60, 47, 97, 62]⟩ : ByteArray).size = 4 from rfl] at u2
                      have m5 : ¬ 9223372036854775807 < (⟨#[60, 97, 62]⟩ : ByteArray).size + t.size := by rw [show (⟨#[60, 97, 62]⟩ : ByteArray).size = 3 from rfl]; omega
                      have m5' : ¬ 9223372036854775807 < 3 + t.size := by omega
                      have m6 : ¬ 9223372036854775807 < x1.size + (⟨#[60, 47, 97, 62]⟩ : ByteArray).size := by rw [show (⟨#[60, 47, 97, 62]⟩ : ByteArray).size = 4 from rfl]; omega
                      have m6' : ¬ 9223372036854775807 < x1.size + 4 := by omega
                      have cx := Lib.hid (fun (W : World) (hW : Below w.heap.size w W) => cP X W (by unfold mostS; omega) (gw_below hT'.out hW))
                      obtain ⟨G, hG⟩ : ∃ G, parseX X.data.toList = G := ⟨_, rfl⟩
                      rw [hG] at cx
                      have hcase : (65536 < R.size ∧ (if 65536 < R.size then (([] : List Pc), (11 : Int)) else if Ch.valid t.data.toList = true then (ps, 0) else ([], 10)) = ([], 11)) ∨
                          (¬ 65536 < R.size ∧ (if 65536 < R.size then (([] : List Pc), (11 : Int)) else if Ch.valid t.data.toList = true then (ps, 0) else ([], 10)) = (ps, 0)) ∨
                          (¬ 65536 < R.size ∧ 0 < t.size ∧ (if 65536 < R.size then (([] : List Pc), (11 : Int)) else if Ch.valid t.data.toList = true then (ps, 0) else ([], 10)) = ([], 10)) := by
                        by_cases hb : 65536 < R.size
                        · exact .inl ⟨hb, if_pos hb⟩
                        · rw [if_neg hb]
                          by_cases hvt : Ch.valid t.data.toList = true
                          · exact .inr (.inl ⟨hb, if_pos hvt⟩)
                          · refine .inr (.inr ⟨hb, ?_, if_neg hvt⟩)
                            rcases Nat.eq_zero_or_pos t.size with h | h
                            · have : t.data.toList = [] := List.eq_nil_of_length_eq_zero (by rw [← Lib.size_eq]; exact h)
                              rw [this] at hvt; exact absurd rfl hvt
                            · exact h
                      clear hRd hpr hG hat hPd hQd
                      rcases hcs with f1 | ⟨f1, f2, f3⟩
                      all_goals
                        try have f3' : (((T[j]'f2).toNat : Int) != 60) = false := by unfold bne; rw [f3]; rfl
                        go_wp2_with fail
                        go_quiet (fail)
                        rcases hcase with ⟨h65, hc5⟩ | ⟨h65, hc5⟩ | ⟨h65, ht0, hc5⟩
                        · rw [hc5] at cp
                          go_wp2_with fail
                          go_at_call 14
                          refine (cp.out _ (below_drewN _ hB3.out)).mono ?_
                          rintro e w5 ⟨⟨v5, rfl, hv5⟩, hb5⟩
                          have hB5 := Lib.hid (below_then (below_drewN _ hB3.out) hb5)
                          have g6 : (65536 : Int) < (R.size : Int) := by omega
                          clear hb5 hv5
                          go_wp2
                          go_ret
                          exact ⟨rfl, hB5.out⟩
                        · rw [hc5] at cp
                          go_wp2_with fail
                          go_at_call 14
                          refine (cp.out _ (below_drewN _ hB3.out)).mono ?_
                          rintro e w5 ⟨⟨v5, rfl, hv5⟩, hb5⟩
                          have hB5 := Lib.hid (below_then (below_drewN _ hB3.out) hb5)
                          have g6 : ¬ (65536 : Int) < (R.size : Int) := by omega
                          obtain ⟨A5, c5, e5⟩ := hv5.form
                          rw [hn] at e5
                          subst e5
                          have hv5' := Lib.hid hv5
                          clear hb5 hv5 cp
                          go_wp2_with fail
                          go_at_call 14
                          refine (cx.out _ hB5.out).mono ?_
                          rintro e w6 ⟨⟨v6, rfl, hv6⟩, hb6⟩
                          have hB6 := Lib.hid (below_then hB5.out hb6)
                          have cs := refSame_any _ _ ps ps w6 (hv5'.out.kept hb6) (hv'.out.kept hB6.out)
                          rw [decide_eq_true rfl] at cs
                          obtain ⟨A6, c6, e6⟩ := hv6.form
                          subst e6
                          clear hb6 hv6
                          go_wp2_with fail
                          go_at_call 11
                          with_reducible refine cs.mono ?_
                          rintro e w7 ⟨rfl, hb7⟩
                          have hB7 := Lib.hid (below_then hB6.out hb7)
                          clear hb7 cs
                          go_wp2
                          go_ret
                          exact ⟨rfl, hB7.out⟩
                        · first
                            | (exfalso; have := of_decide_eq_false g3; omega)
                            | (rw [hc5] at cp
                               go_wp2_with fail
                               go_at_call 14
                               refine (cp.out _ (below_drewN _ hB3.out)).mono ?_
                               rintro e w5 ⟨⟨v5, rfl, hv5⟩, hb5⟩
                               have hB5 := Lib.hid (below_then (below_drewN _ hB3.out) hb5)
                               have g6 : ¬ (65536 : Int) < (R.size : Int) := by omega
                               obtain ⟨A5, c5, e5⟩ := hv5.form
                               subst e5
                               clear hb5 hv5 cp
                               go_wp2_with fail
                               go_at_call 14
                               refine (cx.out _ hB5.out).mono ?_
                               rintro e w6 ⟨⟨v6, rfl, hv6⟩, hb6⟩
                               have hB6 := Lib.hid (below_then hB5.out hb6)
                               obtain ⟨A6, c6, e6⟩ := hv6.form
                               subst e6
                               obtain ⟨g, hg⟩ : ∃ g, G.2 = g := ⟨_, rfl⟩
                               rw [hg]
                               clear hb6 hv6 hg
                               go_wp2
                               all_goals
                                 go_ret
                                 exact ⟨rfl, hB6.out⟩)
        · have g2 : (2000 : Int) < (t.size : Int) := by omega
          go_wp2
          go_ret
          exact ⟨rfl, hb1'.out⟩
      · have g1 : (200 : Int) < (n : Int) := by omega
        go_wp2
        go_ret
        exact ⟨rfl, hb1'.out⟩
end Go.Proofs.YtjeagjleolmibaaGreatDoor.Xm

/-
  THE LAW XmlRemarks, tied: whatever pieces, number and text of a bulk of at most 2^20, it answers true; its arguments read as they did.
-/
set_option linter.unusedVariables false
namespace Go.Proofs.YtjeagjleolmibaaGreatDoor.lawXmlRemarks
open Go.Lib Go.RowKit Go.Shelf Go.ChangeShapes Go.WideShapes Go.ChangeAt Xm
open Go.ChangeMaps (open_string shut_string)

theorem laid_tabs {W : World} (hL : laidMetH Tryz.prog Rows.xmlRemarksUptoRow.laid W) (hsh : W.ShapedOpen Tryz.prog) : Xm.Gw W :=
  Xm.gw_of (La.first_eq ▸ Lib.laidMet.reads hL (.tail _ (.tail _ (.tail _ (.tail _ (.tail _ (.tail _ (.head _)))))))) (La.accept_eq ▸ Lib.laidMet.reads hL (.tail _ (.tail _ (.tail _ (.head _)))))
    (Lib.laidMet.reads hL (.tail _ (.tail _ (.tail _ (.tail _ (.tail _ (.head _))))))) (Lib.laidMet.reads hL (.tail _ (.tail _ (.tail _ (.tail _ (.head _)))))) hsh
theorem laid_met (os : Os) (args : Array Value) : laidMet Tryz.prog Rows.xmlRemarksUptoRow.laid ((Xm.laidWorld os).forCall (fun _ _ => 0) ⟨#[], args, []⟩).memory := Xm.laid_met os args

theorem witness_row (os : Os) {H : Type} (enc : TypeId × Value → H) :
    (Rows.OpenSpec.upto Rows.xmlRemarksSpec).preRow enc Tryz.prog Tryz.f6 Rows.xmlRemarksUptoRow.domain false Rows.xmlRemarksUptoRow.laid ((Xm.laidWorld os).forCall (fun _ _ => 0) ⟨#[], #[.slice none 0 0, .int .i64 0, .string ⟨#[]⟩], []⟩).memory #[.slice none 0 0, .int .i64 0, .string ⟨#[]⟩] := by
  have hw : (DataW.whole enc Tryz.prog ((Xm.laidWorld os).forCall (fun _ _ => 0) ⟨#[], #[.slice none 0 0, .int .i64 0, .string ⟨#[]⟩], []⟩).memory Tryz.f6.params.toList Rows.xmlRemarksSpec.vars false (#[Value.slice none 0 0, Value.int .i64 0, Value.string ⟨#[]⟩] : Array Value).toList 8).map (fun x => (x.1, x.2.1)) =
      some ([.nil, .lit (.int .i64 0), .lit (.string [])], []) := by kernel_rfl
  obtain ⟨⟨x1, x2, x3⟩, hx, hx1⟩ := Option.map_eq_some_iff.1 hw
  simp only [Prod.mk.injEq] at hx1
  obtain ⟨rfl, rfl⟩ := hx1
  exact OpenSpec.preRow_of_cond 8 hx (by kernel_rfl) (fun k hk => by cases hk; kernel_rfl) (by kernel_rfl) (laid_met os _)

set_option maxRecDepth 100000 in
set_option maxHeartbeats 2000000 in
theorem lifted (os : Os) (started : os.Started) (H : Type) (enc : TypeId × Value → H) (F : Stop.Interp) :
    ReturnsInHanded {} Tryz.checked os 6 .any ((Rows.OpenSpec.upto Rows.xmlRemarksSpec).preRow enc Tryz.prog Tryz.f6 Rows.xmlRemarksUptoRow.domain false Rows.xmlRemarksUptoRow.laid) (((Rows.OpenSpec.upto Rows.xmlRemarksSpec).at F).post enc Tryz.prog Tryz.f6 false true false false) := by
  refine returnsInHanded_of_row (C := Tryz.checked) (s := (Rows.OpenSpec.upto Rows.xmlRemarksSpec)) La.own started (by kernel_rfl) Tryz.func6
    (witness_row_atRef (enc := enc) (C := Tryz.checked) false (Xm.laidWorld os) #[.slice none 0 0, .int .i64 0, .string ⟨#[]⟩] rfl (by kernel_rfl) (by kernel_rfl) (by kernel_rfl) (witness_row os enc)) ?_
  intro W base args ds gs before hval0 hW _ hcond hsz hL hsh _
  have hval : ∀ (j : Nat) t v, Tryz.f6.params[j]? = some t → args[j]? = some v → Value.okWide Tryz.prog W .any base t v := hval0
  have hW' := hW
  obtain ⟨p, q, hA0, hV0, rfl, _, _⟩ := hW
  have hA : DataW.TrodAll enc Tryz.prog W 0 (fun _ => true) true Tryz.f6.params.toList args.toList ds p := hA0
  rw [Tryz.params6] at hA hval
  obtain ⟨v0, v1, v2, d0, d1, d2, p0, p1, p2, rfl, rfl, rfl, h0, h1, h2⟩ := trodAll_three hA
  obtain ⟨rfl, rfl⟩ := trodVars_none hV0
  have hWlt := hW'.lt
  obtain ⟨P0, lv0, lb0⟩ := La.pcs_open (hval 0 22 v0 rfl rfl) h0
  obtain ⟨s1, rfl, rfl, rfl, ws1⟩ := open_int Tryz.underlying3 (hval 1 3 v1 rfl rfl) h1
  obtain ⟨s2, rfl, rfl, rfl, ws2⟩ := open_string Tryz.underlying9 (hval 2 9 v2 rfl rfl) h2
  have r2 : s2.data.toList.length ≤ reachBytes := sized_string (j := 2) (t := 9) hsz rfl rfl
  have hbulk := La.bulk_all (hcond _ rfl)
  have u0 : Xm.szs P0 ≤ 1048576 := by have h := Nat.le_trans (La.bulk_le (d := d0) (by simp)) hbulk; omega
  have u2 : s2.size ≤ 1048576 := by have h := Nat.le_trans (La.bulk_le (d := DataW.lit (.string s2.data.toList)) (by simp)) hbulk; rw [La.bulk_string] at h; rw [Lib.size_eq]; omega
  clear hA0 hV0 hval0 hsz
  refine (remarks_walk parse_any print_any v0 P0 s1 s2 W lv0 u0 u2 (laid_tabs hL hsh)).mono ?_
  rintro e W' ⟨rfl, bel⟩
  have e1 : ((Rows.OpenSpec.upto Rows.xmlRemarksSpec).at F).fn H ([d0, .lit (.int .i64 s1), .lit (.string s2.data.toList)] ++ []) = { results := [.lit (.bool true)], args := [d0, .lit (.int .i64 s1), .lit (.string s2.data.toList)] } := rfl
  refine ⟨_, rfl, La.post_left (pa := p0 ++ ([] ++ ([]))) (pv := []) hW' ?_ ?_ ?_ (by simp) bel rfl⟩
  · intro b sp hd; rw [e1]; exact trodAll_mk1 (shut_bool Tryz.underlying4 _)
  · rw [e1]; exact trodAll_mk3 (Below.trod La.laidOut (by kernel_rfl) (of_decide_eq_true (by kernel_rfl)) h0 bel (fun q hq => hWlt q (by simp [hq]))) (shut_int Tryz.underlying3 ws1) (shut_string Tryz.underlying9 ws2)
  · rw [e1]; rfl

theorem said : Rows.XmlRemarksUptoSaid :=
  OpenClaim.holds_of_cond 6 Tryz.f6 rfl rfl rfl rfl rfl rfl rfl ⟨rfl, rfl, rfl, rfl, rfl⟩ rfl rfl rfl rfl rfl (by kernel_rfl) Tryz.func6 (by kernel_rfl)
    (of_decide_eq_true (by kernel_rfl)) (by unfold Func.isWrapper; rw [if_neg (of_decide_eq_false (by kernel_rfl))]; exact ⟨rfl, rfl⟩)
    (fun os started H enc _ F => by rw [OpenClaim.pre_eq_preRow]; exact lifted os started H enc F)

/-- No parameter wants a stand-in; the program's own looks are on. -/
theorem plain (f : FuncId) (fn : Func) (hf : Tryz.pinned.checked.prog.funcNamed Rows.xmlRemarksUptoRow.func = some f) (hfn : Tryz.pinned.checked.prog.funcs[f]? = some fn) :
    true = Tryz.pinned.checked.prog.looks [] ∧ ∀ (j : Nat) t, fn.params[j]? = some t → Tryz.pinned.checked.prog.wantsStandIn t = false := by
  obtain rfl : f = 6 := Option.some.inj ((show Tryz.prog.funcNamed Rows.xmlRemarksUptoRow.func = some 6 by kernel_rfl).symm.trans hf) |>.symm
  obtain rfl : fn = Tryz.f6 := (Option.some.inj (Tryz.func6.symm.trans hfn)).symm
  refine ⟨by kernel_rfl, fun j t ht => ?_⟩
  rw [Tryz.params6] at ht
  have ht' : t = 22 ∨ t = 3 ∨ t = 9 := by simpa using Array.mem_of_getElem? ht
  rcases ht' with rfl | rfl | rfl
  · exact (show Tryz.prog.wantsStandIn 22 = false by kernel_rfl)
  · exact (show Tryz.prog.wantsStandIn 3 = false by kernel_rfl)
  · exact (show Tryz.prog.wantsStandIn 9 = false by kernel_rfl)

theorem card : Rows.XmlRemarksUptoCardSaid :=
  Claim7.holds_tied_plain_at .later [] _ _ _ _ said (fun _ h => by cases h) (by kernel_rfl) (fun _ h => by cases h) xmlRemarksUpto_row_tie rfl ⟨rfl, rfl⟩ (by kernel_rfl) rfl plain (by kernel_rfl)
end Go.Proofs.YtjeagjleolmibaaGreatDoor.lawXmlRemarks
