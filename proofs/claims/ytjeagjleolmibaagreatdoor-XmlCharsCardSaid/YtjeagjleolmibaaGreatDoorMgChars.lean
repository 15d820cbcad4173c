import Derived.Test.YtjeagjleolmibaaGreatDoorMg20
import Derived.Laws.RangeAny
import Derived.Lib.OthersKept
/-
  THE WALK OF THE LAW XmlWrites.
-/
set_option linter.unusedVariables false
namespace Go.Proofs.YtjeagjleolmibaaGreatDoor.Xm
open Go.Lib Go.RowKit

theorem pcells_one : ∀ (ps : List Pc), ∀ u ∈ pcells ps, u.oneCell' = true
  | [], u, h => by cases h
  | p :: ps, u, h => by
    simp only [pcells, List.mem_cons] at h
    rcases h with rfl | rfl | rfl | rfl | h
    · rfl
    · rfl
    · rfl
    · rfl
    · exact pcells_one ps u h
/-- pieces appended onto an empty row, wherever they lie -/
theorem append_pcs {w : World} {ops : Array Oper} {rest : List Oper} {o : Oper} {a : Act} {Q : Exit → Act → World → Prop} (hgd : o.guard = none) (s x : Operand)
    (ho : o.op = .call { callee := .builtin .append, args := #[s, x], argTypes := #[22, 22] }) (base : Nat) (v xv : Value) (ps : List Pc) (hs : a.eval s = v) (hx : a.eval x = xv)
    (hown : PsOwn base v [] w) (hS : PcsAt w xv ps) (hls : ps.length ≤ 1099511627776) (hbase : base ≤ w.heap.size)
    (h : ∀ v' w', PsOwn base v' ps w' → w.grownBy w' v.ownBlock → wpList Tryz.prog ops Q rest (a.put o.dst v') w') : wpList Tryz.prog ops Q (o :: rest) a w := by
  obtain ⟨i0, hi, hz0, hz1, hz2⟩ := info_parts infoPc
  obtain ⟨A, b, off, c, rfl, h1, h2, h3, h4⟩ := hS
  have hown0 : w.ownsRow base 37 4 v 0 [] := hown
  cases A with
  | none =>
    have hl : ps = [] := by
      cases ps with
      | nil => rfl
      | cons y t =>
        obtain ⟨h5, _⟩ := h3 (by simp)
        cases h5
    subst hl
    refine wpList_plain hgd fun K hK => ?_
    have hrun : (Builtin.append_ #[22, 22] o.type #[v, .slice none 0 c]).run Tryz.prog w = .ok v w := by
      rcases hown0.2 with ⟨rfl, _⟩ | ⟨g, cap, cur, rfl, _, _, hnc, _⟩
      · simp [Builtin.append_, run_underlying Tryz.underlying22, sizeOf, typeInfo, hi, Builtin.lenOf, Builtin.firstCells]
      · simp [Builtin.append_, run_underlying Tryz.underlying22, sizeOf, typeInfo, hi, Builtin.lenOf, Builtin.firstCells, storeCells]
    have hk := hK _ _ (h v w hown (World.grownBy.refl w _))
    unfold Oper.wp execOp
    simp only [ho, resolve, invoke, builtin, Sem.run_bind, Sem.run_pure, Result.andThen_ok, List.map_toArray, List.map_cons, List.map_nil, hs, hx]
    rw [show (List.length ([] : List Pc)) = 0 from rfl, hrun]
    exact hk
  | some ad =>
    refine wpList_append_own _ hgd s x 22 ho base 37 i0 zeroPc 4 48 Tryz.underlying22 hi hz0 hz1 hz2 rfl (by decide) v 0 [] hs hown0 ad ps.length c (pcells ps) hx (pcells_len ps) (fun j u hj => ?_) (fun u hu => pcells_one ps u hu) (by unfold maxLen; omega) (by omega) hbase (fun v' w' h5 h6 _ => h v' w' ?_ h6)
    · have hjl := (List.getElem?_eq_some_iff.1 hj).1
      rw [pcells_len] at hjl
      obtain ⟨q, hq⟩ : ∃ q, j / 4 = q := ⟨_, rfl⟩
      have hql : q < ps.length := by omega
      have hp : ps[q]? = some ps[q] := List.getElem?_eq_getElem hql
      obtain ⟨p, hpe⟩ : ∃ p, ps[q] = p := ⟨_, rfl⟩
      rw [hpe] at hp
      obtain ⟨e0, e1, e2, e3⟩ := pcells_at ps q p hp
      obtain ⟨g0, g1, g2, g3⟩ := h4 q p hp
      obtain ⟨he, _⟩ := h3 (by omega)
      obtain rfl := Option.some.inj he
      have hadd : (⟨b, off, none⟩ : Addr).add j = ⟨b, off + j, none⟩ := by
        unfold Addr.add
        split
        · rename_i h; subst h; rfl
        · rfl
      rw [hadd]
      have hr : j = q * 4 ∨ j = q * 4 + 1 ∨ j = q * 4 + 2 ∨ j = q * 4 + 3 := by omega
      rcases hr with hr | hr | hr | hr
      · rw [hr] at hj ⊢; rw [e0] at hj; rw [← Option.some.inj hj]; exact g0
      · rw [hr] at hj ⊢; rw [e1] at hj; rw [← Option.some.inj hj, ← Nat.add_assoc]; exact g1
      · rw [hr] at hj ⊢; rw [e2] at hj; rw [← Option.some.inj hj, ← Nat.add_assoc]; exact g2
      · rw [hr] at hj ⊢; rw [e3] at hj; rw [← Option.some.inj hj, ← Nat.add_assoc]; exact g3
    · unfold PsOwn
      rw [Nat.zero_add, List.nil_append] at h5
      exact h5
theorem parse_pr {ps : List Pc} (h : right ps = true) (hl : (prX ps).length ≤ 65536) : parseX (prX ps) = (ps, 0) := by
  unfold parseX
  rw [if_neg (by omega), if_neg (by rw [valid_pr h]; decide), doc_pr h]

set_option maxHeartbeats 4000000 in
set_option maxRecDepth 100000 in
theorem writes_walk (cP : ParseC) (cC : CheckC) (cR : PrintC) (v : Value) (ps : List Pc) (w : World) (hv : PcsAt w v ps) (hsz : szs ps ≤ 1048576) (hT : Gw w) :
    Calls Tryz.prog 3 #[v] w fun e w' => e = .returned (.bool true) ∧ Below w.heap.size w w' := by
  have c0 := first_any cP cR w hT
  obtain ⟨A, c, ev⟩ := hv.form
  obtain ⟨n, hn⟩ : ∃ n, ps.length = n := ⟨_, rfl⟩
  rw [hn] at ev
  subst ev
  have hv' := Lib.hid hv
  have hT' := Lib.hid hT
  clear hv hT
  by_cases hl : n ≤ 400
  · have g1 : ¬ (400 : Int) < (n : Int) := by omega
    go_enter Tryz.func3, Tryz.ntmps3
    go_wp2_with fail
    go_at_call 8
    with_reducible refine c0.mono ?_
    rintro e w1 ⟨rfl, hb1⟩
    clear c0
    obtain ⟨Z, hZ⟩ : ∃ Z, w.heap.size = Z := ⟨_, rfl⟩
    have hZ1 : Z ≤ w1.heap.size := by rw [← hZ]; exact hb1.size
    have hZ' := Lib.hid hZ
    have hown : PsOwn Z (.slice (some ⟨w1.heap.size, 0, none⟩) 0 0) [] (w1.alloc (.cells #[] 37)) := ⟨rfl, .inr ⟨w1.heap.size, 0, #[], rfl, hZ1, heap_alloc_new w1 _, Nat.le_refl _, Nat.zero_le _, rfl, rfl⟩⟩
    have hal : Below w1.heap.size w1 (w1.alloc (.cells #[] 37)) := (Below.refl _ _).alloc (Nat.le_refl _) _
    have hsrc : PcsAt (w1.alloc (.cells #[] 37)) (.slice A n c) ps := hv'.out.kept (below_then hb1 hal)
    have hps : ps.length ≤ 1099511627776 := by omega
    have hZ2 : Z ≤ (w1.alloc (.cells #[] 37)).heap.size := Nat.le_trans hZ1 hal.size
    have hBa : Below Z w (w1.alloc (.cells #[] 37)) := by rw [← hZ]; exact below_then hb1 hal
    have hown' := Lib.hid hown
    have hsrc' := Lib.hid hsrc
    have hBa' := Lib.hid hBa
    have hZ2' := Lib.hid hZ2
    clear hZ hown hal hsrc hBa hZ2 hb1
    go_wp2_with (at_builtin; refine append_pcs rfl _ _ rfl Z _ _ ps rfl rfl hown'.out hsrc'.out hps hZ2'.out ?_)
    intro vo w2 hown2 hg2
    have hB2 : Below Z w w2 := hBa'.out.grown hg2 hZ2'.out (fun k hk => (hown'.out.lt k hk).1)
    obtain ⟨Ao, co, eo⟩ := ownsRow_form hown2
    rw [hn] at eo
    subst eo
    have hat2 := hown2.at
    have hB2' := Lib.hid (show Below w.heap.size w w2 by rw [hZ'.out]; exact hB2)
    have hown2' := Lib.hid hown2
    have cc := cC _ ps w2 hat2 (by unfold mostP; omega) (gw_below hT'.out hB2'.out)
    obtain ⟨E, hE⟩ : ∃ E : Int, (if right ps = true then (0 : Int) else 70) = E := ⟨_, rfl⟩
    rw [hE] at cc
    have hat2' := Lib.hid hat2
    clear hown2 hg2 hB2 hat2 hown' hsrc' hBa' hZ2'
    go_wp2_with fail
    go_at_call 9
    with_reducible refine cc.mono ?_
    rintro e w3 ⟨rfl, hb3⟩
    have hB3 := Lib.hid (below_then hB2'.out hb3)
    have hat3 := hat2'.out.kept hb3
    have cr := cR _ ps w3 hat3 (by unfold mostP; omega) (gw_below hT'.out hB3.out)
    have hat3' := Lib.hid hat3
    clear cc hb3 hat3
    go_wp2_with fail
    go_at_call 10
    with_reducible refine cr.mono ?_
    rintro e w4 ⟨hp4, hb4⟩
    have hB4 := Lib.hid (below_then hB3.out hb4)
    have hat4 := hat3'.out.kept hb4
    have cs := refSame_any _ _ ps ps w4 hat4 (hv'.out.kept hB4.out)
    rw [decide_eq_true rfl] at cs
    have hk := Lib.hid (fun (W : World) (hW : Below w.heap.size w W) => refRight_any _ ps W (hv'.out.kept hW) (fun p hp => by
      have := szs_mem hp
      unfold szP at this
      omega))
    clear cr hb4 hat4
    rcases hp4 with ⟨hr, rfl⟩ | ⟨hr, hbig, rfl⟩ | ⟨hr, hsm, rfl⟩
    · have hE0 : E = 70 := by rw [← hE, hr]; rfl
      subst hE0
      go_wp2_with fail
      go_at_call 11
      with_reducible refine cs.mono ?_
      rintro e w5 ⟨rfl, hb5⟩
      have hB5 := Lib.hid (below_then hB4.out hb5)
      have ck := hk.out w5 hB5.out
      rw [hr] at ck
      clear cs hb5
      go_wp2_with fail
      go_at_call 12
      with_reducible refine ck.mono ?_
      rintro e w6 ⟨rfl, hb6⟩
      have hB6 := Lib.hid (below_then hB5.out hb6)
      clear ck hb6
      go_wp2
      go_ret
      exact ⟨rfl, hB6.out⟩
    all_goals
      have hE0 : E = 0 := by rw [← hE, hr]; rfl
      subst hE0
      have hkp := Lib.hid (fun (W : World) (hW : Below w.heap.size w W) => refPrint_any _ ps W (hv'.out.kept hW) hr (by have := prX_len ps; omega))
      go_wp2_with fail
      go_at_call 11
      with_reducible refine cs.mono ?_
      rintro e w5 ⟨rfl, hb5⟩
      have hB5 := Lib.hid (below_then hB4.out hb5)
      have ck := hk.out w5 hB5.out
      rw [hr] at ck
      clear cs hb5
      go_wp2_with fail
      go_at_call 12
      with_reducible refine ck.mono ?_
      rintro e w6 ⟨rfl, hb6⟩
      have hB6 := Lib.hid (below_then hB5.out hb6)
      have cp := hkp.out w6 hB6.out
      clear ck hb6
      go_wp2_with fail
      go_at_call 13
      with_reducible refine cp.mono ?_
      rintro e w7 ⟨rfl, hb7⟩
      have hB7 := Lib.hid (below_then hB6.out hb7)
      clear cp hb7
    · have hts : (⟨(prX ps).toArray⟩ : ByteArray).size = (prX ps).length := by rw [Lib.size_eq]
      obtain ⟨T, hT2⟩ : ∃ T, (⟨(prX ps).toArray⟩ : ByteArray) = T := ⟨_, rfl⟩
      rw [hT2] at hts ⊢
      have g2 : (65536 : Int) < (T.size : Int) := by omega
      clear hT2
      go_wp2
      go_ret
      exact ⟨rfl, hB7.out⟩
    · have hts : (⟨(prX ps).toArray⟩ : ByteArray).size = (prX ps).length := by rw [Lib.size_eq]
      obtain ⟨T, hT2⟩ : ∃ T, (⟨(prX ps).toArray⟩ : ByteArray) = T := ⟨_, rfl⟩
      have hTd : T.data.toList = prX ps := by rw [← hT2]
      rw [hT2] at hts ⊢
      have g2 : ¬ (65536 : Int) < (T.size : Int) := by omega
      have cq := cP T w7 (by unfold mostS; omega) (gw_below hT'.out hB7.out)
      rw [hTd, parse_pr hr hsm] at cq
      clear hT2
      go_wp2_with fail
      go_at_call 14
      with_reducible refine cq.mono ?_
      rintro e w8 ⟨⟨v8, rfl, hv8⟩, hb8⟩
      have hB8 := Lib.hid (below_then hB7.out hb8)
      have cs2 := refSame_any _ _ ps ps w8 hv8 (hv'.out.kept hB8.out)
      rw [decide_eq_true rfl] at cs2
      obtain ⟨A8, c8, e8⟩ := hv8.form
      rw [hn] at e8
      subst e8
      clear cq hb8 hv8
      go_wp2_with fail
      go_at_call 11
      with_reducible refine cs2.mono ?_
      rintro e w9 ⟨rfl, hb9⟩
      have hB9 := Lib.hid (below_then hB8.out hb9)
      clear cs2 hb9
      go_wp2
      go_ret
      exact ⟨rfl, hB9.out⟩
  · have g1 : (400 : Int) < (n : Int) := by omega
    go_enter Tryz.func3, Tryz.ntmps3
    go_wp2_with fail
    go_at_call 8
    with_reducible refine c0.mono ?_
    rintro e w1 ⟨rfl, hb1⟩
    clear c0
    go_wp2
    go_ret
    exact ⟨rfl, hb1⟩
end Go.Proofs.YtjeagjleolmibaaGreatDoor.Xm

/-
  THE WALK OF THE LAW XmlChars.
-/
set_option linter.unusedVariables false
namespace Go.Proofs.YtjeagjleolmibaaGreatDoor.Xm
open Go.Lib Go.RowKit

set_option maxHeartbeats 4000000 in
set_option maxRecDepth 100000 in
theorem digits_any (n b : Nat) (B : Int) (hBb : (b : Int) = B) (hb : b = 10 ∨ b = 16) (hn : n < 18446744073709551616) (w : World) :
    Calls Tryz.prog 18 #[.int .u64 (n : Int), .int .u64 B] w fun e w' => e = .returned (.string ⟨(digS b n).toArray⟩) ∧ ∃ m, w' = w.drewN m := by
  go_enter Tryz.func18, Tryz.ntmps18
  have hb2 : 2 ≤ b := by omega
  have hlen : (digS b n).length ≤ 20 := digS_len hb 19 n (by rcases hb with rfl | rfl <;> omega)
  obtain ⟨D, hD⟩ : ∃ D, digS b n = D := ⟨_, rfl⟩
  rw [hD] at hlen ⊢
  have hD' := Lib.hid hD
  clear hD
  go_wp2
  go_loopw [0, 5] (fun s0 s5 wr => ∃ (m : Nat) (S : ByteArray), s0 = .int .u64 (m : Int) ∧ m < 18446744073709551616 ∧ s5 = .string S ∧ D = digS b m ++ S.data.toList ∧ ∃ d, wr = w.drewN d) (fun s0 s5 wr => (RowKit.intOf s0).toNat)
  case atStart => exact ⟨n, _, rfl, hn, rfl, by rw [← hD'.out]; simp, 0, rfl⟩
  case round =>
    obtain ⟨m, S, rfl, hm, rfl, hS, d, rfl⟩ := hrel
    have hSl : S.size ≤ 20 := by
      rw [hS, List.length_append, ← Lib.size_eq] at hlen; omega
    obtain ⟨r, hr⟩ : ∃ r, m % b = r := ⟨_, rfl⟩
    obtain ⟨q, hq⟩ : ∃ q, m / b = q := ⟨_, rfl⟩
    have hrb : r < b := by rw [← hr]; exact Nat.mod_lt _ (by omega)
    have t1 : (m : Int).tmod (b : Int) = (r : Int) := by rw [← hr]; rfl
    have t2 : (m : Int).tdiv (b : Int) = (q : Int) := by rw [← hq]; rfl
    have tb : ((b : Int) == 0) = false := beq_eq_false_iff_ne.2 (by omega)
    have hr16 : r < 16 := by omega
    have hqm : q ≤ m := by rw [← hq]; exact Nat.div_le_self _ _
    obtain ⟨x, hx⟩ : ∃ x, (⟨#[48, 49, 50, 51, 52, 53, 54, 55, 56, 57, 97, 98, 99, 100, 101, 102]⟩ : ByteArray).extract r (r + 1) = x := ⟨_, rfl⟩
    have hxd : x.data.toList = [hexL.getD r 0] := by
      rw [← hx]
      exact (show ∀ r : Fin 16, ((⟨#[48, 49, 50, 51, 52, 53, 54, 55, 56, 57, 97, 98, 99, 100, 101, 102]⟩ : ByteArray).extract r.val (r.val + 1)).data.toList = [hexL.getD r.val 0] by decide +kernel) ⟨r, hr16⟩
    have hxs : x.size = 1 := by rw [Lib.size_eq, hxd]; rfl
    obtain ⟨S2, hS2⟩ : ∃ S2, x ++ S = S2 := ⟨_, rfl⟩
    have hS2d : S2.data.toList = hexL.getD r 0 :: S.data.toList := by rw [cat_data hS2, hxd]; rfl
    have hfin : Hid (q = 0 → S2.data.toList = D) := Lib.hid fun h => by
      have hmb : m < b := by
        rcases Nat.lt_or_ge m b with h' | h'
        · exact h'
        · have := Nat.div_pos h' (by omega); omega
      rw [hS2d, hS, digS_small hmb, ← hr, Nat.mod_eq_of_lt hmb]; rfl
    have hnx : Hid (q ≠ 0 → D = digS b q ++ S2.data.toList ∧ q < m) := Lib.hid fun h => by
      have hmb : b ≤ m := by
        rcases Nat.lt_or_ge m b with h' | h'
        · exact absurd (by rw [← hq]; exact Nat.div_eq_of_lt h') h
        · exact h'
      refine ⟨?_, by rw [← hq]; exact Nat.div_lt_self (by omega) (by omega)⟩
      rw [hS, digS_big hb2 hmb, hr, hq, hS2d, List.append_assoc]; rfl
    have m1 : ¬ 9223372036854775807 < x.size + S.size := by omega
    obtain ⟨r1, hr1⟩ : ∃ r1, r + 1 = r1 := ⟨_, rfl⟩
    rw [hr1] at hx
    have tw : IntKind.u64.wrap ((r : Int) + 1) = (r1 : Int) := by
      rw [← hr1]
      unfold IntKind.wrap
      simp only [IntKind.bits, IntKind.signed]
      simp
      omega
    have tr0 : (0 : Int) ≤ (r : Int) := by omega
    have tr1 : (r : Int) ≤ (r1 : Int) := by omega
    have tr2 : (r1 : Int) ≤ 16 := by omega
    have tr3 : ¬ (r1 : Int) < (r : Int) := by omega
    have tr4 : ¬ (16 : Int) < (r1 : Int) := by omega
    clear hS hr hxd hS2d hlen
    have t1a : (m : Int).tmod B = (r : Int) := by rw [← hBb]; exact t1
    have t2a : (m : Int).tdiv B = (q : Int) := by rw [← hBb]; exact t2
    have t1w : IntKind.u64.wrap ((m : Int).tmod B) = (r : Int) := by rw [t1a]; exact IntWalk.u64_in _ (by omega)
    have t2w : IntKind.u64.wrap ((m : Int).tdiv B) = (q : Int) := by rw [t2a]; exact IntWalk.u64_in _ (by omega)
    have tb' : (B == 0) = false := by rw [← hBb]; exact tb
    have tB0 : ¬ B = 0 := by omega
    clear hq t1 t2 tb hb
    · go_wp2_with fail
      go_quiet (fail)
      by_cases hq0 : q = 0
      · have hS3 : S2 = ⟨D.toArray⟩ := by
          have := hfin.out hq0
          rw [← this, Lib.mk_data]
        have e0 : ((q : Int) == 0) = true := beq_iff_eq.2 (by omega)
        have e0n : (q == 0) = true := beq_iff_eq.2 hq0
        clear hfin hnx
        subst hS3
        go_wp2
        go_ret
        exact ⟨rfl, _, rfl⟩
      · obtain ⟨h1, h2⟩ := hnx.out hq0
        have e0 : ((q : Int) == 0) = false := beq_eq_false_iff_ne.2 (by omega)
        have e0n : (q == 0) = false := beq_eq_false_iff_ne.2 hq0
        have h1' := Lib.hid h1
        have h2' := Lib.hid h2
        clear hfin hnx h1 h2 hq0
        go_wp2
        go_roundw
        case rel => exact ⟨q, S2, rfl, by omega, rfl, h1'.out, _, rfl⟩
        case measure => have := h2'.out; simp [RowKit.intOf]; omega
/-! ### which texts may be told -/
theorem valid_mid {A B : Row} (t : Row) (hA : Ch.valid A = true) (hB : Ch.valid B = true) {x : UInt8} {r : Row} (hb : B = x :: r) (hx : x.toNat < 128) : Ch.valid (A ++ (t ++ B)) = Ch.valid t := by
  rw [Ch.valid_join _ _ hA]
  cases hw : Ch.valid t with
  | true => exact valid_both hw hB
  | false =>
    cases hy : Ch.valid (t ++ B) with
    | false => rfl
    | true =>
      have hcut := (Ch.valid_cut _ hy t.length (by simp)).1
      rw [List.take_left, hw] at hcut
      unfold Ch.between at hcut
      have := of_decide_eq_false hcut.symm
      refine absurd ?_ this
      right; left
      rw [List.getD_eq_getElem?_getD, List.getElem?_append_right (Nat.le_refl _), Nat.sub_self, hb]
      exact hx
theorem valid_inA (t : Row) : Ch.valid (inA t) = Ch.valid t :=
  valid_mid (A := [60, 97, 62]) (B := [60, 47, 97, 62]) t (by decide +kernel) (by decide +kernel) rfl (by decide)
theorem inA_len (t : Row) : (inA t).length = t.length + 7 := by
  unfold inA
  simp only [List.length_cons, List.length_append, List.length_nil]
theorem inA_code {t : Row} (hl : t.length ≤ 2000) : ((parseX (inA t)).2 != 10) = Ch.valid t := by
  unfold parseX
  rw [if_neg (by rw [inA_len]; omega), valid_inA]
  cases Ch.valid t with
  | false => rfl
  | true =>
    rw [if_neg (by decide)]
    cases docP (inA t) <;> rfl
set_option maxHeartbeats 4000000 in
set_option maxRecDepth 100000 in
theorem lawValid_any (cP : ParseC) (t : ByteArray) (ht : t.size ≤ 2000) (w : World) (hT : Gw w) :
    Calls Tryz.prog 16 #[.string t] w fun e w' => e = .returned (.bool (Ch.valid t.data.toList)) ∧ Below w.heap.size w w' := by
  obtain ⟨x1, hx1⟩ : ∃ y, (⟨#[60, 97, 62]⟩ : ByteArray) ++ t = y := ⟨_, rfl⟩
  obtain ⟨X, hX⟩ : ∃ y, x1 ++ (⟨#[60, 47, 97, 62]⟩ : ByteArray) = y := ⟨_, rfl⟩
  have u1 := cat_size hx1
  have u2 := cat_size hX
  rw [show (⟨#[60, 97, 62]⟩ : ByteArray).size = 3 from rfl] at u1
  rw [show (⟨#[60, 47, 97, 62]⟩ : ByteArray).size = 4 from rfl] at u2
  have m5 : ¬ 9223372036854775807 < (⟨#[60, 97, 62]⟩ : ByteArray).size + t.size := by rw [show (⟨#[60, 97, 62]⟩ : ByteArray).size = 3 from rfl]; omega
  have m5' : ¬ 9223372036854775807 < 3 + t.size := by omega
  have m6 : ¬ 9223372036854775807 < x1.size + (⟨#[60, 47, 97, 62]⟩ : ByteArray).size := by rw [show (⟨#[60, 47, 97, 62]⟩ : ByteArray).size = 4 from rfl]; omega
  have m6' : ¬ 9223372036854775807 < x1.size + 4 := by omega
  have hXd : X.data.toList = inA t.data.toList := by rw [cat_data hX, cat_data hx1]; simp [inA]
  have cx := cP X w (by unfold mostS; omega) hT
  rw [hXd] at cx
  have hcode := inA_code (t := t.data.toList) (by rw [← Lib.size_eq]; exact ht)
  obtain ⟨G, hG⟩ : ∃ G, parseX (inA t.data.toList) = G := ⟨_, rfl⟩
  rw [hG] at cx hcode
  obtain ⟨g, hg⟩ : ∃ g, G.2 = g := ⟨_, rfl⟩
  rw [hg] at cx hcode
  rw [← hcode]
  have hge : (g == 10) = !(g != 10) := by unfold bne; simp
  clear hXd hcode hG hT
  go_enter Tryz.func16, Tryz.ntmps16
  go_wp2_with fail
  go_at_call 14
  with_reducible refine cx.mono ?_
  rintro e w6 ⟨⟨v6, rfl, hv6⟩, hb6⟩
  obtain ⟨A6, c6, e6⟩ := hv6.form
  subst e6
  have hb6' := Lib.hid hb6
  clear hb6 hv6 hg
  go_wp2
  go_ret
  exact ⟨rfl, hb6'.out⟩
/-! ### the text told -/
theorem tell_fuel (tens : Bool) : ∀ (n m : Nat) (t : Row), t.length ≤ n → t.length ≤ m → Ch.valid t = true → tell tens n t = tell tens m t
  | 0, 0, _, _, _, _ => rfl
  | 0, m + 1, t, h, _, _ => by
    have : t = [] := List.eq_nil_of_length_eq_zero (by omega)
    subst this; unfold tell; rw [if_pos rfl]
  | n + 1, 0, t, _, h, _ => by
    have : t = [] := List.eq_nil_of_length_eq_zero (by omega)
    subst this; unfold tell; rw [if_pos rfl]
  | n + 1, m + 1, t, h1, h2, hv => by
    unfold tell
    by_cases ht : t = []
    · rw [if_pos ht, if_pos ht]
    · rw [if_neg ht, if_neg ht]
      obtain ⟨h0, hl, _, _, _, hvd⟩ := front_char ht hv
      rw [tell_fuel tens n m (t.drop (Ch.rune t).2) (by rw [List.length_drop]; omega) (by rw [List.length_drop]; omega) hvd]
def tellA (tens : Bool) (t : Row) : Row := tell tens t.length t
theorem tellA_step {tens : Bool} {t : Row} (ht : t ≠ []) (hv : Ch.valid t = true) : tellA tens t = 38 :: (told tens (Ch.rune t).1 ++ [59]) ++ tellA tens (t.drop (Ch.rune t).2) := by
  unfold tellA
  cases hn : t.length with
  | zero => exact absurd (List.eq_nil_of_length_eq_zero hn) ht
  | succ n =>
    obtain ⟨h0, hl, _, _, _, hvd⟩ := front_char ht hv
    conv => lhs; unfold tell
    rw [if_neg ht, tell_fuel tens n (t.drop (Ch.rune t).2).length (t.drop (Ch.rune t).2) (by rw [List.length_drop]; omega) (Nat.le_refl _) hvd]
theorem parse_tell (tens : Bool) {t : Row} (hv : Ch.valid t = true) (ht : blanks t = false) (hl : t.length ≤ 2000) : parseX (inA (tellA tens t)) = ([⟨1, 0, [97], []⟩, ⟨3, 0, [], t⟩, ⟨2, 0, [97], []⟩], 0) := by
  have h1 := tell_len tens t.length t hv
  have h2 : Ch.valid (tellA tens t) = true := valid_ascii _ (tell_ascii tens t.length t)
  unfold parseX
  rw [if_neg (by rw [inA_len]; show ¬ 65536 < (tell tens t.length t).length + 7; omega), valid_inA, h2, if_neg (by decide), show docP (inA (tellA tens t)) = _ from doc_chars tens hv ht]
theorem decode_rune {s : ByteArray} {pos : Nat} (hp : pos < s.size) (h : (Ch.rune (s.data.toList.drop pos)).2 ≠ 0) : Utf8.decode s pos = Ch.rune (s.data.toList.drop pos) := by
  have hne : s.data.toList.drop pos ≠ [] := fun e => by
    have := List.drop_eq_nil_iff.1 e
    rw [← Lib.size_eq] at this
    omega
  rw [Ch.rune_eq _ hne] at h ⊢
  rw [Lib.decode_N]
  simp only [Ch.getD_drop, Nat.add_zero, List.length_drop] at h ⊢
  unfold Ch.runeN at h ⊢
  by_cases hd : Lib.decodeN (s.data.toList.length - pos) (s.data.toList.getD pos 0).toNat (s.data.toList.getD (pos + 1) 0).toNat (s.data.toList.getD (pos + 2) 0).toNat (s.data.toList.getD (pos + 3) 0).toNat = (65533, 1)
  · rw [if_pos hd] at h; exact absurd rfl h
  · rw [if_neg hd]
end Go.Proofs.YtjeagjleolmibaaGreatDoor.Xm

/-
  THE WALK OF THE LAW XmlNames.
-/
set_option linter.unusedVariables false
namespace Go.Proofs.YtjeagjleolmibaaGreatDoor.Xm
open Go.Lib Go.RowKit

def ownT (p n : Row) : Row := 60 :: (p ++ 58 :: (n ++ 32 :: (xmlnsS ++ 58 :: (p ++ 61 :: 39 :: (davS ++ [39, 47, 62])))))
def bareT (p n : Row) : Row := 60 :: (p ++ 58 :: (n ++ [47, 62]))
def aroundT (p n : Row) : Row := 60 :: 111 :: 32 :: (xmlnsS ++ 58 :: (p ++ 61 :: 39 :: (davS ++ 39 :: 32 :: (xmlnsS ++ 61 :: 39 :: ([117, 114, 110, 58, 120] ++ 39 :: 62 :: 60 :: (p ++ 58 :: (n ++ 47 :: 62 :: 60 :: 47 :: 111 :: [62])))))))
theorem name_ascii {n : Row} (h : nameB n = true) : ∀ x ∈ n, x.toNat < 128 ∧ Ch.ctl x = false := fun x hx => nx_ascii x (nameB_all h x hx)
theorem lit_ascii {l : Row} (h : (l.all fun x => decide (x.toNat < 128) && !Ch.ctl x) = true) : ∀ x ∈ l, x.toNat < 128 ∧ Ch.ctl x = false := fun x hx => by
  have := List.all_eq_true.1 h x hx
  simpa using this
theorem valid_two {p n : Row} (hp : nameB p = true) (hn : nameB n = true) : Ch.valid (ownT p n) = true ∧ Ch.valid (bareT p n) = true ∧ Ch.valid (aroundT p n) = true := by
  have h1 := valid_name hp
  have h2 := valid_name hn
  have q := fun (l : Row) (h : (l.all fun x => decide (x.toNat < 128) && !Ch.ctl x) = true) => valid_ascii l (lit_ascii h)
  refine ⟨?_, ?_, ?_⟩
  · have e : ownT p n = [60] ++ (p ++ ([58] ++ (n ++ ((32 :: (xmlnsS ++ [58])) ++ (p ++ (61 :: 39 :: (davS ++ [39, 47, 62]))))))) := by simp [ownT]
    rw [e]
    exact valid_both (q _ (by decide +kernel)) (valid_both h1 (valid_both (q _ (by decide +kernel)) (valid_both h2 (valid_both (q _ (by decide +kernel)) (valid_both h1 (q _ (by decide +kernel)))))))
  · have e : bareT p n = [60] ++ (p ++ ([58] ++ (n ++ [47, 62]))) := by simp [bareT]
    rw [e]
    exact valid_both (q _ (by decide +kernel)) (valid_both h1 (valid_both (q _ (by decide +kernel)) (valid_both h2 (q _ (by decide +kernel)))))
  · have e : aroundT p n = (60 :: 111 :: 32 :: (xmlnsS ++ [58])) ++ (p ++ ((61 :: 39 :: (davS ++ 39 :: 32 :: (xmlnsS ++ 61 :: 39 :: ([117, 114, 110, 58, 120] ++ [39, 62, 60])))) ++ (p ++ ([58] ++ (n ++ [47, 62, 60, 47, 111, 62]))))) := by simp [aroundT]
    rw [e]
    exact valid_both (q _ (by decide +kernel)) (valid_both h1 (valid_both (q _ (by decide +kernel)) (valid_both h1 (valid_both (q _ (by decide +kernel)) (valid_both h2 (q _ (by decide +kernel)))))))
theorem parse_own {p n : Row} (hp : nameB p = true) (hn : nameB n = true) : parseX (ownT p n) = ([⟨1, 1, n, []⟩, ⟨2, 1, n, []⟩], 0) := by
  have l1 := nameB_len hp
  have l2 := nameB_len hn
  unfold parseX
  rw [if_neg (by simp [ownT, xmlnsS, davS]; omega), if_neg (by rw [(valid_two hp hn).1]; decide), show docP (ownT p n) = _ from doc_own hp hn]
theorem parse_bare {p n : Row} (hp : nameB p = true) (hn : nameB n = true) : parseX (bareT p n) = ([], 70) := by
  have l1 := nameB_len hp
  have l2 := nameB_len hn
  unfold parseX
  rw [if_neg (by simp [bareT]; omega), if_neg (by rw [(valid_two hp hn).2.1]; decide), show docP (bareT p n) = _ from doc_undeclared hp hn]
theorem parse_around {p n : Row} (hp : nameB p = true) (hn : nameB n = true) : parseX (aroundT p n) = ([⟨1, 3, [111], []⟩, ⟨1, 1, n, []⟩, ⟨2, 1, n, []⟩, ⟨2, 3, [111], []⟩], 0) := by
  have l1 := nameB_len hp
  have l2 := nameB_len hn
  unfold parseX
  rw [if_neg (by simp [aroundT, xmlnsS, davS]; omega), if_neg (by rw [(valid_two hp hn).2.2]; decide), show docP (aroundT p n) = _ from doc_around hp hn]

set_option maxHeartbeats 4000000 in
set_option maxRecDepth 100000 in
theorem names_walk (cP : ParseC) (cR : PrintC) (a0 a1 : ByteArray) (ar : Bool) (h0 : a0.size ≤ mostS) (h1 : a1.size ≤ mostS) (w : World) (hT : Gw w) :
    Calls Tryz.prog 4 #[.string a0, .string a1, .bool ar] w fun e w' => e = .returned (.bool true) ∧ Below w.heap.size w w' := by
  have c0 := first_any cP cR w hT
  have n0 := fun W => refName_any a0 W h0
  have n1 := fun W => refName_any a1 W h1
  have i0 := nameN_is a0.data.toList
  have i1 := nameN_is a1.data.toList
  rw [← Lib.size_eq] at i0 i1
  by_cases hg : nameB a0.data.toList = true ∧ nameB a1.data.toList = true
  · obtain ⟨hp, hn⟩ := hg
    obtain ⟨p1, p2⟩ := i0.2 hp
    obtain ⟨q1, q2⟩ := i1.2 hn
    rw [p1] at n0
    rw [q1] at n1
    have l0 : a0.size ≤ 64 := by rw [Lib.size_eq]; exact nameB_len hp
    have l1 : a1.size ≤ 64 := by rw [Lib.size_eq]; exact nameB_len hn
    have x0 : ((a0.size : Int) == 0) = false := beq_eq_false_iff_ne.2 (by omega)
    have x1 : ((a1.size : Int) == 0) = false := beq_eq_false_iff_ne.2 (by omega)
    have x0n : (a0.size == 0) = false := beq_eq_false_iff_ne.2 (by omega)
    have x1n : (a1.size == 0) = false := beq_eq_false_iff_ne.2 (by omega)
    have k1 : Hid (∀ (S : ByteArray) (W : World), S.data.toList = aroundT a0.data.toList a1.data.toList → Below w.heap.size w W → Calls Tryz.prog 14 #[.string S] W fun e w' => (∃ v, e = .returned (.tuple #[v, .int .i64 0]) ∧ PcsAt w' v [⟨1, 3, [111], []⟩, ⟨1, 1, a1.data.toList, []⟩, ⟨2, 1, a1.data.toList, []⟩, ⟨2, 3, [111], []⟩]) ∧ Below W.heap.size W w') := Lib.hid fun S W hS hW => by
      have := cP S W (by rw [Lib.size_eq, hS]; simp [aroundT, xmlnsS, davS]; unfold mostS; have := Lib.size_eq a0; have := Lib.size_eq a1; simp at *; omega) (gw_below hT hW)
      rw [hS, parse_around hp hn] at this
      exact this
    have k2 : Hid (∀ (S : ByteArray) (W : World), S.data.toList = ownT a0.data.toList a1.data.toList → Below w.heap.size w W → Calls Tryz.prog 14 #[.string S] W fun e w' => (∃ v, e = .returned (.tuple #[v, .int .i64 0]) ∧ PcsAt w' v [⟨1, 1, a1.data.toList, []⟩, ⟨2, 1, a1.data.toList, []⟩]) ∧ Below W.heap.size W w') := Lib.hid fun S W hS hW => by
      have := cP S W (by rw [Lib.size_eq, hS]; simp [ownT, xmlnsS, davS]; unfold mostS; have := Lib.size_eq a0; have := Lib.size_eq a1; simp at *; omega) (gw_below hT hW)
      rw [hS, parse_own hp hn] at this
      exact this
    have k3 : Hid (∀ (S : ByteArray) (W : World), S.data.toList = bareT a0.data.toList a1.data.toList → Below w.heap.size w W → Calls Tryz.prog 14 #[.string S] W fun e w' => (∃ v, e = .returned (.tuple #[v, .int .i64 70]) ∧ PcsAt w' v []) ∧ Below W.heap.size W w') := Lib.hid fun S W hS hW => by
      have := cP S W (by rw [Lib.size_eq, hS]; simp [bareT]; unfold mostS; have := Lib.size_eq a0; have := Lib.size_eq a1; simp at *; omega) (gw_below hT hW)
      rw [hS, parse_bare hp hn] at this
      exact this
    clear hp hn hT
    clear i0 i1 p1 p2 q1 q2
    go_enter Tryz.func4, Tryz.ntmps4
    go_wp2_with fail
    go_at_call 8
    with_reducible refine c0.mono ?_
    rintro e w1 ⟨rfl, hb1⟩
    clear c0
    go_wp2_with fail
    go_at_call 15
    with_reducible refine (n0 _).mono ?_
    rintro e w2 ⟨rfl, rfl⟩
    go_wp2_with fail
    go_at_call 15
    with_reducible refine (n1 _).mono ?_
    rintro e w2 ⟨rfl, rfl⟩
    clear n0 n1
    cases ar
    · go_wp2_with fail
      go_at_call 14
      refine (k2.out _ _ (by simp only [ByteArray.data_append, Array.toList_append]; simp [ownT, xmlnsS, davS]) hb1).mono ?_
      rintro e w3 ⟨⟨v, rfl, hv⟩, hb3⟩
      have hB3 := below_then hb1 hb3
      obtain ⟨A, c, e5⟩ := hv.form
      subst e5
      clear hb3
      go_wp2_with fail
      go_at_call 14
      refine (k3.out _ _ (by simp only [ByteArray.data_append, Array.toList_append]; simp [bareT]) hB3).mono ?_
      rintro e w4 ⟨⟨v4, rfl, hv4⟩, hb4⟩
      have hB4 := Lib.hid (below_then hB3 hb4)
      obtain ⟨A', b, off, c', e6, _, hc', hA', hP'⟩ := hv.kept hb4
      injection e6 with e7 e8 e9
      subst e7; subst e9
      obtain ⟨rfl, hAb⟩ := hA' (by simp)
      obtain ⟨g0, g1, g2, g3⟩ := hP' 0 _ rfl
      have g2' : w4.cell? ⟨b, off + 2, none⟩ = some (.string a1) := by rw [← sv_data a1]; simpa using g2
      have g3' : w4.cell? ⟨b, off + 3, none⟩ = some (.string ⟨#[]⟩) := by simpa [sv] using g3
      have g0' : w4.cell? ⟨b, off, none⟩ = some (.int .i64 1) := by simpa using g0
      have g1' : w4.cell? ⟨b, off + 1, none⟩ = some (.int .i64 1) := by simpa using g1
      have hE := eq_pc 1 1 1 1 a1 ⟨#[]⟩ a1 ⟨#[]⟩
      rw [show ((1 : Int) == 1 && (1 : Int) == 1 && a1.toList == a1.toList && (⟨#[]⟩ : ByteArray).toList == (⟨#[]⟩ : ByteArray).toList) = true by simp] at hE
      unfold maxLen at hc'
      clear g0 g1 g2 g3 hv hb4 hP' hA' hv4 hB3 hb1
      go_wp2
      go_ret
      exact ⟨rfl, hB4.out⟩
    · go_wp2_with fail
      go_at_call 14
      refine (k1.out _ _ (by simp only [ByteArray.data_append, Array.toList_append]; simp [aroundT, xmlnsS, davS]) hb1).mono ?_
      rintro e w3 ⟨⟨v, rfl, hv⟩, hb3⟩
      have hB3 := below_then hb1 hb3
      obtain ⟨A, c, e5⟩ := hv.form
      subst e5
      clear hb3
      go_wp2_with fail
      go_at_call 14
      refine (k3.out _ _ (by simp only [ByteArray.data_append, Array.toList_append]; simp [bareT]) hB3).mono ?_
      rintro e w4 ⟨⟨v4, rfl, hv4⟩, hb4⟩
      have hB4 := Lib.hid (below_then hB3 hb4)
      obtain ⟨A', b, off, c', e6, _, hc', hA', hP'⟩ := hv.kept hb4
      injection e6 with e7 e8 e9
      subst e7; subst e9
      obtain ⟨rfl, hAb⟩ := hA' (by simp)
      obtain ⟨g0, g1, g2, g3⟩ := hP' 1 _ rfl
      obtain ⟨_, f1, _, _⟩ := hP' 0 _ rfl
      have g2' : w4.cell? ⟨b, off + 4 + 2, none⟩ = some (.string a1) := by rw [← sv_data a1]; exact g2
      have g3' : w4.cell? ⟨b, off + 4 + 3, none⟩ = some (.string ⟨#[]⟩) := g3
      have g0' : w4.cell? ⟨b, off + 4, none⟩ = some (.int .i64 1) := g0
      have g1' : w4.cell? ⟨b, off + 4 + 1, none⟩ = some (.int .i64 1) := g1
      have f1' : w4.cell? ⟨b, off + 1, none⟩ = some (.int .i64 3) := by simpa using f1
      have hE := eq_pc 1 1 1 1 a1 ⟨#[]⟩ a1 ⟨#[]⟩
      rw [show ((1 : Int) == 1 && (1 : Int) == 1 && a1.toList == a1.toList && (⟨#[]⟩ : ByteArray).toList == (⟨#[]⟩ : ByteArray).toList) = true by simp] at hE
      unfold maxLen at hc'
      clear g0 g1 g2 g3 f1 hv hb4 hP' hA' hv4 hB3 hb1
      go_wp2
      go_ret
      exact ⟨rfl, hB4.out⟩
  · have hb : ((nameN a0.data.toList : Int) == (a0.size : Int)) = false ∨ (((nameN a0.data.toList : Int) == (a0.size : Int)) = true ∧ ((nameN a1.data.toList : Int) == (a1.size : Int)) = false) ∨
        (((nameN a0.data.toList : Int) == (a0.size : Int)) = true ∧ ((nameN a1.data.toList : Int) == (a1.size : Int)) = true ∧ ((nameN a1.data.toList : Int) == 0) = true) ∨
        (((nameN a0.data.toList : Int) == (a0.size : Int)) = true ∧ ((nameN a1.data.toList : Int) == (a1.size : Int)) = true ∧ ((nameN a1.data.toList : Int) == 0) = false ∧ ((nameN a0.data.toList : Int) == 0) = true) := by
      by_cases c1 : (nameN a0.data.toList : Int) = (a0.size : Int)
      · by_cases c2 : (nameN a1.data.toList : Int) = (a1.size : Int)
        · by_cases c3 : (nameN a1.data.toList : Int) = 0
          · exact .inr (.inr (.inl ⟨beq_iff_eq.2 c1, beq_iff_eq.2 c2, beq_iff_eq.2 c3⟩))
          · by_cases c4 : (nameN a0.data.toList : Int) = 0
            · exact .inr (.inr (.inr ⟨beq_iff_eq.2 c1, beq_iff_eq.2 c2, beq_eq_false_iff_ne.2 c3, beq_iff_eq.2 c4⟩))
            · exact absurd ⟨i0.1 ⟨by omega, by omega⟩, i1.1 ⟨by omega, by omega⟩⟩ hg
        · exact .inr (.inl ⟨beq_iff_eq.2 c1, beq_eq_false_iff_ne.2 c2⟩)
      · exact .inl (beq_eq_false_iff_ne.2 c1)
    clear i0 i1 hg hT
    obtain ⟨N0, hN0⟩ : ∃ N, nameN a0.data.toList = N := ⟨_, rfl⟩
    obtain ⟨N1, hN1⟩ : ∃ N, nameN a1.data.toList = N := ⟨_, rfl⟩
    rw [hN0, hN1] at hb
    rw [hN0] at n0
    rw [hN1] at n1
    clear hN0 hN1
    have s0 : (N0 == a0.size) = ((N0 : Int) == (a0.size : Int)) := by rw [Bool.eq_iff_iff, beq_iff_eq, beq_iff_eq]; omega
    have s1 : (N1 == a1.size) = ((N1 : Int) == (a1.size : Int)) := by rw [Bool.eq_iff_iff, beq_iff_eq, beq_iff_eq]; omega
    have s2 : (N1 == 0) = ((N1 : Int) == 0) := by rw [Bool.eq_iff_iff, beq_iff_eq, beq_iff_eq]; omega
    have s3 : (N0 == 0) = ((N0 : Int) == 0) := by rw [Bool.eq_iff_iff, beq_iff_eq, beq_iff_eq]; omega
    have t0 : ((N0 : Int) != (a0.size : Int)) = !((N0 : Int) == (a0.size : Int)) := rfl
    have t1 : ((N1 : Int) != (a1.size : Int)) = !((N1 : Int) == (a1.size : Int)) := rfl
    have u0 : (N0 != a0.size) = !(N0 == a0.size) := rfl
    have u1 : (N1 != a1.size) = !(N1 == a1.size) := rfl
    rcases hb with h | ⟨h, h'⟩ | ⟨h, h', h2⟩ | ⟨h, h', h2, h3⟩
    all_goals
      rw [h] at s0 t0
      rw [s0] at u0
      try rw [h'] at s1 t1
      try rw [s1] at u1
      try rw [h2] at s2
      try rw [h3] at s3
      go_enter Tryz.func4, Tryz.ntmps4
      go_wp2_with fail
      go_at_call 8
      with_reducible refine c0.mono ?_
      rintro e w1 ⟨rfl, hb1⟩
      clear c0
      go_wp2_with fail
      go_at_call 15
      with_reducible refine (n0 _).mono ?_
      rintro e w2 ⟨rfl, rfl⟩
      go_wp2_with fail
      go_at_call 15
      with_reducible refine (n1 _).mono ?_
      rintro e w2 ⟨rfl, rfl⟩
      clear n0 n1
      go_wp2
      go_ret
      exact ⟨rfl, hb1⟩
end Go.Proofs.YtjeagjleolmibaaGreatDoor.Xm

/-
  THE WALK OF THE LAW XmlChars, whole.
-/
set_option linter.unusedVariables false
namespace Go.Proofs.YtjeagjleolmibaaGreatDoor.Xm
open Go.Lib Go.RowKit

set_option maxHeartbeats 4000000 in
set_option maxRecDepth 100000 in
theorem chars_walk (cP : ParseC) (cR : PrintC) (t : ByteArray) (tens : Bool) (w : World) (ht : t.size ≤ mostS) (hT : Gw w) :
    Calls Tryz.prog 7 #[.string t, .bool tens] w fun e w' => e = .returned (.bool true) ∧ Below w.heap.size w w' := by
  have c0 := first_any cP cR w hT
  have hT' := Lib.hid hT
  clear hT
  by_cases hl : t.size ≤ 2000
  · have g1 : ¬ (2000 : Int) < (t.size : Int) := by omega
    have cv := Lib.hid (fun (W : World) (hW : Below w.heap.size w W) => lawValid_any cP t hl W (gw_below hT'.out hW))
    go_enter Tryz.func7, Tryz.ntmps7
    go_wp2_with fail
    go_at_call 8
    with_reducible refine c0.mono ?_
    rintro e w1 ⟨rfl, hb1⟩
    have c1 := cv.out w1 hb1
    clear c0 cv
    cases hv : Ch.valid t.data.toList with
    | false =>
      rw [hv] at c1
      go_wp2_with fail
      go_at_call 16
      with_reducible refine c1.mono ?_
      rintro e w2 ⟨rfl, hb2⟩
      have hB2 := Lib.hid (below_then hb1 hb2)
      clear c1 hb2 hb1
      go_wp2
      go_ret
      exact ⟨rfl, hB2.out⟩
    | true =>
      rw [hv] at c1
      go_wp2_with fail
      go_at_call 16
      with_reducible refine c1.mono ?_
      rintro e w2 ⟨rfl, hb2⟩
      have hB2 := Lib.hid (below_then hb1 hb2)
      have c2 := refBlanks_any t w2 (by omega)
      clear c1 hb2 hb1
      cases hbl : blanks t.data.toList with
      | true =>
        rw [hbl] at c2
        go_wp2_with fail
        go_at_call 17
        with_reducible refine c2.mono ?_
        rintro e w3 ⟨rfl, rfl⟩
        clear c2
        go_wp2
        go_ret
        exact ⟨rfl, hB2.out⟩
      | false =>
        rw [hbl] at c2
        go_wp2_with fail
        go_at_call 17
        with_reducible refine c2.mono ?_
        rintro e w3 ⟨rfl, rfl⟩
        have hv' := Lib.hid hv
        have hbl' := Lib.hid hbl
        clear c2 hv hbl
        have hTl : (tellA tens t.data.toList).length ≤ 20000 := by
          have := tell_len tens t.data.toList.length t.data.toList hv'.out
          rw [← Lib.size_eq] at this
          show (tell tens t.data.toList.length t.data.toList).length ≤ _
          rw [← Lib.size_eq]; omega
        obtain ⟨P, hP⟩ : ∃ P, w3.heap.size = P := ⟨_, rfl⟩
        have hPZ : w.heap.size ≤ P := by rw [← hP]; exact hB2.out.size
        have hi0 : (w3.iter t 0).heap[P]? = some (.stringIter t 0) := by rw [← hP]; exact World.iter_heap w3 t 0
        have hb0 : Below w.heap.size w (w3.iter t 0) := hB2.out.alloc hB2.out.size _
        go_wp2
        try rw [hP]
        clear hP
        go_loopw [5] (fun s5 wr => ∃ (pos : Nat) (S : ByteArray), s5 = .string S ∧ pos ≤ t.size ∧ wr.heap[P]? = some (.stringIter t pos) ∧ Below w.heap.size w wr ∧ tellA tens t.data.toList = S.data.toList ++ tellA tens (t.data.toList.drop pos) ∧ Ch.valid (t.data.toList.drop pos) = true) (fun s5 wr => t.size - wr.iterPos P)
        case atStart => exact ⟨0, _, rfl, Nat.zero_le _, hi0, hb0, by simp, by simpa using hv'.out⟩
        case round =>
          obtain ⟨pos, S, rfl, hpos, hit, hbw, hS, hvd⟩ := hrel
          have hSl : S.size ≤ 20000 := by
            rw [hS, List.length_append, ← Lib.size_eq] at hTl; omega
          have hsz : P < wr.heap.size := (Array.getElem?_eq_some_iff.1 hit).1
          by_cases hp : pos < t.size
          · have hne : t.data.toList.drop pos ≠ [] := fun e => by
              have := List.drop_eq_nil_iff.1 e
              rw [← Lib.size_eq] at this
              omega
            obtain ⟨f0, f1, f2, f3, f4, f5⟩ := front_char hne hvd
            have hstep := tellA_step (tens := tens) hne hvd
            rw [List.length_drop, ← Lib.size_eq] at f1
            have hnx : ∀ ty, (Instr.next (.pointer (some ⟨P, 0, none⟩)) true ty).run Tryz.prog wr = _ := fun ty => Lib.run_next_any_at wr P t pos ty hit hp
            rw [decode_rune hp f0] at hnx
            obtain ⟨⟨r, n⟩, hd⟩ : ∃ p, Ch.rune (t.data.toList.drop pos) = p := ⟨_, rfl⟩
            rw [hd] at f0 f1 f2 f3 f4 f5 hstep
            simp only [hd] at hnx f0 f1 f2 f5 hstep
            have hit2 := Lib.iterAt_heap wr P t pos (pos + n) hit
            have hbw2 := Lib.below_iterAt hbw (k := P) hPZ t (pos + n)
            rw [List.drop_drop] at f5 hstep
            have hwr : IntKind.u64.wrap (r : Int) = (r : Int) := IntWalk.u64_in _ (by omega)
            have hr0 : (0 : Int) ≤ (pos : Int) := by omega
            have hit2' := Lib.hid hit2
            have hbw2' := Lib.hid hbw2
            have f5' := Lib.hid f5
            have hpos2 : pos + n ≤ t.size := by omega
            cases tens with
            | true =>
              obtain ⟨D, hD⟩ : ∃ D : ByteArray, (⟨(digS 10 r).toArray⟩ : ByteArray) = D := ⟨_, rfl⟩
              have hDd : D.data.toList = digS 10 r := by rw [← hD]
              have hDs : D.size ≤ 7 := by
                rw [Lib.size_eq, hDd]; exact digS_len (.inl rfl) 6 r (by omega)
              obtain ⟨y1, hy1⟩ : ∃ y, (⟨#[38, 35]⟩ : ByteArray) ++ D = y := ⟨_, rfl⟩
              obtain ⟨y2, hy2⟩ : ∃ y, y1 ++ (⟨#[59]⟩ : ByteArray) = y := ⟨_, rfl⟩
              obtain ⟨S2, hS2⟩ : ∃ y, S ++ y2 = y := ⟨_, rfl⟩
              have z1 := cat_size hy1
              have z2 := cat_size hy2
              rw [show (⟨#[38, 35]⟩ : ByteArray).size = 2 from rfl] at z1
              rw [show (⟨#[59]⟩ : ByteArray).size = 1 from rfl] at z2
              have hnext : Hid (tellA true t.data.toList = S2.data.toList ++ tellA true (t.data.toList.drop (pos + n))) := Lib.hid (by
                rw [hS, hstep, cat_data hS2, cat_data hy2, cat_data hy1, hDd]
                simp [told])
              have m1 : ¬ 9223372036854775807 < (⟨#[38, 35]⟩ : ByteArray).size + D.size := by rw [show (⟨#[38, 35]⟩ : ByteArray).size = 2 from rfl]; omega
              have m1' : ¬ 9223372036854775807 < 2 + D.size := by omega
              have m2 : ¬ 9223372036854775807 < y1.size + (⟨#[59]⟩ : ByteArray).size := by rw [show (⟨#[59]⟩ : ByteArray).size = 1 from rfl]; omega
              have m2' : ¬ 9223372036854775807 < y1.size + 1 := by omega
              have m3 : ¬ 9223372036854775807 < S.size + y2.size := by omega
              have cD := fun W => digits_any r 10 10 rfl (.inl rfl) (by omega) W
              rw [hD] at cD
              have hit4' := Lib.hid hit
              clear hd hne hstep hS hDd hD f2 f3 f4 f5 hit2 hbw2 hvd hit hbw
              go_wp2_with fail
              go_at_call 18
              with_reducible refine (cD _).mono ?_
              rintro e w5 ⟨rfl, d, rfl⟩
              clear cD
              go_wp2
              go_roundw
              case rel => exact ⟨pos + n, S2, rfl, hpos2, hit2'.out, below_drewN _ hbw2'.out, hnext.out, f5'.out⟩
              case measure =>
                have hp3 : ((wr.iterAt P t (pos + n)).drewN d).iterPos P = pos + n := by
                  unfold World.iterPos
                  rw [show ((wr.iterAt P t (pos + n)).drewN d).heap[P]? = some (.stringIter t (pos + n)) from hit2'.out]
                have hp4 : wr.iterPos P = pos := by
                  unfold World.iterPos
                  rw [hit4'.out]
                rw [hp3, hp4]
                omega
            | false =>
              obtain ⟨D, hD⟩ : ∃ D : ByteArray, (⟨(digS 16 r).toArray⟩ : ByteArray) = D := ⟨_, rfl⟩
              have hDd : D.data.toList = digS 16 r := by rw [← hD]
              have hDs : D.size ≤ 7 := by
                rw [Lib.size_eq, hDd]; exact Nat.le_trans (digS_len (.inr rfl) 5 r (by omega)) (by decide)
              obtain ⟨y1, hy1⟩ : ∃ y, (⟨#[38, 35, 120]⟩ : ByteArray) ++ D = y := ⟨_, rfl⟩
              obtain ⟨y2, hy2⟩ : ∃ y, y1 ++ (⟨#[59]⟩ : ByteArray) = y := ⟨_, rfl⟩
              obtain ⟨S2, hS2⟩ : ∃ y, S ++ y2 = y := ⟨_, rfl⟩
              have z1 := cat_size hy1
              have z2 := cat_size hy2
              rw [show (⟨#[38, 35, 120]⟩ : ByteArray).size = 3 from rfl] at z1
              rw [show (⟨#[59]⟩ : ByteArray).size = 1 from rfl] at z2
              have hnext : Hid (tellA false t.data.toList = S2.data.toList ++ tellA false (t.data.toList.drop (pos + n))) := Lib.hid (by
                rw [hS, hstep, cat_data hS2, cat_data hy2, cat_data hy1, hDd]
                simp [told])
              have m1 : ¬ 9223372036854775807 < (⟨#[38, 35, 120]⟩ : ByteArray).size + D.size := by rw [show (⟨#[38, 35, 120]⟩ : ByteArray).size = 3 from rfl]; omega
              have m1' : ¬ 9223372036854775807 < 3 + D.size := by omega
              have m2 : ¬ 9223372036854775807 < y1.size + (⟨#[59]⟩ : ByteArray).size := by rw [show (⟨#[59]⟩ : ByteArray).size = 1 from rfl]; omega
              have m2' : ¬ 9223372036854775807 < y1.size + 1 := by omega
              have m3 : ¬ 9223372036854775807 < S.size + y2.size := by omega
              have cD := fun W => digits_any r 16 16 rfl (.inr rfl) (by omega) W
              rw [hD] at cD
              have hit4' := Lib.hid hit
              clear hd hne hstep hS hDd hD f2 f3 f4 f5 hit2 hbw2 hvd hit hbw
              go_wp2_with fail
              go_at_call 18
              with_reducible refine (cD _).mono ?_
              rintro e w5 ⟨rfl, d, rfl⟩
              clear cD
              go_wp2
              go_roundw
              case rel => exact ⟨pos + n, S2, rfl, hpos2, hit2'.out, below_drewN _ hbw2'.out, hnext.out, f5'.out⟩
              case measure =>
                have hp3 : ((wr.iterAt P t (pos + n)).drewN d).iterPos P = pos + n := by
                  unfold World.iterPos
                  rw [show ((wr.iterAt P t (pos + n)).drewN d).heap[P]? = some (.stringIter t (pos + n)) from hit2'.out]
                have hp4 : wr.iterPos P = pos := by
                  unfold World.iterPos
                  rw [hit4'.out]
                rw [hp3, hp4]
                omega
          · have hS2 : S.data.toList = tellA tens t.data.toList := by
              rw [hS, List.drop_eq_nil_of_le (by rw [← Lib.size_eq]; omega)]
              simp [tellA, tell]
            have hnx : ∀ ty, (Instr.next (.pointer (some ⟨P, 0, none⟩)) true ty).run Tryz.prog wr = _ := fun ty => Lib.run_next_end_at wr P t pos ty hit hp
            obtain ⟨x1, hx1⟩ : ∃ y, (⟨#[60, 97, 62]⟩ : ByteArray) ++ S = y := ⟨_, rfl⟩
            obtain ⟨X, hX⟩ : ∃ y, x1 ++ (⟨#[60, 47, 97, 62]⟩ : ByteArray) = y := ⟨_, rfl⟩
            have u1 := cat_size hx1
            have u2 := cat_size hX
            rw [show (⟨#[60, 97, 62]⟩ : ByteArray).size = 3 from rfl] at u1
            rw [show (⟨#[60, 47, 97, 62]⟩ : ByteArray).size = 4 from rfl] at u2
            have m5 : ¬ 9223372036854775807 < (⟨#[60, 97, 62]⟩ : ByteArray).size + S.size := by rw [show (⟨#[60, 97, 62]⟩ : ByteArray).size = 3 from rfl]; omega
            have m5' : ¬ 9223372036854775807 < 3 + S.size := by omega
            have m6 : ¬ 9223372036854775807 < x1.size + (⟨#[60, 47, 97, 62]⟩ : ByteArray).size := by rw [show (⟨#[60, 47, 97, 62]⟩ : ByteArray).size = 4 from rfl]; omega
            have m6' : ¬ 9223372036854775807 < x1.size + 4 := by omega
            have hXd : X.data.toList = inA (tellA tens t.data.toList) := by rw [cat_data hX, cat_data hx1, hS2]; simp [inA]
            have cx := cP X wr (by unfold mostS; omega) (gw_below hT'.out hbw)
            rw [hXd, parse_tell tens hv'.out hbl'.out (by rw [← Lib.size_eq]; exact hl)] at cx
            have hbw' := Lib.hid hbw
            clear hXd hS2 hS hit hbw hvd hTl
            go_wp2_with fail
            go_at_call 14
            with_reducible refine cx.mono ?_
            rintro e w5 ⟨⟨v5, rfl, hv5⟩, hb5⟩
            have hB5 := Lib.hid (below_then hbw'.out hb5)
            obtain ⟨A', b, off, c', e6, _, hc', hA', hP'⟩ := hv5
            subst e6
            obtain ⟨rfl, hAb⟩ := hA' (by simp)
            obtain ⟨g0, g1', g2, g3⟩ := hP' 1 _ rfl
            have q3 : w5.cell? ⟨b, off + 4 + 3, none⟩ = some (.string t) := by rw [← sv_data t]; exact g3
            have q2 : w5.cell? ⟨b, off + 4 + 2, none⟩ = some (.string ⟨#[]⟩) := g2
            have q0 : w5.cell? ⟨b, off + 4, none⟩ = some (.int .i64 3) := g0
            have q1 : w5.cell? ⟨b, off + 4 + 1, none⟩ = some (.int .i64 0) := g1'
            have hE := eq_pc 3 0 3 0 ⟨#[]⟩ t ⟨#[]⟩ t
            rw [show ((3 : Int) == 3 && (0 : Int) == 0 && (⟨#[]⟩ : ByteArray).toList == (⟨#[]⟩ : ByteArray).toList && t.toList == t.toList) = true by simp] at hE
            unfold maxLen at hc'
            clear g0 g1' g2 g3 hb5 hP' hA' cx
            go_wp2
            go_ret
            exact ⟨rfl, hB5.out⟩
  · have g1 : (2000 : Int) < (t.size : Int) := by omega
    go_enter Tryz.func7, Tryz.ntmps7
    go_wp2_with fail
    go_at_call 8
    with_reducible refine c0.mono ?_
    rintro e w1 ⟨rfl, hb1⟩
    clear c0
    go_wp2
    go_ret
    exact ⟨rfl, hb1⟩
end Go.Proofs.YtjeagjleolmibaaGreatDoor.Xm

/-
  THE LAW XmlChars, tied: whatever the text and the switch, it answers true; its arguments read as they did.
-/
set_option linter.unusedVariables false
namespace Go.Proofs.YtjeagjleolmibaaGreatDoor.lawXmlChars
open Go.Lib Go.RowKit Go.Shelf Go.ChangeShapes Go.WideShapes Go.ChangeAt Xm
open Go.ChangeMaps (open_string shut_string)

theorem laid_tabs {W : World} (hL : laidMetH Tryz.prog Rows.xmlCharsRow.laid W) (hsh : W.ShapedOpen Tryz.prog) : Xm.Gw W :=
  Xm.gw_of (La.first_eq ▸ Lib.laidMet.reads hL (.tail _ (.tail _ (.tail _ (.tail _ (.tail _ (.tail _ (.head _)))))))) (La.accept_eq ▸ Lib.laidMet.reads hL (.tail _ (.tail _ (.tail _ (.head _)))))
    (Lib.laidMet.reads hL (.tail _ (.tail _ (.tail _ (.tail _ (.tail _ (.head _))))))) (Lib.laidMet.reads hL (.tail _ (.tail _ (.tail _ (.tail _ (.head _)))))) hsh
theorem laid_met (os : Os) (args : Array Value) : laidMet Tryz.prog Rows.xmlCharsRow.laid ((Xm.laidWorld os).forCall (fun _ _ => 0) ⟨#[], args, []⟩).memory := Xm.laid_met os args

theorem witness_row (os : Os) {H : Type} (enc : TypeId × Value → H) :
    (OpenSpec.ofChange Rows.xmlCharsSpec).preRow enc Tryz.prog Tryz.f7 Rows.xmlCharsRow.domain false Rows.xmlCharsRow.laid ((Xm.laidWorld os).forCall (fun _ _ => 0) ⟨#[], #[.string ⟨#[]⟩, .bool false], []⟩).memory #[.string ⟨#[]⟩, .bool false] := by
  have hw : (DataW.whole enc Tryz.prog ((Xm.laidWorld os).forCall (fun _ _ => 0) ⟨#[], #[.string ⟨#[]⟩, .bool false], []⟩).memory Tryz.f7.params.toList Rows.xmlCharsSpec.vars false (#[Value.string ⟨#[]⟩, Value.bool false] : Array Value).toList 8).map (fun x => (x.1, x.2.1)) =
      some ([.lit (.string []), .lit (.bool false)], []) := by kernel_rfl
  obtain ⟨⟨x1, x2, x3⟩, hx, hx1⟩ := Option.map_eq_some_iff.1 hw
  simp only [Prod.mk.injEq] at hx1
  obtain ⟨rfl, rfl⟩ := hx1
  exact OpenSpec.preRow_of_cond 8 hx (by kernel_rfl) (fun k hk => by cases hk) (by kernel_rfl) (laid_met os _)

set_option maxRecDepth 100000 in
set_option maxHeartbeats 2000000 in
theorem lifted (os : Os) (started : os.Started) (H : Type) (enc : TypeId × Value → H) (F : Stop.Interp) :
    ReturnsInHanded {} Tryz.checked os 7 .any ((OpenSpec.ofChange Rows.xmlCharsSpec).preRow enc Tryz.prog Tryz.f7 Rows.xmlCharsRow.domain false Rows.xmlCharsRow.laid) (((OpenSpec.ofChange Rows.xmlCharsSpec).at F).post enc Tryz.prog Tryz.f7 false true false false) := by
  refine returnsInHanded_of_row (C := Tryz.checked) (s := (OpenSpec.ofChange Rows.xmlCharsSpec)) La.own started (by kernel_rfl) Tryz.func7
    (witness_row_atRef (enc := enc) (C := Tryz.checked) false (Xm.laidWorld os) #[.string ⟨#[]⟩, .bool false] rfl (by kernel_rfl) (by kernel_rfl) (by kernel_rfl) (witness_row os enc)) ?_
  intro W base args ds gs before hval0 hW _ hcond hsz hL hsh _
  have hval : ∀ (j : Nat) t v, Tryz.f7.params[j]? = some t → args[j]? = some v → Value.okWide Tryz.prog W .any base t v := hval0
  have hW' := hW
  obtain ⟨p, q, hA0, hV0, rfl, _, _⟩ := hW
  have hA : DataW.TrodAll enc Tryz.prog W 0 (fun _ => true) true Tryz.f7.params.toList args.toList ds p := hA0
  rw [Tryz.params7] at hA hval
  obtain ⟨v0, v1, d0, d1, p0, p1, rfl, rfl, rfl, h0, h1⟩ := trodAll_two hA
  obtain ⟨rfl, rfl⟩ := trodVars_none hV0
  obtain ⟨s0, rfl, rfl, rfl, ws0⟩ := open_string Tryz.underlying9 (hval 0 9 v0 rfl rfl) h0
  obtain ⟨s1, rfl, rfl, rfl⟩ := open_bool Tryz.underlying4 (hval 1 4 v1 rfl rfl) h1
  have r0 : s0.data.toList.length ≤ reachBytes := sized_string (j := 0) (t := 9) hsz rfl rfl
  clear hA0 hV0 hval0 hsz
  refine (chars_walk parse_any print_any s0 s1 W (most_of r0) (laid_tabs hL hsh)).mono ?_
  rintro e W' ⟨rfl, bel⟩
  have e1 : ((OpenSpec.ofChange Rows.xmlCharsSpec).at F).fn H ([.lit (.string s0.data.toList), .lit (.bool s1)] ++ []) = { results := [.lit (.bool true)], args := [.lit (.string s0.data.toList), .lit (.bool s1)] } := rfl
  refine ⟨_, rfl, _, _, _, [], [], [], hW', ?_, ?_, ?_, bel.frame _, fun h => by cases h⟩
  · rw [e1]; exact trodAll_mk1 (shut_bool Tryz.underlying4 _)
  · rw [e1]; exact trodAll_mk2 (shut_string Tryz.underlying9 ws0) (shut_bool Tryz.underlying4 s1)
  · rw [e1]; rfl

theorem said : Rows.XmlCharsSaid :=
  OpenClaim.holds_of_cond 7 Tryz.f7 rfl rfl rfl rfl rfl rfl rfl ⟨rfl, rfl, rfl, rfl, rfl⟩ rfl rfl rfl rfl rfl (by kernel_rfl) Tryz.func7 (by kernel_rfl)
    (of_decide_eq_true (by kernel_rfl)) (by unfold Func.isWrapper; rw [if_neg (of_decide_eq_false (by kernel_rfl))]; exact ⟨rfl, rfl⟩)
    (fun os started H enc _ F => by rw [OpenClaim.pre_eq_preRow]; exact lifted os started H enc F)

/-- No parameter wants a stand-in; the program's own looks are on. -/
theorem plain (f : FuncId) (fn : Func) (hf : Tryz.pinned.checked.prog.funcNamed Rows.xmlCharsRow.func = some f) (hfn : Tryz.pinned.checked.prog.funcs[f]? = some fn) :
    true = Tryz.pinned.checked.prog.looks [] ∧ ∀ (j : Nat) t, fn.params[j]? = some t → Tryz.pinned.checked.prog.wantsStandIn t = false := by
  obtain rfl : f = 7 := Option.some.inj ((show Tryz.prog.funcNamed Rows.xmlCharsRow.func = some 7 by kernel_rfl).symm.trans hf) |>.symm
  obtain rfl : fn = Tryz.f7 := (Option.some.inj (Tryz.func7.symm.trans hfn)).symm
  refine ⟨by kernel_rfl, fun j t ht => ?_⟩
  rw [Tryz.params7] at ht
  have ht' : t = 9 ∨ t = 4 := by simpa using Array.mem_of_getElem? ht
  rcases ht' with rfl | rfl
  · exact (show Tryz.prog.wantsStandIn 9 = false by kernel_rfl)
  · exact (show Tryz.prog.wantsStandIn 4 = false by kernel_rfl)

theorem card : Rows.XmlCharsCardSaid :=
  Claim7.holds_tied_plain_at .later [] _ _ _ _ said (fun _ h => by cases h) (by kernel_rfl) (fun _ h => by cases h) xmlChars_row_tie rfl ⟨rfl, rfl⟩ (by kernel_rfl) rfl plain (by kernel_rfl)
end Go.Proofs.YtjeagjleolmibaaGreatDoor.lawXmlChars
