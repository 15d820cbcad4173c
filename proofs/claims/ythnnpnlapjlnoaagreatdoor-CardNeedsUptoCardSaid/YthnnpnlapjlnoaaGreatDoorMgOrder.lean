import Derived.Test.YthnnpnlapjlnoaaGreatDoorMg23
/-
  THE WALK OF THE LAW CardOrder.
-/
set_option linter.unusedVariables false
namespace Go.Proofs.YthnnpnlapjlnoaaGreatDoor.Ca
open Go.Lib Go.RowKit
open Li (LD PD sv LineAt PrmsAt chk pr)

theorem swap_split {Ls : List LD} {k : Nat} {a b : LD} (ha : Ls[k]? = some a) (hb : Ls[k + 1]? = some b) : ∃ P R, Ls = P ++ a :: b :: R ∧ (Ls.set k b).set (k + 1) a = P ++ b :: a :: R := by
  obtain ⟨h1, e1⟩ := List.getElem?_eq_some_iff.1 ha
  obtain ⟨h2, e2⟩ := List.getElem?_eq_some_iff.1 hb
  have e : Ls = Ls.take k ++ a :: b :: Ls.drop (k + 2) := by
    conv => lhs; rw [← List.take_append_drop k Ls, List.drop_eq_getElem_cons h1, List.drop_eq_getElem_cons h2, e1, e2]
  have hl : (Ls.take k).length = k := by rw [List.length_take]; omega
  refine ⟨Ls.take k, Ls.drop (k + 2), e, ?_⟩
  generalize Ls.drop (k + 2) = R at e
  generalize Ls.take k = P at e hl
  subst e
  rw [List.set_append_right _ _ (by omega), hl, Nat.sub_self, List.set_cons_zero, List.set_append_right _ _ (by omega), hl, show k + 1 - k = 0 + 1 by omega, List.set_cons_succ, List.set_cons_zero]
theorem keys_ne {a b : LD} (hn : Ch.low a.name ≠ Ch.low b.name) (ha : chk a = 0) (hb : chk b = 0) : keyL (can1 a) ≠ keyL (can1 b) := fun e => by
  have hu : Ch.up a.name ≠ Ch.up b.name := fun e => hn (by rw [← Ch.low_up a.name, e, Ch.low_up])
  have na : Ch.up a.name ≠ [] := up_ne (name_ne ha)
  have nb : Ch.up b.name ≠ [] := up_ne (name_ne hb)
  unfold keyL at e
  rw [can1_name, can1_name] at e
  split at e
  · rename_i e1
    split at e
    · rename_i e2
      exact hu (e1.trans e2.symm)
    · exact nb e.symm
  · split at e
    · exact na e
    · exact hu e
theorem swap_same {Ls : List LD} {k : Nat} {a b : LD} (ha : Ls[k]? = some a) (hb : Ls[k + 1]? = some b) (hn : Ch.low a.name ≠ Ch.low b.name) (h : codeP Ls = 0) :
    codeP ((Ls.set k b).set (k + 1) a) = 0 ∧ textP ((Ls.set k b).set (k + 1) a) = textP Ls := by
  have hc : checkE Ls = 0 := by
    rcases Nat.eq_zero_or_pos (checkE Ls) with h1 | h1
    · exact h1
    · rw [codeP_bad (by omega)] at h; omega
  have hl : ¬ 65536 < (cardT (canC Ls)).length := fun hl => by rw [codeP_long hc hl] at h; cases h
  obtain ⟨P, R, e, e2⟩ := swap_split ha hb
  rw [e2]
  have hp : (P ++ b :: a :: R).Perm Ls := by rw [e]; exact List.Perm.append_left P (List.Perm.swap a b R)
  obtain ⟨h1, h2⟩ := checkE_zero.1 hc
  have h1' : ∀ L ∈ P ++ b :: a :: R, chk L = 0 := fun L hL => h1 L (hp.mem_iff.1 hL)
  have hc' : checkE (P ++ b :: a :: R) = 0 := checkE_zero.2 ⟨h1', right_perm hp.symm h2⟩
  have hk := keys_ne hn (h1 a (by rw [e]; simp)) (h1 b (by rw [e]; simp))
  have hcan : canC (P ++ b :: a :: R) = canC Ls := canC_same h1' h1 (fun m => by
    rw [e]
    simp only [List.map_append, List.map_cons, List.filter_append, List.filter_cons]
    by_cases c1 : keyL (can1 a) = m
    · have c2 : ¬ keyL (can1 b) = m := fun c => hk (c1.trans c.symm)
      simp [c1, c2]
    · simp [c1])
  have hcode : codeP (P ++ b :: a :: R) = 0 := codeP_ok hc' (by rw [hcan]; omega)
  refine ⟨hcode, ?_⟩
  unfold textP
  rw [if_pos hcode, if_pos h, hcan]
theorem Mix.spot4 {B : Nat} {v : Value} {Ls : List LD} {wp w : World} (h : Mix B v Ls wp w) {j : Nat} (hj : j < Ls.length) :
    ∃ (g cap : Nat) (cur : Array Value), v = .slice (some ⟨g, 0, none⟩) Ls.length cap ∧ B ≤ g ∧ w.heap[g]? = some (.cells cur 41 (0, 0)) ∧ (∃ x0 x1 x2 x3, w.cell? ⟨g, j * 4, none⟩ = some x0 ∧ w.cell? ⟨g, j * 4 + 1, none⟩ = some x1 ∧ w.cell? ⟨g, j * 4 + 2, none⟩ = some x2 ∧ w.cell? ⟨g, j * 4 + 3, none⟩ = some x3) ∧ ∀ o, w.frozen? ⟨g, o, none⟩ = false := by
  obtain ⟨vs, hl, ⟨h1, h2 | ⟨g, cap, cur, e1, e2, e3, e4, e5, e6, e7⟩⟩, hv, hb, _⟩ := h
  · have := h2.2; omega
  · have key : ∀ i, i < Ls.length * 4 → ∃ x, w.cell? ⟨g, i, none⟩ = some x := fun i hi => by
      have hc : i < cur.size := by rw [e6]; omega
      exact ⟨cur[i], by rw [Lib.cell_of_heap e3]; exact Array.getElem?_eq_getElem hc⟩
    obtain ⟨x0, h0⟩ := key (j * 4) (by omega)
    obtain ⟨x1, h1⟩ := key (j * 4 + 1) (by omega)
    obtain ⟨x2, h2⟩ := key (j * 4 + 2) (by omega)
    obtain ⟨x3, h3⟩ := key (j * 4 + 3) (by omega)
    exact ⟨g, cap, cur, e1, e2, e3, ⟨x0, x1, x2, x3, h0, h1, h2, h3⟩, fun o => Lib.frozen_of_heap e3 o⟩
theorem LowR.setLine {w3 w : World} {db g n cap : Nat} {cur : Array Value} {Ms : List LD} (h : LowR w3 db (.slice (some ⟨g, 0, none⟩) n cap) Ms w) (hn : Ms.length = n) {j : Nat} (hj : j < n) (hg : w3.heap.size ≤ g) (hk : w.heap[g]? = some (.cells cur 41 (0, 0))) (L : LD) (u : Value) (hu : PrmsAt w3 u L.params) :
    LowR w3 db (.slice (some ⟨g, 0, none⟩) n cap) (Ms.set j L) ((((w.setCell ⟨g, j * 4, none⟩ (sv L.group)).setCell ⟨g, j * 4 + 1, none⟩ (sv L.name)).setCell ⟨g, j * 4 + 2, none⟩ u).setCell ⟨g, j * 4 + 3, none⟩ (sv L.value)) := by
  have hne : ∀ o, ¬ db = (⟨g, o, none⟩ : Addr).block := fun o e => by
    have e : db = g := e
    have := h.blk
    rw [e, hk] at this
    injection this with this
    injection this with _ ht
    exact absurd ht (by decide)
  exact ⟨(((h.below.setCell (p := ⟨g, j * 4, none⟩) hg _).setCell (p := ⟨g, j * 4 + 1, none⟩) hg _).setCell (p := ⟨g, j * 4 + 2, none⟩) hg _).setCell (p := ⟨g, j * 4 + 3, none⟩) hg _,
    Li.blk_store (Li.blk_store (Li.blk_store (Li.blk_store h.blk (hne _) _) (hne _) _) (hne _) _) (hne _) _, h.mix.setLine hn hj L u hu⟩
theorem alloc_second (w : World) (xs ys : Array Value) (t u : TypeId) : ((w.alloc (.cells xs t)).alloc (.cells ys u)).drew.heap[w.heap.size + 1]? = some (.cells ys u (0, 0)) := by
  have := heap_alloc_new (w.alloc (.cells xs t)) (.cells ys u)
  have e : (w.alloc (.cells xs t)).heap.size = w.heap.size + 1 := by simp
  rw [e] at this
  exact this
/-- a line of such a row, as it is loaded in a later world -/
theorem src_line {w wr : World} {b off : Nat} {Ls : List LD} {us : List Value} (hul : us.length = Ls.length) (hcell : ∀ t x, (lcells Ls us)[t]? = some x → w.cell? ⟨b, off + t, none⟩ = some x) (hpr : ∀ (j : Nat) (L : LD) (u : Value), Ls[j]? = some L → us[j]? = some u → PrmsAt w u L.params)
    (hlt : b < w.heap.size) (hb : Below w.heap.size w wr) {j : Nat} {L : LD} (hj : Ls[j]? = some L) :
    ∃ (a1 a2 a4 : ByteArray) (A : Option Addr) (n c : Nat), sv L.group = .string a1 ∧ sv L.name = .string a2 ∧ sv L.value = .string a4 ∧ PrmsAt w (.slice A n c) L.params ∧
      wr.cell? ⟨b, off + j * 4, none⟩ = some (.string a1) ∧ wr.cell? ⟨b, off + j * 4 + 1, none⟩ = some (.string a2) ∧ wr.cell? ⟨b, off + j * 4 + 2, none⟩ = some (.slice A n c) ∧ wr.cell? ⟨b, off + j * 4 + 3, none⟩ = some (.string a4) := by
  have hjl := (List.getElem?_eq_some_iff.1 hj).1
  have hu : us[j]? = some (us[j]'(by omega)) := List.getElem?_eq_getElem (by omega)
  obtain ⟨u, hue⟩ : ∃ u, us[j]'(by omega) = u := ⟨_, rfl⟩
  rw [hue] at hu
  obtain ⟨c0, c1, c2, c3⟩ := lcells_at Ls us j L u hul.symm hj hu
  have hp := hpr j L u hj hu
  obtain ⟨A, _, _, c, rfl, _⟩ := id hp
  have key := fun o x h => (hb.cell (p := ⟨b, o, none⟩) hlt).trans (h : w.cell? ⟨b, o, none⟩ = some x)
  exact ⟨_, _, _, A, _, c, rfl, rfl, rfl, hp, key _ _ (hcell _ _ c0), key _ _ (by have := hcell _ _ c1; rwa [← Nat.add_assoc] at this), key _ _ (by have := hcell _ _ c2; rwa [← Nat.add_assoc] at this), key _ _ (by have := hcell _ _ c3; rwa [← Nat.add_assoc] at this)⟩
theorem index_of (z : Int) (n : Nat) (h : 2 ≤ n) (hn : n ≤ 4194304) : ∃ k : Nat, wrap64 ((IntKind.u64.wrap z).tmod ((n : Int) - 1)) = (k : Int) ∧ k + 1 < n := by
  have h0 : 0 ≤ IntKind.u64.wrap z := by
    unfold IntKind.wrap
    simp only [IntKind.bits, IntKind.signed]
    simp
    omega
  have e : (IntKind.u64.wrap z).tmod ((n : Int) - 1) = (IntKind.u64.wrap z) % ((n : Int) - 1) := Int.tmod_eq_emod_of_nonneg h0
  have h1 := Int.emod_nonneg (IntKind.u64.wrap z) (b := (n : Int) - 1) (by omega)
  have h2 := Int.emod_lt_of_pos (IntKind.u64.wrap z) (b := (n : Int) - 1) (by omega)
  refine ⟨((IntKind.u64.wrap z) % ((n : Int) - 1)).toNat, ?_, by omega⟩
  rw [e, Int.toNat_of_nonneg h1]
  exact IntWalk.wrap64_in _ ⟨by omega, by omega⟩
theorem swap_pr {Ls : List LD} {k : Nat} {a b : LD} (ha : Ls[k]? = some a) (hb : Ls[k + 1]? = some b) : prsum ((Ls.set k b).set (k + 1) a) = prsum Ls := by
  obtain ⟨P, R, e, e2⟩ := swap_split ha hb
  rw [e2]
  conv => rhs; rw [e]
  exact prsum_perm (List.Perm.append_left P (List.Perm.swap a b R))

set_option maxHeartbeats 4000000 in
set_option maxRecDepth 100000 in
theorem order_walk (v : Value) (Ls : List LD) (z : Int) (w : World) (h : LinesAt w v Ls) (hS : prsum Ls ≤ 4194304) (hT : Ch.Tabs w) :
    Calls Tryz.prog 6 #[.agg #[v], .int .i64 z] w fun e w' => e = .returned (.bool true) ∧ Below w.heap.size w w' := by
  obtain ⟨n, hn⟩ : ∃ n, Ls.length = n := ⟨_, rfl⟩
  have hnl : n ≤ 4194304 := by have := prsum_len Ls; omega
  have hsz : ∀ L ∈ Ls, Li.SzL 4194304 L := fun L hL => Li.sz_pr (N := 4194304) (by have := prsum_mem hL; omega)
  have cF := fun W (hW : Below w.heap.size w W) => first_any W (Ch.tabs_below hT hW)
  have cS := fun W (hW : Below w.heap.size w W) => small_any v Ls W (h.kept hW) (by omega) (fun L hL => ⟨by have := (hsz L hL).k; omega, fun p hp => by have := (hsz L hL).pk p hp; omega⟩)
  have cP := fun u Ms W (hW : Below w.heap.size w W) (hu : LinesAt W u Ms) (hm : prsum Ms ≤ 67108864) => print_any u Ms W hu hm (Ch.tabs_below hT hW)
  obtain ⟨A, b, off, c, us, rfl, hul, hA, hcell, hpr⟩ := h.src
  rw [hn] at hA h cS ⊢
  have hL := fun W (hW : Below w.heap.size w W) => h.kept hW
  obtain ⟨w1, hw1⟩ : ∃ w1, w.alloc (.cells #[.slice A n c] 25) = w1 := ⟨_, rfl⟩
  have hB1 : Below w.heap.size w w1 := by rw [← hw1]; exact (Below.refl _ _).alloc (Nat.le_refl _) _
  have hbox : w1.cell? ⟨w.heap.size, 0, none⟩ = some (.slice A n c) := by rw [← hw1]; simp
  have hz1 : w.heap.size < w1.heap.size := by rw [← hw1]; simp
  go_enter Tryz.func6, Tryz.ntmps6
  go_wp2_with fail
  go_at_call 9
  with_reducible refine (cF w1 hB1).mono ?_
  rintro e w2 ⟨rfl, hb2⟩
  have hB2 := belowThen hB1 hb2
  have hbox2 : w2.cell? ⟨w.heap.size, 0, none⟩ = some (.slice A n c) := (hb2.cell (p := ⟨w.heap.size, 0, none⟩) hz1).trans hbox
  have hz2 : w.heap.size < w2.heap.size := Nat.lt_of_lt_of_le hz1 hb2.size
  have cF' := Lib.hid cF
  have cP' := Lib.hid cP
  have hL' := Lib.hid hL
  have hpr' := Lib.hid hpr
  have hcell' := Lib.hid hcell
  have hA' := Lib.hid hA
  have hT' := Lib.hid hT
  have hsz' := Lib.hid hsz
  have hn' := Lib.hid hn
  have cS2 := cS w2 hB2
  clear cF cP hL hpr hcell hA hT hsz hn cS hb2 hB1 hbox hw1 h
  go_wp2_with fail
  go_at_call 16
  with_reducible refine cS2.mono ?_
  rintro e w3 ⟨⟨bb, rfl⟩, hb3⟩
  have hB3 := belowThen hB2 hb3
  have hbox3 : w3.cell? ⟨w.heap.size, 0, none⟩ = some (.slice A n c) := (hb3.cell (p := ⟨w.heap.size, 0, none⟩) hz2).trans hbox2
  have hz3 : w.heap.size < w3.heap.size := Nat.lt_of_lt_of_le hz2 hb3.size
  clear hb3 hbox2 hz2 hB2 cS2 hz1
  cases bb with
  | false =>
    have c3 := cF'.out w3 hB3
    go_wp2_with fail
    go_at_call 9
    with_reducible refine c3.mono ?_
    rintro e w4 ⟨rfl, hb4⟩
    go_wp2
    go_ret
    exact ⟨rfl, belowThen hB3 hb4⟩
  | true =>
    have hB3' := Lib.hid hB3
    have cP1 := cP'.out _ Ls w3 hB3 (hL'.out w3 hB3) (by omega)
    clear hB3
    go_wp2_with fail
    go_at_call 14
    with_reducible refine cP1.mono ?_
    rintro e w4 ⟨⟨t1, ht1, rfl⟩, hb4⟩
    have hB4 := belowThen hB3'.out hb4
    have hbox4 : w4.cell? ⟨w.heap.size, 0, none⟩ = some (.slice A n c) := (hb4.cell (p := ⟨w.heap.size, 0, none⟩) hz3).trans hbox3
    have hz4 : w.heap.size < w4.heap.size := Nat.lt_of_lt_of_le hz3 hb4.size
    obtain ⟨cm, hcm⟩ : ∃ cm, codeP Ls = cm := ⟨_, rfl⟩
    rw [hcm]
    have hB4' := Lib.hid hB4
    have ht1' := Lib.hid ht1
    have hcm' := Lib.hid hcm
    clear cP1 hb4 hbox3 hz3 ht1 hcm hB3' hB4
    by_cases hm0 : cm = 0
    · subst hm0
      by_cases hn2 : n < 2
      · have hn3 : (n : Int) < 2 := by omega
        go_wp2
        go_ret
        exact ⟨rfl, hB4'.out⟩
      · have hn3 : ¬ (n : Int) < 2 := by omega
        have hn4 : ((n : Int) - 1 == 0) = false := beq_eq_false_iff_ne.2 (by omega)
        go_upto_region 7 with fail
        obtain ⟨k, hkk, hk1⟩ := index_of z n (by omega) hnl
        rw [hkk]
        clear hkk hn4 hn3
        have hla : Ls[k]? = some (Ls[k]'(by have := hn'.out; omega)) := List.getElem?_eq_getElem _
        have hlb : Ls[k + 1]? = some (Ls[k + 1]'(by have := hn'.out; omega)) := List.getElem?_eq_getElem _
        obtain ⟨a, hae⟩ : ∃ a, Ls[k]'(by have := hn'.out; omega) = a := ⟨_, rfl⟩
        obtain ⟨e, hbe⟩ : ∃ e, Ls[k + 1]'(by have := hn'.out; omega) = e := ⟨_, rfl⟩
        rw [hae] at hla
        rw [hbe] at hlb
        obtain ⟨rfl, hbz⟩ := hA'.out (by omega)
        obtain ⟨a1, a2, a4, aA, an, ac, ea1, ea2, ea4, hPa, x0, x1, x2, x3⟩ := src_line hul hcell'.out hpr'.out hbz hB4'.out hla
        obtain ⟨e1, e2, e4, eA, en, ec, ee1, ee2, ee4, hPe, y0, y1, y2, y3⟩ := src_line hul hcell'.out hpr'.out hbz hB4'.out hlb
        have hla' := Lib.hid hla
        have hlb' := Lib.hid hlb
        have hPa' := Lib.hid hPa
        have hPe' := Lib.hid hPe
        have hea := Lib.hid (And.intro ea1 (And.intro ea2 ea4))
        have hee := Lib.hid (And.intro ee1 (And.intro ee2 ee4))
        have j1 : (k : Int) < (n : Int) := by omega
        have j2 : (k : Int) + 1 < (n : Int) := by omega
        have j3 : (0 : Int) ≤ (k : Int) := by omega
        have j4 : (0 : Int) ≤ (k : Int) + 1 := by omega
        clear hae hbe hla hlb hPa hPe ea1 ea2 ea4 ee1 ee2 ee4
        have hb4 : b < w4.heap.size := Nat.lt_of_lt_of_le hbz hB4'.out.size
        have ne1 : ¬ b = w4.heap.size := by omega
        have ne2 : ¬ b = w4.heap.size + 1 := by omega
        have ne3 : ¬ w.heap.size = w4.heap.size := by omega
        have ne4 : ¬ w.heap.size = w4.heap.size + 1 := by omega
        go_cut [8, 9] from 43 to 53 (fun s8 s9 wx => ∃ ga gb : Nat, s8 = .pointer (some ⟨ga, 0, none⟩) ∧ s9 = .pointer (some ⟨gb, 0, none⟩) ∧ Below w4.heap.size w4 wx ∧ Hid (wx.heap[ga]? = some (.cells #[.string a1, .string a2, .slice aA an ac, .string a4] 41 (0, 0))) ∧ Hid (wx.heap[gb]? = some (.cells #[.string e1, .string e2, .slice eA en ec, .string e4] 41 (0, 0))))
        case first =>
          go_region
          all_goals
            go_wp2_with fail
            go_meet
          case rel => exact ⟨_, _, rfl, rfl, (((Below.refl _ _).alloc (Nat.le_refl _) _).alloc (by simp) _).drew, Lib.hid (Li.blk_alloc (heap_alloc_new w4 _) _), Lib.hid (alloc_second _ _ _ _ _)⟩
          case rel => exact ⟨_, _, rfl, rfl, (((Below.refl _ _).alloc (Nat.le_refl _) _).alloc (by simp) _).drew, Lib.hid (alloc_second _ _ _ _ _), Lib.hid (Li.blk_alloc (heap_alloc_new w4 _) _)⟩
        case rest =>
          obtain ⟨ga, gb, rfl, rfl, hbc, hka, hkb⟩ := hcut
          obtain ⟨wd, rfl⟩ : ∃ wd, wd = wc := ⟨_, rfl⟩
          clear x0 x1 x2 x3 y0 y1 y2 y3 ne1 ne2 ne3 ne4 hb4
          obtain ⟨p0, p1, p2, p3, _, _, _, _⟩ := Li.res4 hka.out
          obtain ⟨q0, q1, q2, q3, _, _, _, _⟩ := Li.res4 hkb.out
          have hza : ga < wd.heap.size := (Array.getElem?_eq_some_iff.1 hka.out).1
          have hzb : gb < wd.heap.size := (Array.getElem?_eq_some_iff.1 hkb.out).1
          have hma : a ∈ Ls := List.mem_of_getElem? hla'.out
          have hmb : e ∈ Ls := List.mem_of_getElem? hlb'.out
          have cLa := fun W => low_sv hea.out.2.1 W (by have := (hsz'.out a hma).n; omega)
          have cLb := fun W => low_sv hee.out.2.1 W (by have := (hsz'.out e hmb).n; omega)
          obtain ⟨y, ey, hy⟩ := Li.sv_some (Ch.low a.name)
          obtain ⟨y', ey', hy'⟩ := Li.sv_some (Ch.low e.name)
          rw [ey] at cLa
          rw [ey'] at cLb
          have hSS : ∀ W, Below wd.heap.size wd W → Below wd.heap.size wd W ∧ W.cell? ⟨ga, 1, none⟩ = some (.string a2) ∧ W.cell? ⟨gb, 1, none⟩ = some (.string e2) := fun W h =>
            ⟨h, (h.cell (p := ⟨ga, 1, none⟩) hza).trans p1, (h.cell (p := ⟨gb, 1, none⟩) hzb).trans q1⟩
          have hSS' := Lib.hid hSS
          have hyy := Lib.hid (And.intro hy hy')
          clear hSS p0 p1 p2 p3 q0 q1 q2 q3 hma hmb hza hzb ey ey' hy hy'
          go_upto_region 8 with fail
          go_cut [60] from 54 to 60 (fun s60 wx => ∃ bb : Bool, s60 = .bool bb ∧ (bb = true ∨ y ≠ y') ∧ Below wd.heap.size wd wx)
          case first =>
            by_cases hq : y = y'
            · subst hq
              go_region_held3 (fun W => Below wd.heap.size wd W ∧ W.cell? ⟨ga, 1, none⟩ = some (.string a2) ∧ W.cell? ⟨gb, 1, none⟩ = some (.string e2))
                (refine hSS'.out _ ?_ <;> first | exact Below.drew (Below.refl _ _) | assumption | exact keepThen (by assumption) (And.left (by assumption)))
                (first | (go_at_call 20; (first | (with_reducible refine (cLa _).mono ?_) | (with_reducible refine (cLb _).mono ?_)); rintro e wx ⟨rfl, hbx⟩; have hx2 : Below wd.heap.size wd wx := (by first | exact belowThen (Below.drew (Below.refl _ _)) hbx | exact belowThen (by assumption) hbx)))
              all_goals
                go_wp2_with fail
                go_meet
              case rel => exact ⟨true, rfl, .inl rfl, by assumption⟩
            · have hq2 := nListEq hq
              have hq3 := nListEq (fun h => hq h.symm)
              go_region_held3 (fun W => Below wd.heap.size wd W ∧ W.cell? ⟨ga, 1, none⟩ = some (.string a2) ∧ W.cell? ⟨gb, 1, none⟩ = some (.string e2))
                (refine hSS'.out _ ?_ <;> first | exact Below.drew (Below.refl _ _) | assumption | exact keepThen (by assumption) (And.left (by assumption)))
                (first | (go_at_call 20; (first | (with_reducible refine (cLa _).mono ?_) | (with_reducible refine (cLb _).mono ?_)); rintro e wx ⟨rfl, hbx⟩; have hx2 : Below wd.heap.size wd wx := (by first | exact belowThen (Below.drew (Below.refl _ _)) hbx | exact belowThen (by assumption) hbx)))
              all_goals
                go_wp2_with fail
                go_meet
              case rel => exact ⟨false, rfl, .inr hq, by assumption⟩
          case rest =>
            clear cLa cLb hSS'
            obtain ⟨bb, rfl, hor, hb5⟩ := hcut
            have hBd := belowThen hB4'.out hbc
            have hB5 := belowThen hBd hb5
            cases bb with
            | true =>
              go_wp2
              go_ret
              exact ⟨rfl, hB5⟩
            | false =>
              have hne : y ≠ y' := by
                rcases hor with h | h
                · cases h
                · exact h
              have hlow : Ch.low a.name ≠ Ch.low e.name := fun h => hne (bytes_of hyy.out.1 (by rw [hyy.out.2, h]))
              have hka5 := Lib.hid (Li.blk_below hb5 hka.out)
              have hkb5 := Lib.hid (Li.blk_below hb5 hkb.out)
              have hb45 := belowThen hbc hb5
              have hbox5 : wc.cell? ⟨w.heap.size, 0, none⟩ = some (.slice (some ⟨b, off, none⟩) n c) := (hb45.cell (p := ⟨w.heap.size, 0, none⟩) hz4).trans hbox4
              have hz5 : w.heap.size < wc.heap.size := Nat.lt_of_lt_of_le hz4 hb45.size
              have hPa5 := hPa'.out.kept hB5
              have hPe5 := hPe'.out.kept hB5
              obtain ⟨w5, hw5⟩ : ∃ w5, wc.alloc (.cells #[] 41) = w5 := ⟨_, rfl⟩
              have hm5 : Mix wc.heap.size (.slice (some ⟨wc.heap.size, 0, none⟩) 0 0) [] wc w5 := by rw [← hw5]; exact Mix.made (Below.refl _ _) (Nat.le_refl _) (Nat.le_refl _)
              have hbc5 : Below wc.heap.size wc w5 := by rw [← hw5]; exact (Below.refl _ _).alloc (Nat.le_refl _) _
              have hbox6 : w5.cell? ⟨w.heap.size, 0, none⟩ = some (.slice (some ⟨b, off, none⟩) n c) := (hbc5.cell (p := ⟨w.heap.size, 0, none⟩) hz5).trans hbox5
              have hc5 : ∀ t x, (lcells Ls us)[t]? = some x → w5.cell? ⟨b, off + t, none⟩ = some x := fun t x hx => ((belowThen hB5 hbc5).cell (p := ⟨b, off + t, none⟩) hbz).trans (hcell'.out t x hx)
              have hP5 : ∀ (j : Nat) (L : LD) (u : Value), Ls[j]? = some L → us[j]? = some u → PrmsAt wc u L.params := fun j L u hj hu => (hpr'.out j L u hj hu).kept hB5
              have hm5' := Lib.hid hm5
              have hc5' := Lib.hid hc5
              have hP5' := Lib.hid hP5
              have hB5' := Lib.hid hB5
              have hbc5' := Lib.hid hbc5
              have hPa5' := Lib.hid hPa5
              have hPe5' := Lib.hid hPe5
              have hlow' := Lib.hid hlow
              have sz5 := hbc5.size
              clear hm5 hc5 hP5 hB5 hbc5 hPa5 hPe5 hb5 hbc hb45 hBd hor hne hlow hka hkb hbox4 hcell' hpr'
              go_wp2_with (at_builtin; refine mix_append rfl _ _ rfl wc.heap.size _ [] wc rfl hm5'.out (some ⟨b, off, none⟩) b off n c Ls us rfl hn'.out (by rw [hul]; exact hn'.out) (fun _ => rfl) hc5'.out hP5'.out ?i1 sz5 ?_)
              case i1 => omega
              intro v6 w6 hm6 hleft
              have hm6 : Mix wc.heap.size v6 Ls wc w6 := hm6
              have hb56 : Below wc.heap.size wc w6 := hleft _ _ hbc5'.out (Nat.le_refl _) sz5
              obtain ⟨g, cap, cur0, ev, hgB, hgk0, _, _⟩ := hm6.spot4 (j := k) (by rw [hn'.out]; omega)
              rw [hn'.out] at ev
              subst ev
              obtain ⟨db, hdb⟩ : ∃ db, w6.heap.size = db := ⟨_, rfl⟩
              obtain ⟨w7, hw7⟩ : ∃ w7, w6.alloc (.cells #[.slice (some ⟨g, 0, none⟩) n cap] 25) = w7 := ⟨_, rfl⟩
              have hb67 : Below w6.heap.size w6 w7 := by rw [← hw7]; exact (Below.refl _ _).alloc (Nat.le_refl _) _
              have hR7 : LowR wc db (.slice (some ⟨g, 0, none⟩) n cap) Ls w7 := by
                refine ⟨belowThen hb56 hb67, ?_, hm6.kept hb67⟩
                rw [← hw7, ← hdb]; exact heap_alloc_new w6 _
              have q7 : w7.cell? ⟨db, 0, none⟩ = some (.slice (some ⟨g, 0, none⟩) n cap) := by rw [Lib.cell_of_heap hR7.blk]; rfl
              obtain ⟨g', cap', cur, ev, _, hgk, ⟨c0, c1, c2, c3, x0, x1, x2, x3⟩, hfr⟩ := hR7.mix.spot4 (j := k) (by rw [hn'.out]; omega)
              rw [hn'.out] at ev
              injection ev with ev1 _ ev3
              injection ev1 with ev1
              injection ev1 with ev1 _ _
              subst ev1; subst ev3
              have f0 := hfr (k * 4)
              have f1 := hfr (k * 4 + 1)
              have f2 := hfr (k * 4 + 2)
              have f3 := hfr (k * 4 + 3)
              obtain ⟨q0, q1, q2, q3, _, _, _, _⟩ := Li.res4 (Li.blk_below hR7.below hkb5.out)
              have hR8 := hR7.setLine hn'.out (j := k) (by omega) hgB hgk e _ hPe5'.out
              rw [hee.out.1, hee.out.2.1, hee.out.2.2] at hR8
              have hR8' := Lib.hid hR8
              clear hleft hm6 hb56 hgk0 hb67 hR7 hgk hfr hR8 hm5' hc5' hP5'
              go_upto_region 12 with fail
              obtain ⟨w8, hw8⟩ : ∃ w8, ((((w7.setCell ⟨g, k * 4, none⟩ (.string e1)).setCell ⟨g, k * 4 + 1, none⟩ (.string e2)).setCell ⟨g, k * 4 + 2, none⟩ (.slice eA en ec)).setCell ⟨g, k * 4 + 3, none⟩ (.string e4)) = w8 := ⟨_, rfl⟩
              rw [hw8]
              rw [hw8] at hR8'
              clear hw8 q7 q0 q1 q2 q3 x0 x1 x2 x3 f0 f1 f2 f3 hw7
              have hl8 : (Ls.set k e).length = n := by rw [List.length_set]; exact hn'.out
              have q8 : w8.cell? ⟨db, 0, none⟩ = some (.slice (some ⟨g, 0, none⟩) n cap) := by rw [Lib.cell_of_heap hR8'.out.blk]; rfl
              obtain ⟨g', cap', cur2, ev, _, hgk, ⟨c0, c1, c2, c3, x0, x1, x2, x3⟩, hfr⟩ := hR8'.out.mix.spot4 (j := k + 1) (by rw [hl8]; omega)
              rw [hl8] at ev
              injection ev with ev1 _ ev3
              injection ev1 with ev1
              injection ev1 with ev1 _ _
              subst ev1; subst ev3
              have f0 := hfr ((k + 1) * 4)
              have f1 := hfr ((k + 1) * 4 + 1)
              have f2 := hfr ((k + 1) * 4 + 2)
              have f3 := hfr ((k + 1) * 4 + 3)
              obtain ⟨q0, q1, q2, q3, _, _, _, _⟩ := Li.res4 (Li.blk_below hR8'.out.below hka5.out)
              have hR9 := hR8'.out.setLine hl8 (j := k + 1) (by omega) hgB hgk a _ hPa5'.out
              rw [hea.out.1, hea.out.2.1, hea.out.2.2] at hR9
              have hR9' := Lib.hid hR9
              clear hgk hfr hR9 hR8'
              go_upto_region 13 with fail
              obtain ⟨w9, hw9⟩ : ∃ w9, ((((w8.setCell ⟨g, (k + 1) * 4, none⟩ (.string a1)).setCell ⟨g, (k + 1) * 4 + 1, none⟩ (.string a2)).setCell ⟨g, (k + 1) * 4 + 2, none⟩ (.slice aA an ac)).setCell ⟨g, (k + 1) * 4 + 3, none⟩ (.string a4)) = w9 := ⟨_, rfl⟩
              rw [hw9]
              rw [hw9] at hR9'
              clear hw9 q8 q0 q1 q2 q3 x0 x1 x2 x3 f0 f1 f2 f3
              have hR9 := hR9'.out
              have q9 : w9.cell? ⟨db, 0, none⟩ = some (.slice (some ⟨g, 0, none⟩) n cap) := by rw [Lib.cell_of_heap hR9.blk]; rfl
              have hB9 := belowThen hB5'.out hR9.below
              have cP9 := cP'.out _ _ w9 hB9 hR9.mix.at (by rw [swap_pr hla'.out hlb'.out]; omega)
              obtain ⟨s1, s2⟩ := swap_same hla'.out hlb'.out hlow'.out hcm'.out
              rw [s1, s2] at cP9
              have hB9' := Lib.hid hB9
              clear hR9 hB9 s1 s2 hR9'
              go_wp2_with fail
              go_at_call 14
              with_reducible refine cP9.mono ?_
              rintro e0 w10 ⟨⟨t2, ht2, rfl⟩, hb10⟩
              obtain rfl : t2 = t1 := bytes_of ht2 ht1'.out
              have hB10 := Lib.hid (belowThen hB9'.out hb10)
              clear cP9 ht2 hb10
              go_wp2
              go_ret
              exact ⟨rfl, hB10.out⟩
    · have hm2 : ¬ ((cm : Int) = 0) := by omega
      go_wp2
      go_ret
      exact ⟨rfl, hB4'.out⟩
end Go.Proofs.YthnnpnlapjlnoaaGreatDoor.Ca

/-
  CardOrder, the second form: for every card of at most 2^20 bulk and every index the call returns true; the tables of unicode/utf8 hold what their initialisers lay (tied).
-/
set_option linter.unusedVariables false
namespace Go.Proofs.YthnnpnlapjlnoaaGreatDoor.lawCardOrder
open Go.Lib Go.RowKit Go.Shelf Go.ChangeShapes Go.WideShapes Go.ChangeAt Ca
open Go.ChangeMaps (open_string shut_string)

theorem laid_tabs {W : World} (hL : laidMetH Tryz.prog Rows.cardOrderUptoRow.laid W) : Ch.Tabs W :=
  La.tabs_of (La.first_eq ▸ Lib.laidMet.reads hL (.tail _ (.head _))) (La.accept_eq ▸ Lib.laidMet.reads hL (.head _))
/-- A world for the witness: the settled one, the tables holding what their initialisers lay. -/
noncomputable def laidWorld (os : Os) : World :=
  let w0 := World.holding Tryz.prog os ⟨#[], #[], []⟩
  let put (h : Array Obj) (g : Nat) (cs : Array Value) : Array Obj := h.modify g fun
    | .cells _ t frozen => .cells cs t frozen
    | o => o
  let h1 := put w0.heap 0 (Lib.firstTab.map fun z => Value.int .u8 z).toArray
  let h2 := put h1 1 ((List.range 16).flatMap fun i => [Value.int .u8 (Lib.accLo i), Value.int .u8 (Lib.accHi i)]).toArray
  { w0 with heap := h2 }
theorem laid_met (os : Os) (args : Array Value) : laidMet Tryz.prog Rows.cardOrderUptoRow.laid ((laidWorld os).forCall (fun _ _ => 0) ⟨#[], args, []⟩).memory :=
  (LaidIn.of_run (l := Rows.cardOrderUptoRow.laid) [1, 0] 8 (by kernel_rfl) (by kernel_rfl) (by kernel_rfl) (by kernel_rfl)).met

theorem witness_row (os : Os) {H : Type} (enc : TypeId × Value → H) :
    (Rows.OpenSpec.upto Rows.cardOrderSpec).preRow enc Tryz.prog Tryz.f6 Rows.cardOrderUptoRow.domain false Rows.cardOrderUptoRow.laid ((laidWorld os).forCall (fun _ _ => 0) ⟨#[], #[.agg #[.slice none 0 0], .int .i64 0], []⟩).memory #[.agg #[.slice none 0 0], .int .i64 0] := by
  have hw : (DataW.whole enc Tryz.prog ((laidWorld os).forCall (fun _ _ => 0) ⟨#[], #[.agg #[.slice none 0 0], .int .i64 0], []⟩).memory Tryz.f6.params.toList Rows.cardOrderSpec.vars false (#[Value.agg #[.slice none 0 0], Value.int .i64 0] : Array Value).toList 8).map (fun x => (x.1, x.2.1)) =
      some ([.agg [.nil], .lit (.int .i64 0)], []) := by kernel_rfl
  obtain ⟨⟨x1, x2, x3⟩, hx, hx1⟩ := Option.map_eq_some_iff.1 hw
  simp only [Prod.mk.injEq] at hx1
  obtain ⟨rfl, rfl⟩ := hx1
  exact OpenSpec.preRow_of_cond 8 hx (by kernel_rfl) (fun k hk => by cases hk; kernel_rfl) (by kernel_rfl) (laid_met os _)

set_option maxRecDepth 100000 in
set_option maxHeartbeats 2000000 in
theorem lifted (os : Os) (started : os.Started) (H : Type) (enc : TypeId × Value → H) (F : Stop.Interp) :
    ReturnsInHanded {} Tryz.checked os 6 .any ((Rows.OpenSpec.upto Rows.cardOrderSpec).preRow enc Tryz.prog Tryz.f6 Rows.cardOrderUptoRow.domain false Rows.cardOrderUptoRow.laid) (((Rows.OpenSpec.upto Rows.cardOrderSpec).at F).post enc Tryz.prog Tryz.f6 false true false false) := by
  refine returnsInHanded_of_row (C := Tryz.checked) (s := (Rows.OpenSpec.upto Rows.cardOrderSpec)) La.own started (by kernel_rfl) Tryz.func6
    (witness_row_atRef (enc := enc) (C := Tryz.checked) false (laidWorld os) #[.agg #[.slice none 0 0], .int .i64 0] rfl (by kernel_rfl) (by kernel_rfl) (by kernel_rfl) (witness_row os enc)) ?_
  intro W base args ds gs before hval0 hW _ hcond hsz hL hsh _
  have hval : ∀ (j : Nat) t v, Tryz.f6.params[j]? = some t → args[j]? = some v → Value.okWide Tryz.prog W .any base t v := hval0
  have hW' := hW
  obtain ⟨p, q, hA0, hV0, rfl, _, _⟩ := hW
  have hA : DataW.TrodAll enc Tryz.prog W 0 (fun _ => true) true Tryz.f6.params.toList args.toList ds p := hA0
  rw [Tryz.params6] at hA hval
  obtain ⟨v0, v1, d0, d1, p0, p1, rfl, rfl, rfl, h0, h1⟩ := trodAll_two hA
  obtain ⟨rfl, rfl⟩ := trodVars_none hV0
  have hWlt := hW'.lt
  obtain ⟨cv0, L0, rfl, lv0, lb0⟩ := La.card_open (hval 0 25 v0 rfl rfl) h0
  obtain ⟨s1, rfl, rfl, rfl, ws1⟩ := open_int Tryz.underlying3 (hval 1 3 v1 rfl rfl) h1
  have hbulk := La.bulk_all (hcond _ rfl)
  have u0 : La.bulkC L0 ≤ 1048576 := by have h := Nat.le_trans (La.bulk_le (d := d0) (by simp)) hbulk; omega
  clear hA0 hV0 hval0 hsz
  refine (order_walk cv0 L0 s1 W lv0 (by have := La.prsum_bulk L0; omega) (laid_tabs hL)).mono ?_
  rintro e W' ⟨rfl, bel⟩
  have e1 : ((Rows.OpenSpec.upto Rows.cardOrderSpec).at F).fn H ([d0, .lit (.int .i64 s1)] ++ []) = { results := [.lit (.bool true)], args := [d0, .lit (.int .i64 s1)] } := rfl
  refine ⟨_, rfl, La.post_left (pa := p0 ++ ([])) (pv := []) hW' ?_ ?_ ?_ (by simp) bel rfl⟩
  · intro b sp hd; rw [e1]; exact trodAll_mk1 (shut_bool Tryz.underlying4 _)
  · rw [e1]; exact trodAll_mk2 (Below.trod La.laidOut (by kernel_rfl) (of_decide_eq_true (by kernel_rfl)) h0 bel (fun q hq => hWlt q (by simp [hq]))) (shut_int Tryz.underlying3 ws1)
  · rw [e1]; rfl

theorem said : Rows.CardOrderUptoSaid :=
  OpenClaim.holds_of_cond 6 Tryz.f6 rfl rfl rfl rfl rfl rfl rfl ⟨rfl, rfl, rfl, rfl, rfl⟩ rfl rfl rfl rfl rfl (by kernel_rfl) Tryz.func6 (by kernel_rfl)
    (of_decide_eq_true (by kernel_rfl)) (by unfold Func.isWrapper; rw [if_neg (of_decide_eq_false (by kernel_rfl))]; exact ⟨rfl, rfl⟩)
    (fun os started H enc _ F => by rw [OpenClaim.pre_eq_preRow]; exact lifted os started H enc F)

/-- No parameter wants a stand-in; the program's own looks are off. -/
theorem plain (f : FuncId) (fn : Func) (hf : Tryz.pinned.checked.prog.funcNamed Rows.cardOrderUptoRow.func = some f) (hfn : Tryz.pinned.checked.prog.funcs[f]? = some fn) :
    false = Tryz.pinned.checked.prog.looks [] ∧ ∀ (j : Nat) t, fn.params[j]? = some t → Tryz.pinned.checked.prog.wantsStandIn t = false := by
  obtain rfl : f = 6 := Option.some.inj ((show Tryz.prog.funcNamed Rows.cardOrderUptoRow.func = some 6 by kernel_rfl).symm.trans hf) |>.symm
  obtain rfl : fn = Tryz.f6 := (Option.some.inj (Tryz.func6.symm.trans hfn)).symm
  refine ⟨by kernel_rfl, fun j t ht => ?_⟩
  rw [Tryz.params6] at ht
  have ht' : t = 25 ∨ t = 3 := by simpa using Array.mem_of_getElem? ht
  rcases ht' with rfl | rfl
  · exact (show Tryz.prog.wantsStandIn 25 = false by kernel_rfl)
  · exact (show Tryz.prog.wantsStandIn 3 = false by kernel_rfl)

theorem card : Rows.CardOrderUptoCardSaid :=
  Claim7.holds_tied_plain_at .later [] _ _ _ _ said (fun _ h => by cases h) (by kernel_rfl) (fun _ h => by cases h) cardOrderUpto_row_tie rfl ⟨rfl, rfl⟩ (by kernel_rfl) rfl plain (by kernel_rfl)
end Go.Proofs.YthnnpnlapjlnoaaGreatDoor.lawCardOrder
