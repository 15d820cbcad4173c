/-
  THE WALK OF THE REFERENCE's Lines: the canonical lines of a card, or the error.
-/
import Derived.Test.YthnnpnlapjlnoaaGreatDoorCardSrcLine
import Derived.Test.YthnnpnlapjlnoaaGreatDoorLineRefCheck
import Derived.Test.YthnnpnlapjlnoaaGreatDoorLineRefCanon
import Derived.Test.YthnnpnlapjlnoaaGreatDoorMgC
set_option linter.unusedVariables false
namespace Go.Proofs.YthnnpnlapjlnoaaGreatDoor.Ca
open Go.Lib Go.RowKit
open Li (LD PD sv POwn LOwn LineAt PrmsAt chk pr canL canP)

theorem byte_is {x y : ByteArray} (h : x.data.toList = y.data.toList) : x = y := by
  cases x; cases y
  simp only [Array.toList_inj] at h
  rw [h]
theorem sv_is {l : Row} {x : ByteArray} (h : sv l = .string x) : x.data.toList = l := sv_size h
theorem dup_next (A : List LD) (C o : LD) (j : Nat) (h : A[j]? = some o) : dupL (A.take (j + 1)) C = (dupL (A.take j) C || (decide (o.name = C.name) && among C.name sONCE)) := by
  obtain ⟨hl, hv⟩ := List.getElem?_eq_some_iff.1 h
  unfold dupL
  rw [List.take_succ_eq_append_getElem hl, hv, List.any_append]
  simp
theorem anew_kind {v : Row} : (anew nKIND v).1 = v := by
  have h1 : among nKIND sFN = false := by decide
  have h2 : among nKIND sCAT = false := by decide
  have h3 : among nKIND sN = false := by decide
  unfold anew
  simp [h1, h2, h3]
theorem filt_next {p : LD → Bool} (O : List LD) (M : LD) (j : Nat) (h : O[j]? = some M) : (O.take (j + 1)).filter p = if p M = true then (O.take j).filter p ++ [M] else (O.take j).filter p := by
  obtain ⟨hl, hv⟩ := List.getElem?_eq_some_iff.1 h
  rw [List.take_succ_eq_append_getElem hl, hv, List.filter_append]
  by_cases c : p M = true
  · rw [if_pos c]; simp [c]
  · rw [if_neg c]; simp [c]
theorem pick_next (last : Row) (O : List LD) (M : LD) (j : Nat) (h : O[j]? = some M) : pick keyL last (O.take (j + 1)) = if (lt last (keyL M) && (match pick keyL last (O.take j) with | none => true | some m => lt (keyL M) m)) = true then some (keyL M) else pick keyL last (O.take j) := by
  obtain ⟨hl, hv⟩ := List.getElem?_eq_some_iff.1 h
  unfold pick
  rw [List.take_succ_eq_append_getElem hl, hv, List.foldl_append]
  rfl
theorem gtr_key (x y : Row) : (!(Op.bytesLess x y || x == y)) = Op.bytesLess y x := by
  cases h1 : Op.bytesLess y x with
  | true =>
    have h2 : Op.bytesLess x y = false := lt_asymm y x h1
    have h3 : (x == y) = false := beq_eq_false_iff_ne.2 (fun e => by
      subst e
      have := lt_irrefl x
      unfold lt at this
      rw [this] at h1; cases h1)
    rw [h2, h3]; rfl
  | false =>
    cases h2 : Op.bytesLess x y with
    | true => rfl
    | false =>
      have h3 : x = y := lt_or x y h2 h1
      subst h3
      simp
theorem gtr_is (t : TypeId) (x y : ByteArray) {B : Bool} (h : Op.bytesLess y.toList x.toList = B) : binOp .gtr t (.string x) (.string y) = pure (.bool B) := by
  rw [← h, ← gtr_key]
  simp [binOp, Op.stringOp]
/-- the bytes of a string -/
def strB : Value → Row
  | .string s => s.data.toList
  | _ => []
/-- the lines named FN -/
def fnsL (O : List LD) : List LD := O.filter fun L => decide (L.name = nFN)
theorem rise_none {last : Row} {O : List LD} (f : Nat) (h : pick keyL last O = none) : riseF keyL f last O = [] := by
  cases f with
  | zero => rfl
  | succ f => unfold riseF; rw [h]
theorem rise_some {last m : Row} {O : List LD} {f : Nat} (h : pick keyL last O = some m) (hc : O.countP (fun x => lt last (keyL x)) ≤ f) : ∃ g, f = g + 1 ∧ riseF keyL f last O = O.filter (fun x => decide (keyL x = m)) ++ riseF keyL g m O ∧ O.countP (fun x => lt m (keyL x)) ≤ g := by
  have h1 := count_less keyL h
  cases f with
  | zero => omega
  | succ g => exact ⟨g, rfl, by conv => lhs; unfold riseF; rw [h], by omega⟩
theorem key_iff {last m : Row} {O : List LD} (h : pick keyL last O = some m) (M : LD) : keyL M = m ↔ M.name = m := by
  obtain ⟨⟨x, hx, hk⟩, hl, _⟩ := pick_some keyL h
  have hm0 : m ≠ [] := fun e => by rw [e, lt_nil] at hl; cases hl
  have hmF : m ≠ nFN := fun e => by
    by_cases c : x.name = nFN
    · rw [keyL_fn c] at hk; exact hm0 hk.symm
    · rw [keyL_own c] at hk; exact c (hk.trans e)
  constructor
  · intro e
    by_cases c : M.name = nFN
    · rw [keyL_fn c] at e; exact absurd e.symm hm0
    · rwa [keyL_own c] at e
  · intro e
    rw [keyL_own (by rw [e]; exact hmF)]; exact e
theorem one_lc {w8 : World} {g : Nat} {L : LD} {a1 a2 a4 : ByteArray} {A : Option Addr} {n c : Nat} (hk8 : w8.heap[g]? = some (.cells #[.string a1, .string a2, .slice A n c, .string a4] 41 (0, 0))) (h1 : sv L.group = .string a1) (h2 : sv L.name = .string a2) (h4 : sv L.value = .string a4) : ∀ t x, (lcells [L] [.slice A n c])[t]? = some x → w8.cell? ⟨g, 0 + t, none⟩ = some x := by
  have e : lcells [L] [.slice A n c] = [.string a1, .string a2, .slice A n c, .string a4] := by rw [← h1, ← h2, ← h4]; rfl
  rw [e]
  intro t x hx
  rw [Lib.cell_of_heap hk8, Nat.zero_add]
  match t, hx with
  | 0, hx => simpa using hx
  | 1, hx => simpa using hx
  | 2, hx => simpa using hx
  | 3, hx => simpa using hx
theorem one_pr {wp : World} {L : LD} {A : Option Addr} {n c : Nat} (h : PrmsAt wp (.slice A n c) L.params) : ∀ (j : Nat) (M : LD) (u : Value), [L][j]? = some M → [Value.slice A n c][j]? = some u → PrmsAt wp u M.params := fun j M u hj hu => by
  match j, hj, hu with
  | 0, hj, hu => simp at hj hu; subst hj; subst hu; exact h
/-- what the reference's Lines answers -/
def RefLinesP (Ls : List LD) (e : Ending) (w : World) : Prop :=
  (checkE Ls ≠ 0 ∧ e = .returned (.tuple #[.slice none 0 0, .int .i64 (checkE Ls : Int)])) ∨ (checkE Ls = 0 ∧ ∃ u, e = .returned (.tuple #[u, .int .i64 0]) ∧ LinesAt w u (canC Ls))

set_option maxHeartbeats 8000000 in
set_option maxRecDepth 100000 in
theorem lines_any (v : Value) (Ls : List LD) (w : World) (h : LinesAt w v Ls) (hS : prsum Ls ≤ 67108864) :
    Calls Tryz.prog 13 #[.agg #[v]] w fun e w' => RefLinesP Ls e w' ∧ Below w.heap.size w w' := by
  obtain ⟨n, hn⟩ : ∃ n, Ls.length = n := ⟨_, rfl⟩
  have hnl : n ≤ 67108864 := by have := prsum_len Ls; omega
  have hsz : ∀ L ∈ Ls, Li.SzL 67108864 L := fun L hL => Li.sz_pr (N := 67108864) (by have := prsum_mem hL; omega)
  have hsm : ∀ L ∈ Ls, Li.SmallL L := fun L hL => Li.small_pr (by have := prsum_mem hL; omega)
  obtain ⟨A, b, off, c, us, rfl, hul, hA, hcell, hpr⟩ := h.src
  rw [hn] at hA
  obtain ⟨w1, hw1⟩ : ∃ w1, w.alloc (.cells #[.slice A Ls.length c] 25) = w1 := ⟨_, rfl⟩
  have hB1 : Below w.heap.size w w1 := by rw [← hw1]; exact (Below.refl _ _).alloc (Nat.le_refl _) _
  have hbox : w1.cell? ⟨w.heap.size, 0, none⟩ = some (.slice A Ls.length c) := by rw [← hw1]; simp
  have hz1 : w.heap.size < w1.heap.size := by rw [← hw1]; simp
  rw [hn] at hbox hw1 ⊢
  have hpr' := Lib.hid hpr
  have hcell' := Lib.hid hcell
  have hA' := Lib.hid hA
  have hsz' := Lib.hid hsz
  have hsm' := Lib.hid hsm
  have hn' := Lib.hid hn
  have hB1' := Lib.hid hB1
  clear hpr hcell hA hsz hsm hn hB1
  go_enter Tryz.func13, Tryz.ntmps13
  go_wp2_with fail
  try rw [hw1]
  go_loopw [28] (fun s28 wr => ∃ k : Nat, s28 = .int .i64 (k : Int) ∧ k ≤ n ∧ Hid (∀ M ∈ Ls.take k, chk M = 0) ∧ Hid (Below w1.heap.size w1 wr)) (fun s28 wr => n - (RowKit.intOf s28).toNat)
  case atStart => exact ⟨0, rfl, Nat.zero_le _, Lib.hid (fun L hL => by simp at hL), Lib.hid (Below.refl _ _)⟩
  case round =>
    obtain ⟨k, rfl, hk, hall, hbw⟩ := hrel
    by_cases hlt : k < n
    · have hl : Ls[k]? = some (Ls[k]'(by have := hn'.out; omega)) := List.getElem?_eq_getElem _
      obtain ⟨L, hle⟩ : ∃ L, Ls[k]'(by have := hn'.out; omega) = L := ⟨_, rfl⟩
      have hmem : L ∈ Ls := by rw [← hle]; exact List.getElem_mem _
      rw [hle] at hl
      obtain ⟨rfl, hbz⟩ := hA'.out (by omega)
      have hBr := belowThen hB1'.out hbw.out
      obtain ⟨a1, a2, a4, pA, pn, pc, e1, e2, e4, hP, g0, g1, g2, g3⟩ := line_src hul hcell'.out hpr'.out hbz hBr hl
      obtain ⟨w6, hw6⟩ : ∃ w6, wr.alloc (.cells #[.string a1, .string a2, .slice pA pn pc, .string a4] 41) = w6 := ⟨_, rfl⟩
      have hb6 : Below wr.heap.size wr w6 := by rw [← hw6]; exact (Below.refl _ _).alloc (Nat.le_refl _) _
      have hk6 : w6.heap[wr.heap.size]? = some (.cells #[.string a1, .string a2, .slice pA pn pc, .string a4] 41 (0, 0)) := by rw [← hw6]; exact heap_alloc_new wr _
      obtain ⟨q0, q1, q2, q3, _, _, _, _⟩ := Li.res4 hk6
      have cK := Li.refCheck_any (.agg #[.string a1, .string a2, .slice pA pn pc, .string a4]) L w6 ⟨.slice pA pn pc, by rw [e1, e2, e4], hP.kept (belowThen hBr hb6)⟩ (hsm'.out L hmem)
      have hlk : k < Ls.length := (List.getElem?_eq_some_iff.1 hl).1
      have hall2 : chk L = 0 → ∀ M ∈ Ls.take (k + 1), chk M = 0 := fun h0 M hM => by
        rw [List.take_succ_eq_append_getElem hlk] at hM
        rcases List.mem_append.1 hM with hM | hM
        · exact hall.out M hM
        · rw [List.mem_singleton.1 hM, hle]; exact h0
      have hbad := fun (hc : chk L ≠ 0) => checkE_bad hl hall.out hc
      obtain ⟨ce, hce⟩ : ∃ ce, chk L = ce := ⟨_, rfl⟩
      rw [hce] at cK hall2 hbad
      have hall2' := Lib.hid hall2
      have hbad' := Lib.hid hbad
      have hb16 := Lib.hid (belowThen hbw.out hb6)
      clear hle hl hmem e1 e2 e4 hP hBr hb6 hall2 hbad hce hlk hk6
      go_wp2_with fail
      go_at_call 33
      with_reducible refine cK.mono ?_
      rintro e w7 ⟨rfl, hb7⟩
      have hb17 := belowThen hb16.out hb7
      clear cK hb7
      by_cases hc : ce = 0
      · subst hc
        have hR := Lib.hid hb17
        clear hb17
        go_wp2_with fail
        go_roundw
        case rel => exact ⟨k + 1, by go_num, by omega, Lib.hid (hall2'.out (by trivial)), hR⟩
        case measure => simp [RowKit.intOf]; omega
      · have d0 : ¬ (ce : Int) = 0 := by omega
        have d0' : ((ce : Int) == 0) = false := beq_eq_false_iff_ne.2 d0
        have hfin : Hid (RefLinesP Ls (.returned (.tuple #[.slice none 0 0, .int .i64 (ce : Int)])) w7 ∧ Below w.heap.size w w7) := Lib.hid ⟨.inl ⟨by rw [hbad'.out hc]; exact hc, by rw [hbad'.out hc]⟩, belowThen hB1'.out hb17⟩
        clear hb17
        go_wp2
        exact bodyPost_ret (v := .tuple #[.slice none 0 0, .int .i64 (ce : Int)]) (by simp [results, Tryz.results13, go_sem]) rfl hfin.out
    · have ek : k = n := by omega
      have htk : Ls.take k = Ls := List.take_of_length_le (by have := hn'.out; omega)
      have hall0 := hall.out
      rw [htk] at hall0
      have hbx2 : wr.cell? ⟨w.heap.size, 0, none⟩ = some (.slice A n c) := (hbw.out.cell (p := ⟨w.heap.size, 0, none⟩) hz1).trans hbox
      have hBA := belowThen hB1'.out hbw.out
      obtain ⟨wA, rfl⟩ : ∃ wA, wA = wr := ⟨_, rfl⟩
      have hall0' := Lib.hid hall0
      have hBA' := Lib.hid hBA
      clear hall hall0 hBA hbw hbox htk
      go_wp2_with fail
      clear hbx2
      go_loopw [7, 8, 41] (fun s7 s8 s41 wr => ∃ k : Nat, s41 = .int .i64 (k : Int) ∧ k ≤ n ∧ s8 = .bool (badTo Ls k) ∧ Hid (LsOwn wA.heap.size s7 ((Ls.take k).map can1) wr) ∧ Hid (Below wA.heap.size wA wr)) (fun s7 s8 s41 wr => n - (RowKit.intOf s41).toNat)
      case atStart => exact ⟨0, rfl, Nat.zero_le _, rfl, Lib.hid (LsOwn.nil _ _), Lib.hid (Below.refl _ _)⟩
      case round =>
        clear hk ek
        obtain ⟨k, rfl, hk, rfl, hown, hbw⟩ := hrel
        by_cases hlt : k < n
        · have hl : Ls[k]? = some (Ls[k]'(by have := hn'.out; omega)) := List.getElem?_eq_getElem _
          obtain ⟨L, hle⟩ : ∃ L, Ls[k]'(by have := hn'.out; omega) = L := ⟨_, rfl⟩
          have hmem : L ∈ Ls := by rw [← hle]; exact List.getElem_mem _
          rw [hle] at hl
          obtain ⟨rfl, hbz⟩ := hA'.out (by omega)
          have hBr := belowThen hBA'.out hbw.out
          obtain ⟨a1, a2, a4, pA, pn, pc, e1, e2, e4, hP, g0, g1, g2, g3⟩ := line_src hul hcell'.out hpr'.out hbz hBr hl
          have hzL := hsz'.out L hmem
          obtain ⟨w6, hw6⟩ : ∃ w6, wr.alloc (.cells #[.string a1, .string a2, .slice pA pn pc, .string a4] 41) = w6 := ⟨_, rfl⟩
          have hb6 : Below wr.heap.size wr w6 := by rw [← hw6]; exact (Below.refl _ _).alloc (Nat.le_refl _) _
          have hk6 : w6.heap[wr.heap.size]? = some (.cells #[.string a1, .string a2, .slice pA pn pc, .string a4] 41 (0, 0)) := by rw [← hw6]; exact heap_alloc_new wr _
          have cN := Li.refCanon_any (.agg #[.string a1, .string a2, .slice pA pn pc, .string a4]) L w6 ⟨.slice pA pn pc, by rw [e1, e2, e4], hP.kept (belowThen hBr hb6)⟩ (by have := hzL.g; omega) (by have := hzL.n; omega) (fun p hp => by have := hzL.pn p hp; omega) (by have := hzL.k; omega) (fun p hp => by have := hzL.pk p hp; omega)
          obtain ⟨b1, eb1, hb1⟩ := Li.sv_some (canL L).group
          obtain ⟨b2, eb2, hb2⟩ := Li.sv_some (canL L).name
          have cN2 : Calls Tryz.prog 34 #[.agg #[.string a1, .string a2, .slice pA pn pc, .string a4]] w6 fun e w' => (∃ qA qn qc, e = .returned (.agg #[.string b1, .string b2, .slice qA qn qc, .string a4]) ∧ POwn w6.heap.size (.slice qA qn qc) (canL L).params w') ∧ Below w6.heap.size w6 w' :=
            cN.mono fun e w' ⟨⟨u, he, qv, hu, hq⟩, hb⟩ => ⟨by
              obtain ⟨qA, qc, hqf⟩ := hq.form
              refine ⟨qA, _, qc, ?_, hqf ▸ hq⟩
              rw [he, hu, eb1, eb2, hqf, show (canL L).value = L.value from rfl, e4], hb⟩
          obtain ⟨bl, hbl⟩ : ∃ bl, wr.heap.size = bl := ⟨_, rfl⟩
          rw [hbl] at hk6
          have hd := Lib.hid (And.intro hb2 (And.intro eb1 (And.intro eb2 e4)))
          have hl' := Lib.hid hl
          have hzL' := Lib.hid hzL
          have hb6' := Lib.hid hb6
          have hk6' := Lib.hid hk6
          obtain ⟨q0, q1, q2, q3, _, _, _, _⟩ := Li.res4 hk6
          have hk6s : bl < w6.heap.size := (Array.getElem?_eq_some_iff.1 hk6).1
          clear hle hl hmem e1 e2 e4 hP hBr hb6 hk6 cN eb1 eb2 hb1 hb2 hzL
          go_wp2_with fail
          go_at_call 34
          with_reducible refine cN2.mono ?_
          rintro e w7 ⟨⟨qA, qn, qc, rfl, hq⟩, hb7⟩
          have hk7 := Li.blk_below hb7 hk6'.out
          have hb67 := belowThen hb6'.out hb7
          obtain ⟨x0, x1, x2, x3, f0, f1, f2, f3⟩ := Li.res4 hk7
          obtain ⟨w8, hw8⟩ : ∃ w8, (((w7.setCell ⟨bl, 0, none⟩ (.string b1)).setCell ⟨bl, 1, none⟩ (.string b2)).setCell ⟨bl, 2, none⟩ (.slice qA qn qc)).setCell ⟨bl, 3, none⟩ (.string a4) = w8 := ⟨_, rfl⟩
          have hk8 : w8.heap[bl]? = some (.cells #[.string b1, .string b2, .slice qA qn qc, .string a4] 41 (0, 0)) := by rw [← hw8]; exact Li.set4_blk hk7 _ _ _ _
          have hb8 : Below wr.heap.size wr w8 := by
            rw [← hw8, ← hbl]
            exact (((hb67.setCell (p := ⟨wr.heap.size, 0, none⟩) (Nat.le_refl _) _).setCell (p := ⟨wr.heap.size, 1, none⟩) (Nat.le_refl _) _).setCell (p := ⟨wr.heap.size, 2, none⟩) (Nat.le_refl _) _).setCell (p := ⟨wr.heap.size, 3, none⟩) (Nat.le_refl _) _
          have hq8 : POwn w6.heap.size (.slice qA qn qc) (canL L).params w8 := by
            rw [← hw8]
            exact (((hq.stored (a := ⟨bl, 0, none⟩) hk6s _).stored (a := ⟨bl, 1, none⟩) hk6s _).stored (a := ⟨bl, 2, none⟩) hk6s _).stored (a := ⟨bl, 3, none⟩) hk6s _
          have hk8' := Lib.hid hk8
          have hb8' := Lib.hid hb8
          have hq8' := Lib.hid hq8
          clear hk7 hb67 hk8 hb8 hq8 hq hb7 cN2
          go_upto_region 14 with fail
          clear x0 x1 x2 x3 f0 f1 f2 f3 hw8
          obtain ⟨z0, z1, z2, z3, _, _, _, _⟩ := Li.res4 hk8'.out
          have ha4 : a4.data.toList = L.value := sv_is hd.out.2.2.2
          have cAn := anew_any b2 a4 w8 (by have h9 : a4.size = a4.data.toList.length := (Array.length_toList).symm; rw [h9, ha4]; have := hzL'.out.v; omega)
          rw [hd.out.1, ha4] at cAn
          obtain ⟨ok, hok⟩ : ∃ ok, (anew (canL L).name L.value).2 = ok := ⟨_, rfl⟩
          have cAn2 : Calls Tryz.prog 35 #[.string b2, .string a4] w8 fun e w' => (∃ x : ByteArray, x.data.toList = (can1 L).value ∧ e = .returned (.tuple #[.string x, .bool ok])) ∧ Below w8.heap.size w8 w' := cAn.mono fun e w' ⟨⟨x, h1, h2⟩, h3⟩ => ⟨⟨x, h1, by rw [h2, hok]⟩, h3⟩
          have hok' := Lib.hid hok
          have ha4' := Lib.hid ha4
          clear cAn hok ha4
          go_wp2_with fail
          go_at_call 35
          with_reducible refine cAn2.mono ?_
          rintro e w9 ⟨⟨x, hx, rfl⟩, hb9⟩
          have hk9 := Li.blk_below hb9 hk8'.out
          have hb99 := belowThen hb8'.out hb9
          have hq9 := hq8'.out.kept hb9
          obtain ⟨y0, y1, y2, y3, g0, g1, g2, g3⟩ := Li.res4 hk9
          obtain ⟨wX, hwX⟩ : ∃ wX, w9.setCell ⟨bl, 3, none⟩ (.string x) = wX := ⟨_, rfl⟩
          have hkX : wX.heap[bl]? = some (.cells #[.string b1, .string b2, .slice qA qn qc, .string x] 41 (0, 0)) := by
            rw [← hwX]; simp [World.setCell, Array.getElem?_modify, hk9]
          have hbX : Below wr.heap.size wr wX := by
            rw [← hwX, ← hbl]
            exact hb99.setCell (p := ⟨wr.heap.size, 3, none⟩) (Nat.le_refl _) _
          have hqX : POwn w6.heap.size (.slice qA qn qc) (canL L).params wX := by
            rw [← hwX]; exact hq9.stored (a := ⟨bl, 3, none⟩) hk6s _
          have hkX' := Lib.hid hkX
          have hbX' := Lib.hid hbX
          have hqX' := Lib.hid hqX
          have hx' := Lib.hid hx
          clear hk9 hb99 hq9 hkX hbX hqX hb9 cAn2 z0 z1 z2 z3 hx
          go_upto_region 16 with fail
          clear y0 y1 y2 y3 g0 g1 g2 g3 hwX
          obtain ⟨bd, hbd⟩ : ∃ bd, badTo Ls k = bd := ⟨_, rfl⟩
          obtain ⟨bL, hbL⟩ : ∃ bL, badL L = bL := ⟨_, rfl⟩
          rw [hbd]
          have hbdL := Lib.hid (And.intro hbd hbL)
          clear hbd hbL
          go_cut [8] from 57 to 87 (fun s8 wx => s8 = .bool (bd || bL) ∧ Below wX.heap.size wX wx)
          case first =>
            have hbl2 : bL = (!ok || (among b2.data.toList sBAD || ((decide (b2.data.toList = nUID) && decide (x.data.toList = [])) || (decide (b2.data.toList = nKIND) && !among (Ch.low x.data.toList) sKINDS)))) := by
              rw [← hbdL.out.2]; unfold badL; rw [hok'.out, hd.out.1, hx'.out]
            obtain ⟨p0, p1, p2, p3, _, _, _, _⟩ := Li.res4 hkX'.out
            have c1 := fun W => one_any b2 ⟨#[66, 69, 71, 73, 78, 32, 69, 78, 68, 32, 86, 69, 82, 83, 73, 79, 78]⟩ W (by decide)
            have c2 := fun y W => one_any y ⟨#[105, 110, 100, 105, 118, 105, 100, 117, 97, 108, 32, 103, 114, 111, 117, 112, 32, 111, 114, 103, 32, 108, 111, 99, 97, 116, 105, 111, 110]⟩ W (by decide)
            have sB : (⟨#[66, 69, 71, 73, 78, 32, 69, 78, 68, 32, 86, 69, 82, 83, 73, 79, 78]⟩ : ByteArray).data.toList = sBAD := rfl
            have sK : (⟨#[105, 110, 100, 105, 118, 105, 100, 117, 97, 108, 32, 103, 114, 111, 117, 112, 32, 111, 114, 103, 32, 108, 111, 99, 97, 116, 105, 111, 110]⟩ : ByteArray).data.toList = sKINDS := rfl
            rw [sB] at c1
            rw [sK] at c2
            have hT1 := Lib.toList_data b2
            have hbl2' := Lib.hid hbl2
            clear hbl2 sB sK
            cases bd with
            | true =>
              go_wp2_with fail
              go_meet
              case rel => exact ⟨by simp, Below.refl _ _⟩
            | false =>
              cases ok with
              | false =>
                go_wp2_with fail
                go_meet
                case rel => exact ⟨by rw [hbl2'.out]; simp, Below.refl _ _⟩
              | true =>
                obtain ⟨am, ham⟩ : ∃ am, among b2.data.toList sBAD = am := ⟨_, rfl⟩
                have ham' := Lib.hid ham
                rw [ham] at c1
                clear ham
                go_wp2_with fail
                go_at_call 36
                with_reducible refine (c1 _).mono ?_
                rintro e wy ⟨rfl, rfl⟩
                clear c1
                cases am with
                | true =>
                  go_wp2_with fail
                  go_meet
                  case rel => exact ⟨by rw [hbl2'.out, ham'.out]; simp, Below.refl _ _⟩
                | false =>
                  by_cases hU : b2.toList = [85, 73, 68]
                  · have hU1 : b2.data.toList = nUID := by rw [← hT1]; exact hU
                    have hK1 : ¬ b2.data.toList = nKIND := by rw [hU1]; decide
                    have hbl3 := hbl2'.out
                    rw [ham'.out, decide_eq_true hU1, decide_eq_false hK1] at hbl3
                    have hbl3' := Lib.hid hbl3
                    have hU' := hU
                    clear hbl3 hT1 hU1 hK1
                    by_cases hx0 : x.size = 0
                    · have hx1 : x.data.toList = [] := List.eq_nil_of_length_eq_zero (by rw [Array.length_toList]; exact hx0)
                      have hx1' := Lib.hid hx1
                      clear hx1
                      go_wp2_with fail
                      go_meet
                      case rel => exact ⟨by rw [hbl3'.out, hx1'.out]; simp, Below.refl _ _⟩
                    · have hx1 : ¬ x.data.toList = [] := fun e => hx0 (by show x.data.size = 0; rw [← Array.length_toList, e]; rfl)
                      have hx1' := Lib.hid hx1
                      have hx2 : ((x.size : Int) == 0) = false := beq_eq_false_iff_ne.2 (by omega)
                      clear hx1
                      go_wp2_with fail
                      go_meet
                      case rel => exact ⟨by rw [hbl3'.out, decide_eq_false hx1'.out]; simp, Below.refl _ _⟩
                  · have hU2 : (b2.toList == [85, 73, 68]) = false := beq_eq_false_iff_ne.2 hU
                    have hU1 : ¬ b2.data.toList = nUID := by rw [← hT1]; exact hU
                    by_cases hK : b2.toList = [75, 73, 78, 68]
                    · have hK1 : b2.data.toList = nKIND := by rw [← hT1]; exact hK
                      have hbl3 := hbl2'.out
                      rw [ham'.out, decide_eq_false hU1, decide_eq_true hK1] at hbl3
                      have hxl : x.data.toList.length ≤ 67108864 := by
                        have e1 : (can1 L).value = L.value := by
                          show (anew (canL L).name L.value).1 = _
                          rw [← hd.out.1, hK1]; exact anew_kind
                        rw [hx'.out, e1]; exact hzL'.out.v
                      have cLx := fun W => low_sv (l := x.data.toList) (x := x) (by show Value.string ⟨x.data.toList.toArray⟩ = _; rw [Array.toArray_toList]) W (by omega)
                      obtain ⟨yl, eyl, hyl⟩ := Li.sv_some (Ch.low x.data.toList)
                      rw [eyl] at cLx
                      obtain ⟨ak, hak⟩ : ∃ ak, among yl.data.toList sKINDS = ak := ⟨_, rfl⟩
                      have c3 := fun W => c2 yl W
                      rw [hak] at c3
                      rw [← hyl, hak] at hbl3
                      have hbl3' := Lib.hid hbl3
                      clear hbl3 hT1 hU1 hK1 hU hyl hak eyl c2 hxl
                      go_wp2_with fail
                      go_at_call 20
                      with_reducible refine (cLx _).mono ?_
                      rintro e wy ⟨rfl, hby⟩
                      clear cLx
                      go_wp2_with fail
                      go_at_call 36
                      with_reducible refine (c3 _).mono ?_
                      rintro e wz ⟨rfl, rfl⟩
                      clear c3
                      cases ak with
                      | true =>
                        go_wp2_with fail
                        go_meet
                        case rel => exact ⟨by rw [hbl3'.out]; simp, hby⟩
                      | false =>
                        go_wp2_with fail
                        go_meet
                        case rel => exact ⟨by rw [hbl3'.out]; simp, hby⟩
                    · have hK2 : (b2.toList == [75, 73, 78, 68]) = false := beq_eq_false_iff_ne.2 hK
                      have hK1 : ¬ b2.data.toList = nKIND := by rw [← hT1]; exact hK
                      have hbl3 := hbl2'.out
                      rw [ham'.out, decide_eq_false hU1, decide_eq_false hK1] at hbl3
                      have hbl3' := Lib.hid hbl3
                      clear hbl3 hT1 hU1 hK1 hU hK c2
                      go_wp2_with fail
                      go_meet
                      case rel => exact ⟨by rw [hbl3'.out]; simp, Below.refl _ _⟩
          case rest =>
            obtain ⟨rfl, hbc⟩ := hcut
            obtain ⟨wd, rfl⟩ : ∃ wd, wd = wc := ⟨_, rfl⟩
            have hbD := belowThen hbX'.out hbc
            have hownD := hown.out.kept hbD
            have hbwD := belowThen hbw.out hbD
            have hkD := Li.blk_below hbc hkX'.out
            have hqD := hqX'.out.kept hbc
            obtain ⟨O, hO⟩ : ∃ O, (Ls.take k).map can1 = O := ⟨_, rfl⟩
            have hOl : O.length = k := by rw [← hO, List.length_map, List.length_take]; have := hn'.out; omega
            rw [hO] at hownD
            obtain ⟨oA, oc, rfl⟩ := hownD.form
            rw [hOl] at hownD ⊢
            obtain ⟨A', b', off', c', ev, _, _, h3, h4⟩ := hownD.at
            injection ev with ev1 ev2 ev3
            subst ev1; subst ev3
            obtain ⟨b3, hb3⟩ : ∃ b3, (bd || bL) = b3 := ⟨_, rfl⟩
            rw [hb3]
            have hOl' := Lib.hid hOl
            have hO' := Lib.hid hO
            have hownD' := Lib.hid hownD
            have hbwD' := Lib.hid hbwD
            have hkD' := Lib.hid hkD
            have hqD' := Lib.hid hqD
            have h3' := Lib.hid h3
            have h4' := Lib.hid h4
            have hb3' := Lib.hid hb3
            have hwAd : wA.heap.size ≤ wd.heap.size := hbwD.size
            have hle6 : wA.heap.size ≤ w6.heap.size := Nat.le_trans hbw.out.size hb6'.out.size
            clear hOl hO hownD hbwD hkD hqD h3 h4 ev2 hb3 hbc hbD hkX' hbX' hqX' hown hbw hk8' hb8' hq8' hb6' hk6'
            have c4 := fun W => one_any b2 ⟨#[78, 32, 85, 73, 68, 32, 75, 73, 78, 68, 32, 66, 68, 65, 89, 32, 82, 69, 86]⟩ W (by decide)
            have sO : (⟨#[78, 32, 85, 73, 68, 32, 75, 73, 78, 68, 32, 66, 68, 65, 89, 32, 82, 69, 86]⟩ : ByteArray).data.toList = sONCE := rfl
            rw [sO] at c4
            clear sO
            go_wp2_with fail
            go_loopw [8, 90] (fun s8 s90 wx => ∃ j : Nat, s90 = .int .i64 (j : Int) ∧ j ≤ k ∧ s8 = .bool (b3 || dupL (O.take j) (can1 L)) ∧ Hid (Below wd.heap.size wd wx)) (fun s8 s90 wx => k - (RowKit.intOf s90).toNat)
            case atStart => exact ⟨0, rfl, Nat.zero_le _, by simp [dupL], Lib.hid (Below.refl _ _)⟩
            case round =>
              obtain ⟨j, rfl, hj, rfl, hbq⟩ := hrel
              by_cases hjk : j < k
              · have hoj : O[j]? = some (O[j]'(by have := hOl'.out; omega)) := List.getElem?_eq_getElem _
                obtain ⟨oL, hoe⟩ : ∃ oL, O[j]'(by have := hOl'.out; omega) = oL := ⟨_, rfl⟩
                rw [hoe] at hoj
                obtain ⟨rfl, hbo⟩ := h3'.out (by have := hOl'.out; omega)
                obtain ⟨o1, o2, o4, oP, on, oC, i1, i2, i4, hon, hop, g0, g1, g2, g3⟩ := LinesAt.line h4'.out hbo hbq.out hoj
                obtain ⟨wO, hwO⟩ : ∃ wO, wr.alloc (.cells #[.string o1, .string o2, .slice oP on oC, .string o4] 41) = wO := ⟨_, rfl⟩
                have hbO : Below wr.heap.size wr wO := by rw [← hwO]; exact (Below.refl _ _).alloc (Nat.le_refl _) _
                have hkO : wO.heap[wr.heap.size]? = some (.cells #[.string o1, .string o2, .slice oP on oC, .string o4] 41 (0, 0)) := by rw [← hwO]; exact heap_alloc_new wr _
                obtain ⟨q0, q1, q2, q3, _, _, _, _⟩ := Li.res4 hkO
                have hbqO := belowThen hbq.out hbO
                obtain ⟨p0, p1, p2, p3, _, _, _, _⟩ := Li.res4 (Li.blk_below hbqO hkD'.out)
                have hdn := Lib.hid (dup_next O (can1 L) oL j hoj)
                have hnm : oL.name = o2.data.toList := (sv_is i2).symm
                have hcn : (can1 L).name = b2.data.toList := hd.out.1.symm
                have hnn := Lib.hid (And.intro hnm hcn)
                have hR := Lib.hid hbqO
                obtain ⟨b5, hb5⟩ : ∃ b5, (b3 || dupL (O.take j) (can1 L)) = b5 := ⟨_, rfl⟩
                rw [hb5]
                have hb5' := Lib.hid hb5
                clear hoe hoj hop hbO hkO hbqO hnm hcn hb5 i1 i2 i4 hon
                cases b5 with
                | true =>
                  go_wp2_with fail
                  go_roundw
                  case rel => exact ⟨j + 1, by go_num, by omega, by rw [hdn.out, ← Bool.or_assoc, hb5'.out]; rfl, hR⟩
                  case measure => simp [RowKit.intOf]; omega
                | false =>
                  by_cases hq : o2 = b2
                  · subst hq
                    obtain ⟨ak, hak⟩ : ∃ ak, among o2.data.toList sONCE = ak := ⟨_, rfl⟩
                    have hak' := Lib.hid hak
                    rw [hak] at c4
                    clear hak
                    go_wp2_with fail
                    go_at_call 36
                    with_reducible refine (c4 _).mono ?_
                    rintro e wy ⟨rfl, rfl⟩
                    clear c4
                    go_wp2_with fail
                    go_roundw
                    case rel => exact ⟨j + 1, by go_num, by omega, by rw [hdn.out, ← Bool.or_assoc, hb5'.out, hnn.out.1, hnn.out.2, hak'.out]; simp, hR⟩
                    case measure => simp [RowKit.intOf]; omega
                  · have hq2 := nListEq hq
                    have hq3 : ¬ o2.data.toList = b2.data.toList := fun e => hq (byte_is e)
                    have hq3' := Lib.hid hq3
                    clear hq3 c4
                    go_wp2_with fail
                    go_roundw
                    case rel => exact ⟨j + 1, by go_num, by omega, by rw [hdn.out, ← Bool.or_assoc, hb5'.out, hnn.out.1, hnn.out.2, decide_eq_false hq3'.out]; simp, hR⟩
                    case measure => simp [RowKit.intOf]; omega
              · have hjk2 : O.take j = O := List.take_of_length_le (by have := hOl'.out; omega)
                rw [hjk2]
                have hownE := hownD'.out.kept hbq.out
                have hbwE := belowThen hbwD'.out hbq.out
                have hqE := hqD'.out.kept hbq.out
                have hkE := Li.blk_below hbq.out hkD'.out
                obtain ⟨p0, p1, p2, p3, _, _, _, _⟩ := Li.res4 hkE
                have hbt := Lib.hid (badTo_next Ls k L hl'.out)
                have htk : (Ls.take (k + 1)).map can1 = O ++ [can1 L] := by
                  rw [List.take_succ_eq_append_getElem (List.getElem?_eq_some_iff.1 hl'.out).1, (List.getElem?_eq_some_iff.1 hl'.out).2, List.map_append, hO'.out]; rfl
                have htk' := Lib.hid htk
                have hi1 : sv (can1 L).group = .string b1 := hd.out.2.1
                have hi2 : sv (can1 L).name = .string b2 := hd.out.2.2.1
                have hi4 : sv (can1 L).value = .string x := by rw [← hx'.out]; show Value.string ⟨x.data.toList.toArray⟩ = _; rw [Array.toArray_toList]
                have hqE2 : POwn wA.heap.size (.slice qA qn qc) (can1 L).params wr := hqE.less hle6
                have hlO : O.length ≤ 1099511627776 := by have := hOl'.out; omega
                have hsE : wA.heap.size ≤ wr.heap.size := hbwE.size
                have hownE' := Lib.hid hownE
                have hbwE' := Lib.hid hbwE
                have hqE2' := Lib.hid hqE2
                clear htk hownE hbwE hqE hkE hqE2 c4 hbq
                go_wp2_with (at_builtin; refine append_line (can1 L) b1 b2 x (.slice qA qn qc) hi1 hi2 hi4 ⟨_, _, _, rfl⟩ rfl _ _ rfl wA.heap.size _ O wr.heap.size rfl rfl rfl hownE'.out hqE2'.out hlO hsE ?_)
                intro v9 w9 hm9 hleft
                have hb9 := Lib.hid (hleft _ _ hbwE'.out (Nat.le_refl _) hsE)
                have hm9' := Lib.hid hm9
                have hbn : (b3 || dupL O (can1 L)) = badTo Ls (k + 1) := by rw [hbt.out, ← hb3'.out, hbdL.out.1, hbdL.out.2, hO'.out, Bool.or_assoc]
                have hbn' := Lib.hid hbn
                clear hm9 hleft hbn p0 p1 p2 p3 hi1 hi2 hi4 hownE' hbwE' hqE2'
                go_wp2_with fail
                go_roundw
                case rel => exact ⟨k + 1, by go_num, by omega, by rw [hbn'.out], Lib.hid (by rw [htk'.out]; exact hm9'.out), hb9⟩
                case measure => simp [RowKit.intOf]; omega
        · have ek : k = n := by omega
          have htk : Ls.take k = Ls := List.take_of_length_le (by have := hn'.out; omega)
          have hown1 := hown.out
          rw [htk] at hown1
          obtain ⟨wB, rfl⟩ : ∃ wB, wB = wr := ⟨_, rfl⟩
          have hBB := belowThen hBA'.out hbw.out
          obtain ⟨O, hO⟩ : ∃ O, Ls.map can1 = O := ⟨_, rfl⟩
          have hOl : O.length = n := by rw [← hO, List.length_map]; exact hn'.out
          rw [hO] at hown1
          obtain ⟨bT, hbT⟩ : ∃ bT, badTo Ls k = bT := ⟨_, rfl⟩
          have hcE : checkE Ls = if fnsL O = [] ∨ bT = true then 50 else 0 := by
            rw [← cerr_eq]
            unfold cerr fnsL
            rw [List.find?_eq_none.2 (fun M hM => by simp [hall0'.out M hM]), hO, ← hbT, ek, ← hn'.out]
          have hsrt : canC Ls = fnsL O ++ riseF keyL O.length [] O := by unfold canC srt fnsL; rw [hO]
          rw [hbT]
          obtain ⟨oA, ob, oo, oc, ou, rfl, oul, oAA, ocell, opr⟩ := hown1.at.src
          rw [hOl] at oAA oul ⊢
          rw [hOl] at hsrt
          have hRl : (riseF keyL n [] O).length ≤ n := by
            have h1 := (canC_perm hall0'.out).length_eq
            rw [hsrt, List.length_append, List.length_map, hn'.out] at h1
            omega
          have hRl' := Lib.hid hRl
          have hOl' := Lib.hid hOl
          have hcE' := Lib.hid hcE
          have hsrt' := Lib.hid hsrt
          have hBB' := Lib.hid hBB
          have oAA' := Lib.hid oAA
          have oul' := Lib.hid (oul.trans hOl.symm)
          have ocell' := Lib.hid ocell
          have opr' := Lib.hid opr
          clear hOl hcE hsrt hRl hBB oAA oul ocell opr hown hbw hown1 htk hbT hO hsm' hsz' hall0' hB1' hcell' hpr' hA'
          go_wp2_with fail
          go_loopw [15, 115] (fun s15 s115 wr => ∃ j : Nat, s115 = .int .i64 (j : Int) ∧ j ≤ n ∧ Hid (Mix wB.heap.size s15 (fnsL (O.take j)) wB wr)) (fun s15 s115 wr => n - (RowKit.intOf s115).toNat)
          case atStart => exact ⟨0, rfl, Nat.zero_le _, Lib.hid (Mix.nil (Below.refl _ _) (Nat.le_refl _))⟩
          case round =>
            clear ek hk
            obtain ⟨j, rfl, hj, hmx⟩ := hrel
            have hbe : Below wB.heap.size wB wr := by obtain ⟨_, _, _, _, q, _⟩ := hmx.out; exact q
            have hbe' := Lib.hid hbe
            by_cases hjn : j < n
            · have hM : O[j]? = some (O[j]'(by have := hOl'.out; omega)) := List.getElem?_eq_getElem _
              obtain ⟨M, hMe⟩ : ∃ M, O[j]'(by have := hOl'.out; omega) = M := ⟨_, rfl⟩
              rw [hMe] at hM
              obtain ⟨rfl, hobz⟩ := oAA'.out (by omega)
              obtain ⟨m1, m2, m4, mP, mn, mc, i1, i2, i4, hmP, g0, g1, g2, g3⟩ := line_src oul'.out ocell'.out opr'.out hobz hbe hM
              obtain ⟨wO, hwO⟩ : ∃ wO, wr.alloc (.cells #[.string m1, .string m2, .slice mP mn mc, .string m4] 41) = wO := ⟨_, rfl⟩
              have hbO : Below wr.heap.size wr wO := by rw [← hwO]; exact (Below.refl _ _).alloc (Nat.le_refl _) _
              have hkO : wO.heap[wr.heap.size]? = some (.cells #[.string m1, .string m2, .slice mP mn mc, .string m4] 41 (0, 0)) := by rw [← hwO]; exact heap_alloc_new wr _
              obtain ⟨q0, q1, q2, q3, _, _, _, _⟩ := Li.res4 hkO
              have hnx := filt_next (p := fun L => decide (L.name = nFN)) O M j hM
              have hnm : m2.data.toList = M.name := sv_is i2
              have hTd := Lib.toList_data m2
              have hmO := hmx.out.kept hbO
              have hd := Lib.hid (And.intro i1 (And.intro i2 i4))
              have hmP' := Lib.hid hmP
              have hnx' := Lib.hid hnx
              have hmO' := Lib.hid hmO
              have hsO : wB.heap.size ≤ wO.heap.size := Nat.le_trans hbe.size hbO.size
              have hfl : (fnsL (O.take j)).length ≤ n := by
                have h1 := List.length_filter_le (fun L => decide (L.name = nFN)) (O.take j)
                rw [List.length_take] at h1
                unfold fnsL; omega
              clear hMe hM i1 i2 i4 hmP hnx hmO hbO hkO hbe hmx
              by_cases hF : m2.toList = [70, 78]
              · have hFn : M.name = nFN := by rw [← hnm, ← hTd]; exact hF
                have hFn' := Lib.hid hFn
                obtain ⟨w8, hw8⟩ : ∃ w8, wO.alloc (.cells #[.string m1, .string m2, .slice mP mn mc, .string m4] 41) = w8 := ⟨_, rfl⟩
                have hb8 : Below wO.heap.size wO w8 := by rw [← hw8]; exact (Below.refl _ _).alloc (Nat.le_refl _) _
                have hk8 : w8.heap[wO.heap.size]? = some (.cells #[.string m1, .string m2, .slice mP mn mc, .string m4] 41 (0, 0)) := by rw [← hw8]; exact heap_alloc_new wO _
                have hc8 := Lib.hid (one_lc hk8 hd.out.1 hd.out.2.1 hd.out.2.2)
                have hP8 := Lib.hid (one_pr hmP'.out)
                have hm8 := Lib.hid (hmO'.out.kept hb8)
                have hs8 : wB.heap.size ≤ w8.heap.size := Nat.le_trans hsO hb8.size
                clear hFn hb8 hk8 hTd hnm
                go_wp2_with (at_builtin; refine mix_append rfl _ _ rfl wB.heap.size _ (fnsL (O.take j)) wB rfl hm8.out (some ⟨wO.heap.size, 0, none⟩) wO.heap.size 0 1 1 [M] [.slice mP mn mc] rfl rfl rfl (fun _ => rfl) hc8.out hP8.out (by omega) hs8 ?_)
                intro v9 w9 hm9 hleft
                have hm9' := Lib.hid hm9
                clear hm9 hleft hc8 hP8 hm8 q0 q1 q2 q3
                go_wp2_with fail
                go_roundw
                case rel => exact ⟨j + 1, by go_num, by omega, Lib.hid (by show Mix _ _ (List.filter _ _) _ _; rw [hnx'.out, if_pos (decide_eq_true hFn'.out)]; exact hm9'.out)⟩
                case measure => simp [RowKit.intOf]; omega
              · have hFn : ¬ M.name = nFN := by rw [← hnm, ← hTd]; exact hF
                have hFb : (m2.toList == [70, 78]) = false := beq_eq_false_iff_ne.2 hF
                have hFn' := Lib.hid hFn
                clear hFn hTd hnm hF
                go_wp2_with fail
                go_roundw
                case rel => exact ⟨j + 1, by go_num, by omega, Lib.hid (by show Mix _ _ (List.filter _ _) _ _; rw [hnx'.out, if_neg (by rw [decide_eq_false hFn'.out]; decide)]; exact hmO'.out)⟩
                case measure => simp [RowKit.intOf]; omega
            · have htj : O.take j = O := List.take_of_length_le (by have := hOl'.out; omega)
              have hmx1 := hmx.out
              rw [htj] at hmx1
              obtain ⟨zA, zc, rfl⟩ := hmx1.form
              have hBf := belowThen hBB'.out hbe
              have hmx' := Lib.hid hmx1
              have hBf' := Lib.hid hBf
              clear hmx hmx1 htj hbe hBf
              by_cases hF : fnsL O = []
              · have hc50 : checkE Ls = 50 := by rw [hcE'.out, if_pos (.inl hF)]
                have hfin : Hid (RefLinesP Ls (.returned (.tuple #[.slice none 0 0, .int .i64 50])) wr ∧ Below w.heap.size w wr) := Lib.hid ⟨.inl ⟨by rw [hc50]; decide, by rw [hc50]; rfl⟩, hBf'.out⟩
                rw [hF]
                clear hc50
                go_wp2
                exact bodyPost_ret (v := .tuple #[.slice none 0 0, .int .i64 50]) (by simp [results, Tryz.results13, go_sem]) rfl hfin.out
              · have hlen0 : (fnsL O).length ≠ 0 := fun e => hF (List.eq_nil_of_length_eq_zero e)
                obtain ⟨zl, hzl⟩ : ∃ zl, (fnsL O).length = zl := ⟨_, rfl⟩
                rw [hzl] at hlen0 ⊢
                have hl0 : ((zl : Int) == 0) = false := beq_eq_false_iff_ne.2 (by omega)
                cases bT with
                | true =>
                  have hc50 : checkE Ls = 50 := by rw [hcE'.out, if_pos (.inr rfl)]
                  have hfin : Hid (RefLinesP Ls (.returned (.tuple #[.slice none 0 0, .int .i64 50])) wr ∧ Below w.heap.size w wr) := Lib.hid ⟨.inl ⟨by rw [hc50]; decide, by rw [hc50]; rfl⟩, hBf'.out⟩
                  clear hc50
                  go_wp2
                  exact bodyPost_ret (v := .tuple #[.slice none 0 0, .int .i64 50]) (by simp [results, Tryz.results13, go_sem]) rfl hfin.out
                | false =>
                  have hc0 : checkE Ls = 0 := by rw [hcE'.out, if_neg (by simp [hF])]
                  have hc0' := Lib.hid hc0
                  clear hc0
                  have hmx2 := hmx'.out
                  rw [hzl] at hmx2
                  have hmx3 := Lib.hid hmx2
                  clear hmx2 hmx' hzl
                  go_wp2_with fail
                  clear hl0 hlen0
                  go_loopw [15, 18] (fun s15 s18 wr => ∃ (f : Nat) (done : List LD) (lb : ByteArray), s18 = .string lb ∧ Hid (Mix wB.heap.size s15 (fnsL O ++ done) wB wr) ∧ Hid (done ++ riseF keyL f lb.data.toList O = riseF keyL n [] O) ∧ Hid (O.countP (fun x => lt lb.data.toList (keyL x)) ≤ f)) (fun s15 s18 wr => O.countP (fun x => lt (strB s18) (keyL x)))
                  case atStart => exact ⟨n, [], ⟨#[]⟩, rfl, Lib.hid (by rw [List.append_nil]; exact hmx3.out), Lib.hid rfl, Lib.hid (by rw [← hOl'.out]; exact List.countP_le_length)⟩
                  case round =>
                    clear hmx3 hbe'
                    obtain ⟨f, done, lb, rfl, hmx, hrise, hcnt⟩ := hrel
                    have hbe : Below wB.heap.size wB wr := by obtain ⟨_, _, _, _, q, _⟩ := hmx.out; exact q
                    obtain ⟨wC, rfl⟩ : ∃ wC, wC = wr := ⟨_, rfl⟩
                    have hbe' := Lib.hid hbe
                    clear hbe
                    go_wp2_with fail
                    go_loopw [19, 20, 135] (fun s19 s20 s135 wr => ∃ (j : Nat) (nb : ByteArray), s135 = .int .i64 (j : Int) ∧ j ≤ n ∧ s20 = .bool (pick keyL lb.data.toList (O.take j)).isSome ∧ s19 = .string nb ∧ Hid (∀ m, pick keyL lb.data.toList (O.take j) = some m → nb.data.toList = m) ∧ Hid (Below wC.heap.size wC wr)) (fun s19 s20 s135 wr => n - (RowKit.intOf s135).toNat)
                    case atStart => exact ⟨0, ⟨#[]⟩, rfl, Nat.zero_le _, by simp [pick], rfl, Lib.hid (fun m h => by simp [pick] at h), Lib.hid (Below.refl _ _)⟩
                    case round =>
                      obtain ⟨j, nb, rfl, hj, rfl, rfl, hnb, hbq⟩ := hrel
                      by_cases hjn : j < n
                      · have hM : O[j]? = some (O[j]'(by have := hOl'.out; omega)) := List.getElem?_eq_getElem _
                        obtain ⟨M, hMe⟩ : ∃ M, O[j]'(by have := hOl'.out; omega) = M := ⟨_, rfl⟩
                        rw [hMe] at hM
                        obtain ⟨rfl, hobz⟩ := oAA'.out (by omega)
                        obtain ⟨m1, m2, m4, mP, mn, mc, i1, i2, i4, hmP, g0, g1, g2, g3⟩ := line_src oul'.out ocell'.out opr'.out hobz (belowThen hbe'.out hbq.out) hM
                        obtain ⟨wO, hwO⟩ : ∃ wO, wr.alloc (.cells #[.string m1, .string m2, .slice mP mn mc, .string m4] 41) = wO := ⟨_, rfl⟩
                        have hbO : Below wr.heap.size wr wO := by rw [← hwO]; exact (Below.refl _ _).alloc (Nat.le_refl _) _
                        have hkO : wO.heap[wr.heap.size]? = some (.cells #[.string m1, .string m2, .slice mP mn mc, .string m4] 41 (0, 0)) := by rw [← hwO]; exact heap_alloc_new wr _
                        obtain ⟨q0, q1, q2, q3, _, _, _, _⟩ := Li.res4 hkO
                        have hpn := pick_next lb.data.toList O M j hM
                        have hnm : m2.data.toList = M.name := sv_is i2
                        have hTd := Lib.toList_data m2
                        have hTb := Lib.toList_data lb
                        have hTn := Lib.toList_data nb
                        obtain ⟨pk, hpk⟩ : ∃ pk, pick keyL lb.data.toList (O.take j) = pk := ⟨_, rfl⟩
                        rw [hpk] at hpn ⊢
                        have hnb1 := hnb.out
                        rw [hpk] at hnb1
                        have hbR := Lib.hid (belowThen hbq.out hbO)
                        have hnb' := Lib.hid hnb1
                        clear hMe hM i1 i2 i4 hmP hbO hkO hnb hnb1 hpk hbq
                        by_cases hF : m2.toList = [70, 78]
                        · have hFn : M.name = nFN := by rw [← hnm, ← hTd]; exact hF
                          rw [keyL_fn hFn, lt_nil, Bool.false_and, if_neg (by decide)] at hpn
                          have hpn' := Lib.hid hpn
                          clear hpn hFn hTd hnm hTb hTn
                          go_wp2_with fail
                          go_roundw
                          case rel => exact ⟨j + 1, nb, by go_num, by omega, by rw [hpn'.out], rfl, Lib.hid (by rw [hpn'.out]; exact hnb'.out), hbR⟩
                          case measure => simp [RowKit.intOf]; omega
                        · have hFn : ¬ M.name = nFN := by rw [← hnm, ← hTd]; exact hF
                          have hFb : (m2.toList == [70, 78]) = false := beq_eq_false_iff_ne.2 hF
                          rw [keyL_own hFn, ← hnm] at hpn
                          unfold lt at hpn
                          obtain ⟨B1, hB1⟩ : ∃ B1, Op.bytesLess lb.data.toList m2.data.toList = B1 := ⟨_, rfl⟩
                          rw [hB1] at hpn
                          have hB1t : Op.bytesLess lb.toList m2.toList = B1 := by rw [hTb, hTd]; exact hB1
                          have hG := gtr_is 9 m2 lb hB1t
                          cases B1 with
                          | false =>
                            rw [Bool.false_and, if_neg (by decide)] at hpn
                            have hpn' := Lib.hid hpn
                            clear hpn hFn hTd hnm hTb hTn hF
                            go_wp2_with fail
                            go_roundw
                            case rel => exact ⟨j + 1, nb, by go_num, by omega, by rw [hpn'.out], rfl, Lib.hid (by rw [hpn'.out]; exact hnb'.out), hbR⟩
                            case measure => simp [RowKit.intOf]; omega
                          | true =>
                            cases pk with
                            | none =>
                              rw [Bool.true_and, if_pos rfl] at hpn
                              have hpn' := Lib.hid hpn
                              clear hpn hFn hTd hnm hTb hTn hF
                              go_wp2_with fail
                              go_roundw
                              case rel => exact ⟨j + 1, m2, by go_num, by omega, by rw [hpn'.out]; rfl, rfl, Lib.hid (fun m h => by rw [hpn'.out] at h; exact Option.some.inj h), hbR⟩
                              case measure => simp [RowKit.intOf]; omega
                            | some m =>
                              have hnm2 := hnb'.out m rfl
                              obtain ⟨B2, hB2⟩ : ∃ B2, Op.bytesLess m2.data.toList m = B2 := ⟨_, rfl⟩
                              have hB2t : Op.bytesLess m2.toList nb.toList = B2 := by rw [hTd, hTn, hnm2]; exact hB2
                              have hB2d : Op.bytesLess m2.data.toList nb.data.toList = B2 := by rw [hnm2]; exact hB2
                              have hpn2 : pick keyL lb.data.toList (O.take (j + 1)) = if (true && Op.bytesLess m2.data.toList m) = true then some m2.data.toList else some m := hpn
                              rw [hB2, Bool.true_and] at hpn2
                              have hnm2' := Lib.hid hnm2
                              clear hpn hFn hTd hnm hTb hTn hF hB2 hnm2
                              cases B2 with
                              | false =>
                                rw [if_neg (by decide)] at hpn2
                                have hpn' := Lib.hid hpn2
                                clear hpn2
                                go_wp2_with fail
                                go_roundw
                                case rel => exact ⟨j + 1, nb, by go_num, by omega, by rw [hpn'.out], rfl, Lib.hid (fun m' h => by rw [hpn'.out] at h; rw [← Option.some.inj h]; exact hnm2'.out), hbR⟩
                                case measure => simp [RowKit.intOf]; omega
                              | true =>
                                rw [if_pos rfl] at hpn2
                                have hpn' := Lib.hid hpn2
                                clear hpn2
                                go_wp2_with fail
                                go_roundw
                                case rel => exact ⟨j + 1, m2, by go_num, by omega, by rw [hpn'.out]; rfl, rfl, Lib.hid (fun m' h => by rw [hpn'.out] at h; exact Option.some.inj h), hbR⟩
                                case measure => simp [RowKit.intOf]; omega
                      · have htj : O.take j = O := List.take_of_length_le (by have := hOl'.out; omega)
                        rw [htj]
                        have hnb1 := hnb.out
                        rw [htj] at hnb1
                        have hbE := belowThen hbe'.out hbq.out
                        have hmE := hmx.out.kept hbq.out
                        obtain ⟨yA, yc, hyf⟩ := hmE.form
                        obtain ⟨pk, hpk⟩ : ∃ pk, pick keyL lb.data.toList O = pk := ⟨_, rfl⟩
                        rw [hpk] at hnb1 ⊢
                        have hBf := belowThen hBB'.out hbE
                        cases pk with
                        | none =>
                          have hr0 := rise_none f hpk
                          have hsE : fnsL O ++ done = canC Ls := by rw [hsrt'.out, ← hrise.out, hr0, List.append_nil]
                          have hfin : Hid (RefLinesP Ls (.returned (.tuple #[u15, .int .i64 0])) wr ∧ Below w.heap.size w wr) := Lib.hid ⟨.inr ⟨hc0'.out, _, rfl, by rw [← hsE]; exact hmE.at⟩, hBf⟩
                          clear hr0 hsE hBf hpk hnb1 hbE hmE htj hnb hbq hrise hcnt
                          go_wp2
                          exact bodyPost_ret (v := .tuple #[u15, .int .i64 0]) (by simp [results, Tryz.results13, go_sem]) rfl hfin.out
                        | some m =>
                          rw [Option.isSome_some]
                          have hnm := hnb1 m rfl
                          obtain ⟨g0, hg0, hg1, hg2⟩ := rise_some hpk hcnt.out
                          have hki := fun M => key_iff hpk M
                          have hdl : done.length ≤ n := by
                            have h1 := congrArg List.length hrise.out
                            rw [List.length_append] at h1
                            have := hRl'.out; omega
                          have hfl : (fnsL O).length ≤ n := by
                            have h1 := List.length_filter_le (fun L => decide (L.name = nFN)) O
                            unfold fnsL; have := hOl'.out; omega
                          have hrise2 : (done ++ O.filter (fun x => decide (keyL x = m))) ++ riseF keyL g0 m O = riseF keyL n [] O := by rw [List.append_assoc, ← hg1]; exact hrise.out
                          have hless := count_less keyL hpk
                          have hless' := Lib.hid hless
                          have hrise2' := Lib.hid hrise2
                          have hg2' := Lib.hid hg2
                          have hki' := Lib.hid hki
                          have hmE' := Lib.hid hmE
                          have hnm' := Lib.hid hnm
                          obtain ⟨wE, rfl⟩ : ∃ wE, wE = wr := ⟨_, rfl⟩
                          clear hyf hpk hnb1 hbE hmE htj hnb hbq hrise hcnt hki hrise2 hg0 hg1 hg2 hnm hBf hless
                          go_wp2_with fail
                          go_loopw [15, 166] (fun s15 s166 wr => ∃ j : Nat, s166 = .int .i64 (j : Int) ∧ j ≤ n ∧ Hid (Mix wB.heap.size s15 ((fnsL O ++ done) ++ (O.take j).filter (fun x => decide (keyL x = m))) wB wr)) (fun s15 s166 wr => n - (RowKit.intOf s166).toNat)
                          case atStart => exact ⟨0, rfl, Nat.zero_le _, Lib.hid (by simpa using hmE'.out)⟩
                          case round =>
                            clear hmE' hmx hj
                            obtain ⟨j, rfl, hj, hmx⟩ := hrel
                            have hbe : Below wB.heap.size wB wr := by obtain ⟨_, _, _, _, q, _⟩ := hmx.out; exact q
                            have hbe' := Lib.hid hbe
                            by_cases hjn : j < n
                            · have hM : O[j]? = some (O[j]'(by have := hOl'.out; omega)) := List.getElem?_eq_getElem _
                              obtain ⟨M, hMe⟩ : ∃ M, O[j]'(by have := hOl'.out; omega) = M := ⟨_, rfl⟩
                              rw [hMe] at hM
                              obtain ⟨rfl, hobz⟩ := oAA'.out (by omega)
                              obtain ⟨m1, m2, m4, mP, mn, mc, i1, i2, i4, hmP, g0', g1, g2, g3⟩ := line_src oul'.out ocell'.out opr'.out hobz hbe hM
                              obtain ⟨wO, hwO⟩ : ∃ wO, wr.alloc (.cells #[.string m1, .string m2, .slice mP mn mc, .string m4] 41) = wO := ⟨_, rfl⟩
                              have hbO : Below wr.heap.size wr wO := by rw [← hwO]; exact (Below.refl _ _).alloc (Nat.le_refl _) _
                              have hkO : wO.heap[wr.heap.size]? = some (.cells #[.string m1, .string m2, .slice mP mn mc, .string m4] 41 (0, 0)) := by rw [← hwO]; exact heap_alloc_new wr _
                              obtain ⟨q0, q1, q2, q3, _, _, _, _⟩ := Li.res4 hkO
                              have hnx := filt_next (p := fun x => decide (keyL x = m)) O M j hM
                              have hnm2 : m2.data.toList = M.name := sv_is i2
                              have hmO := hmx.out.kept hbO
                              have hd := Lib.hid (And.intro i1 (And.intro i2 i4))
                              have hmP' := Lib.hid hmP
                              have hnx' := Lib.hid hnx
                              have hmO' := Lib.hid hmO
                              have hsO : wB.heap.size ≤ wO.heap.size := Nat.le_trans hbe.size hbO.size
                              have hpl : ((O.take j).filter (fun x => decide (keyL x = m))).length ≤ n := by
                                have h1 := List.length_filter_le (fun x => decide (keyL x = m)) (O.take j)
                                rw [List.length_take] at h1; omega
                              have htot : ((fnsL O ++ done) ++ (O.take j).filter (fun x => decide (keyL x = m))).length + 1 ≤ 1099511627776 := by
                                rw [List.length_append, List.length_append]; omega
                              clear hMe hM i1 i2 i4 hmP hnx hmO hbO hkO hbe hmx hpl
                              by_cases hF : m2 = nb
                              · have hFn : keyL M = m := (hki'.out M).2 (by rw [← hnm2, hF]; exact hnm'.out)
                                have hFn' := Lib.hid hFn
                                have hFe : (m2.toList == nb.toList) = true := by rw [hF]; simp
                                clear hF
                                obtain ⟨w8, hw8⟩ : ∃ w8, wO.alloc (.cells #[.string m1, .string m2, .slice mP mn mc, .string m4] 41) = w8 := ⟨_, rfl⟩
                                have hb8 : Below wO.heap.size wO w8 := by rw [← hw8]; exact (Below.refl _ _).alloc (Nat.le_refl _) _
                                have hk8 : w8.heap[wO.heap.size]? = some (.cells #[.string m1, .string m2, .slice mP mn mc, .string m4] 41 (0, 0)) := by rw [← hw8]; exact heap_alloc_new wO _
                                have hc8 := Lib.hid (one_lc hk8 hd.out.1 hd.out.2.1 hd.out.2.2)
                                have hP8 := Lib.hid (one_pr hmP'.out)
                                have hm8 := Lib.hid (hmO'.out.kept hb8)
                                have hs8 : wB.heap.size ≤ w8.heap.size := Nat.le_trans hsO hb8.size
                                clear hFn hb8 hk8 hnm2
                                go_wp2_with (at_builtin; refine mix_append rfl _ _ rfl wB.heap.size _ ((fnsL O ++ done) ++ (O.take j).filter (fun x => decide (keyL x = m))) wB rfl hm8.out (some ⟨wO.heap.size, 0, none⟩) wO.heap.size 0 1 1 [M] [.slice mP mn mc] rfl rfl rfl (fun _ => rfl) hc8.out hP8.out htot hs8 ?_)
                                intro v9 w9 hm9 hleft
                                have hm9' := Lib.hid hm9
                                clear hm9 hleft hc8 hP8 hm8 q0 q1 q2 q3
                                go_wp2_with fail
                                go_roundw
                                case rel => exact ⟨j + 1, by go_num, by omega, Lib.hid (by rw [hnx'.out, if_pos (decide_eq_true hFn'.out)]; simpa only [List.append_assoc] using hm9'.out)⟩
                                case measure => simp [RowKit.intOf]; omega
                              · have hFn : ¬ keyL M = m := fun e => hF (byte_is (by rw [hnm2, hnm'.out]; exact (hki'.out M).1 e))
                                have hFb := nListEq hF
                                have hFn' := Lib.hid hFn
                                clear hFn hnm2 hF
                                go_wp2_with fail
                                go_roundw
                                case rel => exact ⟨j + 1, by go_num, by omega, Lib.hid (by rw [hnx'.out, if_neg (by rw [decide_eq_false hFn'.out]; decide)]; exact hmO'.out)⟩
                                case measure => simp [RowKit.intOf]; omega
                            · have htj : O.take j = O := List.take_of_length_le (by have := hOl'.out; omega)
                              have hmx1 := hmx.out
                              rw [htj, List.append_assoc] at hmx1
                              have hmx2 := Lib.hid hmx1
                              clear hmx hmx1 htj hbe
                              go_wp2_with fail
                              go_roundw
                              case rel => exact ⟨g0, done ++ O.filter (fun x => decide (keyL x = m)), nb, rfl, hmx2, Lib.hid (by rw [hnm'.out]; exact hrise2'.out), Lib.hid (by rw [hnm'.out]; exact hg2'.out)⟩
                              case measure =>
                                show O.countP (fun x => lt nb.data.toList (keyL x)) < O.countP (fun x => lt lb.data.toList (keyL x))
                                rw [hnm'.out]; exact hless'.out
end Go.Proofs.YthnnpnlapjlnoaaGreatDoor.Ca
