import Derived.Test.YthnnpnlapjlnoaaGreatDoorMg19
import Derived.Test.YthnnpnlapjlnoaaGreatDoorMg22
import Derived.Deep.RegionWith
import Derived.Test.YthnnpnlapjlnoaaGreatDoorMg12

/-
  THE WALK OF THE LAW CardSame.
-/
set_option linter.unusedVariables false
namespace Go.Proofs.YthnnpnlapjlnoaaGreatDoor.Ca
open Go.Lib Go.RowKit
open Li (LD PD sv LineAt PrmsAt chk pr)

theorem Mix.made {B : Nat} {wp w : World} (hb : Below wp.heap.size wp w) (hB : wp.heap.size ≤ B) (hw : B ≤ w.heap.size) : Mix B (.slice (some ⟨w.heap.size, 0, none⟩) 0 0) [] wp (w.alloc (.cells #[] 41)) :=
  ⟨[], rfl, ⟨rfl, .inr ⟨w.heap.size, 0, #[], rfl, hw, heap_alloc_new w _, Nat.le_refl _, Nat.zero_le _, rfl, rfl⟩⟩, fun j L u h => by simp at h, hb.alloc hb.size _, hB⟩
/-- a line with its name and its group in small letters -/
def lowN (L : LD) : LD := { L with name := Ch.low L.name }
def lowL (L : LD) : LD := { lowN L with group := Ch.low L.group }
def lows (Ls : List LD) (k : Nat) : List LD := (Ls.take k).map lowL ++ Ls.drop k
theorem lows_zero (Ls : List LD) : lows Ls 0 = Ls := by simp [lows]
theorem lows_all (Ls : List LD) (n : Nat) (h : Ls.length ≤ n) : lows Ls n = Ls.map lowL := by unfold lows; rw [List.take_of_length_le h, List.drop_of_length_le h, List.append_nil]
theorem lows_len (Ls : List LD) (k : Nat) : (lows Ls k).length = Ls.length := by
  unfold lows
  rw [List.length_append, List.length_map, List.length_take, List.length_drop]; omega
theorem lows_get (Ls : List LD) (k : Nat) (L : LD) (h : Ls[k]? = some L) : (lows Ls k)[k]? = some L := by
  have hk := (List.getElem?_eq_some_iff.1 h).1
  unfold lows
  have hl : ((Ls.take k).map lowL).length = k := by rw [List.length_map, List.length_take]; omega
  rw [List.getElem?_append_right (by omega), hl, Nat.sub_self, List.getElem?_drop, Nat.add_zero, h]
theorem lows_set (Ls : List LD) (k : Nat) (L : LD) (M : LD) (h : Ls[k]? = some L) : (lows Ls k).set k M = (Ls.take k).map lowL ++ M :: Ls.drop (k + 1) := by
  have hk := (List.getElem?_eq_some_iff.1 h).1
  unfold lows
  have hl : ((Ls.take k).map lowL).length = k := by rw [List.length_map, List.length_take]; omega
  rw [List.set_append_right _ _ (by omega), hl, Nat.sub_self, List.drop_eq_getElem_cons hk, List.set_cons_zero]
theorem lows_step (Ls : List LD) (k : Nat) (L : LD) (h : Ls[k]? = some L) : lows Ls (k + 1) = ((lows Ls k).set k (lowN L)).set k (lowL L) := by
  have hk := (List.getElem?_eq_some_iff.1 h).1
  rw [List.set_set, lows_set Ls k L _ h]
  unfold lows
  rw [List.take_succ_eq_append_getElem hk, (List.getElem?_eq_some_iff.1 h).2, List.map_append, List.append_assoc]; rfl
theorem lows_mid (Ls : List LD) (k : Nat) (L : LD) (h : Ls[k]? = some L) : ((lows Ls k).set k (lowN L))[k]? = some (lowN L) := by
  have hk := (List.getElem?_eq_some_iff.1 h).1
  rw [List.getElem?_set_self (by rw [lows_len]; exact hk)]
/-! ### what the law asks of the texts -/
theorem low_nil {l : Row} : Ch.low l = [] ↔ l = [] := ⟨fun e => List.eq_nil_of_length_eq_zero (by rw [← Ch.low_length, e]; rfl), fun e => by rw [e]; rfl⟩
theorem inB_low (x : UInt8) : Li.inB (Ch.lowB x) = Li.inB x := Ch.byte_all (P := fun x => Li.inB (Ch.lowB x) = Li.inB x) (by decide +kernel) x
theorem all_low (l : Row) : (Ch.low l).all Li.inB = l.all Li.inB := by
  unfold Ch.low
  induction l with
  | nil => rfl
  | cons x l ih => simp only [List.map_cons, List.all_cons, inB_low, ih]
theorem nameB_low (l : Row) : Li.nameB (Ch.low l) = Li.nameB l := by
  unfold Li.nameB
  rw [all_low, Ch.low_length]
theorem chk_low (L : LD) : chk (lowL L) = chk L := by
  have e : (Ch.low L.group).isEmpty = L.group.isEmpty := by
    cases hg : L.group with
    | nil => rfl
    | cons x l => rfl
  unfold Li.chk Li.badN Li.badF Li.badT lowL lowN
  simp only [nameB_low, e]
theorem can1_low (L : LD) : can1 (lowL L) = can1 L := by
  have e : Li.canL (lowL L) = Li.canL L := by
    unfold Li.canL lowL lowN
    simp only [Ch.up_low]
  unfold can1
  rw [e]; rfl
theorem map_can_low (Ls : List LD) : (Ls.map lowL).map can1 = Ls.map can1 := by
  rw [List.map_map]
  exact List.map_congr_left (fun L _ => can1_low L)
theorem right_low (Ls : List LD) : rightB (Ls.map lowL) = rightB Ls := by
  have e1 : (Ls.map lowL).map (fun L => Ch.up L.name) = Ls.map (fun L => Ch.up L.name) := by
    rw [List.map_map]
    exact List.map_congr_left (fun L _ => Ch.up_low L.name)
  have e2 : (Ls.map lowL).all (fun L => okV (Ch.up L.name) L.value) = Ls.all (fun L => okV (Ch.up L.name) L.value) := by
    induction Ls with
    | nil => rfl
    | cons L Ls ih =>
      simp only [List.map_cons, List.all_cons, ih (by simpa using (List.cons.inj e1).2)]
      congr 1
      show okV (Ch.up (Ch.low L.name)) L.value = _
      rw [Ch.up_low]
  unfold rightB
  rw [e1, e2]
theorem checkE_low (Ls : List LD) : checkE (Ls.map lowL) = checkE Ls := by
  have e : (Ls.map lowL).find? (fun L => decide (chk L ≠ 0)) = (Ls.find? (fun L => decide (chk L ≠ 0))).map lowL := by
    rw [List.find?_map]
    congr 2
    funext L
    show decide (chk (lowL L) ≠ 0) = _
    rw [chk_low]
  unfold checkE
  rw [e, right_low]
  cases Ls.find? (fun L => decide (chk L ≠ 0)) with
  | none => rfl
  | some L => exact chk_low L
theorem codeP_low (Ls : List LD) : codeP (Ls.map lowL) = codeP Ls := by
  unfold codeP canC
  rw [checkE_low, map_can_low]
theorem textP_low (Ls : List LD) : textP (Ls.map lowL) = textP Ls := by
  unfold textP canC
  rw [codeP_low, map_can_low]
theorem pr_low (L : LD) : (pr (lowL L)).length = (pr L).length := by
  unfold Li.pr lowL lowN
  simp only [List.length_append, List.length_cons]
  have e : (if Ch.low L.group = [] then Ch.low L.name else Ch.low L.group ++ 46 :: Ch.low L.name).length = (if L.group = [] then L.name else L.group ++ 46 :: L.name).length := by
    by_cases hg : L.group = []
    · rw [if_pos hg, if_pos (low_nil.2 hg), Ch.low_length]
    · rw [if_neg hg, if_neg (fun e => hg (low_nil.1 e))]
      simp only [List.length_append, List.length_cons, Ch.low_length]
  rw [e]
theorem prsum_low (Ls : List LD) : prsum (Ls.map lowL) = prsum Ls := by
  unfold prsum
  rw [List.map_map]
  congr 1
  exact List.map_congr_left (fun L _ => by show (pr (lowL L)).length + 1 = _; rw [pr_low])

/-- how the copy stands: its block, its row, what was there before it -/
structure LowR (w3 : World) (db : Nat) (v : Value) (Ms : List LD) (w : World) : Prop where
  below : Below w3.heap.size w3 w
  blk : w.heap[db]? = some (.cells #[v] 25 (0, 0))
  mix : Mix w3.heap.size v Ms w3 w
theorem LowR.kept {w3 w w' : World} {db : Nat} {v : Value} {Ms : List LD} (h : LowR w3 db v Ms w) (hb : Below w.heap.size w w') : LowR w3 db v Ms w' := ⟨belowThen h.below hb, Li.blk_below hb h.blk, h.mix.kept hb⟩
theorem Mix.spot {B : Nat} {v : Value} {Ls : List LD} {wp w : World} (h : Mix B v Ls wp w) {j : Nat} {L : LD} (hj : Ls[j]? = some L) :
    ∃ (g cap : Nat) (cur : Array Value), v = .slice (some ⟨g, 0, none⟩) Ls.length cap ∧ B ≤ g ∧ g < w.heap.size ∧ w.heap[g]? = some (.cells cur 41 (0, 0)) ∧ w.cell? ⟨g, j * 4, none⟩ = some (sv L.group) ∧ w.cell? ⟨g, j * 4 + 1, none⟩ = some (sv L.name) ∧ ∀ o, w.frozen? ⟨g, o, none⟩ = false := by
  obtain ⟨vs, hl, ⟨h1, h2 | ⟨g, cap, cur, e1, e2, e3, e4, e5, e6, e7⟩⟩, hv, hb, _⟩ := h
  · obtain rfl : Ls = [] := List.eq_nil_of_length_eq_zero h2.2
    simp at hj
  · have hlt := (List.getElem?_eq_some_iff.1 hj).1
    have hu : vs[j]? = some (vs[j]'(by omega)) := List.getElem?_eq_getElem (by omega)
    obtain ⟨c0, c1, c2, c3⟩ := lcells_at Ls vs j L _ hl hj hu
    have key : ∀ i x, i < Ls.length * 4 → (lcells Ls vs)[i]? = some x → w.cell? ⟨g, i, none⟩ = some x := fun i x hi hx => by
      rw [Lib.cell_of_heap e3]
      have : (cur.toList.take (Ls.length * 4))[i]? = (lcells Ls vs)[i]? := by rw [e7]
      rw [List.getElem?_take, if_pos hi, hx] at this
      rw [← Array.getElem?_toList, this]
    exact ⟨g, cap, cur, e1, e2, (Array.getElem?_eq_some_iff.1 e3).1, e3, key _ _ (by omega) c0, key _ _ (by omega) c1, fun o => Lib.frozen_of_heap e3 o⟩
theorem LowR.setName {w3 w : World} {db g n cap : Nat} {cur : Array Value} {Ms : List LD} (h : LowR w3 db (.slice (some ⟨g, 0, none⟩) n cap) Ms w) (hn : Ms.length = n) {j : Nat} {L : LD} (hj : Ms[j]? = some L) (hg : w3.heap.size ≤ g) (hk : w.heap[g]? = some (.cells cur 41 (0, 0))) (nm : Row) :
    LowR w3 db (.slice (some ⟨g, 0, none⟩) n cap) (Ms.set j { L with name := nm }) (w.setCell ⟨g, j * 4 + 1, none⟩ (sv nm)) := by
  refine ⟨h.below.setCell (p := ⟨g, j * 4 + 1, none⟩) hg _, Li.blk_store h.blk (p := ⟨g, j * 4 + 1, none⟩) (fun e => ?_) _, h.mix.setName hn hj nm⟩
  have e : db = g := e
  have := h.blk
  rw [e, hk] at this
  injection this with this
  injection this with _ ht
  exact absurd ht (by decide)
theorem LowR.setGroup {w3 w : World} {db g n cap : Nat} {cur : Array Value} {Ms : List LD} (h : LowR w3 db (.slice (some ⟨g, 0, none⟩) n cap) Ms w) (hn : Ms.length = n) {j : Nat} {L : LD} (hj : Ms[j]? = some L) (hg : w3.heap.size ≤ g) (hk : w.heap[g]? = some (.cells cur 41 (0, 0))) (nm : Row) :
    LowR w3 db (.slice (some ⟨g, 0, none⟩) n cap) (Ms.set j { L with group := nm }) (w.setCell ⟨g, j * 4, none⟩ (sv nm)) := by
  refine ⟨h.below.setCell (p := ⟨g, j * 4, none⟩) hg _, Li.blk_store h.blk (p := ⟨g, j * 4, none⟩) (fun e => ?_) _, h.mix.setGroup hn hj nm⟩
  have e : db = g := e
  have := h.blk
  rw [e, hk] at this
  injection this with this
  injection this with _ ht
  exact absurd ht (by decide)
theorem low_sv {l : Row} {x : ByteArray} (h : sv l = .string x) (w : World) (hs : l.length ≤ 281474976710656) :
    Calls Tryz.prog 20 #[.string x] w fun e w' => e = .returned (sv (Ch.low l)) ∧ Below w.heap.size w w' := by
  have hx : x.data.toList = l := sv_size h
  have := Ch.refLower_any x w (by rw [Lib.size_eq, hx]; exact hs)
  rw [hx] at this
  exact this

theorem lnF_pr : ∀ (rows : List Row) (acc : List LD), prsum (lnF acc rows).2 ≤ prsum acc + 3 * Fo.tot rows
  | [], acc => by
    have e : (lnF acc []).2 = acc := rfl
    rw [e]; omega
  | r :: rs, acc => by
    have ht : Fo.tot (r :: rs) = r.length + 1 + Fo.tot rs := by unfold Fo.tot; simp
    cases h : Li.parse r with
    | bad n =>
      rw [lnF_bad h]
      simp [prsum]
    | ok L =>
      rw [lnF_ok h]
      have h1 := lnF_pr rs (acc ++ [L])
      have h2 := Li.parse_len h
      have h3 : prsum (acc ++ [L]) = prsum acc + ((pr L).length + 1) := by unfold prsum; simp
      omega
theorem pcard_pr (t : Row) : prsum (pcard t).2 ≤ 196608 := by
  have h0 : prsum [] = 0 := rfl
  unfold pcard
  by_cases h1 : 65536 < t.length
  · rw [if_pos h1]; simp [h0]
  · rw [if_neg h1]
    by_cases h2 : Ch.valid t = true
    · rw [if_pos h2]
      cases hr : Fo.R [] t with
      | none => simp [pcR, h0]
      | some rows =>
        have ht := Fo.R_tot t rows hr
        have hl := lnF_pr rows []
        have hm := prsum_sub (Ls := (lnF [] rows).2)
        show prsum (pc2 (lnF [] rows)).2 ≤ _
        unfold pc2
        split
        · split
          · show prsum (midL _) ≤ _; omega
          · simp [h0]
        · simp [h0]
    · rw [if_neg h2]; simp [h0]
theorem canonP_pr (Ms : List LD) : prsum (canonP Ms) ≤ 2 * prsum Ms := by
  unfold canonP
  by_cases h : codeP Ms = 0
  · rw [if_pos h]
    have hc : checkE Ms = 0 := by
      rcases Nat.eq_zero_or_pos (checkE Ms) with h1 | h1
      · exact h1
      · rw [codeP_bad (by omega)] at h; omega
    exact prsum_canC hc
  · rw [if_neg h]; simp [prsum]
theorem canonP_again {Ms : List LD} (h : codeP Ms = 0) : codeP (canonP Ms) = 0 ∧ textP (canonP Ms) = textP Ms := by
  have hc : checkE Ms = 0 := by
    rcases Nat.eq_zero_or_pos (checkE Ms) with h1 | h1
    · exact h1
    · rw [codeP_bad (by omega)] at h; omega
  have hl : ¬ 65536 < (cardT (canC Ms)).length := fun hl => by rw [codeP_long hc hl] at h; cases h
  have e : canonP Ms = canC Ms := if_pos h
  have h1 := canC_check hc
  have h2 := canC_again hc
  have h3 : codeP (canC Ms) = 0 := codeP_ok h1 (by rw [h2]; omega)
  rw [e]
  refine ⟨h3, ?_⟩
  unfold textP
  rw [if_pos h3, if_pos h, h2]
theorem bytes_of {x y : ByteArray} {l : Row} (h : x.data.toList = l) (h' : y.data.toList = l) : x = y := by
  rw [← Lib.mk_data x, ← Lib.mk_data y, h, h']

set_option maxHeartbeats 4000000 in
set_option maxRecDepth 100000 in
theorem same_walk (v : Value) (Ls : List LD) (s : ByteArray) (w : World) (h : LinesAt w v Ls) (hS : prsum Ls ≤ 4194304) (hs : s.size ≤ 1048576) (hT : Ch.Tabs w) :
    Calls Tryz.prog 8 #[.agg #[v], .string s] w fun e w' => e = .returned (.bool true) ∧ Below w.heap.size w w' := by
  obtain ⟨n, hn⟩ : ∃ n, Ls.length = n := ⟨_, rfl⟩
  have hnl : n ≤ 4194304 := by have := prsum_len Ls; omega
  have hsz : ∀ L ∈ Ls, Li.SzL 4194304 L := fun L hL => Li.sz_pr (N := 4194304) (by have := prsum_mem hL; omega)
  have cF := fun W (hW : Below w.heap.size w W) => first_any W (Ch.tabs_below hT hW)
  have cS := fun W (hW : Below w.heap.size w W) => small_any v Ls W (h.kept hW) (by omega) (fun L hL => ⟨by have := (hsz L hL).k; omega, fun p hp => by have := (hsz L hL).pk p hp; omega⟩)
  have cP := fun u Ms W (hW : Below w.heap.size w W) (hu : LinesAt W u Ms) (hm : prsum Ms ≤ 67108864) => print_any u Ms W hu hm (Ch.tabs_below hT hW)
  obtain ⟨A, b, off, c, us, rfl, hul, hA, hcell, hpr⟩ := h.src
  rw [hn] at hA h cS ⊢
  have hL := fun W (hW : Below w.heap.size w W) => h.kept hW
  obtain ⟨w1, hw1⟩ : ∃ w1, w.alloc (.cells #[.slice A n c] 25) = w1 := ⟨_, rfl⟩
  have hB1 : Below w.heap.size w w1 := by rw [← hw1]; exact (Below.refl _ _).alloc (Nat.le_refl _) _
  have hbox : w1.cell? ⟨w.heap.size, 0, none⟩ = some (.slice A n c) := by rw [← hw1]; simp
  have hz1 : w.heap.size < w1.heap.size := by rw [← hw1]; simp
  go_enter Tryz.func8, Tryz.ntmps8
  go_wp2_with fail
  go_at_call 9
  with_reducible refine (cF w1 hB1).mono ?_
  rintro e w2 ⟨rfl, hb2⟩
  have hB2 := belowThen hB1 hb2
  have hbox2 : w2.cell? ⟨w.heap.size, 0, none⟩ = some (.slice A n c) := (hb2.cell (p := ⟨w.heap.size, 0, none⟩) hz1).trans hbox
  have hz2 : w.heap.size < w2.heap.size := Nat.lt_of_lt_of_le hz1 hb2.size
  have cF' := Lib.hid cF
  have cP' := Lib.hid cP
  have hL' := Lib.hid hL
  have hpr' := Lib.hid hpr
  have hcell' := Lib.hid hcell
  have hA' := Lib.hid hA
  have hT' := Lib.hid hT
  have hsz' := Lib.hid hsz
  have hn' := Lib.hid hn
  have cS2 := cS w2 hB2
  clear cF cP hL hpr hcell hA hT hsz hn cS hb2 hB1 hbox hw1 h
  go_wp2_with fail
  go_at_call 16
  with_reducible refine cS2.mono ?_
  rintro e w3 ⟨⟨bb, rfl⟩, hb3⟩
  have hB3 := belowThen hB2 hb3
  have hbox3 : w3.cell? ⟨w.heap.size, 0, none⟩ = some (.slice A n c) := (hb3.cell (p := ⟨w.heap.size, 0, none⟩) hz2).trans hbox2
  have hz3 : w.heap.size < w3.heap.size := Nat.lt_of_lt_of_le hz2 hb3.size
  clear hb3 hbox2 hz2 hB2 cS2 hz1
  cases bb with
  | false =>
    have c3 := cF'.out w3 hB3
    go_wp2_with fail
    go_at_call 9
    with_reducible refine c3.mono ?_
    rintro e w4 ⟨rfl, hb4⟩
    go_wp2
    go_ret
    exact ⟨rfl, belowThen hB3 hb4⟩
  | true =>
    have hB3' := Lib.hid hB3
    obtain ⟨w4, hw4⟩ : ∃ w4, w3.alloc (.cells #[] 41) = w4 := ⟨_, rfl⟩
    have hm4 : Mix w3.heap.size (.slice (some ⟨w3.heap.size, 0, none⟩) 0 0) [] w3 w4 := by rw [← hw4]; exact Mix.made (Below.refl _ _) (Nat.le_refl _) (Nat.le_refl _)
    have hb34 : Below w3.heap.size w3 w4 := by rw [← hw4]; exact (Below.refl _ _).alloc (Nat.le_refl _) _
    have hz4 : w3.heap.size ≤ w4.heap.size := hb34.size
    have hB4 := belowThen hB3 hb34
    have hbox4 : w4.cell? ⟨w.heap.size, 0, none⟩ = some (.slice A n c) := (hb34.cell (p := ⟨w.heap.size, 0, none⟩) hz3).trans hbox3
    have hA4 : 0 < n → A = some ⟨b, off, none⟩ := fun h0 => (hA'.out h0).1
    have hc4 : ∀ t x, (lcells Ls us)[t]? = some x → w4.cell? ⟨b, off + t, none⟩ = some x := fun t x hx => by
      have hlt : 0 < n := by
        rcases Nat.eq_zero_or_pos n with h0 | h0
        · have e1 : Ls = [] := List.eq_nil_of_length_eq_zero (hn'.out.trans h0)
          have e2 : us = [] := List.eq_nil_of_length_eq_zero (by rw [hul, hn'.out, h0])
          rw [e1, e2] at hx; simp [lcells] at hx
        · exact h0
      exact (hB4.cell (p := ⟨b, off + t, none⟩) (hA'.out hlt).2).trans (hcell'.out t x hx)
    have hP4 : ∀ (j : Nat) (L : LD) (u : Value), Ls[j]? = some L → us[j]? = some u → PrmsAt w3 u L.params := fun j L u hj hu => (hpr'.out j L u hj hu).kept hB3'.out
    have hm4' := Lib.hid hm4
    have hA4' := Lib.hid hA4
    have hc4' := Lib.hid hc4
    have hP4' := Lib.hid hP4
    have hB4' := Lib.hid hB4
    clear hm4 hA4 hc4 hP4 hB3 hB4 hb34
    go_wp2_with (at_builtin; refine mix_append rfl _ _ rfl w3.heap.size _ [] w3 rfl hm4'.out A b off n c Ls us rfl hn'.out (by rw [hul]; exact hn'.out) hA4'.out hc4'.out hP4'.out ?i1 hz4 ?_)
    case i1 => simp; omega
    intro v5 w5 hm5 hleft5
    have hB5 : Below w.heap.size w w5 := hleft5 _ _ hB4'.out (by omega) (by omega)
    have hz5 : w3.heap.size ≤ w5.heap.size := (hleft5 w3.heap.size w3 (by rw [← hw4]; exact (Below.refl _ _).alloc (Nat.le_refl _) _) (Nat.le_refl _) hz4).size
    obtain ⟨ao, cap, rfl⟩ := hm5.form
    rw [hn'.out] at hm5 ⊢
    obtain ⟨db, hdb⟩ : ∃ db, w5.heap.size = db := ⟨_, rfl⟩
    obtain ⟨w6, hw6⟩ : ∃ w6, w5.alloc (.cells #[.slice ao n cap] 25) = w6 := ⟨_, rfl⟩
    have hb56 : Below w5.heap.size w5 w6 := by rw [← hw6]; exact (Below.refl _ _).alloc (Nat.le_refl _) _
    have hB35 : Below w3.heap.size w3 w5 := hleft5 _ _ (by rw [← hw4]; exact (Below.refl _ _).alloc (Nat.le_refl _) _) (Nat.le_refl _) hz4
    have hR6 : LowR w3 db (.slice ao n cap) (lows Ls 0) w6 := by
      rw [lows_zero]
      refine ⟨belowThen hB35 hb56, ?_, hm5.kept hb56⟩
      rw [← hw6, ← hdb]; exact heap_alloc_new w5 _
    have q6 : w6.cell? ⟨db, 0, none⟩ = some (.slice ao n cap) := by rw [Lib.cell_of_heap hR6.blk]; rfl
    have hboxD := Lib.hid hbox3
    have hR6' := Lib.hid hR6
    clear hleft5 hm5 hB5 hm4' hA4' hc4' hP4' hbox4 hb56 hB35 hbox3
    go_wp2_with fail
    try rw [hw6]
    try rw [hdb]
    go_loopw [35] (fun s35 wr => ∃ k : Nat, s35 = .int .i64 (k : Int) ∧ k ≤ n ∧ Hid (LowR w3 db (.slice ao n cap) (lows Ls k) wr)) (fun s35 wr => n - (RowKit.intOf s35).toNat)
    case atStart => exact ⟨0, rfl, Nat.zero_le _, hR6'⟩
    case round =>
      clear hR6' q6
      obtain ⟨k, rfl, hk, hR⟩ := hrel
      by_cases hlt : k < n
      · have hl : Ls[k]? = some (Ls[k]'(by have := hn'.out; omega)) := List.getElem?_eq_getElem _
        obtain ⟨L, hle⟩ : ∃ L, Ls[k]'(by have := hn'.out; omega) = L := ⟨_, rfl⟩
        have hmem : L ∈ Ls := by rw [← hle]; exact List.getElem_mem _
        rw [hle] at hl
        have hml : (lows Ls k).length = n := by rw [lows_len]; exact hn'.out
        obtain ⟨g, cap', cur, ev, hg3, hgz, hgk, hgc, hgn, hfr⟩ := hR.out.mix.spot (lows_get Ls k L hl)
        rw [hml] at ev
        injection ev with ev1 _ ev3
        subst ev1; subst ev3
        obtain ⟨x, ex, hx⟩ := Li.sv_some L.name
        obtain ⟨y, ey, hy⟩ := Li.sv_some (Ch.low L.name)
        have hRn := hR.out.setName hml (lows_get Ls k L hl) hg3 hgk (Ch.low L.name)
        have cL := fun W => low_sv ex W (by have := (hsz'.out L hmem).n; omega)
        have hq := hR.out.blk
        have p0 : wr.cell? ⟨db, 0, none⟩ = some (.slice (some ⟨g, 0, none⟩) n cap) := by rw [Lib.cell_of_heap hq]; rfl
        have hdz : db < wr.heap.size := (Array.getElem?_eq_some_iff.1 hq).1
        rw [ex] at hgn
        rw [ey] at cL hRn
        have hf1 := hfr (k * 4 + 1)
        have hSS : ∀ W, Below wr.heap.size wr W → Below wr.heap.size wr W ∧ W.cell? ⟨db, 0, none⟩ = some (.slice (some ⟨g, 0, none⟩) n cap) ∧ W.cell? ⟨g, k * 4 + 1, none⟩ = some (.string x) ∧ W.frozen? ⟨g, k * 4 + 1, none⟩ = false := fun W h =>
          ⟨h, (h.cell (p := ⟨db, 0, none⟩) hdz).trans p0, (h.cell (p := ⟨g, k * 4 + 1, none⟩) hgz).trans hgn, (h.frozen (p := ⟨g, k * 4 + 1, none⟩) hgz).trans hf1⟩
        have hfin : ∀ W W', Below wr.heap.size wr W → Below (W.setCell ⟨g, k * 4 + 1, none⟩ (.string y)).heap.size (W.setCell ⟨g, k * 4 + 1, none⟩ (.string y)) W' → LowR w3 db (.slice (some ⟨g, 0, none⟩) n cap) ((lows Ls k).set k (lowN L)) W' := fun W W' h1 h2 => by
          have hk2 : W.heap[g]? = some (.cells cur 41 (0, 0)) := Li.blk_below h1 hgk
          have := (hR.out.kept h1).setName hml (lows_get Ls k L hl) hg3 hk2 (Ch.low L.name)
          rw [ey] at this
          exact this.kept h2
        have hSS' := Lib.hid hSS
        have hfin' := Lib.hid hfin
        have jk : (k : Int) < (n : Int) := by omega
        have j0 : (0 : Int) ≤ (k : Int) := by omega
        clear hle hgk hfr hRn hq hgc hSS hfin hR
        go_upto_region 7 with fail
        go_cut [] from 38 to 49 (fun wx => Hid (LowR w3 db (.slice (some ⟨g, 0, none⟩) n cap) ((lows Ls k).set k (lowN L)) wx))
        case first =>
          go_region_with (go_at_call 20; ((with_reducible refine (cL _).mono ?_); rintro e wx ⟨rfl, hbx⟩; have hx2 : Below wr.heap.size wr wx := (by first | exact belowThen (Below.drew (Below.refl _ _)) hbx | exact belowThen (Below.refl _ _) hbx); obtain ⟨_, z0, z1, z2⟩ := hSS'.out wx hx2))
          all_goals
            go_wp2_with fail
            go_meet
          all_goals exact Lib.hid (hfin'.out _ _ (by assumption) (Below.refl _ _))
        case rest =>
          clear hSS' hfin' cL p0 hf1 hgn hgz
          obtain ⟨g', cap', cur2, ev, _, hgz, hgk, hgc, hgn, hfr⟩ := hcut.out.mix.spot (lows_mid Ls k L hl)
          have hml2 : ((lows Ls k).set k (lowN L)).length = n := by rw [List.length_set]; exact hml
          rw [hml2] at ev
          injection ev with ev1 _ ev3
          injection ev1 with ev1
          injection ev1 with ev1 _ _
          subst ev1; subst ev3
          obtain ⟨x2, ex2, hx2⟩ := Li.sv_some (lowN L).group
          obtain ⟨y2, ey2, hy2⟩ := Li.sv_some (Ch.low (lowN L).group)
          have cL := fun W => low_sv ex2 W (by show L.group.length ≤ _; have := (hsz'.out L hmem).g; omega)
          have hq := hcut.out.blk
          have p0 : wc.cell? ⟨db, 0, none⟩ = some (.slice (some ⟨g, 0, none⟩) n cap) := by rw [Lib.cell_of_heap hq]; rfl
          have hdz : db < wc.heap.size := (Array.getElem?_eq_some_iff.1 hq).1
          rw [ex2] at hgc
          rw [ey2] at cL
          have hf1 := hfr (k * 4)
          have hSS : ∀ W, Below wc.heap.size wc W → W.cell? ⟨db, 0, none⟩ = some (.slice (some ⟨g, 0, none⟩) n cap) ∧ W.cell? ⟨g, k * 4, none⟩ = some (.string x2) ∧ W.frozen? ⟨g, k * 4, none⟩ = false := fun W h =>
            ⟨(h.cell (p := ⟨db, 0, none⟩) hdz).trans p0, (h.cell (p := ⟨g, k * 4, none⟩) hgz).trans hgc, (h.frozen (p := ⟨g, k * 4, none⟩) hgz).trans hf1⟩
          have hfin : ∀ W W', Below wc.heap.size wc W → Below (W.setCell ⟨g, k * 4, none⟩ (.string y2)).heap.size (W.setCell ⟨g, k * 4, none⟩ (.string y2)) W' → LowR w3 db (.slice (some ⟨g, 0, none⟩) n cap) (lows Ls (k + 1)) W' := fun W W' h1 h2 => by
            have hk2 : W.heap[g]? = some (.cells cur2 41 (0, 0)) := Li.blk_below h1 hgk
            have := (hcut.out.kept h1).setGroup hml2 (lows_mid Ls k L hl) hg3 hk2 (Ch.low (lowN L).group)
            rw [ey2] at this
            rw [lows_step Ls k L hl]
            exact this.kept h2
          have hSS' := Lib.hid hSS
          have hfin' := Lib.hid hfin
          clear hgk hfr hq hgn hSS hfin hcut
          go_upto_region 8 with fail
          go_region_with (go_at_call 20; ((with_reducible refine (cL _).mono ?_); rintro e wx ⟨rfl, hbx⟩; have hx3 : Below wc.heap.size wc wx := (by first | exact belowThen (Below.drew (Below.refl _ _)) hbx | exact belowThen (Below.refl _ _) hbx); obtain ⟨z0, z1, z2⟩ := hSS'.out wx hx3))
          all_goals
            go_wp2_with fail
            go_roundw
          case rel => exact ⟨k + 1, by go_num, by omega, Lib.hid (hfin'.out _ _ (by assumption) (Below.refl _ _))⟩
          case measure => simp [RowKit.intOf]; omega
          case rel => exact ⟨k + 1, by go_num, by omega, Lib.hid (hfin'.out _ _ (by assumption) (Below.refl _ _))⟩
          case measure => simp [RowKit.intOf]; omega
          case rel => exact ⟨k + 1, by go_num, by omega, Lib.hid (hfin'.out _ _ (by assumption) (Below.refl _ _))⟩
          case measure => simp [RowKit.intOf]; omega
          case rel => exact ⟨k + 1, by go_num, by omega, Lib.hid (hfin'.out _ _ (by assumption) (Below.refl _ _))⟩
          case measure => simp [RowKit.intOf]; omega
      · have ek : k = n := by omega
        have hR2 : LowR w3 db (.slice ao n cap) (Ls.map lowL) wr := by
          have := hR.out
          rw [lows_all _ _ (by have := hn'.out; omega)] at this
          exact this
        have hbw : Below w.heap.size w wr := belowThen hB3'.out hR2.below
        have hbox7 : wr.cell? ⟨w.heap.size, 0, none⟩ = some (.slice A n c) := (hR2.below.cell (p := ⟨w.heap.size, 0, none⟩) hz3).trans hboxD.out
        have cP1 := cP'.out _ Ls wr hbw (hL'.out wr hbw) (by omega)
        have hR2' := Lib.hid hR2
        have hbw' := Lib.hid hbw
        clear hR hR2 hbw ek
        go_wp2_with fail
        go_at_call 14
        with_reducible refine cP1.mono ?_
        rintro e w7 ⟨⟨t1, ht1, rfl⟩, hb7⟩
        have hR7 := hR2'.out.kept hb7
        have hB7 := belowThen hbw'.out hb7
        have p7 : w7.cell? ⟨db, 0, none⟩ = some (.slice ao n cap) := by rw [Lib.cell_of_heap hR7.blk]; rfl
        have cP2 := cP'.out _ (Ls.map lowL) w7 hB7 hR7.mix.at (by rw [prsum_low]; omega)
        rw [codeP_low, textP_low] at cP2
        have hB7' := Lib.hid hB7
        have ht1' := Lib.hid ht1
        clear cP1 hR7 hB7 hb7 hR2' hbw' hbox7 ht1
        go_wp2_with fail
        go_at_call 14
        with_reducible refine cP2.mono ?_
        rintro e w8 ⟨⟨t2, ht2, rfl⟩, hb8⟩
        obtain rfl : t2 = t1 := bytes_of ht2 ht1'.out
        have hB8 := belowThen hB7'.out hb8
        have cQ := parse_any s w8 (by omega) (Ch.tabs_below hT'.out hB8)
        have hMp := pcard_pr s.data.toList
        obtain ⟨M, hM⟩ : ∃ M, (pcard s.data.toList).2 = M := ⟨_, rfl⟩
        obtain ⟨ce, hce⟩ : ∃ ce, (pcard s.data.toList).1 = ce := ⟨_, rfl⟩
        have cQ2 := cQ.mono (fun e w' h => (show (∃ (A : Option Addr) (n c : Nat), e = .returned (.tuple #[.agg #[.slice A n c], .int .i64 (ce : Int)]) ∧ LinesAt w' (.slice A n c) M) ∧ Below w8.heap.size w8 w' from ⟨(by
          obtain ⟨A, n, c, h1, h2⟩ := h.1
          rw [hce] at h1
          rw [hM] at h2
          exact ⟨A, n, c, h1, h2⟩), h.2⟩))
        rw [hM] at hMp
        have hB8' := Lib.hid hB8
        clear cQ cP2 hB7' hb8 hB8 ht1' ht2 p7 hM hce
        go_wp2_with fail
        go_at_call 10
        with_reducible refine cQ2.mono ?_
        rintro e w9 ⟨⟨xA, xn, xc, rfl, hx⟩, hb9⟩
        obtain ⟨w10, hw10⟩ : ∃ w10, w9.alloc (.cells #[.slice xA xn xc] 25) = w10 := ⟨_, rfl⟩
        have hb10 : Below w9.heap.size w9 w10 := by rw [← hw10]; exact (Below.refl _ _).alloc (Nat.le_refl _) _
        have hk10 : w10.heap[w9.heap.size]? = some (.cells #[.slice xA xn xc] 25 (0, 0)) := by rw [← hw10]; exact heap_alloc_new w9 _
        have hB10 := belowThen (belowThen hB8'.out hb9) hb10
        have p10 : w10.cell? ⟨w9.heap.size, 0, none⟩ = some (.slice xA xn xc) := by rw [Lib.cell_of_heap hk10]; rfl
        have hx10 := hx.kept hb10
        have cP3 := cP'.out _ M w10 hB10 hx10 (by omega)
        have hB10' := Lib.hid hB10
        have hx10' := Lib.hid hx10
        have hk10' := Lib.hid hk10
        clear cQ2 hB8' hb9 hb10 hx hB10 hx10 hk10
        by_cases hg : ce = 0
        · subst hg
          go_wp2_with fail
          go_at_call 14
          with_reducible refine cP3.mono ?_
          rintro e w11 ⟨⟨t3, ht3, rfl⟩, hb11⟩
          have hB11 := belowThen hB10'.out hb11
          have hk11 := Li.blk_below hb11 hk10'.out
          have p11 : w11.cell? ⟨w9.heap.size, 0, none⟩ = some (.slice xA xn xc) := by rw [Lib.cell_of_heap hk11]; rfl
          have cC := canon_any _ M w11 (hx10'.out.kept hb11) (by omega) (Ch.tabs_below hT'.out hB11)
          obtain ⟨cm, hcm⟩ : ∃ cm, codeP M = cm := ⟨_, rfl⟩
          rw [hcm] at cC ⊢
          have hB11' := Lib.hid hB11
          have ht3' := Lib.hid ht3
          clear cP3 hB10' hx10' hk10' hb11 hB11 hk11 ht3 p10
          go_wp2_with fail
          go_at_call 18
          with_reducible refine cC.mono ?_
          rintro e w12 ⟨⟨yA, yn, yc, rfl, hy⟩, hb12⟩
          obtain ⟨w13, hw13⟩ : ∃ w13, w12.alloc (.cells #[.slice yA yn yc] 25) = w13 := ⟨_, rfl⟩
          have hb13 : Below w12.heap.size w12 w13 := by rw [← hw13]; exact (Below.refl _ _).alloc (Nat.le_refl _) _
          have hB13 := belowThen (belowThen hB11'.out hb12) hb13
          have p13 : w13.cell? ⟨w12.heap.size, 0, none⟩ = some (.slice yA yn yc) := by rw [← hw13]; simp
          have cP4 := cP'.out _ (canonP M) w13 hB13 (hy.at.kept hb13) (by have := canonP_pr M; omega)
          have hB13' := Lib.hid hB13
          have hcm' := Lib.hid hcm
          clear cC hB11' hb12 hb13 hy hB13 p11 hcm
          go_wp2_with fail
          go_at_call 14
          with_reducible refine cP4.mono ?_
          rintro e w14 ⟨⟨t4, ht4, rfl⟩, hb14⟩
          have hB14 := Lib.hid (belowThen hB13'.out hb14)
          by_cases hm0 : cm = 0
          · obtain ⟨h1, h2⟩ := canonP_again (hcm'.out.trans hm0)
            rw [h2] at ht4
            obtain rfl : t4 = t3 := bytes_of ht4 ht3'.out
            rw [h1]
            subst hm0
            clear cP4 hb14 ht4 ht3' h1 h2
            go_wp2
            go_ret
            exact ⟨rfl, hB14.out⟩
          · have hm2 : ¬ ((cm : Int) = 0) := by omega
            clear cP4 hb14 ht4 ht3'
            go_wp2
            go_ret
            exact ⟨rfl, hB14.out⟩
        · have hg2 : ¬ ((ce : Int) = 0) := by omega
          go_wp2
          go_ret
          exact ⟨rfl, hB10'.out⟩
end Go.Proofs.YthnnpnlapjlnoaaGreatDoor.Ca

/-
  THE LAST STEP of a row whose call left all that there was (for cards).
-/
set_option linter.unusedVariables false
namespace Go.Proofs.YthnnpnlapjlnoaaGreatDoor.La
open Go.Lib Go.RowKit Go.Shelf Go.ChangeShapes Go.WideShapes Go.ChangeAt Li

/-- the last step of a row whose call left all that there was -/
theorem post_left {P : Program} {f : Func} {s : OpenSpec} {F : Stop.Interp} {apart fresh handsOn again : Bool} {H : Type} {enc : TypeId × Value → H} {W W' : World} {args : Array Value} {v : Value} {ds gs : List (DataW H)} {before pa pv : List MemPlace}
    (hW : DataW.Whole enc P f.params.toList s.vars apart W args.toList ds gs before)
    (hres : ∀ (b : Nat) (sp : Nat → Bool) (hd : Bool), DataW.TrodAll enc P W' b sp hd f.resultTypes.toList (v.resultList f.resultTypes.size) ((s.at F).fn H (ds ++ gs)).results [])
    (hargs : DataW.TrodAll enc P W' 0 (fun b => decide (b < W.heap.size)) true f.params.toList args.toList ((s.at F).fn H (ds ++ gs)).args pa)
    (hvars : DataW.TrodVars enc P W' (fun b => decide (b < W.heap.size)) s.vars ((s.at F).fn H (ds ++ gs)).vars pv)
    (hps : before = pa ++ pv) (hb : Below W.heap.size W W') (hag : again = false) :
    (s.at F).post enc P f apart fresh handsOn again W args v W' := by
  subst hag
  have hsp : (fun b => decide (b < W.heap.size)) = (fun b => decide (b < W.heap.size)) := rfl
  exact ⟨ds, gs, before, [], pa, pv, hW, hres _ _ _, hargs, hvars, World.keptBut_mono (fun p hp => ⟨hp, by rw [hps, List.mem_append] at hp; exact Or.inr hp⟩) (hb.frame (· ∈ before)), fun h => by cases h⟩
end Go.Proofs.YthnnpnlapjlnoaaGreatDoor.La

/-
  CardSame, the second form: for every card and text of together at most 2^20 bulk the call returns true; the tables of unicode/utf8 hold what their initialisers lay (tied).
-/
set_option linter.unusedVariables false
namespace Go.Proofs.YthnnpnlapjlnoaaGreatDoor.lawCardSame
open Go.Lib Go.RowKit Go.Shelf Go.ChangeShapes Go.WideShapes Go.ChangeAt Ca
open Go.ChangeMaps (open_string shut_string)

theorem laid_tabs {W : World} (hL : laidMetH Tryz.prog Rows.cardSameUptoRow.laid W) : Ch.Tabs W :=
  La.tabs_of (La.first_eq ▸ Lib.laidMet.reads hL (.tail _ (.head _))) (La.accept_eq ▸ Lib.laidMet.reads hL (.head _))
/-- A world for the witness: the settled one, the tables holding what their initialisers lay. -/
noncomputable def laidWorld (os : Os) : World :=
  let w0 := World.holding Tryz.prog os ⟨#[], #[], []⟩
  let put (h : Array Obj) (g : Nat) (cs : Array Value) : Array Obj := h.modify g fun
    | .cells _ t frozen => .cells cs t frozen
    | o => o
  let h1 := put w0.heap 0 (Lib.firstTab.map fun z => Value.int .u8 z).toArray
  let h2 := put h1 1 ((List.range 16).flatMap fun i => [Value.int .u8 (Lib.accLo i), Value.int .u8 (Lib.accHi i)]).toArray
  { w0 with heap := h2 }
theorem laid_met (os : Os) (args : Array Value) : laidMet Tryz.prog Rows.cardSameUptoRow.laid ((laidWorld os).forCall (fun _ _ => 0) ⟨#[], args, []⟩).memory :=
  (LaidIn.of_run (l := Rows.cardSameUptoRow.laid) [1, 0] 8 (by kernel_rfl) (by kernel_rfl) (by kernel_rfl) (by kernel_rfl)).met

theorem witness_row (os : Os) {H : Type} (enc : TypeId × Value → H) :
    (Rows.OpenSpec.upto Rows.cardSameSpec).preRow enc Tryz.prog Tryz.f8 Rows.cardSameUptoRow.domain false Rows.cardSameUptoRow.laid ((laidWorld os).forCall (fun _ _ => 0) ⟨#[], #[.agg #[.slice none 0 0], .string ⟨#[]⟩], []⟩).memory #[.agg #[.slice none 0 0], .string ⟨#[]⟩] := by
  have hw : (DataW.whole enc Tryz.prog ((laidWorld os).forCall (fun _ _ => 0) ⟨#[], #[.agg #[.slice none 0 0], .string ⟨#[]⟩], []⟩).memory Tryz.f8.params.toList Rows.cardSameSpec.vars false (#[Value.agg #[.slice none 0 0], Value.string ⟨#[]⟩] : Array Value).toList 8).map (fun x => (x.1, x.2.1)) =
      some ([.agg [.nil], .lit (.string [])], []) := by kernel_rfl
  obtain ⟨⟨x1, x2, x3⟩, hx, hx1⟩ := Option.map_eq_some_iff.1 hw
  simp only [Prod.mk.injEq] at hx1
  obtain ⟨rfl, rfl⟩ := hx1
  exact OpenSpec.preRow_of_cond 8 hx (by kernel_rfl) (fun k hk => by cases hk; kernel_rfl) (by kernel_rfl) (laid_met os _)

set_option maxRecDepth 100000 in
set_option maxHeartbeats 2000000 in
theorem lifted (os : Os) (started : os.Started) (H : Type) (enc : TypeId × Value → H) (F : Stop.Interp) :
    ReturnsInHanded {} Tryz.checked os 8 .any ((Rows.OpenSpec.upto Rows.cardSameSpec).preRow enc Tryz.prog Tryz.f8 Rows.cardSameUptoRow.domain false Rows.cardSameUptoRow.laid) (((Rows.OpenSpec.upto Rows.cardSameSpec).at F).post enc Tryz.prog Tryz.f8 false true false false) := by
  refine returnsInHanded_of_row (C := Tryz.checked) (s := (Rows.OpenSpec.upto Rows.cardSameSpec)) La.own started (by kernel_rfl) Tryz.func8
    (witness_row_atRef (enc := enc) (C := Tryz.checked) false (laidWorld os) #[.agg #[.slice none 0 0], .string ⟨#[]⟩] rfl (by kernel_rfl) (by kernel_rfl) (by kernel_rfl) (witness_row os enc)) ?_
  intro W base args ds gs before hval0 hW _ hcond hsz hL hsh _
  have hval : ∀ (j : Nat) t v, Tryz.f8.params[j]? = some t → args[j]? = some v → Value.okWide Tryz.prog W .any base t v := hval0
  have hW' := hW
  obtain ⟨p, q, hA0, hV0, rfl, _, _⟩ := hW
  have hA : DataW.TrodAll enc Tryz.prog W 0 (fun _ => true) true Tryz.f8.params.toList args.toList ds p := hA0
  rw [Tryz.params8] at hA hval
  obtain ⟨v0, v1, d0, d1, p0, p1, rfl, rfl, rfl, h0, h1⟩ := trodAll_two hA
  obtain ⟨rfl, rfl⟩ := trodVars_none hV0
  have hWlt := hW'.lt
  obtain ⟨cv0, L0, rfl, lv0, lb0⟩ := La.card_open (hval 0 25 v0 rfl rfl) h0
  obtain ⟨s1, rfl, rfl, rfl, ws1⟩ := open_string Tryz.underlying9 (hval 1 9 v1 rfl rfl) h1
  have r1 : s1.data.toList.length ≤ reachBytes := sized_string (j := 1) (t := 9) hsz rfl rfl
  have hbulk := La.bulk_all (hcond _ rfl)
  have u0 : La.bulkC L0 ≤ 1048576 := by have h := Nat.le_trans (La.bulk_le (d := d0) (by simp)) hbulk; omega
  have u1 : s1.size ≤ 1048576 := by have h := Nat.le_trans (La.bulk_le (d := DataW.lit (.string s1.data.toList)) (by simp)) hbulk; rw [La.bulk_string] at h; rw [Lib.size_eq]; omega
  clear hA0 hV0 hval0 hsz
  refine (same_walk cv0 L0 s1 W lv0 (by have := La.prsum_bulk L0; omega) u1 (laid_tabs hL)).mono ?_
  rintro e W' ⟨rfl, bel⟩
  have e1 : ((Rows.OpenSpec.upto Rows.cardSameSpec).at F).fn H ([d0, .lit (.string s1.data.toList)] ++ []) = { results := [.lit (.bool true)], args := [d0, .lit (.string s1.data.toList)] } := rfl
  refine ⟨_, rfl, La.post_left (pa := p0 ++ ([])) (pv := []) hW' ?_ ?_ ?_ (by simp) bel rfl⟩
  · intro b sp hd; rw [e1]; exact trodAll_mk1 (shut_bool Tryz.underlying4 _)
  · rw [e1]; exact trodAll_mk2 (Below.trod La.laidOut (by kernel_rfl) (of_decide_eq_true (by kernel_rfl)) h0 bel (fun q hq => hWlt q (by simp [hq]))) (shut_string Tryz.underlying9 ws1)
  · rw [e1]; rfl

theorem said : Rows.CardSameUptoSaid :=
  OpenClaim.holds_of_cond 8 Tryz.f8 rfl rfl rfl rfl rfl rfl rfl ⟨rfl, rfl, rfl, rfl, rfl⟩ rfl rfl rfl rfl rfl (by kernel_rfl) Tryz.func8 (by kernel_rfl)
    (of_decide_eq_true (by kernel_rfl)) (by unfold Func.isWrapper; rw [if_neg (of_decide_eq_false (by kernel_rfl))]; exact ⟨rfl, rfl⟩)
    (fun os started H enc _ F => by rw [OpenClaim.pre_eq_preRow]; exact lifted os started H enc F)

/-- No parameter wants a stand-in; the program's own looks are off. -/
theorem plain (f : FuncId) (fn : Func) (hf : Tryz.pinned.checked.prog.funcNamed Rows.cardSameUptoRow.func = some f) (hfn : Tryz.pinned.checked.prog.funcs[f]? = some fn) :
    false = Tryz.pinned.checked.prog.looks [] ∧ ∀ (j : Nat) t, fn.params[j]? = some t → Tryz.pinned.checked.prog.wantsStandIn t = false := by
  obtain rfl : f = 8 := Option.some.inj ((show Tryz.prog.funcNamed Rows.cardSameUptoRow.func = some 8 by kernel_rfl).symm.trans hf) |>.symm
  obtain rfl : fn = Tryz.f8 := (Option.some.inj (Tryz.func8.symm.trans hfn)).symm
  refine ⟨by kernel_rfl, fun j t ht => ?_⟩
  rw [Tryz.params8] at ht
  have ht' : t = 25 ∨ t = 9 := by simpa using Array.mem_of_getElem? ht
  rcases ht' with rfl | rfl
  · exact (show Tryz.prog.wantsStandIn 25 = false by kernel_rfl)
  · exact (show Tryz.prog.wantsStandIn 9 = false by kernel_rfl)

theorem card : Rows.CardSameUptoCardSaid :=
  Claim7.holds_tied_plain_at .later [] _ _ _ _ said (fun _ h => by cases h) (by kernel_rfl) (fun _ h => by cases h) cardSameUpto_row_tie rfl ⟨rfl, rfl⟩ (by kernel_rfl) rfl plain (by kernel_rfl)
end Go.Proofs.YthnnpnlapjlnoaaGreatDoor.lawCardSame
