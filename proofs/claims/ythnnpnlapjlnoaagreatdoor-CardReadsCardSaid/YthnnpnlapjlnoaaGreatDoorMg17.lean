import Derived.Test.YthnnpnlapjlnoaaGreatDoorMg16
import Derived.Test.YthnnpnlapjlnoaaGreatDoorMg12
import Derived.Test.YthnnpnlapjlnoaaGreatDoorMg13
import Derived.Test.YthnnpnlapjlnoaaGreatDoorMg8

/-
  THE WALK OF line.Print.
-/
set_option linter.unusedVariables false
namespace Go.Proofs.YthnnpnlapjlnoaaGreatDoor.Li
open Go.Lib Go.RowKit Bu

/-- what Print answers -/
def PrintP (L : LD) (e : Ending) : Prop :=
  (chk L ≠ 0 ∧ e = .returned (.tuple #[.string ⟨#[]⟩, .int .i64 (chk L : Int)])) ∨
  (chk L = 0 ∧ ∃ s : ByteArray, s.data.toList = pr L ∧ e = .returned (.tuple #[.string s, .int .i64 0]))
theorem wprms_take (ps : List PD) (k : Nat) (p : PD) (h : ps[k]? = some p) : wprms (ps.take (k + 1)) = wprms (ps.take k) ++ wprm p := by
  obtain ⟨hl, hv⟩ := List.getElem?_eq_some_iff.1 h
  rw [List.take_succ_eq_append_getElem hl, hv]
  simp [wprms]
theorem wprms_append (a b : List PD) : wprms (a ++ b) = wprms a ++ wprms b := by simp [wprms]
theorem wprms_take_le (ps : List PD) (k : Nat) : (wprms (ps.take k)).length ≤ (wprms ps).length := by
  have := congrArg List.length (wprms_append (ps.take k) (ps.drop k))
  rw [List.take_append_drop, List.length_append] at this
  omega
theorem StrsAt.form {w : World} {v : Value} {ls : List Row} (h : StrsAt w v ls) : ∃ A c, v = .slice A ls.length c := by
  obtain ⟨A, b, o, c, h, _⟩ := h
  exact ⟨A, c, h⟩
/-- the lengths that Print comes by -/
structure Lens (acc : Row) (L : LD) : Prop where
  name : acc.length + L.name.length ≤ 140737488355328
  prm : ∀ (k : Nat) (p : PD), L.params[k]? = some p → (acc ++ L.name ++ wprms (L.params.take k)).length + (wprm p).length ≤ 140737488355328
  colon : (acc ++ L.name ++ wprms L.params).length + 1 ≤ 140737488355328
  value : (acc ++ L.name ++ wprms L.params ++ [58]).length + L.value.length ≤ 140737488355328
  fin : acc ++ L.name ++ wprms L.params ++ [58] ++ L.value = pr L
theorem Lens.of {acc : Row} {L : LD} (h : acc ++ L.name ++ (wprms L.params ++ 58 :: L.value) = pr L) (hl : (pr L).length ≤ 140737488355328) : Lens acc L := by
  rw [← h] at hl
  simp only [List.length_append, List.length_cons] at hl
  refine ⟨by omega, fun k p hp => ?_, by simp only [List.length_append]; omega, by simp only [List.length_append, List.length_singleton]; omega, by rw [← h]; simp⟩
  have h1 := wprms_take L.params k p hp
  have h2 := wprms_take_le L.params (k + 1)
  rw [h1, List.length_append] at h2
  simp only [List.length_append]
  omega

set_option maxHeartbeats 16000000 in
set_option maxRecDepth 100000 in
theorem print_any (v : Value) (L : LD) (w : World) (hv : LineAt w v L) (hS : SmallL L) (hlen : (pr L).length ≤ 140737488355328) (hT : Ch.Tabs w) :
    Calls Tryz.prog 40 #[v] w fun e w' => PrintP L e ∧ Below w.heap.size w w' := by
  have hbad : ∀ m : Nat, chk L = m → m ≠ 0 → PrintP L (.returned (.tuple #[.string ⟨#[]⟩, .int .i64 (m : Int)])) := fun m h h0 => .inl ⟨by rw [h]; exact h0, by rw [h]⟩
  have hgood : chk L = 0 → ∀ s : ByteArray, s.data.toList = pr L → PrintP L (.returned (.tuple #[.string s, .int .i64 0])) := fun h s hs => .inr ⟨h, s, hs, rfl⟩
  have hcond : ∀ w', Below w.heap.size w w' → LineAt w' v L := fun w' h => hv.kept h
  obtain ⟨pv, rfl, A, b, o, c, rfl, h1, h2, h3, h4⟩ := hv
  have hprl : pr L = (if L.group = [] then L.name else L.group ++ 46 :: L.name) ++ (wprms L.params ++ 58 :: L.value) := rfl
  obtain ⟨n, hn⟩ : ∃ n, L.params.length = n := ⟨_, rfl⟩
  rw [hn] at h1 h3 hcond ⊢
  unfold sv at hcond
  unfold sv
  obtain ⟨a1, ha1⟩ : ∃ a : ByteArray, (⟨L.group.toArray⟩ : ByteArray) = a := ⟨_, rfl⟩
  obtain ⟨a2, ha2⟩ : ∃ a : ByteArray, (⟨L.name.toArray⟩ : ByteArray) = a := ⟨_, rfl⟩
  obtain ⟨a4, ha4⟩ : ∃ a : ByteArray, (⟨L.value.toArray⟩ : ByteArray) = a := ⟨_, rfl⟩
  have d1 : a1.data.toList = L.group := by rw [← ha1]
  have d2 : a2.data.toList = L.name := by rw [← ha2]
  have d4 : a4.data.toList = L.value := by rw [← ha4]
  rw [ha1, ha2, ha4] at hcond ⊢
  clear ha1 ha2 ha4
  have hal : Below w.heap.size w (w.alloc (.cells #[.string a1, .string a2, .slice A n c, .string a4] 41)) := (Below.refl _ _).alloc (Nat.le_refl _) _
  have hbox := heap_alloc_new w (.cells #[.string a1, .string a2, .slice A n c, .string a4] 41)
  have hC := check_any _ L _ (hcond _ hal) hS (Ch.tabs_below hT hal)
  unfold ChkP at hC
  obtain ⟨m, hm⟩ : ∃ m, chk L = m := ⟨_, rfl⟩
  rw [hm] at hC
  have hbox' := Lib.hid hbox
  have hbad' := Lib.hid (hbad m hm)
  have hgood' := Lib.hid hgood
  have hm' := Lib.hid hm
  have hprl' := Lib.hid hprl
  have hn' := Lib.hid hn
  have h3' := Lib.hid h3
  have h4' := Lib.hid h4
  have hS' := Lib.hid hS
  have hT' := Lib.hid hT
  have d1' := Lib.hid d1
  have d2' := Lib.hid d2
  have d4' := Lib.hid d4
  have hE : (L.group = [] ∧ a1.toList.isEmpty = true) ∨ (L.group ≠ [] ∧ a1.toList.isEmpty = false) := by
    by_cases h : L.group = []
    · exact .inl ⟨h, empty_of a1 (by rw [d1, h])⟩
    · exact .inr ⟨h, nonempty_of a1 (by rw [d1]; exact h)⟩
  have hz1 : a1.size = L.group.length := by rw [Lib.size_eq, d1]
  have hz2 : a2.size = L.name.length := by rw [Lib.size_eq, d2]
  have hz4 : a4.size = L.value.length := by rw [Lib.size_eq, d4]
  have hz1' := Lib.hid hz1
  have hz2' := Lib.hid hz2
  have hz4' := Lib.hid hz4
  unfold maxLen at h2
  clear hbad hgood hcond hprl hn hbox h3 h4 hm hS hT d1 d2 d4 hz1 hz2 hz4
  by_cases hm0 : m = 0
  · subst hm0
    clear hbad'
    go_enter Tryz.func40, Tryz.ntmps40
    go_wp2_with fail
    go_at_call 65
    refine hC.mono ?_
    rintro e W1 ⟨rfl, hb1⟩
    have hx1 : W1.heap[w.heap.size]? = some (.cells #[.string a1, .string a2, .slice A n c, .string a4] 41 (0, 0)) := (hb1.block _ (by simp)).trans hbox'.out
    have hzW : w.heap.size < W1.heap.size := (Array.getElem?_eq_some_iff.1 hx1).1
    have hw1 : Below w.heap.size w W1 := below_then hal hb1
    have hB0 : Below W1.heap.size W1 (W1.alloc (.cells #[.pointer none, .slice none 0 0] 101)) := (Below.refl _ _).alloc (Nat.le_refl _) _
    have hfr := fresh W1
    have hk0 := KeptT.of_below hB0
    have hzB : W1.heap.size ≤ (W1.alloc (.cells #[.pointer none, .slice none 0 0] 101)).heap.size := by simp
    -- what holds in each later world
    have hF : ∀ W, KeptT W1 W → W.cell? ⟨w.heap.size, 0, none⟩ = some (.string a1) ∧ W.cell? ⟨w.heap.size, 1, none⟩ = some (.string a2) ∧ W.cell? ⟨w.heap.size, 2, none⟩ = some (.slice A n c) ∧ W.cell? ⟨w.heap.size, 3, none⟩ = some (.string a4) := fun W hW => by
      have hk := hW _ _ _ _ hx1 (by decide) (by decide)
      obtain ⟨c0, c1, c2, c3, _⟩ := res4 hk
      exact ⟨c0, c1, c2, c3⟩
    have hF' := Lib.hid hF
    obtain ⟨k0, k1, k2, k3⟩ := hF W1 (KeptT.refl _)
    clear hC hb1 hx1 hF hal
    rcases hE with ⟨hg, he⟩ | ⟨hg, he⟩
    · have hacc : [] ++ L.name ++ (wprms L.params ++ 58 :: L.value) = pr L := by rw [hprl'.out, if_pos hg]; simp
      obtain ⟨acc, hac⟩ : ∃ acc : Row, [] = acc := ⟨_, rfl⟩
      rw [hac] at hacc hfr
      have hLen := Lens.of hacc hlen
      have hbd := hfr
      have hB := hB0
      have hkt := hk0
      have hWB := hzB
      clear hg hacc hac hfr
      go_wp2_with fail
      go_at_call 66
      have hN := write_full W1.heap.size W1.heap.size acc a2 _ hbd (by have := hz2'.out; have := hLen.name; omega) hWB
      rw [d2'.out] at hN
      have hB' := Lib.hid hB
      have hkt' := Lib.hid hkt
      clear hbd hB hkt
      refine hN.mono ?_
      rintro e W4 ⟨rfl, hbd4, hb4, ht4⟩
      have hB4 : Below W1.heap.size W1 W4 := hB'.out.trans hb4
      have hk4 : KeptT W1 W4 := hkt'.out.trans ht4
      obtain ⟨j0, j1, j2, j3⟩ := hF'.out W4 hk4
      have hk4' := Lib.hid hk4
      clear hN hb4 ht4 hk4 j0 j1 j3
      go_wp2
      clear j2
      go_loopw [26] (fun s26 wr => ∃ k : Nat, s26 = .int .i64 (k : Int) ∧ k ≤ n ∧ Bd W1.heap.size W1.heap.size (acc ++ L.name ++ wprms (L.params.take k)) wr ∧ Below W1.heap.size W1 wr ∧ KeptT W1 wr) (fun s26 wr => n - (RowKit.intOf s26).toNat)
      case atStart => exact ⟨0, rfl, Nat.zero_le _, by simpa [wprms] using hbd4, hB4, hk4'.out⟩
      case round =>
        obtain ⟨k, rfl, hk, hbd, hbw, hkt⟩ := hrel
        have hkt' := Lib.hid hkt
        clear hkt
        have hBr : W1.heap.size ≤ wr.heap.size := hbw.size
        have hwr : Below w.heap.size w wr := hw1.trans (hbw.mono (Nat.le_of_lt hzW))
        by_cases hlt : k < n
        · have hv : L.params[k]? = some (L.params[k]'(by have := hn'.out; omega)) := List.getElem?_eq_getElem _
          obtain ⟨V, hV⟩ : ∃ V, L.params[k]'(by have := hn'.out; omega) = V := ⟨_, rfl⟩
          have hVm : V ∈ L.params := by rw [← hV]; exact List.getElem_mem _
          rw [hV] at hv
          obtain ⟨rfl, hg⟩ := h3'.out (by omega)
          obtain ⟨hc, u, hu, hsu⟩ := h4'.out k V hv
          rw [← hwr.cell (p := ⟨b, o + k * 2, none⟩) hg] at hc
          rw [← hwr.cell (p := ⟨b, o + k * 2 + 1, none⟩) hg] at hu
          have hsm := (hS'.out.params V hVm).2
          have hp1 := hLen.prm k V hv
          have hp2 := wprms_take L.params k V hv
          obtain ⟨x, hx⟩ : ∃ x : ByteArray, (⟨V.name.toArray⟩ : ByteArray) = x := ⟨_, rfl⟩
          have hxd : x.data.toList = V.name := by rw [← hx]
          unfold sv at hc
          rw [hx] at hc
          have hVe : (⟨x.data.toList, V.vals⟩ : PD) = V := by rw [hxd]
          have hal : Below wr.heap.size wr (wr.alloc (.cells #[.string x, u] 47)) := (Below.refl _ _).alloc (Nat.le_refl _) _
          have hW := writeParam_any w W1.heap.size W1.heap.size (acc ++ L.name ++ wprms (L.params.take k)) x u V.vals (wr.alloc (.cells #[.string x, u] 47)) (hbd.kept hal) hsu (below_then hwr hal) (Nat.le_of_lt hzW) (by rw [hVe]; exact hp1) (by simp; omega) hsm
          rw [hVe, List.append_assoc, ← hp2] at hW
          have hbw2 : Below W1.heap.size W1 (wr.alloc (.cells #[.string x, u] 47)) := hbw.trans (hal.mono hBr)
          have hkt2 := Lib.hid (hkt'.out.trans (KeptT.of_below hal))
          obtain ⟨A2, c2, rfl⟩ := hsu.form
          obtain ⟨q, hq⟩ : ∃ q, V.vals.length = q := ⟨_, rfl⟩
          rw [hq] at hu hW hbw2 hkt2
          clear hv hV hVm hg hsu hsm hp1 hp2 hx hxd hVe hal hq hbd
          go_wp2_with fail
          go_at_call 68
          refine hW.mono ?_
          rintro e W5 ⟨rfl, hbd5, hb5, ht5⟩
          clear hW
          go_wp2
          go_roundw
          case rel => exact ⟨k + 1, by go_num, by omega, hbd5, hbw2.trans hb5, hkt2.out.trans ht5⟩
          case measure => simp [RowKit.intOf]; omega
        · rw [List.take_of_length_le (by have := hn'.out; omega)] at hbd
          have hC := byte_full W1.heap.size W1.heap.size _ 58 wr hbd hLen.colon hBr
          clear hbd
          go_wp2_with fail
          go_at_call 67
          refine hC.mono ?_
          rintro e W5 ⟨rfl, hbd5, hb5, ht5⟩
          have hB5 := hbw.trans hb5
          have hk5 := hkt'.out.trans ht5
          obtain ⟨j0, j1, j2, j3⟩ := hF'.out W5 hk5
          have hVal := write_full W1.heap.size W1.heap.size _ a4 W5 hbd5 (by have := hz4'.out; have := hLen.value; omega) hB5.size
          rw [d4'.out, hLen.fin] at hVal
          clear hC hb5 ht5 hbd5 hk5
          go_wp2_with fail
          go_at_call 66
          refine hVal.mono ?_
          rintro e W6 ⟨rfl, hbd6, hb6, ht6⟩
          have hB6 := hB5.trans hb6
          clear hVal hb6 ht6 j0 j1 j2 j3
          go_wp2_with (go_at_call 69; refine (text_any W1.heap.size W1.heap.size _ _ hbd6 hB6.size).mono ?_; rintro e W7 ⟨rfl, _, hb7⟩)
          go_ret2
          exact ⟨hgood'.out hm'.out _ rfl, hw1.trans ((hB6.trans hb7).mono (Nat.le_of_lt hzW))⟩
    · have hacc : (L.group ++ [46]) ++ L.name ++ (wprms L.params ++ 58 :: L.value) = pr L := by rw [hprl'.out, if_neg hg]; simp
      have hlp := congrArg List.length hacc
      simp only [List.length_append, List.length_singleton] at hlp
      have cG := write_full W1.heap.size W1.heap.size [] a1 _ hfr (by have := hz1'.out; simp; omega) hzB
      rw [List.nil_append, d1'.out] at cG
      have hLen := Lens.of hacc hlen
      have hl46 : L.group.length + 1 ≤ 140737488355328 := by omega
      clear hg hacc hlp
      go_wp2_with fail
      go_at_call 66
      refine cG.mono ?_
      rintro e W2 ⟨rfl, hbd2, hb2, ht2⟩
      have hB2 := hB0.trans hb2
      have ht2' := hk0.trans ht2
      have c46 := byte_full W1.heap.size W1.heap.size _ 46 W2 hbd2 hl46 (Nat.le_trans hzB hb2.size)
      obtain ⟨i0, i1, i2, i3⟩ := hF'.out W2 ht2'
      clear cG hbd2 hb2 ht2
      go_wp2_with fail
      go_at_call 67
      refine c46.mono ?_
      rintro e W3 ⟨rfl, hbd, hb3, ht3⟩
      have hB := hB2.trans hb3
      have hkt := ht2'.trans ht3
      have hWB := hB.size
      obtain ⟨acc, hac⟩ : ∃ acc : Row, L.group ++ [46] = acc := ⟨_, rfl⟩
      rw [hac] at hbd hLen
      clear i0 i1 i2 i3
      obtain ⟨i0, i1, i2, i3⟩ := hF'.out W3 hkt
      clear c46 hb3 ht3 hac hB2 ht2'
      go_wp2_with fail
      go_at_call 66
      have hN := write_full W1.heap.size W1.heap.size acc a2 W3 hbd (by have := hz2'.out; have := hLen.name; omega) hWB
      rw [d2'.out] at hN
      have hB' := Lib.hid hB
      have hkt' := Lib.hid hkt
      clear hbd hB hkt
      refine hN.mono ?_
      rintro e W4 ⟨rfl, hbd4, hb4, ht4⟩
      have hB4 : Below W1.heap.size W1 W4 := hB'.out.trans hb4
      have hk4 : KeptT W1 W4 := hkt'.out.trans ht4
      obtain ⟨j0, j1, j2, j3⟩ := hF'.out W4 hk4
      have hk4' := Lib.hid hk4
      clear hN hb4 ht4 hk4 j0 j1 j3
      go_wp2
      clear j2
      go_loopw [26] (fun s26 wr => ∃ k : Nat, s26 = .int .i64 (k : Int) ∧ k ≤ n ∧ Bd W1.heap.size W1.heap.size (acc ++ L.name ++ wprms (L.params.take k)) wr ∧ Below W1.heap.size W1 wr ∧ KeptT W1 wr) (fun s26 wr => n - (RowKit.intOf s26).toNat)
      case atStart => exact ⟨0, rfl, Nat.zero_le _, by simpa [wprms] using hbd4, hB4, hk4'.out⟩
      case round =>
        obtain ⟨k, rfl, hk, hbd, hbw, hkt⟩ := hrel
        have hkt' := Lib.hid hkt
        clear hkt
        have hBr : W1.heap.size ≤ wr.heap.size := hbw.size
        have hwr : Below w.heap.size w wr := hw1.trans (hbw.mono (Nat.le_of_lt hzW))
        by_cases hlt : k < n
        · have hv : L.params[k]? = some (L.params[k]'(by have := hn'.out; omega)) := List.getElem?_eq_getElem _
          obtain ⟨V, hV⟩ : ∃ V, L.params[k]'(by have := hn'.out; omega) = V := ⟨_, rfl⟩
          have hVm : V ∈ L.params := by rw [← hV]; exact List.getElem_mem _
          rw [hV] at hv
          obtain ⟨rfl, hg⟩ := h3'.out (by omega)
          obtain ⟨hc, u, hu, hsu⟩ := h4'.out k V hv
          rw [← hwr.cell (p := ⟨b, o + k * 2, none⟩) hg] at hc
          rw [← hwr.cell (p := ⟨b, o + k * 2 + 1, none⟩) hg] at hu
          have hsm := (hS'.out.params V hVm).2
          have hp1 := hLen.prm k V hv
          have hp2 := wprms_take L.params k V hv
          obtain ⟨x, hx⟩ : ∃ x : ByteArray, (⟨V.name.toArray⟩ : ByteArray) = x := ⟨_, rfl⟩
          have hxd : x.data.toList = V.name := by rw [← hx]
          unfold sv at hc
          rw [hx] at hc
          have hVe : (⟨x.data.toList, V.vals⟩ : PD) = V := by rw [hxd]
          have hal : Below wr.heap.size wr (wr.alloc (.cells #[.string x, u] 47)) := (Below.refl _ _).alloc (Nat.le_refl _) _
          have hW := writeParam_any w W1.heap.size W1.heap.size (acc ++ L.name ++ wprms (L.params.take k)) x u V.vals (wr.alloc (.cells #[.string x, u] 47)) (hbd.kept hal) hsu (below_then hwr hal) (Nat.le_of_lt hzW) (by rw [hVe]; exact hp1) (by simp; omega) hsm
          rw [hVe, List.append_assoc, ← hp2] at hW
          have hbw2 : Below W1.heap.size W1 (wr.alloc (.cells #[.string x, u] 47)) := hbw.trans (hal.mono hBr)
          have hkt2 := Lib.hid (hkt'.out.trans (KeptT.of_below hal))
          obtain ⟨A2, c2, rfl⟩ := hsu.form
          obtain ⟨q, hq⟩ : ∃ q, V.vals.length = q := ⟨_, rfl⟩
          rw [hq] at hu hW hbw2 hkt2
          clear hv hV hVm hg hsu hsm hp1 hp2 hx hxd hVe hal hq hbd
          go_wp2_with fail
          go_at_call 68
          refine hW.mono ?_
          rintro e W5 ⟨rfl, hbd5, hb5, ht5⟩
          clear hW
          go_wp2
          go_roundw
          case rel => exact ⟨k + 1, by go_num, by omega, hbd5, hbw2.trans hb5, hkt2.out.trans ht5⟩
          case measure => simp [RowKit.intOf]; omega
        · rw [List.take_of_length_le (by have := hn'.out; omega)] at hbd
          have hC := byte_full W1.heap.size W1.heap.size _ 58 wr hbd hLen.colon hBr
          clear hbd
          go_wp2_with fail
          go_at_call 67
          refine hC.mono ?_
          rintro e W5 ⟨rfl, hbd5, hb5, ht5⟩
          have hB5 := hbw.trans hb5
          have hk5 := hkt'.out.trans ht5
          obtain ⟨j0, j1, j2, j3⟩ := hF'.out W5 hk5
          have hVal := write_full W1.heap.size W1.heap.size _ a4 W5 hbd5 (by have := hz4'.out; have := hLen.value; omega) hB5.size
          rw [d4'.out, hLen.fin] at hVal
          clear hC hb5 ht5 hbd5 hk5
          go_wp2_with fail
          go_at_call 66
          refine hVal.mono ?_
          rintro e W6 ⟨rfl, hbd6, hb6, ht6⟩
          have hB6 := hB5.trans hb6
          clear hVal hb6 ht6 j0 j1 j2 j3
          go_wp2_with (go_at_call 69; refine (text_any W1.heap.size W1.heap.size _ _ hbd6 hB6.size).mono ?_; rintro e W7 ⟨rfl, _, hb7⟩)
          go_ret2
          exact ⟨hgood'.out hm'.out _ rfl, hw1.trans ((hB6.trans hb7).mono (Nat.le_of_lt hzW))⟩
  · have d1 : ((m : Int) != 0) = true := bne_iff_ne.2 (by omega)
    have d2 : ((m : Int) == 0) = false := beq_eq_false_iff_ne.2 (by omega)
    have hf := Lib.hid (hbad'.out hm0)
    clear hE
    go_enter Tryz.func40, Tryz.ntmps40
    go_wp2_with (go_at_call 65; refine hC.mono ?_; rintro e W1 ⟨rfl, hb1⟩)
    go_ret2
    exact ⟨hf.out, below_then hal hb1⟩
end Go.Proofs.YthnnpnlapjlnoaaGreatDoor.Li

/-
  THE WALK OF card.Check.
-/
set_option linter.unusedVariables false
namespace Go.Proofs.YthnnpnlapjlnoaaGreatDoor.Ca
open Go.Lib Go.RowKit
open Li (LD PD sv LineAt PrmsAt pr chk SmallL)

/-- Check's answer: the first line's error, or whether the card is right -/
def checkE (Ls : List LD) : Nat := match Ls.find? (fun L => decide (chk L ≠ 0)) with
  | some L => chk L
  | none => if rightB Ls = true then 0 else 50
theorem checkE_bad {Ls : List LD} {k : Nat} {L : LD} (h : Ls[k]? = some L) (hall : ∀ M ∈ Ls.take k, chk M = 0) (hc : chk L ≠ 0) : checkE Ls = chk L := by
  have hlk : k < Ls.length := (List.getElem?_eq_some_iff.1 h).1
  have hd : Ls = Ls.take k ++ L :: Ls.drop (k + 1) := by
    have := List.getElem?_eq_some_iff.1 h
    conv => lhs; rw [← List.take_append_drop k Ls, List.drop_eq_getElem_cons hlk, this.2]
  have hf : Ls.find? (fun L => decide (chk L ≠ 0)) = some L := by
    rw [hd, List.find?_append, List.find?_eq_none.2 (fun M hM => by simp [hall M hM])]
    simp [hc]
  unfold checkE; rw [hf]
theorem checkE_ok {Ls : List LD} (hall : ∀ M ∈ Ls, chk M = 0) : checkE Ls = if rightB Ls = true then 0 else 50 := by
  have hf : Ls.find? (fun L => decide (chk L ≠ 0)) = none := List.find?_eq_none.2 (fun M hM => by simp [hall M hM])
  unfold checkE; rw [hf]
/-- lines of a size that the calls below take -/
structure SmallC (Ls : List LD) : Prop where
  n : Ls.length ≤ 1099511627776
  s : ∀ L ∈ Ls, SmallL L
  p : ∀ L ∈ Ls, (pr L).length ≤ 68719476736
  m : ∀ L ∈ Ls, L.name.length ≤ 281474976710656 ∧ L.value.length ≤ 268435456

set_option maxHeartbeats 8000000 in
set_option maxRecDepth 100000 in
theorem check_any (v : Value) (Ls : List LD) (w : World) (h : LinesAt w v Ls) (hS : SmallC Ls) (hT : Ch.Tabs w) :
    Calls Tryz.prog 19 #[.agg #[v]] w fun e w' => e = .returned (.int .i64 ((checkE Ls : Nat) : Int)) ∧ Below w.heap.size w w' := by
  have hR : ∀ W, Below w.heap.size w W → Calls Tryz.prog 27 #[.agg #[v]] W fun e w' => e = .returned (.bool (rightB Ls)) ∧ Below W.heap.size W w' := fun W hW => right_any v Ls W (h.kept hW) hS.m hS.n
  have hR' := Lib.hid hR
  clear hR
  obtain ⟨A, b, off, c, rfl, h1, h2, h3, h4⟩ := h
  obtain ⟨n, hn⟩ : ∃ n, Ls.length = n := ⟨_, rfl⟩
  have hlen := hS.n
  rw [hn] at h1 h3 hlen hR' ⊢
  unfold maxLen at h2
  have hn' := Lib.hid hn
  have h3' := Lib.hid h3
  have h4' := Lib.hid h4
  have hS' := Lib.hid hS
  have hT' := Lib.hid hT
  have B0 : Below w.heap.size w (w.alloc (.cells #[.slice A n c] 25)) := (Below.refl _ _).alloc (Nat.le_refl _) _
  have hbox : ∀ W, Below (w.alloc (.cells #[.slice A n c] 25)).heap.size (w.alloc (.cells #[.slice A n c] 25)) W → W.cell? ⟨w.heap.size, 0, none⟩ = some (.slice A n c) := fun W hW =>
    (hW.cell (p := ⟨w.heap.size, 0, none⟩) (by simp)).trans (by simp)
  have hbox' := Lib.hid hbox
  clear hn h3 h4 hS hT hbox
  go_enter Tryz.func19, Tryz.ntmps19
  go_wp2
  obtain ⟨w1, hw1⟩ : ∃ w1, w.alloc (.cells #[.slice A n c] 25) = w1 := ⟨_, rfl⟩
  rw [hw1] at B0 hbox' ⊢
  clear hw1
  go_loopw [10] (fun s11 wr => ∃ k : Nat, s11 = .int .i64 (k : Int) ∧ k ≤ n ∧ (∀ M ∈ Ls.take k, chk M = 0) ∧ Below w1.heap.size w1 wr) (fun s11 wr => n - (RowKit.intOf s11).toNat)
  case atStart => exact ⟨0, rfl, Nat.zero_le _, fun L hL => by simp at hL, Below.refl _ _⟩
  case round =>
    obtain ⟨k, rfl, hk, hall, hbw1⟩ := hrel
    have hbw : Below w.heap.size w wr := belowThen B0 hbw1
    by_cases hlt : k < n
    · have hl : Ls[k]? = some (Ls[k]'(by have := hn'.out; omega)) := List.getElem?_eq_getElem _
      obtain ⟨L, hle⟩ : ∃ L, Ls[k]'(by have := hn'.out; omega) = L := ⟨_, rfl⟩
      have hmem : L ∈ Ls := by rw [← hle]; exact List.getElem_mem _
      rw [hle] at hl
      obtain ⟨rfl, hg⟩ := h3'.out (by omega)
      obtain ⟨a1, a2, a4, pA, pn, pc, e1, e2, e4, hpn, hpp, g0, g1, g2, g3⟩ := LinesAt.line h4'.out hg hbw hl
      have hLat : LineAt wr (.agg #[.string a1, .string a2, .slice pA pn pc, .string a4]) L := ⟨.slice pA pn pc, by rw [e1, e2, e4], hpp⟩
      have hbx : Below wr.heap.size wr (wr.alloc (.cells #[.string a1, .string a2, .slice pA pn pc, .string a4] 41)) := (Below.refl _ _).alloc (Nat.le_refl _) _
      have hprl := hS'.out.p L hmem
      have cP := Li.print_any _ L _ (hLat.kept hbx) (hS'.out.s L hmem) (by omega) (Ch.tabs_below hT'.out (belowThen hbw hbx))
      have hlk : k < Ls.length := (List.getElem?_eq_some_iff.1 hl).1
      obtain ⟨ce, hce⟩ : ∃ ce, chk L = ce := ⟨_, rfl⟩
      by_cases hc : ce = 0
      · have hall2 : ∀ M ∈ Ls.take (k + 1), chk M = 0 := fun M hM => by
          rw [List.take_succ_eq_append_getElem hlk] at hM
          rcases List.mem_append.1 hM with hM | hM
          · exact hall M hM
          · rw [List.mem_singleton.1 hM, hle, hce]; exact hc
        have hall2' := Lib.hid hall2
        have cP2 := cP.mono (fun e w' h => (show (∃ s : ByteArray, e = .returned (.tuple #[.string s, .int .i64 0])) ∧ Below (wr.alloc (.cells #[.string a1, .string a2, .slice pA pn pc, .string a4] 41)).heap.size (wr.alloc (.cells #[.string a1, .string a2, .slice pA pn pc, .string a4] 41)) w' from ⟨by
          rcases h.1 with ⟨h, _⟩ | ⟨_, s, _, h⟩
          · exact absurd (hce.trans hc) h
          · exact ⟨s, h⟩, h.2⟩))
        clear hle hl hmem e1 e2 e4 hpn hpp hLat hall2 hall cP hce hc hlk hprl
        go_wp2_with fail
        go_at_call 40
        refine cP2.mono ?_
        rintro e w3 ⟨⟨s, rfl⟩, hb3⟩
        have hB3 := belowThen (belowThen hbw1 hbx) hb3
        clear cP2
        go_wp2
        go_roundw
        case rel => exact ⟨k + 1, by go_num, by omega, hall2'.out, hB3⟩
        case measure => simp [RowKit.intOf]; omega
      · have HO := Lib.hid (checkE_bad hl hall (by rw [hce]; exact hc))
        rw [hce] at HO
        have cP2 := cP.mono (fun e w' h => (show e = .returned (.tuple #[.string ⟨#[]⟩, .int .i64 (ce : Int)]) ∧ Below (wr.alloc (.cells #[.string a1, .string a2, .slice pA pn pc, .string a4] 41)).heap.size (wr.alloc (.cells #[.string a1, .string a2, .slice pA pn pc, .string a4] 41)) w' from ⟨by
          rcases h.1 with ⟨_, h⟩ | ⟨h, _⟩
          · rw [hce] at h; exact h
          · exact absurd (hce.symm.trans h) hc, h.2⟩))
        have d0 : ¬ (ce : Int) = 0 := by omega
        have d0' : ((ce : Int) == 0) = false := beq_eq_false_iff_ne.2 d0
        clear hle hl hmem e1 e2 e4 hpn hpp hLat hall cP hce hc hlk hprl
        go_wp2_with fail
        go_at_call 40
        refine cP2.mono ?_
        rintro e w3 ⟨rfl, hb3⟩
        have hB3 := belowThen (belowThen hbw hbx) hb3
        clear cP2
        go_wp2
        go_ret
        exact ⟨by rw [HO.out] <;> rfl, hB3⟩
    · obtain rfl : k = n := by omega
      have htk : Ls.take k = Ls := List.take_of_length_le (by have := hn'.out; omega)
      rw [htk] at hall
      have hbc := hbox'.out wr hbw1
      have cR := hR'.out wr hbw
      have hco := checkE_ok hall
      cases hr : rightB Ls with
      | true =>
        rw [hr] at hco cR
        have HO := Lib.hid (hco.trans (by rfl) : checkE Ls = 0)
        clear htk hall hco hr
        go_wp2_with (go_at_call 27; refine cR.mono ?_; rintro e w3 ⟨rfl, hb3⟩)
        go_ret
        exact ⟨by rw [HO.out] <;> rfl, belowThen hbw hb3⟩
      | false =>
        rw [hr] at hco cR
        have HO := Lib.hid (hco.trans (by rfl) : checkE Ls = 50)
        clear htk hall hco hr
        go_wp2_with (go_at_call 27; refine cR.mono ?_; rintro e w3 ⟨rfl, hb3⟩)
        go_ret
        exact ⟨by rw [HO.out] <;> rfl, belowThen hbw hb3⟩
end Go.Proofs.YthnnpnlapjlnoaaGreatDoor.Ca

/-
  PLAIN LAWS OF RIGHT CARDS: the program's word on a card ('checkE') is the reference's ('cerr'); what is right stays right, canonical; sorted lines sorted again.
-/
set_option linter.unusedVariables false
namespace Go.Proofs.YthnnpnlapjlnoaaGreatDoor.Ca
open Li (LD PD canL chk)

theorem among_BAD (n : Row) : among n sBAD = true ↔ n = kBEGIN ∨ n = kEND ∨ n = kVERSION := by
  have : words sBAD = [kBEGIN, kEND, kVERSION] := by decide
  unfold among; rw [this]; simp
theorem among_ONCE (n : Row) : among n sONCE = true ↔ n = kN ∨ n = kUID ∨ n = kKIND ∨ n = kBDAY ∨ n = kREV := by
  have : words sONCE = [kN, kUID, kKIND, kBDAY, kREV] := by decide
  unfold among; rw [this]; simp
theorem among_KINDS (n : Row) : among n sKINDS = true ↔ n = k1 ∨ n = k2 ∨ n = k3 ∨ n = k4 := by
  have : words sKINDS = [k1, k2, k3, k4] := by decide
  unfold among; rw [this]; simp
theorem put_nil (t : Row) : Va.put t = [] ↔ t = [] := by
  cases t with
  | nil => simp [Va.put]
  | cons c t =>
    constructor
    · intro h
      simp only [Va.put, List.append_eq_nil_iff] at h
      have := h.1
      unfold Va.put1 at this
      split at this
      · cases this
      · split at this <;> cases this
    · intro h; cases h
/-- a line that no right card has, in the program's words -/
theorem badL_eq (L : LD) : badL L = (!okV (Ch.up L.name) L.value || among (Ch.up L.name) sBAD) := by
  have ha := anew_eq (Ch.up L.name) L.value
  unfold badL
  show (!(anew (Ch.up L.name) L.value).2 || (among (Ch.up L.name) sBAD || ((decide (Ch.up L.name = nUID) && decide ((anew (Ch.up L.name) L.value).1 = [])) || (decide (Ch.up L.name = nKIND) && !among (Ch.low (anew (Ch.up L.name) L.value).1) sKINDS)))) = _
  rw [ha.2]
  obtain ⟨n, hn⟩ : ∃ n, Ch.up L.name = n := ⟨_, rfl⟩
  rw [hn] at ha ⊢
  cases hx : anewV n L.value with
  | none => rw [show okV n L.value = false by unfold okV; rw [hx]; rfl]; simp
  | some x =>
    rw [ha.1 x hx]
    have ho : okV n L.value = (if n = kN then decide (((Va.fields L.value).getD []).length = 5) else if n = kUID then !decide ((Va.text L.value).getD [] = []) else if n = kKIND then kindB L.value else true) := by unfold okV; rw [hx]; rfl
    rw [ho]
    unfold five
    have eU : nUID = kUID := rfl
    have eK : nKIND = kKIND := rfl
    rw [eU, eK]
    by_cases h1 : n = kN
    · simp [h1, show ¬ kN = kUID by decide, show ¬ kN = kKIND by decide]
    · by_cases h2 : n = kUID
      · have hf := anewV_text (n := n) (.inr (.inr h2)) L.value
        rw [hx] at hf
        obtain ⟨t, ht, rfl⟩ := Option.map_eq_some_iff.1 hf.symm
        rw [if_neg h1, if_pos h2, ht]
        have hp := put_nil t
        by_cases h0 : t = []
        · simp [h2, h0, Va.put, show ¬ kUID = kN by decide, show ¬ kUID = kKIND by decide]
        · have hp2 : ¬ Va.put t = [] := fun e => h0 (hp.1 e)
          simp [h2, h0, hp2, show ¬ kUID = kN by decide, show ¬ kUID = kKIND by decide]
      · by_cases h3 : n = kKIND
        · have hf := anewV_own (n := n) (by rw [h3]; decide) (by rw [h3]; decide) (by rw [h3]; decide) L.value
          rw [hx] at hf
          cases hf
          rw [if_neg h1, if_neg h2, if_pos h3]
          have hk : among (Ch.low L.value) sKINDS = kindB L.value := by
            unfold kindB
            by_cases hq : Ch.low L.value = k1 ∨ Ch.low L.value = k2 ∨ Ch.low L.value = k3 ∨ Ch.low L.value = k4
            · rw [(among_KINDS _).2 hq, decide_eq_true hq]
            · rw [decide_eq_false hq]
              cases hb : among (Ch.low L.value) sKINDS with
              | false => rfl
              | true => exact absurd ((among_KINDS _).1 hb) hq
          rw [hk]
          cases kindB L.value <;> simp [h3, show ¬ kKIND = kN by decide, show ¬ kKIND = kUID by decide]
        · simp [h1, h2, h3]

/-- no name too often, FN aside -/
def few (ns : List Row) : Prop := ns.count kBEGIN = 0 ∧ ns.count kEND = 0 ∧ ns.count kVERSION = 0 ∧ ns.count kN ≤ 1 ∧ ns.count kUID ≤ 1 ∧ ns.count kKIND ≤ 1 ∧ ns.count kBDAY ≤ 1 ∧ ns.count kREV ≤ 1
theorem cntOK_few (ns : List Row) : cntOK ns = true ↔ few ns ∧ 0 < ns.count kFN := by
  unfold cntOK few
  rw [decide_eq_true_eq]
  constructor
  · rintro ⟨a, b, c, d, e, f, g, h, i⟩; exact ⟨⟨a, b, c, d, e, f, g, h⟩, i⟩
  · rintro ⟨⟨a, b, c, d, e, f, g, h⟩, i⟩; exact ⟨a, b, c, d, e, f, g, h, i⟩
theorem count_snoc (ns : List Row) (nm m : Row) : (ns ++ [nm]).count m = ns.count m + (if nm = m then 1 else 0) := by
  rw [List.count_append]
  congr 1
  rw [List.count_singleton]
  simp
theorem count_in {ns : List Row} {m : Row} : m ∈ ns ↔ 0 < ns.count m := by rw [List.count_pos_iff]
theorem few_snoc (ns : List Row) (nm : Row) : few (ns ++ [nm]) ↔ few ns ∧ among nm sBAD = false ∧ ¬ (nm ∈ ns ∧ among nm sONCE = true) := by
  unfold few
  simp only [count_snoc]
  have hb : among nm sBAD = false ↔ ¬ (nm = kBEGIN ∨ nm = kEND ∨ nm = kVERSION) := by
    rw [← among_BAD]; simp
  rw [hb, among_ONCE]
  have one : ∀ m, (ns.count m + (if nm = m then 1 else 0) ≤ 1) ↔ ns.count m ≤ 1 ∧ ¬ (nm = m ∧ nm ∈ ns) := fun m => by
    by_cases h : nm = m
    · subst h
      rw [if_pos rfl, count_in]
      constructor
      · intro h; exact ⟨by omega, fun q => by omega⟩
      · rintro ⟨h1, h2⟩
        have : ¬ 0 < ns.count nm := fun q => h2 ⟨rfl, q⟩
        omega
    · rw [if_neg h]
      exact ⟨fun q => ⟨q, fun r => h r.1⟩, fun q => q.1⟩
  have zero : ∀ m, (ns.count m + (if nm = m then 1 else 0) = 0) ↔ ns.count m = 0 ∧ ¬ nm = m := fun m => by
    by_cases h : nm = m
    · rw [if_pos h]; simp [h]
    · rw [if_neg h]; simp [h]
  simp only [one, zero]
  constructor
  · rintro ⟨⟨a, a'⟩, ⟨b, b'⟩, ⟨c, c'⟩, ⟨d, d'⟩, ⟨e, e'⟩, ⟨f, f'⟩, ⟨g, g'⟩, ⟨h, h'⟩⟩
    refine ⟨⟨a, b, c, d, e, f, g, h⟩, ?_, ?_⟩
    · rintro (q | q | q)
      · exact a' q
      · exact b' q
      · exact c' q
    · rintro ⟨hin, q | q | q | q | q⟩
      · exact d' ⟨q, hin⟩
      · exact e' ⟨q, hin⟩
      · exact f' ⟨q, hin⟩
      · exact g' ⟨q, hin⟩
      · exact h' ⟨q, hin⟩
  · rintro ⟨⟨a, b, c, d, e, f, g, h⟩, h1, h2⟩
    exact ⟨⟨a, fun q => h1 (.inl q)⟩, ⟨b, fun q => h1 (.inr (.inl q))⟩, ⟨c, fun q => h1 (.inr (.inr q))⟩, ⟨d, fun q => h2 ⟨q.2, .inl q.1⟩⟩, ⟨e, fun q => h2 ⟨q.2, .inr (.inl q.1)⟩⟩, ⟨f, fun q => h2 ⟨q.2, .inr (.inr (.inl q.1))⟩⟩, ⟨g, fun q => h2 ⟨q.2, .inr (.inr (.inr (.inl q.1)))⟩⟩, ⟨h, fun q => h2 ⟨q.2, .inr (.inr (.inr (.inr q.1)))⟩⟩⟩
def namesL (Ls : List LD) : List Row := Ls.map fun L => Ch.up L.name
theorem dupL_iff (ahead : List LD) (L : LD) : dupL (ahead.map can1) (can1 L) = true ↔ Ch.up L.name ∈ namesL ahead ∧ among (Ch.up L.name) sONCE = true := by
  unfold dupL namesL
  rw [List.any_map, List.any_eq_true]
  constructor
  · rintro ⟨o, ho, hq⟩
    simp only [Function.comp, Bool.and_eq_true, decide_eq_true_eq] at hq
    have e : Ch.up o.name = Ch.up L.name := hq.1
    exact ⟨List.mem_map.2 ⟨o, ho, e⟩, hq.2⟩
  · rintro ⟨h1, h2⟩
    obtain ⟨o, ho, e⟩ := List.mem_map.1 h1
    refine ⟨o, ho, ?_⟩
    simp only [Function.comp, Bool.and_eq_true, decide_eq_true_eq]
    exact ⟨e, h2⟩
theorem badTo_iff (Ls : List LD) : ∀ k, k ≤ Ls.length → (badTo Ls k = false ↔ (∀ L ∈ Ls.take k, okV (Ch.up L.name) L.value = true) ∧ few (namesL (Ls.take k)))
  | 0, _ => by
    simp only [badTo, List.take_zero, true_iff]
    exact ⟨(fun L h => by cases h), by unfold few namesL; simp⟩
  | k + 1, hk => by
    have ih := badTo_iff Ls k (by omega)
    have hl : Ls[k]? = some Ls[k] := List.getElem?_eq_getElem (by omega)
    rw [badTo_next Ls k _ hl, badL_eq, List.take_succ_eq_append_getElem (by omega)]
    have hn : namesL (Ls.take k ++ [Ls[k]]) = namesL (Ls.take k) ++ [Ch.up Ls[k].name] := by unfold namesL; rw [List.map_append]; rfl
    rw [hn, few_snoc]
    obtain ⟨L, hL⟩ : ∃ L, Ls[k] = L := ⟨_, rfl⟩
    rw [hL]
    have hd := dupL_iff (Ls.take k) L
    simp only [Bool.or_eq_false_iff, Bool.not_eq_false']
    rw [ih]
    constructor
    · rintro ⟨⟨a, b⟩, ⟨c, d⟩, e⟩
      refine ⟨fun M hM => ?_, b, d, fun q => ?_⟩
      · rcases List.mem_append.1 hM with h | h
        · exact a M h
        · rw [List.mem_singleton.1 h]; exact c
      · rw [hd.2 q] at e; cases e
    · rintro ⟨a, b, d, e⟩
      refine ⟨⟨fun M hM => a M (List.mem_append.2 (.inl hM)), b⟩, ⟨a L (by simp), d⟩, ?_⟩
      cases hq : dupL ((Ls.take k).map can1) (can1 L) with
      | false => rfl
      | true => exact absurd (hd.1 hq) e
theorem fn_iff (Ls : List LD) : (Ls.map can1).filter (fun L => decide (L.name = nFN)) = [] ↔ (namesL Ls).count kFN = 0 := by
  rw [List.filter_eq_nil_iff]
  unfold namesL
  rw [List.count_eq_zero]
  constructor
  · intro h hm
    obtain ⟨L, hL, e⟩ := List.mem_map.1 hm
    have := h (can1 L) (List.mem_map.2 ⟨L, hL, rfl⟩)
    exact this (decide_eq_true e)
  · intro h M hM
    obtain ⟨L, hL, rfl⟩ := List.mem_map.1 hM
    intro q
    exact h (List.mem_map.2 ⟨L, hL, of_decide_eq_true q⟩)
/-- the reference's error is the program's -/
theorem cerr_eq (Ls : List LD) : cerr Ls = checkE Ls := by
  unfold cerr checkE
  cases Ls.find? (fun L => decide (chk L ≠ 0)) with
  | some L => rfl
  | none =>
    have hb := badTo_iff Ls Ls.length (Nat.le_refl _)
    rw [List.take_length] at hb
    have hr : rightB Ls = true ↔ (∀ L ∈ Ls, okV (Ch.up L.name) L.value = true) ∧ few (namesL Ls) ∧ 0 < (namesL Ls).count kFN := by
      unfold rightB
      rw [Bool.and_eq_true, List.all_eq_true, cntOK_few]; rfl
    have hf := fn_iff Ls
    dsimp only
    by_cases hR : rightB Ls = true
    · rw [if_pos hR]
      obtain ⟨r1, r2, r3⟩ := hr.1 hR
      rw [if_neg]
      rintro (h | h)
      · have := hf.1 h; omega
      · rw [hb.2 ⟨r1, r2⟩] at h; cases h
    · rw [if_neg hR, if_pos]
      by_cases h1 : (Ls.map can1).filter (fun L => decide (L.name = nFN)) = []
      · exact .inl h1
      · right
        cases hq : badTo Ls Ls.length with
        | true => rfl
        | false =>
          exfalso
          obtain ⟨r1, r2⟩ := hb.1 hq
          exact hR (hr.2 ⟨r1, r2, by
            rcases Nat.eq_zero_or_pos ((namesL Ls).count kFN) with h0 | h0
            · exact absurd (hf.2 h0) h1
            · exact h0⟩)
end Go.Proofs.YthnnpnlapjlnoaaGreatDoor.Ca

/-
  THE WALKS OF THE REFERENCE's Rune AND Valid.
-/
set_option linter.unusedVariables false
namespace Go.Proofs.YthnnpnlapjlnoaaGreatDoor.Ch
open Go.Lib Go.RowKit

def runeE (p : Nat × Nat) : Ending := .returned (.tuple #[.int .i64 (p.1 : Int), .int .i64 (p.2 : Int)])
/-- byte j, nought behind the end -/
def at' (s : ByteArray) (j : Nat) : Nat := (s.data.toList.getD j 0).toNat
theorem at_get (s : ByteArray) (j : Nat) (h : j < s.size) : ((s[j]'h).toNat : Int) = (at' s j : Int) := by
  unfold at'
  have hl : j < s.data.toList.length := by rw [← Lib.size_eq]; exact h
  rw [List.getD_eq_getElem?_getD, List.getElem?_eq_getElem hl]
  rfl
theorem at_lt (s : ByteArray) (j : Nat) : at' s j < 256 := (s.data.toList.getD j 0).toNat_lt

/-- The rounds for a character of two bytes: where the place is, what has been gathered. -/
def Rel2 (b0 b1 : Nat) (b i : Value) : Prop := (i = .int .i64 1 ∧ b = .int .i64 ((b0 : Int) - 192)) ∨ (i = .int .i64 2 ∧ b = .int .i64 (64 * ((b0 : Int) - 192) + b1 - 128) ∧ cont b1)

set_option maxHeartbeats 2000000 in
set_option maxRecDepth 100000 in
theorem rune_two (s : ByteArray) (w : World) (hs : s.size ≤ 9223372036854775807) (h0 : 0 < s.size) (h1 : 192 ≤ at' s 0) (h2 : at' s 0 < 224) :
    Calls Tryz.prog 50 #[.string s] w fun e w' => e = runeE (runeN s.size (at' s 0) (at' s 1) (at' s 2) (at' s 3)) ∧ w = w' := by
  have g0 := at_get s 0 h0
  have gl1 := at_lt s 1
  obtain ⟨b0, hb0⟩ : ∃ b, at' s 0 = b := ⟨_, rfl⟩
  obtain ⟨b1, hb1⟩ : ∃ b, at' s 1 = b := ⟨_, rfl⟩
  rw [hb0] at g0 h1 h2 ⊢
  rw [hb1] at gl1 ⊢
  obtain ⟨R, hR⟩ : ∃ R, runeN s.size b0 b1 (at' s 2) (at' s 3) = R := ⟨_, rfl⟩
  have hcase := runeN_two s.size b0 b1 (at' s 2) (at' s 3) h1 h2
  rw [hR] at hcase ⊢
  have hb1' := Lib.hid hb1
  have hcase' := Lib.hid hcase
  clear hR hb0 hb1 hcase
  by_cases hz : s.size < 2
  · have hR0 : R = (0, 0) := by
      rcases hcase'.out with h | h
      · omega
      · exact h.2
    have hR0' := Lib.hid hR0
    clear hR0
    go_enter Tryz.func50, Tryz.ntmps50
    go_wp2
    go_ret2
    exact ⟨by rw [hR0'.out]; rfl, rfl⟩
  · have g1 := at_get s 1 (by omega)
    rw [hb1'.out] at g1
    go_enter Tryz.func50, Tryz.ntmps50
    go_wp2
    go_loop [4, 7] (fun b i => Rel2 b0 b1 b i) (fun _ i => 2 - (RowKit.intOf i).toNat)
    case atStart => exact .inl ⟨rfl, rfl⟩
    case round =>
      rcases hrel with ⟨rfl, rfl⟩ | ⟨rfl, rfl, hc⟩
      · by_cases hc : cont b1
        · obtain ⟨c1, c2⟩ := hc
          go_wp2
          go_round
          case rel => exact ⟨_, _, _, _, .inr ⟨rfl, rfl, c1, c2⟩, rfl, rfl, rfl, rfl⟩
          case measure => decide
        · have hR0 : R = (0, 0) := by
            rcases hcase'.out with h | h
            · exact absurd h.2.1 hc
            · exact h.2
          have hR0' := Lib.hid hR0
          have hc' : b1 < 128 ∨ 191 < b1 := by unfold cont at hc; omega
          clear hR0 hc
          rcases hc' with hc' | hc'
          all_goals
            go_wp2
            go_ret2
            exact ⟨by rw [hR0'.out]; rfl, rfl⟩
      · have hv : (64 * ((b0 : Int) - 192) + b1 - 128) = (v2 b0 b1 : Int) := by unfold v2; have := hc.1; omega
        rw [hv]
        obtain ⟨v, hv2⟩ : ∃ v, v2 b0 b1 = v := ⟨_, rfl⟩
        have hcase2 := hcase'.out
        rw [hv2] at hcase2 ⊢
        clear hv hv2 hcase'
        rcases hcase2 with ⟨_, _, h3, h4, h5⟩ | ⟨h3, h5⟩
        · have h5' := Lib.hid h5
          clear h5
          go_wp2
          go_ret2
          exact ⟨by rw [h5'.out]; rfl, rfl⟩
        · have h4 : v < 128 := by
            rcases Nat.lt_or_ge v 128 with h | h
            · exact h
            · exact absurd ⟨by omega, hc, h⟩ h3
          have h5' := Lib.hid h5
          clear h5 h3
          go_wp2
          go_ret2
          exact ⟨by rw [h5'.out]; rfl, rfl⟩

/-- Three bytes. -/
def Rel3 (b0 b1 b2 : Nat) (b i : Value) : Prop := (i = .int .i64 1 ∧ b = .int .i64 ((b0 : Int) - 224)) ∨ (i = .int .i64 2 ∧ b = .int .i64 (64 * ((b0 : Int) - 224) + b1 - 128) ∧ cont b1) ∨
  (i = .int .i64 3 ∧ b = .int .i64 (64 * (64 * ((b0 : Int) - 224) + b1 - 128) + b2 - 128) ∧ cont b1 ∧ cont b2)

set_option maxHeartbeats 4000000 in
set_option maxRecDepth 100000 in
theorem rune_three (s : ByteArray) (w : World) (hs : s.size ≤ 9223372036854775807) (h0 : 0 < s.size) (h1 : 224 ≤ at' s 0) (h2 : at' s 0 < 240) :
    Calls Tryz.prog 50 #[.string s] w fun e w' => e = runeE (runeN s.size (at' s 0) (at' s 1) (at' s 2) (at' s 3)) ∧ w = w' := by
  have g0 := at_get s 0 h0
  have gl1 := at_lt s 1
  have gl2 := at_lt s 2
  obtain ⟨b0, hb0⟩ : ∃ b, at' s 0 = b := ⟨_, rfl⟩
  obtain ⟨b1, hb1⟩ : ∃ b, at' s 1 = b := ⟨_, rfl⟩
  obtain ⟨b2, hb2⟩ : ∃ b, at' s 2 = b := ⟨_, rfl⟩
  rw [hb0] at g0 h1 h2 ⊢
  rw [hb1] at gl1 ⊢
  rw [hb2] at gl2 ⊢
  obtain ⟨R, hR⟩ : ∃ R, runeN s.size b0 b1 b2 (at' s 3) = R := ⟨_, rfl⟩
  have hcase := runeN_three s.size b0 b1 b2 (at' s 3) h1 h2
  rw [hR] at hcase ⊢
  have hb1' := Lib.hid hb1
  have hb2' := Lib.hid hb2
  have hcase' := Lib.hid hcase
  clear hR hb0 hb1 hb2 hcase
  by_cases hz : s.size < 3
  · have hR0 : R = (0, 0) := by
      rcases hcase'.out with h | h
      · omega
      · exact h.2
    have hR0' := Lib.hid hR0
    clear hR0
    go_enter Tryz.func50, Tryz.ntmps50
    go_wp2
    go_ret2
    exact ⟨by rw [hR0'.out]; rfl, rfl⟩
  · have g1 := at_get s 1 (by omega)
    have g2 := at_get s 2 (by omega)
    rw [hb1'.out] at g1
    rw [hb2'.out] at g2
    go_enter Tryz.func50, Tryz.ntmps50
    go_wp2
    go_loop [4, 7] (fun b i => Rel3 b0 b1 b2 b i) (fun _ i => 3 - (RowKit.intOf i).toNat)
    case atStart => exact .inl ⟨rfl, rfl⟩
    case round =>
      rcases hrel with ⟨rfl, rfl⟩ | ⟨rfl, rfl, hc⟩ | ⟨rfl, rfl, hc1, hc2⟩
      · by_cases hc : cont b1
        · obtain ⟨c1, c2⟩ := hc
          go_wp2
          go_round
          case rel => exact ⟨_, _, _, _, .inr (.inl ⟨rfl, rfl, c1, c2⟩), rfl, rfl, rfl, rfl⟩
          case measure => decide
        · have hR0 : R = (0, 0) := by
            rcases hcase'.out with h | h
            · exact absurd h.2.1 hc
            · exact h.2
          have hR0' := Lib.hid hR0
          have hc' : b1 < 128 ∨ 191 < b1 := by unfold cont at hc; omega
          clear hR0 hc
          rcases hc' with hc' | hc'
          all_goals
            go_wp2
            go_ret2
            exact ⟨by rw [hR0'.out]; rfl, rfl⟩
      · obtain ⟨c1, c2⟩ := hc
        by_cases hd : cont b2
        · obtain ⟨d1, d2⟩ := hd
          go_wp2
          go_round
          case rel => exact ⟨_, _, _, _, .inr (.inr ⟨rfl, rfl, ⟨c1, c2⟩, d1, d2⟩), rfl, rfl, rfl, rfl⟩
          case measure => decide
        · have hR0 : R = (0, 0) := by
            rcases hcase'.out with h | h
            · exact absurd h.2.2.1 hd
            · exact h.2
          have hR0' := Lib.hid hR0
          have hc' : b2 < 128 ∨ 191 < b2 := by unfold cont at hd; omega
          clear hR0 hd
          rcases hc' with hc' | hc'
          all_goals
            go_wp2
            go_ret2
            exact ⟨by rw [hR0'.out]; rfl, rfl⟩
      · have hv : (64 * (64 * ((b0 : Int) - 224) + b1 - 128) + b2 - 128) = (v3 b0 b1 b2 : Int) := by unfold v3; have := hc1.1; have := hc2.1; omega
        have hvb : v3 b0 b1 b2 ≤ 65535 := by unfold v3; have := hc1.2; have := hc2.2; omega
        rw [hv]
        obtain ⟨v, hv2⟩ : ∃ v, v3 b0 b1 b2 = v := ⟨_, rfl⟩
        have hcase2 := hcase'.out
        rw [hv2] at hcase2 hvb ⊢
        clear hv hv2 hcase'
        rcases hcase2 with ⟨_, _, _, h3, h4, h6, h5⟩ | ⟨h3, h5⟩
        · have h5' := Lib.hid h5
          have h7 : v < 55296 ∨ 57343 < v := by omega
          clear h5 h6
          rcases h7 with h7 | h7
          all_goals
            go_wp2
            go_ret2
            exact ⟨by rw [h5'.out]; rfl, rfl⟩
        · have h4 : v < 2048 ∨ (55296 ≤ v ∧ v ≤ 57343) := by
            rcases Nat.lt_or_ge v 2048 with h | h
            · exact .inl h
            · right
              by_cases h6 : 55296 ≤ v ∧ v ≤ 57343
              · exact h6
              · exact absurd ⟨by omega, hc1, hc2, h, h6⟩ h3
          have h5' := Lib.hid h5
          clear h5 h3
          rcases h4 with h4 | ⟨h4, h6⟩
          all_goals
            go_wp2
            go_ret2
            exact ⟨by rw [h5'.out]; rfl, rfl⟩

/-- Four bytes. -/
def Rel4 (b0 b1 b2 b3 : Nat) (b i : Value) : Prop := (i = .int .i64 1 ∧ b = .int .i64 ((b0 : Int) - 240)) ∨ (i = .int .i64 2 ∧ b = .int .i64 (64 * ((b0 : Int) - 240) + b1 - 128) ∧ cont b1) ∨
  (i = .int .i64 3 ∧ b = .int .i64 (64 * (64 * ((b0 : Int) - 240) + b1 - 128) + b2 - 128) ∧ cont b1 ∧ cont b2) ∨
  (i = .int .i64 4 ∧ b = .int .i64 (64 * (64 * (64 * ((b0 : Int) - 240) + b1 - 128) + b2 - 128) + b3 - 128) ∧ cont b1 ∧ cont b2 ∧ cont b3)

set_option maxHeartbeats 4000000 in
set_option maxRecDepth 100000 in
theorem rune_four (s : ByteArray) (w : World) (hs : s.size ≤ 9223372036854775807) (h0 : 0 < s.size) (h1 : 240 ≤ at' s 0) (h2 : at' s 0 < 248) :
    Calls Tryz.prog 50 #[.string s] w fun e w' => e = runeE (runeN s.size (at' s 0) (at' s 1) (at' s 2) (at' s 3)) ∧ w = w' := by
  have g0 := at_get s 0 h0
  have gl1 := at_lt s 1
  have gl2 := at_lt s 2
  have gl3 := at_lt s 3
  obtain ⟨b0, hb0⟩ : ∃ b, at' s 0 = b := ⟨_, rfl⟩
  obtain ⟨b1, hb1⟩ : ∃ b, at' s 1 = b := ⟨_, rfl⟩
  obtain ⟨b2, hb2⟩ : ∃ b, at' s 2 = b := ⟨_, rfl⟩
  obtain ⟨b3, hb3⟩ : ∃ b, at' s 3 = b := ⟨_, rfl⟩
  rw [hb0] at g0 h1 h2 ⊢
  rw [hb1] at gl1 ⊢
  rw [hb2] at gl2 ⊢
  rw [hb3] at gl3 ⊢
  obtain ⟨R, hR⟩ : ∃ R, runeN s.size b0 b1 b2 b3 = R := ⟨_, rfl⟩
  have hcase := runeN_four s.size b0 b1 b2 b3 h1 h2
  rw [hR] at hcase ⊢
  have hb1' := Lib.hid hb1
  have hb2' := Lib.hid hb2
  have hb3' := Lib.hid hb3
  have hcase' := Lib.hid hcase
  clear hR hb0 hb1 hb2 hb3 hcase
  by_cases hz : s.size < 4
  · have hR0 : R = (0, 0) := by
      rcases hcase'.out with h | h
      · omega
      · exact h.2
    have hR0' := Lib.hid hR0
    clear hR0
    go_enter Tryz.func50, Tryz.ntmps50
    go_wp2
    go_ret2
    exact ⟨by rw [hR0'.out]; rfl, rfl⟩
  · have g1 := at_get s 1 (by omega)
    have g2 := at_get s 2 (by omega)
    have g3 := at_get s 3 (by omega)
    rw [hb1'.out] at g1
    rw [hb2'.out] at g2
    rw [hb3'.out] at g3
    go_enter Tryz.func50, Tryz.ntmps50
    go_wp2
    go_loop [4, 7] (fun b i => Rel4 b0 b1 b2 b3 b i) (fun _ i => 4 - (RowKit.intOf i).toNat)
    case atStart => exact .inl ⟨rfl, rfl⟩
    case round =>
      rcases hrel with ⟨rfl, rfl⟩ | ⟨rfl, rfl, hc⟩ | ⟨rfl, rfl, hc1, hc2⟩ | ⟨rfl, rfl, hc1, hc2, hc3⟩
      · by_cases hc : cont b1
        · obtain ⟨c1, c2⟩ := hc
          go_wp2
          go_round
          case rel => exact ⟨_, _, _, _, .inr (.inl ⟨rfl, rfl, c1, c2⟩), rfl, rfl, rfl, rfl⟩
          case measure => decide
        · have hR0 : R = (0, 0) := by
            rcases hcase'.out with h | h
            · exact absurd h.2.1 hc
            · exact h.2
          have hR0' := Lib.hid hR0
          have hc' : b1 < 128 ∨ 191 < b1 := by unfold cont at hc; omega
          clear hR0 hc
          rcases hc' with hc' | hc'
          all_goals
            go_wp2
            go_ret2
            exact ⟨by rw [hR0'.out]; rfl, rfl⟩
      · obtain ⟨c1, c2⟩ := hc
        by_cases hd : cont b2
        · obtain ⟨d1, d2⟩ := hd
          go_wp2
          go_round
          case rel => exact ⟨_, _, _, _, .inr (.inr (.inl ⟨rfl, rfl, ⟨c1, c2⟩, d1, d2⟩)), rfl, rfl, rfl, rfl⟩
          case measure => decide
        · have hR0 : R = (0, 0) := by
            rcases hcase'.out with h | h
            · exact absurd h.2.2.1 hd
            · exact h.2
          have hR0' := Lib.hid hR0
          have hc' : b2 < 128 ∨ 191 < b2 := by unfold cont at hd; omega
          clear hR0 hd
          rcases hc' with hc' | hc'
          all_goals
            go_wp2
            go_ret2
            exact ⟨by rw [hR0'.out]; rfl, rfl⟩
      · obtain ⟨c1, c2⟩ := hc1
        obtain ⟨d1, d2⟩ := hc2
        by_cases hd : cont b3
        · obtain ⟨e1, e2⟩ := hd
          go_wp2
          go_round
          case rel => exact ⟨_, _, _, _, .inr (.inr (.inr ⟨rfl, rfl, ⟨c1, c2⟩, ⟨d1, d2⟩, e1, e2⟩)), rfl, rfl, rfl, rfl⟩
          case measure => decide
        · have hR0 : R = (0, 0) := by
            rcases hcase'.out with h | h
            · exact absurd h.2.2.2.1 hd
            · exact h.2
          have hR0' := Lib.hid hR0
          have hc' : b3 < 128 ∨ 191 < b3 := by unfold cont at hd; omega
          clear hR0 hd
          rcases hc' with hc' | hc'
          all_goals
            go_wp2
            go_ret2
            exact ⟨by rw [hR0'.out]; rfl, rfl⟩
      · have hv : (64 * (64 * (64 * ((b0 : Int) - 240) + b1 - 128) + b2 - 128) + b3 - 128) = (v4 b0 b1 b2 b3 : Int) := by unfold v4; have := hc1.1; have := hc2.1; have := hc3.1; omega
        have hvb : v4 b0 b1 b2 b3 ≤ 2097151 := by unfold v4; have := hc1.2; have := hc2.2; have := hc3.2; omega
        rw [hv]
        obtain ⟨v, hv2⟩ : ∃ v, v4 b0 b1 b2 b3 = v := ⟨_, rfl⟩
        have hcase2 := hcase'.out
        rw [hv2] at hcase2 hvb ⊢
        clear hv hv2 hcase'
        rcases hcase2 with ⟨_, _, _, _, h3, h4, h5⟩ | ⟨h3, h5⟩
        · have h5' := Lib.hid h5
          clear h5
          go_wp2
          go_ret2
          exact ⟨by rw [h5'.out]; rfl, rfl⟩
        · have h4 : v < 65536 ∨ 1114111 < v := by
            rcases Nat.lt_or_ge v 65536 with h | h
            · exact .inl h
            · right
              rcases Nat.lt_or_ge 1114111 v with h6 | h6
              · exact h6
              · exact absurd ⟨by omega, hc1, hc2, hc3, h, h6⟩ h3
          have h5' := Lib.hid h5
          clear h5 h3
          rcases h4 with h4 | h4
          all_goals
            go_wp2
            go_ret2
            exact ⟨by rw [h5'.out]; rfl, rfl⟩

set_option maxHeartbeats 2000000 in
set_option maxRecDepth 100000 in
theorem rune_any (s : ByteArray) (w : World) (hs : s.size ≤ 9223372036854775807) :
    Calls Tryz.prog 50 #[.string s] w fun e w' => e = runeE (rune s.data.toList) ∧ w = w' := by
  by_cases h0 : s.size = 0
  · have hn : s.data.toList = [] := List.eq_nil_of_length_eq_zero (by rw [← Lib.size_eq]; exact h0)
    rw [hn]
    have hz : ((s.size : Int) == 0) = true := by simp [h0]
    clear hn h0
    go_enter Tryz.func50, Tryz.ntmps50
    go_wp2
    go_ret2
    exact ⟨rfl, rfl⟩
  have hne : s.data.toList ≠ [] := fun h => h0 (by rw [Lib.size_eq, h]; rfl)
  rw [rune_eq _ hne, ← Lib.size_eq]
  have hp : 0 < s.size := by omega
  have hlt := at_lt s 0
  by_cases c1 : at' s 0 < 128
  · have hR := Lib.hid (runeN_one s.size (at' s 0) (at' s 1) (at' s 2) (at' s 3) c1)
    have g0 := at_get s 0 hp
    clear hne h0
    have hb : (s.data.toList.getD 0 0).toNat = at' s 0 := rfl
    have h1 : (s.data.toList.getD 1 0).toNat = at' s 1 := rfl
    have h2 : (s.data.toList.getD 2 0).toNat = at' s 2 := rfl
    have h3 : (s.data.toList.getD 3 0).toNat = at' s 3 := rfl
    rw [hb, h1, h2, h3, hR.out]
    obtain ⟨b0, hb0⟩ : ∃ b, at' s 0 = b := ⟨_, rfl⟩
    rw [hb0] at g0 c1 hlt ⊢
    clear hR hb h1 h2 h3 hb0
    go_enter Tryz.func50, Tryz.ntmps50
    go_wp2
    go_ret2
    exact ⟨rfl, rfl⟩
  by_cases c2 : at' s 0 < 192 ∨ 248 ≤ at' s 0
  · have hR := Lib.hid (runeN_none s.size (at' s 0) (at' s 1) (at' s 2) (at' s 3) (by omega))
    have g0 := at_get s 0 hp
    clear hne h0
    have hb : (s.data.toList.getD 0 0).toNat = at' s 0 := rfl
    have h1 : (s.data.toList.getD 1 0).toNat = at' s 1 := rfl
    have h2 : (s.data.toList.getD 2 0).toNat = at' s 2 := rfl
    have h3 : (s.data.toList.getD 3 0).toNat = at' s 3 := rfl
    rw [hb, h1, h2, h3, hR.out]
    obtain ⟨b0, hb0⟩ : ∃ b, at' s 0 = b := ⟨_, rfl⟩
    rw [hb0] at g0 c1 c2 hlt
    clear hR hb h1 h2 h3 hb0
    rcases c2 with c2 | c2
    all_goals
      go_enter Tryz.func50, Tryz.ntmps50
      go_wp2
      go_ret2
      exact ⟨rfl, rfl⟩
  by_cases c3 : at' s 0 < 224
  · exact rune_two s w hs hp (by omega) c3
  by_cases c4 : at' s 0 < 240
  · exact rune_three s w hs hp (by omega) c4
  · exact rune_four s w hs hp (by omega) (by omega)
end Go.Proofs.YthnnpnlapjlnoaaGreatDoor.Ch

/-
  THE WALK OF THE REFERENCE's Valid.
-/
set_option linter.unusedVariables false
namespace Go.Proofs.YthnnpnlapjlnoaaGreatDoor.Ch
open Go.Lib Go.RowKit

def strLen : Value → Nat
  | .string t => t.size
  | _ => 0
theorem drop_text (t : ByteArray) (k : Nat) : (t.extract k t.size).data.toList = t.data.toList.drop k := by
  exact Lib.extract_to_end t k

set_option maxHeartbeats 2000000 in
set_option maxRecDepth 100000 in
theorem refValid_any (s : ByteArray) (w : World) (hs : s.size ≤ 9223372036854775807) :
    Calls Tryz.prog 28 #[.string s] w fun e w' => e = .returned (.bool (valid s.data.toList)) ∧ w = w' := by
  obtain ⟨A, hA⟩ : ∃ A, valid s.data.toList = A := ⟨_, rfl⟩
  rw [hA]
  have hA' := Lib.hid hA
  clear hA
  go_enter Tryz.func28, Tryz.ntmps28
  go_wp2
  go_loop [0] (fun s0 => ∃ t : ByteArray, s0 = .string t ∧ valid t.data.toList = A ∧ t.size ≤ 9223372036854775807) (fun s0 => strLen s0)
  case atStart => exact ⟨s, rfl, hA'.out, hs⟩
  case round =>
    obtain ⟨t, rfl, hv, ht⟩ := hrel
    have hv' := Lib.hid hv
    clear hv
    by_cases h0 : t.size = 0
    · have hn : A = true := by
        rw [← hv'.out, List.eq_nil_of_length_eq_zero (show t.data.toList.length = 0 by rw [← Lib.size_eq]; exact h0)]; rfl
      have hn' := Lib.hid hn
      clear hn
      go_wp2
      go_ret
      exact ⟨by rw [hn'.out]; rfl, rfl⟩
    · have hp : 0 < t.size := by omega
      have hne : t.data.toList ≠ [] := fun h => h0 (by rw [Lib.size_eq, h]; rfl)
      have hstep := valid_step t.data.toList hne
      obtain ⟨⟨r, n⟩, hr⟩ : ∃ p, rune t.data.toList = p := ⟨_, rfl⟩
      rw [hr] at hstep
      have hstep' := Lib.hid hstep
      have hbound : n ≠ 0 → n ≤ t.size := fun h => by
        have := (rune_tells hne (by rw [hr]; exact h)).1
        rw [hr, ← Lib.size_eq] at this
        exact this
      have cR : ∀ W, Calls Tryz.prog 50 #[.string t] W fun e w' => e = .returned (.tuple #[.int .i64 (r : Int), .int .i64 (n : Int)]) ∧ W = w' := fun W => by
        have := rune_any t W ht
        rw [hr] at this
        exact this
      clear hr hstep hne h0
      by_cases hbad : n = 0 ∨ ctlN r = true
      · have hn : A = false := by rw [← hv'.out, hstep'.out, if_pos hbad]
        have hn' := Lib.hid hn
        have hb2 : n = 0 ∨ (n ≠ 0 ∧ r = 127) ∨ (n ≠ 0 ∧ r ≠ 127 ∧ r < 32 ∧ r ≠ 9 ∧ r ≠ 10 ∧ r ≠ 13) := by
          rcases hbad with h | h
          · exact .inl h
          · have := of_decide_eq_true h
            omega
        clear hn hbad hbound
        rcases hb2 with h | ⟨h, h1⟩ | ⟨h, h1, h2, h3, h4, h5⟩
        · subst h
          go_wp2_with (go_at_call 50; refine (cR _).mono ?_; rintro e w' ⟨rfl, rfl⟩)
          go_ret
          exact ⟨by rw [hn'.out]; rfl, rfl⟩
        · subst h1
          have d0 : ((n : Int) == 0) = false := by simp; omega
          go_wp2_with (go_at_call 50; refine (cR _).mono ?_; rintro e w' ⟨rfl, rfl⟩)
          go_ret
          exact ⟨by rw [hn'.out]; rfl, rfl⟩
        · have d0 : ((n : Int) == 0) = false := by simp; omega
          have d1 : ((r : Int) == 127) = false := by simp; omega
          have d3 : ((r : Int) != 9) = true := by simp; omega
          have d4 : ((r : Int) != 10) = true := by simp; omega
          have d5 : ((r : Int) != 13) = true := by simp; omega
          go_wp2_with (go_at_call 50; refine (cR _).mono ?_; rintro e w' ⟨rfl, rfl⟩)
          go_ret
          exact ⟨by rw [hn'.out]; rfl, rfl⟩
      · have hn : valid (t.data.toList.drop n) = A := by rw [← hv'.out, hstep'.out, if_neg hbad]
        have hn' := Lib.hid hn
        have hb1 : n ≠ 0 := fun h => hbad (.inl h)
        have hb2 : (32 ≤ r ∧ r ≠ 127) ∨ r = 9 ∨ r = 10 ∨ r = 13 := by
          have h : ¬ ctlN r = true := fun h => hbad (.inr h)
          unfold ctlN at h
          rw [decide_eq_true_iff] at h
          omega
        have hle := hbound hb1
        clear hn hbad hbound
        have d0 : ((n : Int) == 0) = false := by simp; omega
        rcases hb2 with ⟨h1, h2⟩ | rfl | rfl | rfl
        · have d1 : ((r : Int) == 127) = false := by simp; omega
          go_wp2_with (go_at_call 50; refine (cR _).mono ?_; rintro e w' ⟨rfl, rfl⟩)
          go_round
          case rel => exact ⟨_, rfl, by rw [drop_text]; exact hn'.out, by rw [ByteArray.size_extract]; omega⟩
          case measure => simp [strLen, ByteArray.size_extract]; omega
        all_goals
          go_wp2_with (go_at_call 50; refine (cR _).mono ?_; rintro e w' ⟨rfl, rfl⟩)
          go_round
          case rel => exact ⟨_, rfl, by rw [drop_text]; exact hn'.out, by rw [ByteArray.size_extract]; omega⟩
          case measure => simp [strLen, ByteArray.size_extract]; omega
end Go.Proofs.YthnnpnlapjlnoaaGreatDoor.Ch
