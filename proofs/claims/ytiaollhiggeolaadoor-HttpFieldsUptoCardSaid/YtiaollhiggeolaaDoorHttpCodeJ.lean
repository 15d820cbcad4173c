/-
  WALKS OF THE PROGRAM's LAYER http: Get, printable, fieldRow, decimal.
-/
import Derived.Test.YtiaollhiggeolaaDoorHttpCodeI
set_option linter.unusedVariables false
namespace Go.Proofs.YtiaollhiggeolaaDoor.Ht
open Go.Lib Go.RowKit Go.Shelf

theorem szF_cons (f : Fd) (fs : List Fd) : szF (f :: fs) = f.1.length + f.2.length + 1 + szF fs := by simp [szF]
theorem szF_at : ∀ {fs : List Fd} {k : Nat} {f : Fd}, fs[k]? = some f → f.1.length + f.2.length + 1 ≤ szF fs
  | [], k, f, h => by simp at h
  | g :: fs, 0, f, h => by
    obtain rfl := Option.some.inj h
    rw [szF_cons]; omega
  | g :: fs, k + 1, f, h => by
    have := szF_at (fs := fs) (k := k) (by simpa using h)
    rw [szF_cons]; omega
theorem take_nx {α : Type} {fs : List α} {k : Nat} {f : α} (h : fs[k]? = some f) : fs.take (k + 1) = fs.take k ++ [f] := by
  obtain ⟨hl, he⟩ := List.getElem?_eq_some_iff.1 h
  rw [List.take_succ_eq_append_getElem hl, he]
theorem list_split {α : Type} {fs : List α} {k : Nat} {f : α} (h : fs[k]? = some f) : fs = fs.take k ++ f :: fs.drop (k + 1) := by
  obtain ⟨hl, he⟩ := List.getElem?_eq_some_iff.1 h
  conv => lhs; rw [← List.take_append_drop k fs, List.drop_eq_getElem_cons hl, he]
def getQ (name : Row) (f : Fd) : Bool := decide (Ch.low f.1 = Ch.low name)
theorem getF_is (fs : List Fd) (name : Row) : getF fs name = (fs.find? (getQ name)).map fun f => f.2 := rfl
theorem beq_dec (a b : Row) : (a == b) = decide (a = b) := by
  rw [Bool.eq_iff_iff, decide_eq_true_iff, beq_iff_eq]
set_option maxHeartbeats 4000000 in
set_option maxRecDepth 100000 in
theorem get_any : GetC Gw := by
  intro v0 fs name w h0 hnm hsz hG
  obtain ⟨A, b, off, c, rfl, hc1, hc2, hA, hcell⟩ := h0
  obtain ⟨N, hN⟩ : ∃ N, fs.length = N := ⟨_, rfl⟩
  rw [hN] at hc1 hA ⊢
  unfold maxLen at hc2
  obtain ⟨X, hX⟩ : ∃ X, getF fs name.data.toList = X := ⟨_, rfl⟩
  rw [hX]
  have hX' := Lib.hid hX
  have hN' := Lib.hid hN
  have hA' := Lib.hid hA
  have hcell' := Lib.hid hcell
  have hsz' := Lib.hid hsz
  clear hX hN hA hcell hsz hG
  go_enter Tryd.func19, Tryd.ntmps19
  go_wp2
  go_loopw [10] (fun s10 wr => ∃ k : Nat, s10 = .int .i64 (k : Int) ∧ k ≤ N ∧ Below w.heap.size w wr ∧ (fs.take k).find? (getQ name.data.toList) = none) (fun s10 wr => N - (RowKit.intOf s10).toNat)
  case atStart => exact ⟨0, rfl, Nat.zero_le _, Below.refl _ _, rfl⟩
  case round =>
    obtain ⟨k, rfl, hk, hbr, hall⟩ := hrel
    have hall' := Lib.hid hall
    have hbr' := Lib.hid hbr
    clear hall
    by_cases hlt : k < N
    · have hf : fs[k]? = some (fs[k]'(by have := hN'.out; omega)) := List.getElem?_eq_getElem _
      obtain ⟨F, hF⟩ : ∃ F, fs[k]'(by have := hN'.out; omega) = F := ⟨_, rfl⟩
      rw [hF] at hf
      obtain ⟨rfl, hg⟩ := hA'.out (by omega)
      obtain ⟨a1, a2, d1, d2, c0, c1⟩ := FsAt.field hcell'.out hg hbr hf
      have hz := szF_at hf
      have hz1 : a1.size ≤ 9223372036854775807 := by rw [Lib.size_eq, d1]; have := hsz'.out; unfold mostF at this; omega
      have hX2 : (wr.alloc (.cells #[.string a1, .string a2] 47)).heap[wr.heap.size]? = some (.cells #[.string a1, .string a2] 47 (0, 0)) := heap_alloc_new wr _
      have hB2 : Below w.heap.size w (wr.alloc (.cells #[.string a1, .string a2] 47)) := hbr.alloc hbr.size _
      obtain ⟨x0, x1, _, _⟩ := res2 hX2
      have cS := Ch.same_any a1 name (wr.alloc (.cells #[.string a1, .string a2] 47)) hz1 (by unfold mostS at hnm; omega)
      obtain ⟨R, hR⟩ : ∃ R, (Ch.low a1.data.toList == Ch.low name.data.toList) = R := ⟨_, rfl⟩
      rw [hR] at cS
      have hq : getQ name.data.toList F = R := by rw [← hR, d1, beq_dec]; rfl
      have hf' := Lib.hid hf
      have hq' := Lib.hid hq
      have hB2' := Lib.hid hB2
      have hX2' := Lib.hid hX2
      have d2' := Lib.hid d2
      clear hbr hf hF hz d1 d2 hR hq hB2 hX2
      go_wp2_with fail
      go_at_call 33
      with_reducible refine cS.mono ?_
      rintro e w3 ⟨rfl, hb3⟩
      have hB3 := Lib.hid (below_then hB2'.out hb3)
      have hX3 := (hb3.block _ (Array.getElem?_eq_some_iff.1 hX2'.out).1).trans hX2'.out
      clear x0 x1 c0 c1 cS hb3
      obtain ⟨x0, x1, _, _⟩ := res2 hX3
      clear hX3
      cases R with
      | true =>
        have hXs : X = some a2.data.toList := by
          rw [← hX'.out, getF_is, list_split hf'.out, List.find?_append, hall'.out, Option.none_or, List.find?_cons, hq'.out]
          simp only [Option.map_some]
          rw [d2'.out]
        subst hXs
        go_wp2
        go_ret2
        exact ⟨by show Ending.returned (.tuple #[.string a2, .bool true]) = Ending.returned (.tuple #[sv a2.data.toList, .bool true]); rw [sv_data], hB3.out⟩
      | false =>
        have hn : Hid ((fs.take (k + 1)).find? (getQ name.data.toList) = none) := Lib.hid (by
          rw [take_nx hf'.out, List.find?_append, hall'.out, Option.none_or, List.find?_cons, hq'.out]; rfl)
        go_wp2
        go_roundw
        case rel => exact ⟨k + 1, by go_num, by omega, hB3.out, hn.out⟩
        case measure => simp [RowKit.intOf]; omega
    · have hXn : X = none := by
        have := hall'.out
        rw [List.take_of_length_le (by have := hN'.out; omega)] at this
        rw [← hX'.out, getF_is, this]; rfl
      subst hXn
      go_wp2
      go_ret2
      exact ⟨rfl, hbr'.out⟩

/-! ### what can be printed -/
theorem fdB_is (f : Fd) : fdB f = (isF f.1 f.2 && (!(Ch.low f.1 == clS) && !(Ch.low f.1 == teS))) := by
  unfold fdB isF
  rw [beq_dec, beq_dec, Bool.eq_iff_iff]
  simp only [Bool.and_eq_true, decide_eq_true_iff, Bool.not_eq_true', decide_eq_false_iff_not]
  constructor
  · rintro ⟨⟨h1, h2⟩, h3, h4, h5⟩; exact ⟨⟨h1, h2, h3⟩, h4, h5⟩
  · rintro ⟨⟨h1, h2, h3⟩, h4, h5⟩; exact ⟨⟨h1, h2⟩, h3, h4, h5⟩
def prB (fs : List Fd) : Bool := decide (¬ 31 < fs.length) && fs.all fdB
set_option maxHeartbeats 4000000 in
set_option maxRecDepth 100000 in
theorem printable_any (v0 : Value) (fs : List Fd) (w : World) (h0 : FsAt w v0 fs) (hsz : szF fs ≤ mostF) : Calls Tryd.prog 37 #[v0] w fun e w' => e = .returned (.bool (prB fs)) ∧ Below w.heap.size w w' := by
  obtain ⟨A, b, off, c, rfl, hc1, hc2, hA, hcell⟩ := h0
  obtain ⟨N, hN⟩ : ∃ N, fs.length = N := ⟨_, rfl⟩
  unfold prB
  rw [hN] at hc1 hA ⊢
  unfold maxLen at hc2
  by_cases hbig : 31 < N
  · rw [decide_eq_false (fun h => h hbig), Bool.false_and]
    clear hcell hA hN hsz
    go_enter Tryd.func37, Tryd.ntmps37
    go_wp2
    go_ret
    exact ⟨rfl, Below.refl _ _⟩
  rw [decide_eq_true hbig, Bool.true_and]
  obtain ⟨X, hX⟩ : ∃ X, fs.all fdB = X := ⟨_, rfl⟩
  rw [hX]
  have hX' := Lib.hid hX
  have hN' := Lib.hid hN
  have hA' := Lib.hid hA
  have hcell' := Lib.hid hcell
  have hsz' := Lib.hid hsz
  clear hX hN hA hcell hsz
  go_enter Tryd.func37, Tryd.ntmps37
  go_wp2
  go_loopw [10] (fun s10 wr => ∃ k : Nat, s10 = .int .i64 (k : Int) ∧ k ≤ N ∧ Below w.heap.size w wr ∧ (fs.take k).all fdB = true) (fun s10 wr => N - (RowKit.intOf s10).toNat)
  case atStart => exact ⟨0, rfl, Nat.zero_le _, Below.refl _ _, rfl⟩
  case round =>
    obtain ⟨k, rfl, hk, hbr, hall⟩ := hrel
    have hall' := Lib.hid hall
    have hbr' := Lib.hid hbr
    clear hall
    by_cases hlt : k < N
    · have hf : fs[k]? = some (fs[k]'(by have := hN'.out; omega)) := List.getElem?_eq_getElem _
      obtain ⟨F, hF⟩ : ∃ F, fs[k]'(by have := hN'.out; omega) = F := ⟨_, rfl⟩
      rw [hF] at hf
      obtain ⟨rfl, hg⟩ := hA'.out (by omega)
      obtain ⟨a1, a2, d1, d2, c0, c1⟩ := FsAt.field hcell'.out hg hbr hf
      have hz := szF_at hf
      have hz1 : a1.size ≤ 9223372036854775807 := by rw [Lib.size_eq, d1]; have := hsz'.out; unfold mostF at this; omega
      have hz2 : a2.size ≤ 9223372036854775807 := by rw [Lib.size_eq, d2]; have := hsz'.out; unfold mostF at this; omega
      have hX2 : (wr.alloc (.cells #[.string a1, .string a2] 47)).heap[wr.heap.size]? = some (.cells #[.string a1, .string a2] 47 (0, 0)) := heap_alloc_new wr _
      have hB2 : Below w.heap.size w (wr.alloc (.cells #[.string a1, .string a2] 47)) := hbr.alloc hbr.size _
      obtain ⟨x0, x1, _, _⟩ := res2 hX2
      have cF := Lib.hid (fun W => isField_any a1 a2 W hz1 hz2)
      have cL := Lib.hid (fun W => isLength_any a1 a2 W hz1)
      have cC := Lib.hid (fun W => isCoding_any a1 a2 W hz1)
      have hq := fdB_is F
      rw [← d1, ← d2] at hq
      obtain ⟨I, hI⟩ : ∃ R, isF a1.data.toList a2.data.toList = R := ⟨_, rfl⟩
      obtain ⟨L, hL⟩ : ∃ R, (Ch.low a1.data.toList == clS) = R := ⟨_, rfl⟩
      obtain ⟨C, hC⟩ : ∃ R, (Ch.low a1.data.toList == teS) = R := ⟨_, rfl⟩
      rw [hI, hL, hC] at hq
      rw [hI] at cF
      rw [hL] at cL
      rw [hC] at cC
      have hno : Hid (fdB F = false → X = false) := Lib.hid fun h => by
        rw [← hX'.out, list_split hf, List.all_append, List.all_cons, h]; simp
      have hnx : Hid (fdB F = true → (fs.take (k + 1)).all fdB = true) := Lib.hid fun h => by
        rw [take_nx hf, List.all_append, hall'.out, List.all_cons, h]; rfl
      have hq' := Lib.hid hq
      have hB2' := Lib.hid hB2
      have hX2' := Lib.hid hX2
      clear hbr hf hF hz d1 d2 hI hL hC hq hB2 hX2
      go_wp2_with fail
      go_at_call 51
      with_reducible refine (cF.out _).mono ?_
      rintro e w3 ⟨rfl, hb3⟩
      have hB3 := Lib.hid (below_then hB2'.out hb3)
      have hX3 := Lib.hid ((hb3.block _ (Array.getElem?_eq_some_iff.1 hX2'.out).1).trans hX2'.out)
      clear x0 x1 c0 c1 hb3 hX2' hB2'
      obtain ⟨x0, x1, _, _⟩ := res2 hX3.out
      cases I with
      | false =>
        have hXf : X = false := hno.out hq'.out
        subst hXf
        clear x0 x1
        go_wp2
        go_ret
        exact ⟨rfl, hB3.out⟩
      | true =>
      go_wp2_with fail
      go_at_call 52
      with_reducible refine (cL.out _).mono ?_
      rintro e w4 ⟨rfl, hb4⟩
      have hB4 := Lib.hid (below_then hB3.out hb4)
      have hX4 := Lib.hid ((hb4.block _ (Array.getElem?_eq_some_iff.1 hX3.out).1).trans hX3.out)
      clear x0 x1 hb4 hX3 hB3
      obtain ⟨x0, x1, _, _⟩ := res2 hX4.out
      cases L with
      | true =>
        have hXf : X = false := hno.out hq'.out
        subst hXf
        clear x0 x1
        go_wp2
        go_ret
        exact ⟨rfl, hB4.out⟩
      | false =>
      go_wp2_with fail
      go_at_call 53
      with_reducible refine (cC.out _).mono ?_
      rintro e w5 ⟨rfl, hb5⟩
      have hB5 := Lib.hid (below_then hB4.out hb5)
      clear x0 x1 hb5 hX4 hB4
      cases C with
      | true =>
        have hXf : X = false := hno.out hq'.out
        subst hXf
        go_wp2
        go_ret
        exact ⟨rfl, hB5.out⟩
      | false =>
        have hn := Lib.hid (hnx.out hq'.out)
        go_wp2
        go_roundw
        case rel => exact ⟨k + 1, by go_num, by omega, hB5.out, hn.out⟩
        case measure => simp [RowKit.intOf]; omega
    · have hXt : X = true := by
        have := hall'.out
        rw [List.take_of_length_le (by have := hN'.out; omega)] at this
        rw [← hX'.out, this]
      subst hXt
      go_wp2
      go_ret
      exact ⟨rfl, hbr'.out⟩

/-! ### rows -/
set_option maxHeartbeats 2000000 in
set_option maxRecDepth 100000 in
theorem fieldRow_any (n v : ByteArray) (w : World) (hs : n.size + v.size ≤ 1099511627776) : Calls Tryd.prog 39 #[.agg #[.string n, .string v]] w fun e w' => (∃ x : ByteArray, e = .returned (.string x) ∧ x.data.toList = fdR (n.data.toList, v.data.toList) ++ [13, 10]) ∧ Below w.heap.size w w' := by
  have hb0 : Below w.heap.size w (w.alloc (.cells #[.string n, .string v] 47)) := (Below.refl _ _).alloc (Nat.le_refl _) _
  obtain ⟨y1, h1⟩ : ∃ y, n ++ (⟨#[58, 32]⟩ : ByteArray) = y := ⟨_, rfl⟩
  obtain ⟨y2, h2⟩ : ∃ y, y1 ++ v = y := ⟨_, rfl⟩
  obtain ⟨y3, h3⟩ : ∃ y, y2 ++ (⟨#[13, 10]⟩ : ByteArray) = y := ⟨_, rfl⟩
  have s1 : y1.size = n.size + 2 := by rw [cat_size h1]; rfl
  have s2 : y2.size = n.size + 2 + v.size := by rw [cat_size h2, s1]
  have hfin := Lib.hid (show y3.data.toList = fdR (n.data.toList, v.data.toList) ++ [13, 10] by
    rw [cat_data h3, cat_data h2, cat_data h1]
    unfold fdR
    simp)
  have m1 : ¬ 9223372036854775807 < n.size + (⟨#[58, 32]⟩ : ByteArray).size := by rw [show (⟨#[58, 32]⟩ : ByteArray).size = 2 from rfl]; omega
  have m1' : ¬ 9223372036854775807 < n.size + 2 := by omega
  have m2 : ¬ 9223372036854775807 < y1.size + v.size := by omega
  have m3 : ¬ 9223372036854775807 < y2.size + (⟨#[13, 10]⟩ : ByteArray).size := by rw [show (⟨#[13, 10]⟩ : ByteArray).size = 2 from rfl]; omega
  have m3' : ¬ 9223372036854775807 < y2.size + 2 := by omega
  clear s1 s2 hs
  go_enter Tryd.func39, Tryd.ntmps39
  go_wp2
  go_ret
  exact ⟨⟨y3, rfl, hfin.out⟩, hb0⟩
set_option maxHeartbeats 2000000 in
set_option maxRecDepth 100000 in
theorem decimal_any (n : Nat) (w : World) (hn : n ≤ 9223372036854775807) (hG : Gw w) : Calls Tryd.prog 30 #[.int .i64 (n : Int)] w fun e w' => (∃ x : ByteArray, e = .returned (.string x) ∧ x.data.toList = decDigits n) ∧ Below w.heap.size w w' := by
  have c := Ch.decimal_any n (by omega) w hG.pow
  have hw : IntKind.u64.wrap (n : Int) = (n : Int) := by
    unfold IntKind.wrap
    simp only [IntKind.bits, IntKind.signed]
    simp
    omega
  obtain ⟨x, hx⟩ : ∃ x : ByteArray, (⟨(decDigits n).toArray⟩ : ByteArray) = x := ⟨_, rfl⟩
  have hxd := Lib.hid (show x.data.toList = decDigits n by rw [← hx])
  rw [hx] at c
  clear hx hG
  go_enter Tryd.func30, Tryd.ntmps30
  go_wp2_with fail
  go_at_call 46
  with_reducible refine c.mono ?_
  rintro e w3 ⟨rfl, hb⟩
  go_wp2
  go_ret
  exact ⟨⟨x, rfl, hxd.out⟩, hb⟩
end Go.Proofs.YtiaollhiggeolaaDoor.Ht
