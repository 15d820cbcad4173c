/-
  WALKS OF cond.Tag, cond.Parse, cond.bare (strings.CutPrefix and CutSuffix at one mark).
-/
import Derived.Test.YtgpkkdimafmehaaDoorCondPlain
import Derived.Test.YtgpkkdimafmehaaDoorCharDec
import Derived.Test.YtgpkkdimafmehaaDoorCharRefNum
import Derived.Shelf.Strings.SlTrimAscii
import Derived.Lib.IndexLaws
import Derived.BigQuiet
import Derived.Deep.QuietTactic
import Derived.IntWalk
set_option linter.unusedVariables false
namespace Go.Proofs.YtgpkkdimafmehaaDoor.Co
open Go.Lib Go.RowKit Go.Shelf

theorem below_then {a b c : World} (h1 : Below a.heap.size a b) (h2 : Below b.heap.size b c) : Below a.heap.size a c := h1.trans (h2.mono h1.size)
theorem below_drewN {a w : World} (n : Nat) (h : Below a.heap.size a w) : Below a.heap.size a (w.drewN n) := ⟨h.os, h.tape, h.output, h.size, h.block⟩
def sv (l : Row) : Value := .string ⟨l.toArray⟩
theorem sv_data (s : ByteArray) : sv s.data.toList = .string s := by unfold sv; rw [Lib.mk_data]
theorem sv_some (l : Row) : ∃ x : ByteArray, sv l = .string x ∧ x.data.toList = l := ⟨⟨l.toArray⟩, rfl, by simp⟩

/-! ### a mark cut off -/
def PreP (s t : ByteArray) (b : Bool) : Prop := (b = true ∧ s.data.toList = 34 :: t.data.toList) ∨ (b = false ∧ t = s ∧ ∀ r, s.data.toList ≠ 34 :: r)
def SufP (s t : ByteArray) (b : Bool) : Prop := (b = true ∧ s.data.toList = t.data.toList ++ [34]) ∨ (b = false ∧ t = s ∧ ∀ r, s.data.toList ≠ r ++ [34])
theorem PreP.size {s t : ByteArray} {b : Bool} (h : PreP s t b) : t.size ≤ s.size := by
  rcases h with ⟨_, h⟩ | ⟨_, rfl, _⟩
  · rw [Lib.size_eq, Lib.size_eq, h]; simp
  · exact Nat.le_refl _
theorem SufP.size {s t : ByteArray} {b : Bool} (h : SufP s t b) : t.size ≤ s.size := by
  rcases h with ⟨_, h⟩ | ⟨_, rfl, _⟩
  · rw [Lib.size_eq, Lib.size_eq, h]; simp
  · exact Nat.le_refl _
theorem par_pre {s t u : ByteArray} {b c : Bool} (h1 : PreP s t b) (h2 : SufP t u c) : par s.data.toList = if (b && c) = true then (Ch.numS u.data.toList most).1 else 0 := by
  rcases h1 with ⟨rfl, h1⟩ | ⟨rfl, rfl, h1⟩
  · rcases h2 with ⟨rfl, h2⟩ | ⟨rfl, rfl, h2⟩
    · rw [h1, h2, par_marks]; rfl
    · rcases par_form s.data.toList with ⟨d, e, _⟩ | ⟨_, e⟩
      · rw [h1] at e
        exact absurd (List.cons.inj e).2 (h2 d)
      · exact e
  · rcases par_form t.data.toList with ⟨d, e, _⟩ | ⟨_, e⟩
    · exact absurd e (h1 _)
    · exact e
theorem num_no {l : Row} {m n : Nat} (h : Ch.numS l m = (n, false)) : n = 0 := by
  unfold Ch.numS at h
  split at h
  · cases h
  · cases h; rfl

set_option maxHeartbeats 2000000 in
set_option maxRecDepth 100000 in
theorem preLite_any (s : ByteArray) (w : World) (hs : s.size ≤ 9223372036854775807) :
    Calls Tryd.prog 27 #[.string s, .string ⟨#[34]⟩] w fun e w' => (∃ (t : ByteArray) (b : Bool), PreP s t b ∧ e = .returned (.tuple #[.string t, .bool b])) ∧ w' = w := by
  have cH := Tryd.stringslite_HasPrefix s ⟨#[34]⟩ w
  rw [show (⟨#[34]⟩ : ByteArray).data.toList = [34] from rfl] at cH
  by_cases hp : Lib.hasPrefix s.data.toList [34] = true
  · rw [hp] at cH
    obtain ⟨q, hq⟩ := List.isPrefixOf_iff_prefix.1 (show [34].isPrefixOf s.data.toList = true from hp)
    have h1 : 1 ≤ s.size := by rw [Lib.size_eq, ← hq]; simp
    have h1' : 1 ≤ s.size := h1
    have hfin : PreP s (s.extract 1 s.size) true := by
      left
      refine ⟨rfl, ?_⟩
      rw [Lib.extract_to_end]
      rw [← hq]; rfl
    have hfin' := Lib.hid hfin
    clear hfin hp h1 hq
    go_enter Tryd.func27, Tryd.ntmps27
    go_wp2_with (go_at_call 33; refine cH.mono ?_; rintro e w' ⟨rfl, rfl⟩)
    go_ret2
    exact ⟨⟨_, _, hfin'.out, rfl⟩, rfl⟩
  · rw [Bool.eq_false_iff.2 hp] at cH
    have hfin : PreP s s false := by
      right
      refine ⟨rfl, rfl, fun r hr => hp ?_⟩
      rw [hr]
      unfold Lib.hasPrefix
      simp [List.isPrefixOf]
    have hfin' := Lib.hid hfin
    clear hfin hp
    go_enter Tryd.func27, Tryd.ntmps27
    go_wp2_with (go_at_call 33; refine cH.mono ?_; rintro e w' ⟨rfl, rfl⟩)
    go_ret2
    exact ⟨⟨_, _, hfin'.out, rfl⟩, rfl⟩
set_option maxHeartbeats 2000000 in
set_option maxRecDepth 100000 in
theorem sufLite_any (s : ByteArray) (w : World) (hs : s.size ≤ 9223372036854775807) :
    Calls Tryd.prog 28 #[.string s, .string ⟨#[34]⟩] w fun e w' => (∃ (t : ByteArray) (b : Bool), SufP s t b ∧ e = .returned (.tuple #[.string t, .bool b])) ∧ w' = w := by
  have cH := Tryd.stringslite_HasSuffix s ⟨#[34]⟩ w hs
  rw [show (⟨#[34]⟩ : ByteArray).data.toList = [34] from rfl] at cH
  by_cases hp : Lib.hasSuffix s.data.toList [34] = true
  · rw [hp] at cH
    obtain ⟨r, hr⟩ := List.isSuffixOf_iff_suffix.1 (show [34].isSuffixOf s.data.toList = true from hp)
    have hl : s.size = r.length + 1 := by rw [Lib.size_eq, ← hr]; simp
    obtain ⟨N, hN⟩ : ∃ N, s.size - 1 = N := ⟨_, rfl⟩
    have h1' : (s.size : Int) - 1 = (N : Int) := by omega
    have h2' : N ≤ s.size := by omega
    have hw : IntKind.i64.wrap (N : Int) = (N : Int) := IntWalk.i64_in _ (by omega)
    have hfin : SufP s (s.extract 0 N) true := by
      left
      refine ⟨rfl, ?_⟩
      have e : (s.extract 0 N).data.toList = s.data.toList.take N := by rw [Lib.extract_data]; rfl
      have hk : N = r.length := by omega
      rw [e, ← hr, hk, List.take_left]
    have hfin' := Lib.hid hfin
    clear hfin hp hr hl
    go_enter Tryd.func28, Tryd.ntmps28
    go_wp2_with (go_at_call 34; refine cH.mono ?_; rintro e w' ⟨rfl, rfl⟩)
    go_ret2
    exact ⟨⟨_, _, hfin'.out, rfl⟩, rfl⟩
  · rw [Bool.eq_false_iff.2 hp] at cH
    have hfin : SufP s s false := by
      right
      refine ⟨rfl, rfl, fun r hr => hp ?_⟩
      show [34].isSuffixOf s.data.toList = true
      rw [List.isSuffixOf_iff_suffix]
      exact ⟨r, hr.symm⟩
    have hfin' := Lib.hid hfin
    clear hfin hp
    go_enter Tryd.func28, Tryd.ntmps28
    go_wp2_with (go_at_call 34; refine cH.mono ?_; rintro e w' ⟨rfl, rfl⟩)
    go_ret2
    exact ⟨⟨_, _, hfin'.out, rfl⟩, rfl⟩
set_option maxHeartbeats 2000000 in
set_option maxRecDepth 100000 in
theorem pre_any (s : ByteArray) (w : World) (hs : s.size ≤ 9223372036854775807) :
    Calls Tryd.prog 17 #[.string s, .string ⟨#[34]⟩] w fun e w' => (∃ (t : ByteArray) (b : Bool), PreP s t b ∧ e = .returned (.tuple #[.string t, .bool b])) ∧ w' = w := by
  go_enter Tryd.func17, Tryd.ntmps17
  go_wp2_with fail
  go_at_call 27
  refine (preLite_any s w hs).mono ?_
  rintro e w1 ⟨⟨t, b, h, rfl⟩, rfl⟩
  have h' := Lib.hid h
  clear h
  go_wp2
  go_ret2
  exact ⟨⟨_, _, h'.out, rfl⟩, rfl⟩
set_option maxHeartbeats 2000000 in
set_option maxRecDepth 100000 in
theorem suf_any (s : ByteArray) (w : World) (hs : s.size ≤ 9223372036854775807) :
    Calls Tryd.prog 18 #[.string s, .string ⟨#[34]⟩] w fun e w' => (∃ (t : ByteArray) (b : Bool), SufP s t b ∧ e = .returned (.tuple #[.string t, .bool b])) ∧ w' = w := by
  go_enter Tryd.func18, Tryd.ntmps18
  go_wp2_with fail
  go_at_call 28
  refine (sufLite_any s w hs).mono ?_
  rintro e w1 ⟨⟨t, b, h, rfl⟩, rfl⟩
  have h' := Lib.hid h
  clear h
  go_wp2
  go_ret2
  exact ⟨⟨_, _, h'.out, rfl⟩, rfl⟩

/-! ### Parse -/
def parE (l : Row) : Ending := .returned (.tuple #[.int .i64 (par l : Int), .bool (decide (par l ≠ 0))])
theorem parE_no {l : Row} (h : par l = 0) : parE l = .returned (.tuple #[.int .i64 0, .bool false]) := by unfold parE; rw [h]; rfl
theorem parE_yes {l : Row} {n : Nat} (h : par l = n) (h0 : n ≠ 0) : parE l = .returned (.tuple #[.int .i64 (n : Int), .bool true]) := by unfold parE; rw [h, decide_eq_true h0]
set_option maxHeartbeats 4000000 in
set_option maxRecDepth 100000 in
theorem parse_any (s : ByteArray) (w : World) (hs : s.size ≤ 9223372036854775807) :
    Calls Tryd.prog 9 #[.string s] w fun e w' => e = parE s.data.toList ∧ w' = w := by
  obtain ⟨E, hE⟩ : ∃ E, parE s.data.toList = E := ⟨_, rfl⟩
  rw [hE]
  have hE' := Lib.hid hE
  clear hE
  go_enter Tryd.func9, Tryd.ntmps9
  go_wp2_with fail
  go_at_call 17
  refine (pre_any s w hs).mono ?_
  rintro e w1 ⟨⟨t, b, h1, rfl⟩, rfl⟩
  have ht := h1.size
  have h1' := Lib.hid h1
  clear h1
  go_wp2_with fail
  go_at_call 18
  refine (suf_any t w1 (by omega)).mono ?_
  rintro e w2 ⟨⟨u, c, h2, rfl⟩, rfl⟩
  have hu := h2.size
  have h2' := Lib.hid h2
  clear h2
  have cN := Ch.number_any u 4611686018427387904 w2 (by omega) (by decide)
  rw [show ((4611686018427387904 : Nat) : Int) = 4611686018427387904 from rfl] at cN
  obtain ⟨⟨n, ok⟩, hn⟩ : ∃ p, Ch.numS u.data.toList 4611686018427387904 = p := ⟨_, rfl⟩
  rw [hn] at cN
  have hle : n ≤ 4611686018427387904 := by have := Ch.numS_le u.data.toList 4611686018427387904; rw [hn] at this; exact this
  have hp : par s.data.toList = if (b && c) = true then n else 0 := by rw [par_pre h1'.out h2'.out]; unfold most; rw [hn]
  have h0 : ok = false → n = 0 := fun h => num_no (by rw [hn, h])
  unfold Ch.numE at cN
  clear hn h1' h2'
  have hp' := Lib.hid hp
  have h0' := Lib.hid h0
  clear hp h0
  go_wp2_with fail
  go_at_call 19
  refine cN.mono ?_
  rintro e w3 ⟨rfl, rfl⟩
  have hno : par s.data.toList = 0 → E = .returned (.tuple #[.int .i64 0, .bool false]) := fun h => by rw [← hE'.out, parE_no h]
  have hno' := Lib.hid hno
  clear hno
  cases b with
  | false =>
    have hf := Lib.hid (hno'.out (by rw [hp'.out]; rfl))
    go_wp2
    go_ret2
    exact ⟨hf.out.symm, rfl⟩
  | true =>
    cases c with
    | false =>
      have hf := Lib.hid (hno'.out (by rw [hp'.out]; rfl))
      go_wp2
      go_ret2
      exact ⟨hf.out.symm, rfl⟩
    | true =>
      cases ok with
      | false =>
        have hf := Lib.hid (hno'.out (by rw [hp'.out, h0'.out rfl]; rfl))
        go_wp2
        go_ret2
        exact ⟨hf.out.symm, rfl⟩
      | true =>
        by_cases hz : n = 0
        · have hf := Lib.hid (hno'.out (by rw [hp'.out, hz]; rfl))
          have hq : ((n : Int) == 0) = true := by simp [hz]
          clear hz
          go_wp2
          go_ret2
          exact ⟨hf.out.symm, rfl⟩
        · have hf : E = .returned (.tuple #[.int .i64 (n : Int), .bool true]) := by rw [← hE'.out, parE_yes (n := n) (by rw [hp'.out]; rfl) hz]
          have hf' := Lib.hid hf
          have hq : ((n : Int) == 0) = false := by simp [hz]
          have hw : IntKind.i64.wrap (n : Int) = (n : Int) := IntWalk.i64_in _ (by omega)
          clear hz hf
          go_wp2
          go_ret2
          exact ⟨hf'.out.symm, rfl⟩

/-! ### Tag -/
theorem join_tag (n : Nat) : (⟨#[34]⟩ : ByteArray) ++ ⟨(decDigits n).toArray⟩ ++ ⟨#[34]⟩ = ⟨(tagS n).toArray⟩ := by
  apply ByteArray.ext
  rw [ByteArray.data_append, ByteArray.data_append]
  simp [tagS]
theorem dec_len {n : Nat} (h : n < 18446744073709551616) : (decDigits n).length ≤ 20 := by
  rw [decDigits_length]
  rcases Nat.eq_zero_or_pos n with h0 | h0
  · rw [nDigits_small (by omega)]; omega
  · have := Lib.numDigits_eq n h0 h; split at this <;> omega
theorem tag_len {n : Nat} (h : n < 18446744073709551616) : (tagS n).length ≤ 22 := by
  have := dec_len h
  simp [tagS]; omega
set_option maxHeartbeats 4000000 in
set_option maxRecDepth 100000 in
theorem tag_any (z : Int) (w : World) (hz : -9223372036854775808 ≤ z ∧ z ≤ 9223372036854775807) (hP : Ch.Pow w) :
    Calls Tryd.prog 8 #[.int .i64 z] w fun e w' => e = .returned (sv (tagI z)) ∧ Below w.heap.size w w' := by
  by_cases h1 : z < 1
  · rw [show tagI z = [] by unfold tagI; rw [if_pos (.inl h1)]]
    go_enter Tryd.func8, Tryd.ntmps8
    go_wp2
    go_ret
    exact ⟨rfl, Below.refl _ _⟩
  by_cases h2 : 4611686018427387904 < z
  · rw [show tagI z = [] by unfold tagI; rw [if_pos (.inr h2)]]
    go_enter Tryd.func8, Tryd.ntmps8
    go_wp2
    go_ret
    exact ⟨rfl, Below.refl _ _⟩
  rw [show tagI z = tagS z.toNat by unfold tagI; rw [if_neg (by omega)]]
  obtain ⟨n, rfl⟩ : ∃ n : Nat, z = (n : Int) := ⟨z.toNat, by omega⟩
  rw [Int.toNat_natCast]
  have cD := Ch.decimal_any n (by omega) w hP
  have hl := dec_len (n := n) (by omega)
  have hj := Lib.hid (join_tag n)
  have hw : IntKind.u64.wrap (n : Int) = (n : Int) := IntWalk.u64_in _ (by omega)
  have hb1 : ¬ 9223372036854775807 < (⟨#[34]⟩ : ByteArray).size + (⟨(decDigits n).toArray⟩ : ByteArray).size := by
    rw [Lib.size_eq, Lib.size_eq]; simp; omega
  have hb2 : ¬ 9223372036854775807 < ((⟨#[34]⟩ : ByteArray) ++ ⟨(decDigits n).toArray⟩).size + (⟨#[34]⟩ : ByteArray).size := by
    rw [ByteArray.size_append, Lib.size_eq, Lib.size_eq]; simp; omega
  clear hP hz hl
  go_enter Tryd.func8, Tryd.ntmps8
  go_wp2_with (go_at_call 16; refine cD.mono ?_; rintro e w' ⟨rfl, hb⟩)
  go_ret
  exact ⟨by rw [hj.out]; rfl, hb⟩

/-! ### bare -/
def blankS : ByteArray := ⟨#[32, 9]⟩
theorem blankS_asc : ∀ (j : Nat) (b : UInt8), blankS.data.toList[j]? = some b → b.toNat < 128 := by
  intro j b h
  have hm := List.mem_of_getElem? h
  rw [show blankS.data.toList = [32, 9] from rfl] at hm
  simp at hm
  rcases hm with rfl | rfl <;> decide
theorem sTrim_any (s : ByteArray) (w : World) (hs : s.size ≤ 9223372036854775807) : Calls Tryd.prog 29 #[.string s, .string ⟨#[32, 9]⟩] w fun e w' => e = .returned (sv (trim s.data.toList)) ∧ Below w.heap.size w w' := by
  refine (Any.strings_Trim_laid Tryd.lays160 (by kernel_rfl) s blankS w hs (by decide) blankS_asc).mono ?_
  rintro e w' ⟨rfl, hb⟩
  refine ⟨?_, hb⟩
  rw [show blankS.data.toList = [32, 9] from rfl, Ht.trimS_trim]; rfl
set_option maxHeartbeats 2000000 in
set_option maxRecDepth 100000 in
theorem bare_any (s : ByteArray) (w : World) (hs : s.size ≤ 9223372036854775807) : Calls Tryd.prog 22 #[.string s] w fun e w' => e = .returned (sv (trim s.data.toList)) ∧ Below w.heap.size w w' := by
  have cT := sTrim_any s w hs
  obtain ⟨x, hx, _⟩ := sv_some (trim s.data.toList)
  rw [hx] at cT ⊢
  clear hx
  go_enter Tryd.func22, Tryd.ntmps22
  go_wp2_with (go_at_call 29; refine cT.mono ?_; rintro e w' ⟨rfl, hb⟩)
  go_ret
  exact ⟨rfl, hb⟩
end Go.Proofs.YtgpkkdimafmehaaDoor.Co
