/-
  WALKS OF fold.fit, fold.foldLine, fold.Fold.
-/
import Derived.Test.YtdocajpnlejagaaDoorFoldUnfold
import Derived.Test.YtdocajpnlejagaaDoorFoldPieces
import Derived.Lib.LaidU8T
set_option linter.unusedVariables false
namespace Go.Proofs.YtdocajpnlejagaaDoor.Fo
open Go.Lib Go.RowKit Bu

def Tabs (w : World) : Prop := Lib.Utf8Tabs 0 1 w
theorem tabs_below {w w' : World} (h : Tabs w) (hb : Below w.heap.size w w') : Tabs w' := Utf8Tabs_below h hb

/-- the width that DecodeRuneInString answers -/
theorem decode_any (s : ByteArray) (n : Nat) (w : World) (hT : Tabs w) (hne : s.data.toList ≠ []) (hn : sz s.data.toList = n) :
    Calls Tryd.prog 29 #[.string s] w fun e w' => (∃ r : Int, e = .returned (.tuple #[.int .i32 r, .int .i64 (n : Int)])) ∧ Below w.heap.size w w' := by
  refine (Tryd.utf8_DecodeRuneInString s w hT).mono ?_
  rintro e w' ⟨rfl, hb⟩
  have hz : s.size ≠ 0 := by rw [Lib.size_eq]; exact fun h => hne (List.eq_nil_of_length_eq_zero h)
  have e1 : decodeGo s = decodeL s.data.toList := by
    unfold decodeGo decodeL
    rw [Lib.mk_data]
    simp [hz]
  exact ⟨⟨(decodeGo s).1, by rw [← hn, ← sz_decode _ hne, ← e1]⟩, hb⟩

set_option maxHeartbeats 2000000 in
set_option maxRecDepth 100000 in
theorem fit_any (t : ByteArray) (room : Nat) (w : World) (hT : Tabs w) (hs : t.size ≤ 140737488355328) (hr : room ≤ 100) :
    Calls Tryd.prog 22 #[.string t, .int .i64 (room : Int)] w fun e w' => e = .returned (.int .i64 (fit t.data.toList room : Int)) ∧ Below w.heap.size w w' := by
  obtain ⟨F, hF⟩ : ∃ F : Nat, fit t.data.toList room = F := ⟨_, rfl⟩
  rw [hF]
  unfold fit at hF
  have hT' := Lib.hid hT
  have hF' := Lib.hid hF
  clear hT hF
  go_enter Tryd.func22, Tryd.ntmps22
  go_wp2
  go_loopw [5] (fun s5 wr => ∃ n : Nat, s5 = .int .i64 (n : Int) ∧ n ≤ t.size ∧ fitF t.data.toList.length t.data.toList room n = F ∧ Below w.heap.size w wr) (fun s5 wr => t.size - (RowKit.intOf s5).toNat)
  case atStart => exact ⟨0, rfl, Nat.zero_le _, hF'.out, Below.refl _ _⟩
  case round =>
    obtain ⟨n, rfl, hn, hf, hbw⟩ := hrel
    have hf' := Lib.hid hf
    clear hf
    by_cases hlt : n < t.size
    · have hd : (t.extract n t.size).data.toList = t.data.toList.drop n := Lib.extract_to_end t n
      have hne : (t.extract n t.size).data.toList ≠ [] := fun h => by
        rw [hd] at h
        have := List.drop_eq_nil_iff.1 h
        rw [← Lib.size_eq] at this
        omega
      obtain ⟨k, hk⟩ : ∃ k : Nat, sz (t.extract n t.size).data.toList = k := ⟨_, rfl⟩
      have hkb := sz_bd (t.extract n t.size).data.toList
      have hkl := sz_len _ hne
      rw [hd, List.length_drop, ← Lib.size_eq] at hkl
      have cD := fun W hW => decode_any (t.extract n t.size) k W hW hne hk
      rw [hd] at hk hkb
      rw [hk] at hkb hkl
      have hk' := Lib.hid hk
      clear hd hne hk
      by_cases hfits : room < n + k
      · have hfin : F = n := by rw [← hf'.out]; exact fitF_stop _ _ _ _ (fun _ => by rw [hk'.out]; exact hfits)
        have hfin' := Lib.hid hfin
        clear hfin
        go_wp2_with (go_at_call 29; refine (cD _ (tabs_below hT'.out hbw)).mono ?_; rintro e w1 ⟨⟨r, rfl⟩, hb1⟩)
        go_ret
        exact ⟨by rw [hfin'.out]; rfl, below_then hbw hb1⟩
      · have hnx : fitF t.data.toList.length t.data.toList room (n + k) = F := by
          rw [← hf'.out, fitF_next _ _ _ n (by omega) (by rw [← Lib.size_eq]; exact hlt) (by rw [hk'.out]; exact hfits), hk'.out]
        have hnx' := Lib.hid hnx
        clear hnx
        go_wp2_with (go_at_call 29; refine (cD _ (tabs_below hT'.out hbw)).mono ?_; rintro e w1 ⟨⟨r, rfl⟩, hb1⟩)
        go_roundw
        case rel => exact ⟨n + k, by go_num, by omega, hnx'.out, below_then hbw hb1⟩
        case measure => simp [RowKit.intOf]; omega
    · have hfin : F = n := by rw [← hf'.out]; exact fitF_stop _ _ _ _ (fun h => by rw [← Lib.size_eq] at h; omega)
      have hfin' := Lib.hid hfin
      clear hfin
      go_wp2
      go_ret
      exact ⟨by rw [hfin'.out]; rfl, hbw⟩

theorem int_wrap (n : Nat) : Value.int .i64 (n : Int) = .int .i64 (n : Int) := rfl
/-- the rounds of foldLine: what the builder holds, what is left -/
def FlRel (L : Row) (pre : Row) (B b : Nat) (w : World) (s1 s4 : Value) (wr : World) : Prop :=
  ∃ (t : ByteArray) (acc : Row) (room : Nat), s1 = .string t ∧ s4 = .int .i64 (room : Int) ∧ (room = 75 ∨ room = 74) ∧ Bd B b acc wr ∧ Below B w wr ∧ w.heap.size ≤ wr.heap.size ∧
    t.data.toList.length ≤ L.length ∧ acc ++ foldF t.data.toList.length t.data.toList room = pre ++ foldL L
theorem tabs_of_below {B : Nat} {w w' : World} (h : Tabs w) (hB : ∀ W : World, Below B w W → Tabs W) (hb : Below B w w') : Tabs w' := hB _ hb

set_option maxHeartbeats 4000000 in
set_option maxRecDepth 100000 in
theorem foldLine_any (t : ByteArray) (pre : Row) (B b : Nat) (w : World) (hT : ∀ W, Below B w W → Tabs W) (hbd : Bd B b pre w) (hs : t.size ≤ 1099511627776) (hp : pre.length + 4 * t.size ≤ 70368744177664) (hBw : B ≤ w.heap.size) :
    Calls Tryd.prog 15 #[.pointer (some ⟨b, 0, none⟩), .string t] w fun e w' => e = .returned (.tuple #[]) ∧ Bd B b (pre ++ foldL t.data.toList) w' ∧ Below B w w' := by
  have hT' := Lib.hid hT
  clear hT
  have hrel0 : FlRel t.data.toList pre B b w (.string t) (.int .i64 (75 : Int)) w := ⟨t, pre, 75, rfl, rfl, .inl rfl, hbd, Below.refl _ _, Nat.le_refl _, Nat.le_refl _, rfl⟩
  have hLl : (foldL t.data.toList).length ≤ 4 * t.size := by rw [Lib.size_eq]; exact foldF_len _ _ 75 (by omega)
  obtain ⟨L, hL⟩ : ∃ L, t.data.toList = L := ⟨_, rfl⟩
  have hsL : L.length ≤ 1099511627776 := by rw [← hL, ← Lib.size_eq]; exact hs
  rw [hL] at hrel0 hLl ⊢
  clear hL hbd
  go_enter Tryd.func15, Tryd.ntmps15
  go_wp2
  go_loopw [1, 4] (fun s1 s4 wr => FlRel L pre B b w s1 s4 wr) (fun s1 s4 wr => strLen s1)
  case atStart => exact hrel0
  case round =>
    obtain ⟨x, acc, room, rfl, rfl, hroom, hbd, hbw, hwz, hxl, hacc⟩ := hrel
    have hacc' := Lib.hid hacc
    have hxs : x.size = x.data.toList.length := Lib.size_eq x
    have hxs' := Lib.hid hxs
    clear hacc hrel0 hxs
    by_cases h0 : x.data.toList = []
    · have he := empty_of x h0
      have hfin : pre ++ foldL L = acc := by rw [← hacc'.out, h0]; simp [foldF]
      have hfin' := Lib.hid hfin
      clear h0 hfin
      go_wp2
      go_end0
      exact ⟨rfl, by rw [hfin'.out]; exact hbd, hbw⟩
    · have he := nonempty_of x h0
      have hr74 : 74 ≤ room := by omega
      have hfb := fit_bd x.data.toList room hr74 h0
      have hstep := foldF_step x.data.toList.length x.data.toList room hr74 h0 (Nat.le_refl _)
      have hxz : x.size ≤ 1099511627776 := by have := hxs'.out; omega
      have cF := fun W hW => fit_any x room W hW (by omega) (by omega)
      obtain ⟨n, hn⟩ : ∃ n : Nat, fit x.data.toList room = n := ⟨_, rfl⟩
      rw [hn] at hfb hstep
      rw [hn] at cF
      have htk : (x.extract 0 n).data.toList = x.data.toList.take n := by rw [Lib.extract_data]; rfl
      have hdr : (x.extract n x.size).data.toList = x.data.toList.drop n := Lib.extract_to_end x n
      have htz : (x.extract 0 n).size = n := by rw [Lib.size_eq, htk, List.length_take]; omega
      have hdz : (x.extract n x.size).size = x.size - n := by rw [Lib.size_eq, hdr, List.length_drop, ← hxs'.out]
      have hn1 : 1 ≤ n ∧ n ≤ x.size := by have := hxs'.out; omega
      have hal : acc.length ≤ pre.length + 4 * t.size := by
        have := congrArg List.length hacc'.out
        rw [List.length_append, List.length_append] at this
        omega
      have hdz' := Lib.hid hdz
      have htk' := Lib.hid htk
      have htz' := Lib.hid htz
      have hn' := Lib.hid hn
      have hfb' := Lib.hid hfb
      have hstep' := Lib.hid hstep
      clear hn hfb hstep htk htz hdz h0
      by_cases h2 : x.data.toList.drop n = []
      · have he2 := empty_of (x.extract n x.size) (hdr.trans h2)
        have hfin : acc ++ (x.extract 0 n).data.toList ++ (⟨#[13, 10]⟩ : ByteArray).data.toList ++ foldF (x.extract n x.size).data.toList.length (x.extract n x.size).data.toList room = pre ++ foldL L := by
          rw [← hacc'.out, hstep'.out, htk'.out, hdr, h2, if_pos rfl, foldF_nil]; simp
        have hfin' := Lib.hid hfin
        have hdl : (x.extract n x.size).data.toList.length ≤ L.length := by rw [hdr, List.length_drop]; omega
        clear hfin hdr h2
        go_wp2_with (go_at_call 22; refine (cF _ (hT'.out _ hbw)).mono ?_; rintro e w1 ⟨rfl, hb1⟩)
        have hbd1 := hbd.kept hb1
        have hbw1 : Below B w w1 := hbw.trans (hb1.mono (by have := hbd.lt; omega))
        have hz1 : w.heap.size ≤ w1.heap.size := by have := hb1.size; omega
        clear hbd hbw hb1
        go_at_call 21
        refine (write_any B b acc _ _ hbd1 (by have := htz'.out; omega) (by have := hbd1.lt; omega)).mono ?_
        rintro e w2 ⟨rfl, hbd2, hb2⟩
        have hz2 : w.heap.size ≤ w2.heap.size := by have := hb2.size; omega
        go_wp2_with fail
        go_at_call 21
        refine (write_any B b _ _ _ hbd2 (by rw [List.length_append, ← Lib.size_eq, htz'.out, show (⟨#[13, 10]⟩ : ByteArray).size = 2 from rfl]; omega) (by have := hbd2.lt; omega)).mono ?_
        rintro e w3 ⟨rfl, hbd3, hb3⟩
        have hz3 : w.heap.size ≤ w3.heap.size := by have := hb3.size; omega
        have hbw3 := (hbw1.trans hb2).trans hb3
        clear hbw1 hbd1 hbd2 hb2 hb3
        go_wp2
        go_roundw
        case rel => exact ⟨_, _, room, rfl, rfl, hroom, hbd3, hbw3, hz3, hdl, hfin'.out⟩
        case measure => show (x.extract n x.size).size < x.size; rw [hdz'.out]; omega
      · have he2 := nonempty_of (x.extract n x.size) (by rw [hdr]; exact h2)
        have hfin : acc ++ (x.extract 0 n).data.toList ++ (⟨#[13, 10]⟩ : ByteArray).data.toList ++ [32] ++ foldF (x.extract n x.size).data.toList.length (x.extract n x.size).data.toList 74 = pre ++ foldL L := by
          rw [← hacc'.out, hstep'.out, htk'.out, hdr, if_neg h2, foldF_more x.data.toList.length (x.data.toList.drop n).length _ 74 (by omega) (by rw [List.length_drop]; omega) (Nat.le_refl _)]; simp
        have hfin' := Lib.hid hfin
        have hdl : (x.extract n x.size).data.toList.length ≤ L.length := by rw [hdr, List.length_drop]; omega
        clear hfin hdr h2
        go_wp2_with (go_at_call 22; refine (cF _ (hT'.out _ hbw)).mono ?_; rintro e w1 ⟨rfl, hb1⟩)
        have hbd1 := hbd.kept hb1
        have hbw1 : Below B w w1 := hbw.trans (hb1.mono (by have := hbd.lt; omega))
        have hz1 : w.heap.size ≤ w1.heap.size := by have := hb1.size; omega
        clear hbd hbw hb1
        go_at_call 21
        refine (write_any B b acc _ _ hbd1 (by have := htz'.out; omega) (by have := hbd1.lt; omega)).mono ?_
        rintro e w2 ⟨rfl, hbd2, hb2⟩
        have hz2 : w.heap.size ≤ w2.heap.size := by have := hb2.size; omega
        go_wp2_with fail
        go_at_call 21
        refine (write_any B b _ _ _ hbd2 (by rw [List.length_append, ← Lib.size_eq, htz'.out, show (⟨#[13, 10]⟩ : ByteArray).size = 2 from rfl]; omega) (by have := hbd2.lt; omega)).mono ?_
        rintro e w3 ⟨rfl, hbd3, hb3⟩
        have hz3 : w.heap.size ≤ w3.heap.size := by have := hb3.size; omega
        have hbw3 := (hbw1.trans hb2).trans hb3
        clear hbw1 hbd1 hbd2 hb2 hb3
        go_wp2_with fail
        go_at_call 23
        refine (byte_any B b _ 32 _ hbd3 (by rw [List.length_append, List.length_append, ← Lib.size_eq, htz'.out, show (⟨#[13, 10]⟩ : ByteArray).data.toList.length = 2 from rfl]; omega) (by have := hbd3.lt; omega)).mono ?_
        rintro e w4 ⟨rfl, hbd4, hb4⟩
        have hz4 : w.heap.size ≤ w4.heap.size := by have := hb4.size; omega
        have hbw4 := hbw3.trans hb4
        clear hbw3 hbd3 hb4
        go_wp2
        go_roundw
        case rel => exact ⟨_, _, 74, rfl, rfl, .inr rfl, hbd4, hbw4, hz4, hdl, hfin'.out⟩
        case measure => show (x.extract n x.size).size < x.size; rw [hdz'.out]; omega
end Go.Proofs.YtdocajpnlejagaaDoor.Fo
