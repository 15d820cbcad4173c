/-
  WALKS OF strings.Cut at one byte, value.meant, value.Text.
-/
import Derived.Test.YtjdockjkioomiaaValueMem
import Derived.LoopTactic
import Derived.BigQuiet
import Derived.Deep.QuietTactic
import Derived.IntWalk
set_option linter.unusedVariables false
namespace Go.Proofs.Ytjdockjkioomiaa.Va
open Go.Lib Go.RowKit Bu

theorem ret_bool {a b : Bool} (h : a = b) : Ending.returned (.bool a) = .returned (.bool b) := by rw [h]
theorem tn {x m : UInt8} {k : Int} (hm : (m.toNat : Int) = k) (h : x ≠ m) : ((x.toNat : Int) == k) = false := by subst hm; exact beq_eq_false_iff_ne.2 (fun e => h (UInt8.toNat_inj.1 (by omega)))
theorem ty {x m : UInt8} {k : Int} (hm : (m.toNat : Int) = k) (h : x = m) : ((x.toNat : Int) == k) = true := by subst hm; subst h; simp
def strLen : Value → Nat
  | .string s => s.size
  | _ => 0
def bit : Value → Nat
  | .bool true => 1
  | _ => 0

/-! ### strings.Cut at one byte -/
def CutP (c : UInt8) (t : ByteArray) (e : Ending) : Prop :=
  (c ∉ t.data.toList ∧ e = .returned (.tuple #[.string t, .string ⟨#[]⟩, .bool false])) ∨
  ∃ a r : ByteArray, c ∉ a.data.toList ∧ t.data.toList = a.data.toList ++ c :: r.data.toList ∧ e = .returned (.tuple #[.string a, .string r, .bool true])
theorem byte_at (l : List UInt8) (c : UInt8) : (indexByte l c = -1 ∧ c ∉ l) ∨ ∃ k : Nat, indexByte l c = k ∧ k < l.length ∧ c ∉ l.take k ∧ l = l.take k ++ c :: l.drop (k + 1) := by
  have hge := indexByte_ge l c
  by_cases h : indexByte l c = -1
  · left
    refine ⟨h, fun hm => ?_⟩
    obtain ⟨k, hk⟩ := List.mem_iff_getElem?.1 hm
    exact indexByte_none h k hk
  · right
    obtain ⟨k, hk⟩ : ∃ k : Nat, indexByte l c = k := ⟨(indexByte l c).toNat, by omega⟩
    obtain ⟨h1, h2⟩ := indexByte_some hk
    obtain ⟨hlt, hv⟩ := List.getElem?_eq_some_iff.1 h1
    refine ⟨k, hk, hlt, fun hm => ?_, ?_⟩
    · obtain ⟨j, hj⟩ := List.mem_iff_getElem?.1 hm
      rw [List.getElem?_take] at hj
      split at hj
      · exact h2 j ‹_› hj
      · cases hj
    · conv => lhs; rw [← List.take_append_drop k l, List.drop_eq_getElem_cons hlt, hv]

set_option maxHeartbeats 2000000 in
set_option maxRecDepth 100000 in
theorem cutLite_any (c : UInt8) (t : ByteArray) (w : World) (hs : t.size ≤ 140737488355328) :
    Calls Try.prog 33 #[.string t, .string ⟨#[c]⟩] w fun e w' => CutP c t e ∧ Below w.heap.size w w' := by
  have cI := fun W => Try.stringslite_Index_one t c W
  rcases byte_at t.data.toList c with ⟨h1, h2⟩ | ⟨k, h1, h2, h3, h4⟩
  · rw [h1] at cI
    have hfin : CutP c t (.returned (.tuple #[.string t, .string ⟨#[]⟩, .bool false])) := .inl ⟨h2, rfl⟩
    clear h1 h2
    have hfin' := Lib.hid hfin
    clear hfin
    go_enter Try.func33, Try.ntmps33
    go_wp2_with (go_at_call 36; refine (cI _).mono ?_; rintro e w' ⟨rfl, rfl⟩)
    go_ret3
    exact ⟨hfin'.out, Below.refl _ _⟩
  · rw [h1] at cI
    rw [← Lib.size_eq] at h2
    have e1 : (t.extract 0 k).data.toList = t.data.toList.take k := by rw [Lib.extract_data]; rfl
    have e2 : (t.extract (k + 1) t.size).data.toList = t.data.toList.drop (k + 1) := Lib.extract_to_end t (k + 1)
    have hfin : CutP c t (.returned (.tuple #[.string (t.extract 0 k), .string (t.extract (k + 1) t.size), .bool true])) :=
      .inr ⟨_, _, by rw [e1]; exact h3, by rw [e1, e2]; exact h4, rfl⟩
    clear h1 h3 h4 e1 e2
    have hfin' := Lib.hid hfin
    clear hfin
    have hw : IntKind.i64.wrap ((k : Int) + 1) = (k : Int) + 1 := IntWalk.i64_in _ (by omega)
    go_enter Try.func33, Try.ntmps33
    go_wp2_with (go_at_call 36; refine (cI _).mono ?_; rintro e w' ⟨rfl, rfl⟩)
    go_quiet (fail)
    go_wp2
    go_ret3
    exact ⟨hfin'.out, below_drewN _ (Below.refl _ _)⟩

set_option maxHeartbeats 2000000 in
set_option maxRecDepth 100000 in
theorem sCut_any (c : UInt8) (t : ByteArray) (w : World) (hs : t.size ≤ 140737488355328) :
    Calls Try.prog 22 #[.string t, .string ⟨#[c]⟩] w fun e w' => CutP c t e ∧ Below w.heap.size w w' := by
  go_enter Try.func22, Try.ntmps22
  go_wp2_with fail
  go_at_call 33
  refine (cutLite_any c t w hs).mono ?_
  rintro e w1 ⟨hc, hb⟩
  rcases hc with ⟨h1, rfl⟩ | ⟨a, r, h1, h2, rfl⟩
  · have hfin : CutP c t (.returned (.tuple #[.string t, .string ⟨#[]⟩, .bool false])) := .inl ⟨h1, rfl⟩
    have hfin' := Lib.hid hfin
    clear hfin h1
    go_wp2
    go_ret3
    exact ⟨hfin'.out, hb⟩
  · have hfin : CutP c t (.returned (.tuple #[.string a, .string r, .bool true])) := .inr ⟨a, r, h1, h2, rfl⟩
    have hfin' := Lib.hid hfin
    clear hfin h1 h2
    go_wp2
    go_ret3
    exact ⟨hfin'.out, hb⟩

/-! ### an escape -/
def MeantP (r : Row) (e : Ending) : Prop :=
  ((∀ c u, r = c :: u → kep c = none) ∧ e = .returned (.tuple #[.int .u8 0, .bool false])) ∨
  ∃ (c d : UInt8) (u : Row), r = c :: u ∧ kep c = some d ∧ e = .returned (.tuple #[.int .u8 (d.toNat : Int), .bool true])
theorem nonempty_of (s : ByteArray) (h : s.data.toList ≠ []) : s.toList.isEmpty = false := by
  rw [Lib.toList_data]
  cases h' : s.data.toList with
  | nil => exact absurd h' h
  | cons _ _ => rfl
theorem empty_of (s : ByteArray) (h : s.data.toList = []) : s.toList.isEmpty = true := by rw [Lib.toList_data, h]; rfl
theorem head_of (s : ByteArray) (h : 0 < s.size) : s.data.toList = s[0]'h :: s.data.toList.drop 1 := by
  have := List.drop_eq_getElem_cons (l := s.data.toList) (i := 0) (by rw [← Lib.size_eq]; exact h)
  rw [List.drop_zero] at this
  rw [this]
  congr 1
theorem kep_own (c : UInt8) (h : c = 92 ∨ c = 44 ∨ c = 59) : kep c = some c := by unfold kep; rw [if_pos h]
theorem kep_feed (c : UInt8) (h : c = 110 ∨ c = 78) : kep c = some 10 := by
  unfold kep
  rw [if_neg (by rcases h with rfl | rfl <;> decide), if_pos h]
theorem kep_no (c : UInt8) (h1 : c ≠ 92) (h2 : c ≠ 44) (h3 : c ≠ 59) (h4 : c ≠ 110) (h5 : c ≠ 78) : kep c = none := by
  unfold kep; rw [if_neg (fun h => by rcases h with e | e | e; exact h1 e; exact h2 e; exact h3 e), if_neg (fun h => by rcases h with e | e; exact h4 e; exact h5 e)]

set_option maxHeartbeats 2000000 in
set_option maxRecDepth 100000 in
theorem meant_any (r : ByteArray) (w : World) (hs : r.size ≤ 140737488355328) :
    Calls Try.prog 25 #[.string r] w fun e w' => MeantP r.data.toList e ∧ w = w' := by
  by_cases h0 : r.data.toList = []
  · have he := empty_of r h0
    have hfin : MeantP r.data.toList (.returned (.tuple #[.int .u8 0, .bool false])) := .inl ⟨fun c u e => (by rw [h0] at e; cases e), rfl⟩
    have hfin' := Lib.hid hfin
    clear hfin h0
    go_enter Try.func25, Try.ntmps25
    go_wp2
    go_ret2
    exact ⟨hfin'.out, rfl⟩
  · have he := nonempty_of r h0
    have hpos : 0 < r.size := by
      rw [Lib.size_eq]
      cases h : r.data.toList with
      | nil => exact absurd h h0
      | cons _ _ => simp
    have hh := head_of r hpos
    have hyes : ∀ d, kep (r[0]'hpos) = some d → MeantP r.data.toList (.returned (.tuple #[.int .u8 (d.toNat : Int), .bool true])) := fun d hd => .inr ⟨_, d, _, hh, hd, rfl⟩
    have hno : kep (r[0]'hpos) = none → MeantP r.data.toList (.returned (.tuple #[.int .u8 0, .bool false])) := fun hd => .inl ⟨fun c u e => by rw [hh] at e; rw [← (List.cons.inj e).1]; exact hd, rfl⟩
    have hyes' := Lib.hid hyes
    have hno' := Lib.hid hno
    clear hh h0 hyes hno
    by_cases c1 : r[0]'hpos = 92
    · have d1 : ((((r[0]'hpos).toNat : Nat) : Int) == 92) = true := ty (m := 92) rfl c1
      have hf := Lib.hid (hyes'.out _ (kep_own _ (.inl c1)))
      clear c1
      go_enter Try.func25, Try.ntmps25
      go_wp2
      go_ret2
      exact ⟨hf.out, rfl⟩
    · have d1 : ((((r[0]'hpos).toNat : Nat) : Int) == 92) = false := tn (m := 92) rfl c1
      by_cases c2 : r[0]'hpos = 44
      · have d2 : ((((r[0]'hpos).toNat : Nat) : Int) == 44) = true := ty (m := 44) rfl c2
        have hf := Lib.hid (hyes'.out _ (kep_own _ (.inr (.inl c2))))
        clear c1 c2
        go_enter Try.func25, Try.ntmps25
        go_wp2
        go_ret2
        exact ⟨hf.out, rfl⟩
      · have d2 : ((((r[0]'hpos).toNat : Nat) : Int) == 44) = false := tn (m := 44) rfl c2
        by_cases c3 : r[0]'hpos = 59
        · have d3 : ((((r[0]'hpos).toNat : Nat) : Int) == 59) = true := ty (m := 59) rfl c3
          have hf := Lib.hid (hyes'.out _ (kep_own _ (.inr (.inr c3))))
          clear c1 c2 c3
          go_enter Try.func25, Try.ntmps25
          go_wp2
          go_ret2
          exact ⟨hf.out, rfl⟩
        · have d3 : ((((r[0]'hpos).toNat : Nat) : Int) == 59) = false := tn (m := 59) rfl c3
          by_cases c4 : r[0]'hpos = 110
          · have d4 : ((((r[0]'hpos).toNat : Nat) : Int) == 110) = true := ty (m := 110) rfl c4
            have hf := Lib.hid (hyes'.out _ (kep_feed _ (.inl c4)))
            clear c1 c2 c3 c4
            go_enter Try.func25, Try.ntmps25
            go_wp2
            go_ret2
            exact ⟨hf.out, rfl⟩
          · have d4 : ((((r[0]'hpos).toNat : Nat) : Int) == 110) = false := tn (m := 110) rfl c4
            by_cases c5 : r[0]'hpos = 78
            · have d5 : ((((r[0]'hpos).toNat : Nat) : Int) == 78) = true := ty (m := 78) rfl c5
              have hf := Lib.hid (hyes'.out _ (kep_feed _ (.inr c5)))
              clear c1 c2 c3 c4 c5
              go_enter Try.func25, Try.ntmps25
              go_wp2
              go_ret2
              exact ⟨hf.out, rfl⟩
            · have d5 : ((((r[0]'hpos).toNat : Nat) : Int) == 78) = false := tn (m := 78) rfl c5
              have hf := Lib.hid (hno'.out (kep_no _ c1 c2 c3 c4 c5))
              clear c1 c2 c3 c4 c5
              go_enter Try.func25, Try.ntmps25
              go_wp2
              go_ret2
              exact ⟨hf.out, rfl⟩

/-! ### texts -/
def TextP (t : Row) (e : Ending) : Prop :=
  (text t = none ∧ e = .returned (.tuple #[.string ⟨#[]⟩, .int .i64 31])) ∨ ∃ x : ByteArray, text t = some x.data.toList ∧ e = .returned (.tuple #[.string x, .int .i64 0])
theorem plain_free (a : Row) : plain (a.map fun c => (c, false)) = a := by
  unfold plain
  rw [List.map_map]
  have : (Prod.fst ∘ fun c : UInt8 => (c, false)) = id := rfl
  rw [this, List.map_id]
theorem text_free (a : Row) (h : 92 ∉ a) : text a = some a := by
  unfold text; rw [signs_free a h, Option.map_some, plain_free]
theorem text_then (a b : Row) (h : 92 ∉ a) : text (a ++ b) = (text b).map fun x => a ++ x := by
  unfold text; rw [signs_then (signs_free a h)]
  cases signs b with
  | none => rfl
  | some l => simp only [Option.map_some, plain_append, plain_free]
theorem text_bad (r : Row) (h : ∀ c u, r = c :: u → kep c = none) : text (92 :: r) = none := by
  unfold text
  cases r with
  | nil => rw [signs_end]; rfl
  | cons c u => rw [signs_esc, h c u rfl]; rfl
theorem text_esc (c d : UInt8) (u : Row) (h : kep c = some d) : text (92 :: c :: u) = (text u).map fun x => d :: x := by
  unfold text
  rw [signs_esc, h]
  cases signs u with
  | none => rfl
  | some l => simp [plain]
def TextRel (T : ByteArray) (w : World) (s0 : Value) (wr : World) : Prop :=
  ∃ (t : ByteArray) (acc : Row), s0 = .string t ∧ Bd w.heap.size w.heap.size acc wr ∧ Below w.heap.size w wr ∧ acc.length + t.size ≤ T.size ∧ text T.data.toList = (text t.data.toList).map fun x => acc ++ x

set_option maxHeartbeats 4000000 in
set_option maxRecDepth 100000 in
theorem text_any (T : ByteArray) (w : World) (hs : T.size ≤ 1099511627776) :
    Calls Try.prog 10 #[.string T] w fun e w' => TextP T.data.toList e ∧ Below w.heap.size w w' := by
  go_enter Try.func10, Try.ntmps10
  go_wp2
  go_loopw [0] (fun s0 wr => TextRel T w s0 wr) (fun s0 wr => strLen s0)
  case atStart => exact ⟨T, [], rfl, fresh w, (Below.refl _ _).alloc (Nat.le_refl _) _, by simp, by simp⟩
  case round =>
    obtain ⟨t, acc, rfl, hbd, hbw, hL, hR⟩ := hrel
    have hR' := Lib.hid hR
    clear hR
    go_wp2_with fail
    go_at_call 22
    refine (sCut_any 92 t wr (by omega)).mono ?_
    rintro e w1 ⟨hc, hb1⟩
    have hbd1 := hbd.kept hb1
    have hbw1 := below_then hbw hb1
    clear hbd hbw hb1
    rcases hc with ⟨h1, rfl⟩ | ⟨a, r, h1, h2, rfl⟩
    · have hf : text T.data.toList = some (acc ++ t.data.toList) := by rw [hR'.out, text_free _ h1]; rfl
      have cW := write_any w.heap.size w.heap.size acc t w1 hbd1 (by omega) hbw1.size
      have hf' := Lib.hid hf
      clear h1 hf
      go_wp2_with (go_at_call 23; refine cW.mono ?_; rintro e w2 ⟨rfl, hbd2, hb2⟩)
      have hbw2 := hbw1.trans hb2
      go_wp2_with (go_at_call 24; refine (Bu.text_any w.heap.size w.heap.size _ _ hbd2 hbw2.size).mono ?_; rintro e w3 ⟨rfl, _, hb3⟩)
      go_ret2
      exact ⟨.inr ⟨_, by simpa using hf'.out, rfl⟩, hbw2.trans hb3⟩
    · have hlen : a.size + (r.size + 1) = t.size := by
        have := congrArg List.length h2
        rw [List.length_append, List.length_cons, ← Lib.size_eq, ← Lib.size_eq, ← Lib.size_eq] at this
        omega
      have cW := write_any w.heap.size w.heap.size acc a w1 hbd1 (by omega) hbw1.size
      have hR2 : text T.data.toList = (text (92 :: r.data.toList)).map fun x => (acc ++ a.data.toList) ++ x := by
        rw [hR'.out, h2, text_then _ _ h1, Option.map_map]
        congr 1
        funext x
        simp
      have hR2' := Lib.hid hR2
      clear h1 h2 hR2 hR'
      go_wp2_with (go_at_call 23; refine cW.mono ?_; rintro e w2 ⟨rfl, hbd2, hb2⟩)
      have hbw2 := hbw1.trans hb2
      clear cW hbd1 hbw1 hb2
      go_at_call 25
      refine (meant_any r w2 (by omega)).mono ?_
      rintro e w3 ⟨hm, rfl⟩
      rcases hm with ⟨hm, rfl⟩ | ⟨c, d, u, hm, hd, rfl⟩
      · have hf : TextP T.data.toList (.returned (.tuple #[.string ⟨#[]⟩, .int .i64 31])) := .inl ⟨by rw [hR2'.out, text_bad _ hm]; rfl, rfl⟩
        have hf' := Lib.hid hf
        clear hf hm
        go_wp2
        go_ret2
        exact ⟨hf'.out, hbw2⟩
      · have hrs : 1 ≤ r.size := by rw [Lib.size_eq, hm]; simp
        have hxs : (r.extract 1 r.size).data.toList = u := by rw [Lib.extract_to_end r 1, hm]; rfl
        have hxl : (r.extract 1 r.size).size = r.size - 1 := by rw [Lib.size_eq, hxs, Lib.size_eq r, hm]; simp
        have hR3 : text T.data.toList = (text (r.extract 1 r.size).data.toList).map fun x => (acc ++ a.data.toList ++ [d]) ++ x := by
          rw [hR2'.out, hm, text_esc c d u hd, hxs, Option.map_map]
          congr 1
          funext x
          simp
        have hal : (acc ++ a.data.toList).length = acc.length + a.size := by rw [List.length_append, ← Lib.size_eq]
        have cB := byte_any w.heap.size w.heap.size (acc ++ a.data.toList) d w2 hbd2 (by omega) hbw2.size
        have hR3' := Lib.hid hR3
        have hal' := Lib.hid hal
        obtain ⟨q, hq⟩ : ∃ q, r.extract 1 r.size = q := ⟨_, rfl⟩
        have hql : q.size = r.size - 1 := by rw [← hq]; exact hxl
        have hqR := Lib.hid (hq ▸ hR3)
        clear hm hd hxs hxl hR3 hR3' hR2' hal
        go_wp2_with (go_at_call 26; refine cB.mono ?_; rintro e w4 ⟨rfl, hbd4, hb4⟩)
        go_roundw
        case rel => exact ⟨q, _, rfl, hbd4, hbw2.trans hb4, by rw [List.length_append, hal'.out, List.length_singleton]; omega, hqR.out⟩
        case measure => simp only [strLen]; omega
end Go.Proofs.Ytjdockjkioomiaa.Va
