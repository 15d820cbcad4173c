/-
  WALKS OF line.cutNames, strings.Cut at one byte, line.cutValue, escaped, meant, plain.
-/
import Derived.Test.YthkcjfoihieooaaDoorLineName
import Derived.Test.YthkcjfoihieooaaDoorAnyAscii
import Derived.Test.YthkcjfoihieooaaDoorCharValid
import Derived.Test.YthkcjfoihieooaaDoorBuild
set_option linter.unusedVariables false
namespace Go.Proofs.YthkcjfoihieooaaDoor.Li
open Go.Lib Go.RowKit Bu

theorem results_tmp4 {fn : Func} {t u v x : Tmp} (h : fn.results = #[.tmp t, .tmp u, .tmp v, .tmp x]) (tmps : Array Value) (P : Program) (w : World) :
    (results fn tmps).run P w = .ok (.tuple #[tmps.getD t undef, tmps.getD u undef, tmps.getD v undef, tmps.getD x undef]) w := by simp [results, h]

/-- what cutNames answers -/
def CutNamesP (t : Row) (e : Ending) : Prop :=
  (namesC t = none ∧ e = .returned (.tuple #[.string ⟨#[]⟩, .string ⟨#[]⟩, .string ⟨#[]⟩, .bool false])) ∨
  ∃ g n r : ByteArray, namesC t = some (g.data.toList, n.data.toList, r.data.toList) ∧ e = .returned (.tuple #[.string g, .string n, .string r, .bool true])

theorem nameC_len {l : Row} {n r : ByteArray} (h : nameC l = some (n.data.toList, r.data.toList)) : n.size + r.size = l.length := by
  have := congrArg List.length (nameC_some h).1
  rw [List.length_append] at this
  rw [Lib.size_eq, Lib.size_eq]; omega

set_option maxHeartbeats 4000000 in
set_option maxRecDepth 100000 in
theorem cutNames_any (s : ByteArray) (w : World) (hs : s.size ≤ 9223372036854775807) :
    Calls Tryd.prog 22 #[.string s] w fun e w' => CutNamesP s.data.toList e ∧ Below w.heap.size w w' := by
  go_enter Tryd.func22, Tryd.ntmps22
  go_wp2_with fail
  go_at_call 30
  refine (cutName_any s w hs).mono ?_
  rintro e w1 ⟨hc, hb⟩
  rcases hc with ⟨h1, rfl⟩ | ⟨n, r, h1, rfl⟩
  · have hfin : CutNamesP s.data.toList (.returned (.tuple #[.string ⟨#[]⟩, .string ⟨#[]⟩, .string ⟨#[]⟩, .bool false])) := .inl ⟨by unfold namesC; rw [h1], rfl⟩
    have hfin' := Lib.hid hfin
    clear hfin h1
    go_wp2
    refine bodyPost_ret (results_tmp4 rfl _ _ _) rfl ?_
    exact ⟨hfin'.out, hb⟩
  · have hrs : r.size ≤ 9223372036854775807 := by have := nameC_len h1; have := Lib.size_eq s; omega
    by_cases h46 : r.data.toList.head? = some 46
    · have hfin0 : nameC r.data.toList.tail = none → CutNamesP s.data.toList (.returned (.tuple #[.string ⟨#[]⟩, .string ⟨#[]⟩, .string ⟨#[]⟩, .bool false])) := fun h2 => .inl ⟨by unfold namesC; rw [h1]; dsimp only; rw [if_pos h46, h2]; rfl, rfl⟩
      have hfin1 : ∀ m q : ByteArray, nameC r.data.toList.tail = some (m.data.toList, q.data.toList) → CutNamesP s.data.toList (.returned (.tuple #[.string n, .string m, .string q, .bool true])) := fun m q h2 => .inr ⟨n, m, q, by unfold namesC; rw [h1]; dsimp only; rw [if_pos h46, h2]; rfl, rfl⟩
      have hfin0' := Lib.hid hfin0
      have hfin1' := Lib.hid hfin1
      have cH := fun W => hasPre_is r 46 true W (decide_eq_true h46)
      have hr1 := size_pos r h46
      clear hfin0 hfin1 h1 h46
      go_wp2_with (go_at_call 44; refine (cH _).mono ?_; rintro e w' ⟨rfl, rfl⟩)
      go_at_call 30
      refine (cutName_any (r.extract 1 r.size) _ (by rw [Lib.size_eq, cut_tail, List.length_tail, ← Lib.size_eq]; omega)).mono ?_
      rintro e w2 ⟨hc, hb2⟩
      rw [cut_tail] at hc
      rcases hc with ⟨h1, rfl⟩ | ⟨m, q, h1, rfl⟩
      · have hf := Lib.hid (hfin0'.out h1)
        clear h1
        go_wp2
        refine bodyPost_ret (results_tmp4 rfl _ _ _) rfl ?_
        exact ⟨hf.out, below_then hb hb2⟩
      · have hf := Lib.hid (hfin1'.out m q h1)
        clear h1
        go_wp2
        refine bodyPost_ret (results_tmp4 rfl _ _ _) rfl ?_
        exact ⟨hf.out, below_then hb hb2⟩
    · have hfin : CutNamesP s.data.toList (.returned (.tuple #[.string ⟨#[]⟩, .string n, .string r, .bool true])) := .inr ⟨⟨#[]⟩, n, r, by unfold namesC; rw [h1]; dsimp only; rw [if_neg h46], rfl⟩
      have hfin' := Lib.hid hfin
      have cH := fun W => hasPre_is r 46 false W (decide_eq_false h46)
      clear hfin h1 h46
      go_wp2_with (go_at_call 44; refine (cH _).mono ?_; rintro e w' ⟨rfl, rfl⟩)
      refine bodyPost_ret (results_tmp4 rfl _ _ _) rfl ?_
      exact ⟨hfin'.out, hb⟩

/-! ### strings.Cut at one byte -/
def CutP (c : UInt8) (t : ByteArray) (e : Ending) : Prop :=
  (cut1 c t.data.toList = none ∧ e = .returned (.tuple #[.string t, .string ⟨#[]⟩, .bool false])) ∨
  ∃ a r : ByteArray, cut1 c t.data.toList = some (a.data.toList, r.data.toList) ∧ e = .returned (.tuple #[.string a, .string r, .bool true])
theorem byte_at (l : List UInt8) (c : UInt8) : (indexByte l c = -1 ∧ c ∉ l) ∨ ∃ k : Nat, indexByte l c = k ∧ k < l.length ∧ c ∉ l.take k ∧ l = l.take k ++ c :: l.drop (k + 1) := by
  have hge := indexByte_ge l c
  by_cases h : indexByte l c = -1
  · left
    refine ⟨h, fun hm => ?_⟩
    obtain ⟨k, hk⟩ := List.mem_iff_getElem?.1 hm
    exact indexByte_none h k hk
  · right
    obtain ⟨k, hk⟩ : ∃ k : Nat, indexByte l c = k := ⟨(indexByte l c).toNat, by omega⟩
    obtain ⟨h1, h2⟩ := indexByte_some hk
    obtain ⟨hlt, hv⟩ := List.getElem?_eq_some_iff.1 h1
    refine ⟨k, hk, hlt, fun hm => ?_, ?_⟩
    · obtain ⟨j, hj⟩ := List.mem_iff_getElem?.1 hm
      rw [List.getElem?_take] at hj
      split at hj
      · exact h2 j ‹_› hj
      · cases hj
    · conv => lhs; rw [← List.take_append_drop k l, List.drop_eq_getElem_cons hlt, hv]

set_option maxHeartbeats 2000000 in
set_option maxRecDepth 100000 in
theorem cutLite_any (c : UInt8) (t : ByteArray) (w : World) (hs : t.size ≤ 9223372036854775807) :
    Calls Tryd.prog 80 #[.string t, .string ⟨#[c]⟩] w fun e w' => CutP c t e ∧ Below w.heap.size w w' := by
  have cI := fun W => Tryd.stringslite_Index_one t c W
  rcases byte_at t.data.toList c with ⟨h1, h2⟩ | ⟨k, h1, h2, h3, h4⟩
  · rw [h1] at cI
    have hfin : CutP c t (.returned (.tuple #[.string t, .string ⟨#[]⟩, .bool false])) := .inl ⟨cut1_none h2, rfl⟩
    clear h1 h2
    have hfin' := Lib.hid hfin
    clear hfin
    go_enter Tryd.func80, Tryd.ntmps80
    go_wp2_with (go_at_call 82; refine (cI _).mono ?_; rintro e w' ⟨rfl, rfl⟩)
    go_ret3
    exact ⟨hfin'.out, Below.refl _ _⟩
  · rw [h1] at cI
    rw [← Lib.size_eq] at h2
    have e1 : (t.extract 0 k).data.toList = t.data.toList.take k := by rw [Lib.extract_data]; rfl
    have e2 : (t.extract (k + 1) t.size).data.toList = t.data.toList.drop (k + 1) := Lib.extract_to_end t (k + 1)
    have hfin : CutP c t (.returned (.tuple #[.string (t.extract 0 k), .string (t.extract (k + 1) t.size), .bool true])) :=
      .inr ⟨_, _, by rw [e1, e2]; conv => lhs; rw [h4]
                     exact cut1_some _ h3, rfl⟩
    clear h1 h3 h4 e1 e2
    have hfin' := Lib.hid hfin
    clear hfin
    have hw : IntKind.i64.wrap ((k : Int) + 1) = (k : Int) + 1 := IntWalk.i64_in _ (by omega)
    go_enter Tryd.func80, Tryd.ntmps80
    go_wp2_with (go_at_call 82; refine (cI _).mono ?_; rintro e w' ⟨rfl, rfl⟩)
    go_quiet (fail)
    go_wp2
    go_ret3
    exact ⟨hfin'.out, below_drew _ _⟩

set_option maxHeartbeats 2000000 in
set_option maxRecDepth 100000 in
theorem cut_any (c : UInt8) (t : ByteArray) (w : World) (hs : t.size ≤ 9223372036854775807) :
    Calls Tryd.prog 77 #[.string t, .string ⟨#[c]⟩] w fun e w' => CutP c t e ∧ Below w.heap.size w w' := by
  go_enter Tryd.func77, Tryd.ntmps77
  go_wp2_with fail
  go_at_call 80
  refine (cutLite_any c t w hs).mono ?_
  rintro e w1 ⟨hc, hb⟩
  rcases hc with ⟨h1, rfl⟩ | ⟨a, r, h1, rfl⟩
  · have hfin : CutP c t (.returned (.tuple #[.string t, .string ⟨#[]⟩, .bool false])) := .inl ⟨h1, rfl⟩
    have hfin' := Lib.hid hfin
    clear hfin h1
    go_wp2
    go_ret3
    exact ⟨hfin'.out, hb⟩
  · have hfin : CutP c t (.returned (.tuple #[.string a, .string r, .bool true])) := .inr ⟨a, r, h1, rfl⟩
    have hfin' := Lib.hid hfin
    clear hfin h1
    go_wp2
    go_ret3
    exact ⟨hfin'.out, hb⟩

/-! ### a value as it is written -/
def CutValueP (t : Row) (e : Ending) : Prop :=
  (rawC t = none ∧ ∃ a r : ByteArray, e = .returned (.tuple #[.string a, .string r, .bool false])) ∨
  ∃ a r : ByteArray, rawC t = some (a.data.toList, r.data.toList) ∧ e = .returned (.tuple #[.string a, .string r, .bool true])
theorem sep_in (b : UInt8) : sepB b = ([44, 59, 58, 34] : List UInt8).contains b := by
  rw [Bool.eq_iff_iff]
  unfold sepB
  simp [or_assoc]
theorem index_span (l : Row) : (Lib.indexAny l [44, 59, 58, 34] = -1 ∧ l.takeWhile (fun b => !sepB b) = l ∧ l.dropWhile (fun b => !sepB b) = []) ∨
    ∃ k : Nat, Lib.indexAny l [44, 59, 58, 34] = k ∧ k < l.length ∧ l.takeWhile (fun b => !sepB b) = l.take k ∧ l.dropWhile (fun b => !sepB b) = l.drop k := by
  induction l with
  | nil => exact .inl ⟨rfl, rfl, rfl⟩
  | cons x l ih =>
    rw [Lib.indexAny, ← sep_in]
    cases hx : sepB x
    · rcases ih with ⟨h1, h2, h3⟩ | ⟨k, h1, h2, h3, h4⟩
      · left
        rw [h1]
        refine ⟨rfl, ?_, ?_⟩
        · rw [List.takeWhile_cons, hx, h2]; rfl
        · rw [List.dropWhile_cons, hx, h3]; rfl
      · right
        refine ⟨k + 1, ?_, by simp; exact h2, ?_, ?_⟩
        · have : (Lib.indexAny l [44, 59, 58, 34] == -1) = false := by rw [h1]; exact beq_eq_false_iff_ne.2 (by omega)
          rw [this, h1]; rfl
        · rw [List.takeWhile_cons, hx, h3]; rfl
        · rw [List.dropWhile_cons, hx, h4]; rfl
    · right
      exact ⟨0, rfl, by simp, by rw [List.takeWhile_cons, hx]; rfl, by rw [List.dropWhile_cons, hx]; rfl⟩
theorem asc4 : An.Asc ⟨#[44, 59, 58, 34]⟩ := fun j b hb => by
  have : b ∈ ([44, 59, 58, 34] : List UInt8) := List.mem_iff_getElem?.2 ⟨j, hb⟩
  simp only [List.mem_cons, List.not_mem_nil, or_false] at this
  rcases this with rfl | rfl | rfl | rfl <;> decide

set_option maxHeartbeats 4000000 in
set_option maxRecDepth 100000 in
theorem cutValue_any (s : ByteArray) (w : World) (hs : s.size ≤ 9223372036854775807) :
    Calls Tryd.prog 71 #[.string s] w fun e w' => CutValueP s.data.toList e ∧ Below w.heap.size w w' := by
  by_cases h34 : s.data.toList.head? = some 34
  · have hfin0 : cut1 34 s.data.toList.tail = none → ∀ a r : ByteArray, CutValueP s.data.toList (.returned (.tuple #[.string a, .string r, .bool false])) := fun h a r => .inl ⟨by unfold rawC; rw [if_pos h34]; exact h, a, r, rfl⟩
    have hfin1 : ∀ a r : ByteArray, cut1 34 s.data.toList.tail = some (a.data.toList, r.data.toList) → CutValueP s.data.toList (.returned (.tuple #[.string a, .string r, .bool true])) := fun a r h => .inr ⟨a, r, by unfold rawC; rw [if_pos h34]; exact h, rfl⟩
    have hfin0' := Lib.hid hfin0
    have hfin1' := Lib.hid hfin1
    have cH := fun W => hasPre_is s 34 true W (decide_eq_true h34)
    have hr1 := size_pos s h34
    clear hfin0 hfin1 h34
    go_enter Tryd.func71, Tryd.ntmps71
    go_wp2_with (go_at_call 44; refine (cH _).mono ?_; rintro e w' ⟨rfl, rfl⟩)
    go_at_call 77
    refine (cut_any 34 (s.extract 1 s.size) _ (by rw [Lib.size_eq, cut_tail, List.length_tail, ← Lib.size_eq]; omega)).mono ?_
    rintro e w1 ⟨hc, hb⟩
    unfold CutP at hc
    rw [cut_tail] at hc
    rcases hc with ⟨h1, rfl⟩ | ⟨a, r, h1, rfl⟩
    · have hf := Lib.hid (hfin0'.out h1)
      clear h1
      go_wp2
      go_ret3
      exact ⟨hf.out _ _, hb⟩
    · have hf := Lib.hid (hfin1'.out a r h1)
      clear h1
      go_wp2
      go_ret3
      exact ⟨hf.out, hb⟩
  · have hraw : rawC s.data.toList = some (s.data.toList.takeWhile (fun b => !sepB b), s.data.toList.dropWhile (fun b => !sepB b)) := by unfold rawC; rw [if_neg h34]
    have cH := fun W => hasPre_is s 34 false W (decide_eq_false h34)
    have cI := fun W => An.indexAny_all s ⟨#[44, 59, 58, 34]⟩ asc4 (by decide) (by decide) W hs
    rw [show (⟨#[44, 59, 58, 34]⟩ : ByteArray).data.toList = [44, 59, 58, 34] from rfl] at cI
    rcases index_span s.data.toList with ⟨h1, h2, h3⟩ | ⟨k, h1, hk, h2, h3⟩
    · rw [h1] at cI
      have hfin : ∀ a r : ByteArray, a.data.toList = s.data.toList → r.data.toList = [] → CutValueP s.data.toList (.returned (.tuple #[.string a, .string r, .bool true])) := fun a r ha hr => .inr ⟨a, r, by rw [hraw, h2, h3, ha, hr], rfl⟩
      have hfin' := Lib.hid hfin
      clear hfin hraw h1 h2 h3 h34
      go_enter Tryd.func71, Tryd.ntmps71
      go_wp2_with (first
        | (go_at_call 44; refine (cH _).mono ?_; rintro e w' ⟨rfl, rfl⟩)
        | (go_at_call 60; refine (cI _).mono ?_; rintro e w1 ⟨rfl, hb⟩))
      go_quiet (fail)
      go_wp2
      go_ret3
      exact ⟨hfin'.out s ByteArray.empty rfl rfl, below_drewN _ hb⟩
    · rw [h1] at cI
      rw [← Lib.size_eq] at hk
      have hfin : CutValueP s.data.toList (.returned (.tuple #[.string (s.extract 0 k), .string (s.extract k s.size), .bool true])) := .inr ⟨_, _, by
        rw [hraw, h2, h3, Lib.extract_to_end, Lib.extract_data]; rfl, rfl⟩
      have hfin' := Lib.hid hfin
      clear hfin hraw h1 h2 h3 h34
      go_enter Tryd.func71, Tryd.ntmps71
      go_wp2_with (first
        | (go_at_call 44; refine (cH _).mono ?_; rintro e w' ⟨rfl, rfl⟩)
        | (go_at_call 60; refine (cI _).mono ?_; rintro e w1 ⟨rfl, hb⟩))
      go_quiet (fail)
      go_wp2
      go_ret3
      exact ⟨hfin'.out, below_drewN _ hb⟩

/-! ### what it means -/
def escL (l : Row) : Option UInt8 := if Lib.hasPrefix l [94, 110] = true then some 10 else if Lib.hasPrefix l [94, 94] = true then some 94 else if Lib.hasPrefix l [94, 39] = true then some 34 else none
theorem pre_two (l : Row) (a b : UInt8) : Lib.hasPrefix l [a, b] = true ↔ ∃ r, l = a :: b :: r := by
  unfold Lib.hasPrefix
  rw [List.isPrefixOf_iff_prefix]
  constructor
  · rintro ⟨r, h⟩; exact ⟨r, h.symm⟩
  · rintro ⟨r, h⟩; exact ⟨r, h.symm⟩
theorem mean_yes {l : Row} {c : UInt8} (h : escL l = some c) : mean l = c :: mean (l.drop 2) ∧ 2 ≤ l.length := by
  unfold escL at h
  split at h
  · obtain ⟨r, rfl⟩ := (pre_two _ _ _).1 ‹_›
    obtain rfl := Option.some.inj h
    exact ⟨by simp [mean], by simp⟩
  · split at h
    · obtain ⟨r, rfl⟩ := (pre_two _ _ _).1 ‹_›
      obtain rfl := Option.some.inj h
      exact ⟨by simp [mean], by simp⟩
    · split at h
      · obtain ⟨r, rfl⟩ := (pre_two _ _ _).1 ‹_›
        obtain rfl := Option.some.inj h
        exact ⟨by simp [mean], by simp⟩
      · cases h
theorem mean_no {x : UInt8} {l : Row} (h : escL (x :: l) = none) : mean (x :: l) = x :: mean l := by
  unfold escL at h
  split at h
  · cases h
  split at h
  · cases h
  split at h
  · cases h
  rename_i h1 h2 h3
  cases l with
  | nil => rfl
  | cons y t =>
    rw [mean, if_neg (fun h' => h1 ((pre_two _ _ _).2 ⟨t, by rw [h'.1, h'.2]⟩)), if_neg (fun h' => h2 ((pre_two _ _ _).2 ⟨t, by rw [h'.1, h'.2]⟩)), if_neg (fun h' => h3 ((pre_two _ _ _).2 ⟨t, by rw [h'.1, h'.2]⟩))]
def EscP (l : Row) (e : Ending) : Prop :=
  (escL l = none ∧ e = .returned (.tuple #[.int .u8 0, .bool false])) ∨ ∃ c : UInt8, escL l = some c ∧ e = .returned (.tuple #[.int .u8 (c.toNat : Int), .bool true])

set_option maxHeartbeats 2000000 in
set_option maxRecDepth 100000 in
theorem escaped_any (s : ByteArray) (w : World) :
    Calls Tryd.prog 78 #[.string s] w fun e w' => EscP s.data.toList e ∧ w = w' := by
  have c1 := fun W => Tryd.strings_HasPrefix s ⟨#[94, 110]⟩ W
  have c2 := fun W => Tryd.strings_HasPrefix s ⟨#[94, 94]⟩ W
  have c3 := fun W => Tryd.strings_HasPrefix s ⟨#[94, 39]⟩ W
  rw [show (⟨#[94, 110]⟩ : ByteArray).data.toList = [94, 110] from rfl] at c1
  rw [show (⟨#[94, 94]⟩ : ByteArray).data.toList = [94, 94] from rfl] at c2
  rw [show (⟨#[94, 39]⟩ : ByteArray).data.toList = [94, 39] from rfl] at c3
  have f0 : escL s.data.toList = none → EscP s.data.toList (.returned (.tuple #[.int .u8 0, .bool false])) := fun h => .inl ⟨h, rfl⟩
  have f1 : ∀ c : UInt8, escL s.data.toList = some c → EscP s.data.toList (.returned (.tuple #[.int .u8 (c.toNat : Int), .bool true])) := fun c h => .inr ⟨c, h, rfl⟩
  unfold escL at f0 f1
  generalize EscP s.data.toList = P at f0 f1 ⊢
  cases h1 : Lib.hasPrefix s.data.toList [94, 110]
  · cases h2 : Lib.hasPrefix s.data.toList [94, 94]
    · cases h3 : Lib.hasPrefix s.data.toList [94, 39]
      · rw [h1] at c1; rw [h2] at c2; rw [h3] at c3
        have hf := Lib.hid (f0 (by rw [h1, h2, h3]; rfl))
        clear f0 f1 h1 h2 h3
        go_enter Tryd.func78, Tryd.ntmps78
        go_wp2_with (first | (go_at_call 44; refine (c1 _).mono ?_; rintro e w' ⟨rfl, rfl⟩) | (go_at_call 44; refine (c2 _).mono ?_; rintro e w' ⟨rfl, rfl⟩) | (go_at_call 44; refine (c3 _).mono ?_; rintro e w' ⟨rfl, rfl⟩))
        go_ret2
        exact ⟨hf.out, rfl⟩
      · rw [h1] at c1; rw [h2] at c2; rw [h3] at c3
        have hf := Lib.hid (f1 34 (by rw [h1, h2, h3]; rfl))
        clear f0 f1 h1 h2 h3
        go_enter Tryd.func78, Tryd.ntmps78
        go_wp2_with (first | (go_at_call 44; refine (c1 _).mono ?_; rintro e w' ⟨rfl, rfl⟩) | (go_at_call 44; refine (c2 _).mono ?_; rintro e w' ⟨rfl, rfl⟩) | (go_at_call 44; refine (c3 _).mono ?_; rintro e w' ⟨rfl, rfl⟩))
        go_ret2
        exact ⟨hf.out, rfl⟩
    · rw [h1] at c1; rw [h2] at c2
      have hf := Lib.hid (f1 94 (by rw [h1, h2]; rfl))
      clear f0 f1 h1 h2 c3
      go_enter Tryd.func78, Tryd.ntmps78
      go_wp2_with (first | (go_at_call 44; refine (c1 _).mono ?_; rintro e w' ⟨rfl, rfl⟩) | (go_at_call 44; refine (c2 _).mono ?_; rintro e w' ⟨rfl, rfl⟩))
      go_ret2
      exact ⟨hf.out, rfl⟩
  · rw [h1] at c1
    have hf := Lib.hid (f1 10 (by rw [h1]; rfl))
    clear f0 f1 h1 c2 c3
    go_enter Tryd.func78, Tryd.ntmps78
    go_wp2_with (go_at_call 44; refine (c1 _).mono ?_; rintro e w' ⟨rfl, rfl⟩)
    go_ret2
    exact ⟨hf.out, rfl⟩

theorem drop_head (s : ByteArray) (k : Nat) (h : k < s.size) : s.data.toList.drop k = s[k]'h :: s.data.toList.drop (k + 1) := by
  have := Lib.data_getElem? s k h
  obtain ⟨hl, hv⟩ := List.getElem?_eq_some_iff.1 this
  rw [List.drop_eq_getElem_cons hl, hv]

set_option maxHeartbeats 4000000 in
set_option maxRecDepth 100000 in
theorem meant_any (s : ByteArray) (w : World) (hs : s.size ≤ 140737488355328) :
    Calls Tryd.prog 72 #[.string s] w fun e w' => e = .returned (.string ⟨(mean s.data.toList).toArray⟩) ∧ Below w.heap.size w w' := by
  have hML := mean_len s.data.toList
  rw [← Lib.size_eq] at hML
  obtain ⟨M, hM⟩ : ∃ M, mean s.data.toList = M := ⟨_, rfl⟩
  rw [hM] at hML ⊢
  have hM' := Lib.hid hM
  clear hM
  go_enter Tryd.func72, Tryd.ntmps72
  go_wp2
  go_loopw [4] (fun s4 wr => ∃ (k : Nat) (acc : Row), s4 = .int .i64 (k : Int) ∧ k ≤ s.size ∧ M = acc ++ mean (s.data.toList.drop k) ∧ Bd w.heap.size w.heap.size acc wr ∧ Below w.heap.size w wr) (fun s4 wr => s.size - (RowKit.intOf s4).toNat)
  case atStart => exact ⟨0, [], rfl, Nat.zero_le _, hM'.out.symm, fresh w, (Below.refl _ _).alloc (Nat.le_refl _) _⟩
  case round =>
    obtain ⟨k, acc, rfl, hk, hacc, hbd, hbw⟩ := hrel
    have hal : acc.length ≤ M.length := by have := congrArg List.length hacc; rw [List.length_append] at this; omega
    have hbr := hbd.lt
    by_cases hlt : k < s.size
    · have hds : (s.extract k s.size).data.toList = s.data.toList.drop k := Lib.extract_to_end s k
      have hdh := drop_head s k hlt
      have hE := escaped_any (s.extract k s.size) wr
      rw [hds] at hE
      have hdl : (s.data.toList.drop k).length = s.size - k := by rw [List.length_drop, ← Lib.size_eq]
      have hacc' := Lib.hid hacc
      have hdh' := Lib.hid hdh
      have hdl' := Lib.hid hdl
      clear hacc hds hdh hdl
      go_wp2_with fail
      go_at_call 78
      refine hE.mono ?_
      rintro e w' ⟨hc, rfl⟩
      rcases hc with ⟨h1, rfl⟩ | ⟨c, h1, rfl⟩
      · have hn : M = (acc ++ [s[k]'hlt]) ++ mean (s.data.toList.drop (k + 1)) := by
          rw [hdh'.out] at h1
          rw [hacc'.out, hdh'.out, mean_no h1]; simp
        have hl1 : acc.length + 1 ≤ 140737488355328 := by
          have := congrArg List.length hn
          rw [List.length_append, List.length_append, List.length_singleton] at this
          omega
        have cB := byte_any w.heap.size w.heap.size acc (s[k]'hlt) wr hbd hl1 (by omega)
        have hn' := Lib.hid hn
        clear h1 hn
        go_wp2_with (go_at_call 34; refine cB.mono ?_; rintro e w1 ⟨rfl, hbd1, hb1⟩)
        go_roundw
        case rel => exact ⟨k + 1, _, by go_num, by omega, hn'.out, hbd1, hbw.trans hb1⟩
        case measure => simp [RowKit.intOf]; omega
      · obtain ⟨hm, h2⟩ := mean_yes h1
        have hk2 : k + 2 ≤ s.size := by have := hdl'.out; omega
        have hn : M = (acc ++ [c]) ++ mean (s.data.toList.drop (k + 2)) := by
          rw [hacc'.out, hm, List.drop_drop]; simp
        have hl1 : acc.length + 1 ≤ 140737488355328 := by
          have := congrArg List.length hn
          rw [List.length_append, List.length_append, List.length_singleton] at this
          omega
        have cB := byte_any w.heap.size w.heap.size acc c wr hbd hl1 (by omega)
        have hn' := Lib.hid hn
        clear h1 hm hn h2
        go_wp2_with (go_at_call 34; refine cB.mono ?_; rintro e w1 ⟨rfl, hbd1, hb1⟩)
        go_roundw
        case rel => exact ⟨k + 2, _, by go_num, by omega, hn'.out, hbd1, hbw.trans hb1⟩
        case measure => simp [RowKit.intOf]; omega
    · have hfin : acc = M := by
        rw [hacc, List.drop_eq_nil_of_le (by rw [← Lib.size_eq]; omega)]
        simp [mean]
      have hfin' := Lib.hid hfin
      clear hfin hacc
      go_wp2_with (go_at_call 36; refine (text_any w.heap.size w.heap.size _ _ hbd (by omega)).mono ?_; rintro e w1 ⟨rfl, _, hb1⟩)
      go_ret
      exact ⟨by rw [hfin'.out]; rfl, hbw.trans hb1⟩

/-! ### plain -/
theorem asc2 : An.Asc ⟨#[13, 10]⟩ := fun j b hb => by
  have : b ∈ ([13, 10] : List UInt8) := List.mem_iff_getElem?.2 ⟨j, hb⟩
  simp only [List.mem_cons, List.not_mem_nil, or_false] at this
  rcases this with rfl | rfl <;> decide
theorem asc1 : An.Asc ⟨#[13]⟩ := fun j b hb => by
  have : b ∈ ([13] : List UInt8) := List.mem_iff_getElem?.2 ⟨j, hb⟩
  simp only [List.mem_cons, List.not_mem_nil, or_false] at this
  subst this; decide
theorem ends_is (l : Row) : Lib.containsAny l [13, 10] = ends l := by
  rw [An.contains_any, Bool.eq_iff_iff, ends_mem, List.any_eq_true]
  constructor
  · rintro ⟨x, hx, h⟩
    simp at h
    rcases h with rfl | rfl
    · exact .inl hx
    · exact .inr hx
  · rintro (h | h)
    · exact ⟨13, h, rfl⟩
    · exact ⟨10, h, rfl⟩
theorem has13 (l : Row) : Lib.containsAny l [13] = l.contains 13 := by
  rw [An.contains_any, Bool.eq_iff_iff, List.any_eq_true]
  constructor
  · rintro ⟨x, hx, h⟩
    simp at h
    subst h; simpa using hx
  · intro h
    exact ⟨13, by simpa using h, rfl⟩

set_option maxHeartbeats 2000000 in
set_option maxRecDepth 100000 in
theorem plain_with (s cs : ByteArray) (V : Bool) (w : World) (hT : Ch.Tabs w) (hs : s.size ≤ 9223372036854775807)
    (cC : ∀ W, Calls Tryd.prog 43 #[.string s, .string cs] W fun e w' => e = .returned (.bool V) ∧ Below W.heap.size W w') :
    Calls Tryd.prog 21 #[.string s, .string cs] w fun e w' => e = .returned (.bool (Ch.valid s.data.toList && !V)) ∧ Below w.heap.size w w' := by
  have cV := Ch.valid_any s w hs hT
  have hT' := Lib.hid hT
  clear hT
  cases hv : Ch.valid s.data.toList
  · rw [hv] at cV
    clear hv
    go_enter Tryd.func21, Tryd.ntmps21
    go_wp2_with (go_at_call 42; refine cV.mono ?_; rintro e w1 ⟨rfl, hb⟩)
    go_ret
    exact ⟨rfl, hb⟩
  · rw [hv] at cV
    clear hv
    cases V
    all_goals
      go_enter Tryd.func21, Tryd.ntmps21
      go_wp2_with (first
        | (go_at_call 42; refine cV.mono ?_; rintro e w1 ⟨rfl, hb⟩)
        | (go_at_call 43; refine (cC _).mono ?_; rintro e w2 ⟨rfl, hb2⟩))
      go_ret
      exact ⟨rfl, below_then hb hb2⟩
theorem plainT_any (s : ByteArray) (w : World) (hT : Ch.Tabs w) (hs : s.size ≤ 9223372036854775807) :
    Calls Tryd.prog 21 #[.string s, .string ⟨#[13, 10]⟩] w fun e w' => e = .returned (.bool (okT s.data.toList)) ∧ Below w.heap.size w w' := by
  refine plain_with s ⟨#[13, 10]⟩ (ends s.data.toList) w hT hs fun W => (An.containsAny_all s ⟨#[13, 10]⟩ asc2 (by decide) (by decide) W hs).mono fun e w' ⟨h1, h2⟩ => ⟨h1.trans ?_, h2⟩
  rw [← ends_is]
theorem plainV_any (s : ByteArray) (w : World) (hT : Ch.Tabs w) (hs : s.size ≤ 9223372036854775807) :
    Calls Tryd.prog 21 #[.string s, .string ⟨#[13]⟩] w fun e w' => e = .returned (.bool (okV s.data.toList)) ∧ Below w.heap.size w w' := by
  refine plain_with s ⟨#[13]⟩ (s.data.toList.contains 13) w hT hs fun W => (An.containsAny_one s ⟨#[13]⟩ asc1 (by decide) W).mono fun e w' ⟨h1, h2⟩ => ⟨h1.trans ?_, h2⟩
  rw [← has13]
end Go.Proofs.YthkcjfoihieooaaDoor.Li
