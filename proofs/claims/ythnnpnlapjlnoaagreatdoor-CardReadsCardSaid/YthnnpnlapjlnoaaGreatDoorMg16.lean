import Derived.Test.YthnnpnlapjlnoaaGreatDoorMg15
import Derived.Test.YthnnpnlapjlnoaaGreatDoorMg8
import Derived.Test.YthnnpnlapjlnoaaGreatDoorMg9
import Derived.Maps.Own
import Derived.Carry
import Derived.Maps.Views
import Derived.Test.YthnnpnlapjlnoaaGreatDoorMg7
import Derived.Shelf.GgClosure.Gives
import Derived.Test.YthnnpnlapjlnoaaGreatDoorMg10
import Derived.Laws.EntriesVeiled

/-
  THE WALKS OF card.kind AND card.rightValue.
-/
set_option linter.unusedVariables false
namespace Go.Proofs.YthnnpnlapjlnoaaGreatDoor.Ca
open Go.Lib Go.RowKit Bu Va

set_option maxHeartbeats 8000000 in
set_option maxRecDepth 100000 in
theorem cKind_any (v : ByteArray) (w : World) (hs : v.size ≤ 268435456) :
    Calls Tryz.prog 81 #[.string v] w fun e w' => e = .returned (.bool (kindB v.data.toList)) ∧ Below w.heap.size w w' := by
  have c1 := fun W => Ch.lower_any v W (by omega)
  obtain ⟨t, ht⟩ : ∃ t : ByteArray, (⟨(Ch.low v.data.toList).toArray⟩ : ByteArray) = t := ⟨_, rfl⟩
  have htd : Ch.low v.data.toList = t.data.toList := by rw [← ht]
  have hk : kindB v.data.toList = decide (t.data.toList = k1 ∨ t.data.toList = k2 ∨ t.data.toList = k3 ∨ t.data.toList = k4) := by unfold kindB; rw [htd]
  rw [ht] at c1
  clear ht htd
  by_cases f1 : t = ⟨#[105, 110, 100, 105, 118, 105, 100, 117, 97, 108]⟩
  · subst f1
    have HK := Lib.hid (hk.trans (by decide) : kindB v.data.toList = true)
    clear hk
    go_enter Tryz.func81, Tryz.ntmps81
    go_wp2_with (go_at_call 70; refine (c1 _).mono ?_; rintro e w1 ⟨rfl, hb1⟩)
    go_ret
    exact ⟨by rw [HK.out] <;> rfl, hb1⟩
  have g1 := notName (c := [105, 110, 100, 105, 118, 105, 100, 117, 97, 108]) f1
  have e1 := notName' (c := [105, 110, 100, 105, 118, 105, 100, 117, 97, 108]) f1
  have r1 := notRow (c := [105, 110, 100, 105, 118, 105, 100, 117, 97, 108]) f1
  by_cases f2 : t = ⟨#[103, 114, 111, 117, 112]⟩
  · subst f2
    have HK := Lib.hid (hk.trans (by decide) : kindB v.data.toList = true)
    clear hk r1 f1
    go_enter Tryz.func81, Tryz.ntmps81
    go_wp2_with (go_at_call 70; refine (c1 _).mono ?_; rintro e w1 ⟨rfl, hb1⟩)
    go_ret
    exact ⟨by rw [HK.out] <;> rfl, hb1⟩
  have g2 := notName (c := [103, 114, 111, 117, 112]) f2
  have e2 := notName' (c := [103, 114, 111, 117, 112]) f2
  have r2 := notRow (c := [103, 114, 111, 117, 112]) f2
  by_cases f3 : t = ⟨#[111, 114, 103]⟩
  · subst f3
    have HK := Lib.hid (hk.trans (by decide) : kindB v.data.toList = true)
    clear hk r1 f1 r2 f2
    go_enter Tryz.func81, Tryz.ntmps81
    go_wp2_with (go_at_call 70; refine (c1 _).mono ?_; rintro e w1 ⟨rfl, hb1⟩)
    go_ret
    exact ⟨by rw [HK.out] <;> rfl, hb1⟩
  have g3 := notName (c := [111, 114, 103]) f3
  have e3 := notName' (c := [111, 114, 103]) f3
  have r3 := notRow (c := [111, 114, 103]) f3
  by_cases f4 : t = ⟨#[108, 111, 99, 97, 116, 105, 111, 110]⟩
  · subst f4
    have HK := Lib.hid (hk.trans (by decide) : kindB v.data.toList = true)
    clear hk r1 f1 r2 f2 r3 f3
    go_enter Tryz.func81, Tryz.ntmps81
    go_wp2_with (go_at_call 70; refine (c1 _).mono ?_; rintro e w1 ⟨rfl, hb1⟩)
    go_ret
    exact ⟨by rw [HK.out] <;> rfl, hb1⟩
  have g4 := notName (c := [108, 111, 99, 97, 116, 105, 111, 110]) f4
  have e4 := notName' (c := [108, 111, 99, 97, 116, 105, 111, 110]) f4
  have r4 := notRow (c := [108, 111, 99, 97, 116, 105, 111, 110]) f4
  have HK := Lib.hid (hk.trans (decide_eq_false (by rintro (h | h | h | h); exact r1 h; exact r2 h; exact r3 h; exact r4 h)) : kindB v.data.toList = false)
  clear hk r1 f1 r2 f2 r3 f3 r4 f4
  go_enter Tryz.func81, Tryz.ntmps81
  go_wp2_with (go_at_call 70; refine (c1 _).mono ?_; rintro e w1 ⟨rfl, hb1⟩)
  go_ret
  exact ⟨by rw [HK.out] <;> rfl, hb1⟩

theorem okV_none {n v : Row} (h : anewV n v = none) : okV n v = false := by unfold okV; rw [h]; rfl
theorem okV_some {n v x : Row} (h : anewV n v = some x) : okV n v = (if n = kN then decide (((Va.fields v).getD []).length = 5) else if n = kUID then !decide ((text v).getD [] = []) else if n = kKIND then kindB v else true) := by unfold okV; rw [h]; rfl

set_option maxHeartbeats 8000000 in
set_option maxRecDepth 100000 in
theorem rightValue_any (name v : ByteArray) (w : World) (hs : v.size ≤ 268435456) :
    Calls Tryz.prog 48 #[.string name, .string v] w fun e w' => e = .returned (.bool (okV name.data.toList v.data.toList)) ∧ Below w.heap.size w w' := by
  have cA := fun W => cAnew_any name v W hs
  cases han : anewV name.data.toList v.data.toList with
  | none =>
    have HO := Lib.hid (okV_none han)
    have cA2 : ∀ W, Calls Tryz.prog 78 #[.string name, .string v] W fun e w' => (∃ x : ByteArray, e = .returned (.tuple #[.string x, .int .i64 31])) ∧ Below W.heap.size W w' := fun W => (cA W).mono fun e w' ⟨h1, h2⟩ => ⟨(by
      rcases h1 with ⟨_, h⟩ | ⟨x, h, _⟩
      · exact h
      · rw [han] at h; cases h), h2⟩
    clear cA han
    go_enter Tryz.func48, Tryz.ntmps48
    go_wp2_with (go_at_call 78; refine (cA2 _).mono ?_; rintro e w1 ⟨⟨x, rfl⟩, hb1⟩)
    go_ret
    exact ⟨by rw [HO.out] <;> rfl, hb1⟩
  | some y =>
    have ho := okV_some han
    have cA2 : ∀ W, Calls Tryz.prog 78 #[.string name, .string v] W fun e w' => (∃ x : ByteArray, e = .returned (.tuple #[.string x, .int .i64 0])) ∧ Below W.heap.size W w' := fun W => (cA W).mono fun e w' ⟨h1, h2⟩ => ⟨(by
      rcases h1 with ⟨h, _⟩ | ⟨x, _, h⟩
      · rw [han] at h; cases h
      · exact ⟨x, h⟩), h2⟩
    clear cA
    by_cases f1 : name = ⟨#[78]⟩
    · subst f1
      have hf : (Va.fields v.data.toList).isSome = true := by
        have : anewV (⟨#[78]⟩ : ByteArray).data.toList v.data.toList = (Va.fields v.data.toList).map putF := anewV_fields (by decide) _
        rw [this] at han
        cases h : Va.fields v.data.toList with
        | none => rw [h] at han; cases han
        | some x => rfl
      obtain ⟨fs, hfs⟩ := Option.isSome_iff_exists.1 hf
      have hv : okV (⟨#[78]⟩ : ByteArray).data.toList v.data.toList = decide (fs.length = 5) := by rw [ho, if_pos (by decide), hfs]; rfl
      have c1 := fun W => fields_is v fs W (by omega) hfs
      obtain ⟨fl, hfl⟩ : ∃ n, fs.length = n := ⟨_, rfl⟩
      by_cases h5 : fl = 5
      · have HO := Lib.hid (hv.trans (decide_eq_true (by rw [hfl]; exact h5)))
        have d5 : (fl : Int) = 5 := by omega
        have HFL := Lib.hid hfl
        clear hv ho hf hfs hfl han h5
        go_enter Tryz.func48, Tryz.ntmps48
        go_wp2_with fail
        go_at_call 78
        refine (cA2 _).mono ?_
        rintro e w1 ⟨⟨x, rfl⟩, hb1⟩
        go_wp2_with fail
        go_at_call 79
        refine (c1 _).mono ?_
        rintro e w2 ⟨⟨u, rfl, hu⟩, hb2⟩
        obtain ⟨A, b, off, c, rfl, _, _, _, _⟩ := LOwn.at hu
        rw [HFL.out]
        clear hu
        go_wp2
        go_ret
        exact ⟨by rw [HO.out] <;> rfl, below_then hb1 hb2⟩
      · have HO := Lib.hid (hv.trans (decide_eq_false (by rw [hfl]; exact h5)))
        have d5 : ¬ (fl : Int) = 5 := by omega
        have d5' : ((fl : Int) == 5) = false := beq_eq_false_iff_ne.2 d5
        have HFL := Lib.hid hfl
        clear hv ho hf hfs hfl han h5
        go_enter Tryz.func48, Tryz.ntmps48
        go_wp2_with fail
        go_at_call 78
        refine (cA2 _).mono ?_
        rintro e w1 ⟨⟨x, rfl⟩, hb1⟩
        go_wp2_with fail
        go_at_call 79
        refine (c1 _).mono ?_
        rintro e w2 ⟨⟨u, rfl, hu⟩, hb2⟩
        obtain ⟨A, b, off, c, rfl, _, _, _, _⟩ := LOwn.at hu
        rw [HFL.out]
        clear hu
        go_wp2
        go_ret
        exact ⟨by rw [HO.out] <;> rfl, below_then hb1 hb2⟩
    have g1 := notName (c := [78]) f1
    have e1 := notName' (c := [78]) f1
    have r1 := notRow (c := [78]) f1
    by_cases f2 : name = ⟨#[85, 73, 68]⟩
    · subst f2
      have hf : (text v.data.toList).isSome = true := by
        have : anewV (⟨#[85, 73, 68]⟩ : ByteArray).data.toList v.data.toList = (text v.data.toList).map put := anewV_text (by decide) _
        rw [this] at han
        cases h : text v.data.toList with
        | none => rw [h] at han; cases han
        | some x => rfl
      obtain ⟨t, hfs⟩ := Option.isSome_iff_exists.1 hf
      obtain ⟨z, rfl⟩ : ∃ z : ByteArray, t = z.data.toList := ⟨⟨t.toArray⟩, by simp⟩
      have hv : okV (⟨#[85, 73, 68]⟩ : ByteArray).data.toList v.data.toList = !decide (z.data.toList = []) := by rw [ho, if_neg (by decide), if_pos (by decide), hfs]; rfl
      have c1 := fun W => text_is v z W (by omega) hfs
      by_cases hz : z = ⟨#[]⟩
      · subst hz
        have HO := Lib.hid (hv.trans (by decide) : okV (⟨#[85, 73, 68]⟩ : ByteArray).data.toList v.data.toList = false)
        clear hv ho hf hfs han g1 e1 r1 f1
        go_enter Tryz.func48, Tryz.ntmps48
        go_wp2_with fail
        go_at_call 78
        refine (cA2 _).mono ?_
        rintro e w1 ⟨⟨x, rfl⟩, hb1⟩
        go_wp2_with fail
        go_at_call 80
        refine (c1 _).mono ?_
        rintro e w2 ⟨rfl, hb2⟩
        go_wp2
        go_ret
        exact ⟨by rw [HO.out] <;> rfl, below_then hb1 hb2⟩
      · have HO := Lib.hid (hv.trans (by rw [decide_eq_false (notRow (c := []) hz)]; rfl) : okV (⟨#[85, 73, 68]⟩ : ByteArray).data.toList v.data.toList = true)
        have gz := notName (c := []) hz
        have ez := notName' (c := []) hz
        clear hv ho hf hfs han g1 e1 r1 f1 hz
        go_enter Tryz.func48, Tryz.ntmps48
        go_wp2_with fail
        go_at_call 78
        refine (cA2 _).mono ?_
        rintro e w1 ⟨⟨x, rfl⟩, hb1⟩
        go_wp2_with fail
        go_at_call 80
        refine (c1 _).mono ?_
        rintro e w2 ⟨rfl, hb2⟩
        go_wp2
        go_ret
        exact ⟨by rw [HO.out] <;> rfl, below_then hb1 hb2⟩
    have g2 := notName (c := [85, 73, 68]) f2
    have e2 := notName' (c := [85, 73, 68]) f2
    have r2 := notRow (c := [85, 73, 68]) f2
    by_cases f3 : name = ⟨#[75, 73, 78, 68]⟩
    · subst f3
      have HO := Lib.hid (ho.trans (by rw [if_neg (by decide), if_neg (by decide), if_pos (by decide)]))
      have c1 := fun W => cKind_any v W hs
      generalize kindB v.data.toList = kb at HO c1
      clear ho han g1 e1 r1 f1 g2 e2 r2 f2
      go_enter Tryz.func48, Tryz.ntmps48
      go_wp2_with fail
      go_at_call 78
      refine (cA2 _).mono ?_
      rintro e w1 ⟨⟨x, rfl⟩, hb1⟩
      go_wp2_with fail
      go_at_call 81
      refine (c1 _).mono ?_
      rintro e w2 ⟨rfl, hb2⟩
      go_wp2
      go_ret
      exact ⟨by rw [HO.out] <;> rfl, below_then hb1 hb2⟩
    have g3 := notName (c := [75, 73, 78, 68]) f3
    have e3 := notName' (c := [75, 73, 78, 68]) f3
    have r3 := notRow (c := [75, 73, 78, 68]) f3
    have q1 : ¬ name.data.toList = kN := r1
    have q2 : ¬ name.data.toList = kUID := r2
    have q3 : ¬ name.data.toList = kKIND := r3
    have HO := Lib.hid (ho.trans (by rw [if_neg q1, if_neg q2, if_neg q3]) : okV name.data.toList v.data.toList = true)
    clear q1 q2 q3
    clear ho han f1 f2 f3 r1 r2 r3
    go_enter Tryz.func48, Tryz.ntmps48
    go_wp2_with fail
    go_at_call 78
    refine (cA2 _).mono ?_
    rintro e w1 ⟨⟨x, rfl⟩, hb1⟩
    go_wp2
    go_ret
    exact ⟨by rw [HO.out] <;> rfl, hb1⟩
end Go.Proofs.YthnnpnlapjlnoaaGreatDoor.Ca

/-
  THE WALK OF card.rightCount: a map that counts names ('CntAt').
-/
set_option linter.unusedVariables false
namespace Go.Proofs.YthnnpnlapjlnoaaGreatDoor.Ca
open Go.Lib Go.RowKit Go.Maps Go.WideMaps

theorem strKey : Keyed Tryz.prog 9 := string_keyed Tryz.underlying9
theorem zeroInt (w : World) : (zeroValue 3).run Tryz.prog w = .ok (.int .i64 0) w := by kernel_rfl
/-- block b is a map that has how often each name stands among these -/
def CntAt (w : World) (b : Nat) (ns : List Row) : Prop :=
  ∃ (n : Nat) (D : DataW Unit), n ≤ ns.length ∧ w.ownsMap Tryz.prog 9 (plainElem Tryz.prog 3) b n D ∧ ∀ m : Row, D.atKey (.string m) (.lit (.int .i64 0)) = .lit (.int .i64 ((ns.count m : Nat) : Int))
theorem CntAt.start (w : World) : CntAt (w.alloc (.map #[] 0)) w.heap.size [] := ⟨0, .map [], Nat.le_refl _, World.ownsMap_made _ _ _ _, fun m => by rfl⟩
theorem CntAt.alloc {w : World} {b : Nat} {ns : List Row} (h : CntAt w b ns) (o : Obj) : CntAt (w.alloc o) b ns := by
  obtain ⟨n, D, h1, h2, h3⟩ := h
  exact ⟨n, D, h1, h2.alloc o, h3⟩
theorem CntAt.lt {w : World} {b : Nat} {ns : List Row} (h : CntAt w b ns) : b < w.heap.size := by
  obtain ⟨n, D, h1, h2, h3⟩ := h
  exact h2.lt
theorem CntAt.kept {w w' : World} {b : Nat} {ns : List Row} (h : CntAt w b ns) (hb : Below w.heap.size w w') : CntAt w' b ns := by
  obtain ⟨n, D, h1, h2, h3⟩ := h
  obtain ⟨es, clock, e1, e2⟩ := h2
  exact ⟨n, D, h1, ⟨es, clock, by rw [hb.block b (Array.getElem?_eq_some_iff.1 e1).1]; exact e1, e2⟩, h3⟩
set_option maxRecDepth 100000 in
theorem CntAt.look {w : World} {b : Nat} {ns : List Row} (h : CntAt w b ns) (x : ByteArray) (hx : x.size ≤ maxLen) : (Instr.lookup 78 (.map (some b)) (.string x) false).run Tryz.prog w = .ok (.int .i64 ((ns.count x.data.toList : Nat) : Int)) w := by
  obtain ⟨n, D, h1, h2, h3⟩ := h
  obtain ⟨c, hrun, hat, _⟩ := h2.lookup_int strKey Tryz.underlying78 Tryz.underlying3 (zeroInt _) (keyOf_string_mk Tryz.underlying9 hx)
  rw [h3] at hat
  injection hat with e1
  injection e1 with _ e2
  rw [e2]; exact hrun
/-- may a card have so many lines of each name? -/
def cntOK (ns : List Row) : Bool := decide (ns.count kBEGIN = 0 ∧ ns.count kEND = 0 ∧ ns.count kVERSION = 0 ∧ ns.count kN ≤ 1 ∧ ns.count kUID ≤ 1 ∧ ns.count kKIND ≤ 1 ∧ ns.count kBDAY ≤ 1 ∧ ns.count kREV ≤ 1 ∧ 0 < ns.count kFN)

set_option maxHeartbeats 8000000 in
set_option maxRecDepth 100000 in
theorem rightCount_any (b : Nat) (ns : List Row) (w : World) (h : CntAt w b ns) :
    Calls Tryz.prog 49 #[.map (some b)] w fun e w' => e = .returned (.bool (cntOK ns)) ∧ Below w.heap.size w w' := by
  have l1 := fun o => (h.alloc o).look ⟨#[66, 69, 71, 73, 78]⟩ (by decide)
  have m1 := fun o1 o2 => ((h.alloc o1).alloc o2).look ⟨#[66, 69, 71, 73, 78]⟩ (by decide)
  obtain ⟨n1, hn1⟩ : ∃ n, ns.count (⟨#[66, 69, 71, 73, 78]⟩ : ByteArray).data.toList = n := ⟨_, rfl⟩
  rw [hn1] at l1 m1
  have l2 := fun o => (h.alloc o).look ⟨#[69, 78, 68]⟩ (by decide)
  have m2 := fun o1 o2 => ((h.alloc o1).alloc o2).look ⟨#[69, 78, 68]⟩ (by decide)
  obtain ⟨n2, hn2⟩ : ∃ n, ns.count (⟨#[69, 78, 68]⟩ : ByteArray).data.toList = n := ⟨_, rfl⟩
  rw [hn2] at l2 m2
  have l3 := fun o => (h.alloc o).look ⟨#[86, 69, 82, 83, 73, 79, 78]⟩ (by decide)
  have m3 := fun o1 o2 => ((h.alloc o1).alloc o2).look ⟨#[86, 69, 82, 83, 73, 79, 78]⟩ (by decide)
  obtain ⟨n3, hn3⟩ : ∃ n, ns.count (⟨#[86, 69, 82, 83, 73, 79, 78]⟩ : ByteArray).data.toList = n := ⟨_, rfl⟩
  rw [hn3] at l3 m3
  have l4 := fun o => (h.alloc o).look ⟨#[78]⟩ (by decide)
  have m4 := fun o1 o2 => ((h.alloc o1).alloc o2).look ⟨#[78]⟩ (by decide)
  obtain ⟨n4, hn4⟩ : ∃ n, ns.count (⟨#[78]⟩ : ByteArray).data.toList = n := ⟨_, rfl⟩
  rw [hn4] at l4 m4
  have l5 := fun o => (h.alloc o).look ⟨#[85, 73, 68]⟩ (by decide)
  have m5 := fun o1 o2 => ((h.alloc o1).alloc o2).look ⟨#[85, 73, 68]⟩ (by decide)
  obtain ⟨n5, hn5⟩ : ∃ n, ns.count (⟨#[85, 73, 68]⟩ : ByteArray).data.toList = n := ⟨_, rfl⟩
  rw [hn5] at l5 m5
  have l6 := fun o => (h.alloc o).look ⟨#[75, 73, 78, 68]⟩ (by decide)
  have m6 := fun o1 o2 => ((h.alloc o1).alloc o2).look ⟨#[75, 73, 78, 68]⟩ (by decide)
  obtain ⟨n6, hn6⟩ : ∃ n, ns.count (⟨#[75, 73, 78, 68]⟩ : ByteArray).data.toList = n := ⟨_, rfl⟩
  rw [hn6] at l6 m6
  have l7 := fun o => (h.alloc o).look ⟨#[66, 68, 65, 89]⟩ (by decide)
  have m7 := fun o1 o2 => ((h.alloc o1).alloc o2).look ⟨#[66, 68, 65, 89]⟩ (by decide)
  obtain ⟨n7, hn7⟩ : ∃ n, ns.count (⟨#[66, 68, 65, 89]⟩ : ByteArray).data.toList = n := ⟨_, rfl⟩
  rw [hn7] at l7 m7
  have l8 := fun o => (h.alloc o).look ⟨#[82, 69, 86]⟩ (by decide)
  have m8 := fun o1 o2 => ((h.alloc o1).alloc o2).look ⟨#[82, 69, 86]⟩ (by decide)
  obtain ⟨n8, hn8⟩ : ∃ n, ns.count (⟨#[82, 69, 86]⟩ : ByteArray).data.toList = n := ⟨_, rfl⟩
  rw [hn8] at l8 m8
  have l9 := fun o => (h.alloc o).look ⟨#[70, 78]⟩ (by decide)
  have m9 := fun o1 o2 => ((h.alloc o1).alloc o2).look ⟨#[70, 78]⟩ (by decide)
  obtain ⟨n9, hn9⟩ : ∃ n, ns.count (⟨#[70, 78]⟩ : ByteArray).data.toList = n := ⟨_, rfl⟩
  rw [hn9] at l9 m9
  have hC : cntOK ns = decide (n1 = 0 ∧ n2 = 0 ∧ n3 = 0 ∧ n4 ≤ 1 ∧ n5 ≤ 1 ∧ n6 ≤ 1 ∧ n7 ≤ 1 ∧ n8 ≤ 1 ∧ 0 < n9) := by
    rw [← hn1, ← hn2, ← hn3, ← hn4, ← hn5, ← hn6, ← hn7, ← hn8, ← hn9]; rfl
  have hb0 : Below w.heap.size w w := Below.refl _ _
  clear hn1 hn2 hn3 hn4 hn5 hn6 hn7 hn8 hn9 h
  by_cases f1 : 0 < n1
  · have z1 : (0 : Int) < (n1 : Int) := by omega
    have HO := Lib.hid (hC.trans (by exact decide_eq_false (by omega)) : cntOK ns = false)
    clear hC
    go_enter Tryz.func49, Tryz.ntmps49
    go_wp2
    refine wp_loop_rounds 4 ?_
    rw [rounds_succ]
    go_wp2
    go_ret
    exact ⟨by rw [HO.out] <;> rfl, by first | exact (Below.refl _ _).alloc (Nat.le_refl _) _ | exact ((Below.refl _ _).alloc (Nat.le_refl _) _).alloc (by simp) _⟩
  have z1 : ¬ (0 : Int) < (n1 : Int) := by omega
  by_cases f2 : 0 < n2
  · have z2 : (0 : Int) < (n2 : Int) := by omega
    have HO := Lib.hid (hC.trans (by exact decide_eq_false (by omega)) : cntOK ns = false)
    clear hC
    go_enter Tryz.func49, Tryz.ntmps49
    go_wp2
    refine wp_loop_rounds 4 ?_
    rw [rounds_succ]
    go_wp2
    rw [rounds_succ]
    go_wp2
    go_ret
    exact ⟨by rw [HO.out] <;> rfl, by first | exact (Below.refl _ _).alloc (Nat.le_refl _) _ | exact ((Below.refl _ _).alloc (Nat.le_refl _) _).alloc (by simp) _⟩
  have z2 : ¬ (0 : Int) < (n2 : Int) := by omega
  by_cases f3 : 0 < n3
  · have z3 : (0 : Int) < (n3 : Int) := by omega
    have HO := Lib.hid (hC.trans (by exact decide_eq_false (by omega)) : cntOK ns = false)
    clear hC
    go_enter Tryz.func49, Tryz.ntmps49
    go_wp2
    refine wp_loop_rounds 4 ?_
    rw [rounds_succ]
    go_wp2
    rw [rounds_succ]
    go_wp2
    rw [rounds_succ]
    go_wp2
    go_ret
    exact ⟨by rw [HO.out] <;> rfl, by first | exact (Below.refl _ _).alloc (Nat.le_refl _) _ | exact ((Below.refl _ _).alloc (Nat.le_refl _) _).alloc (by simp) _⟩
  have z3 : ¬ (0 : Int) < (n3 : Int) := by omega
  by_cases f4 : 1 < n4
  · have z4 : (1 : Int) < (n4 : Int) := by omega
    have HO := Lib.hid (hC.trans (by exact decide_eq_false (by omega)) : cntOK ns = false)
    clear hC
    go_enter Tryz.func49, Tryz.ntmps49
    go_wp2
    refine wp_loop_rounds 4 ?_
    rw [rounds_succ]
    go_wp2
    rw [rounds_succ]
    go_wp2
    rw [rounds_succ]
    go_wp2
    rw [rounds_succ]
    go_wp2
    refine wp_loop_rounds 6 ?_
    rw [rounds_succ]
    go_wp2
    go_ret
    exact ⟨by rw [HO.out] <;> rfl, by first | exact (Below.refl _ _).alloc (Nat.le_refl _) _ | exact ((Below.refl _ _).alloc (Nat.le_refl _) _).alloc (by simp) _⟩
  have z4 : ¬ (1 : Int) < (n4 : Int) := by omega
  by_cases f5 : 1 < n5
  · have z5 : (1 : Int) < (n5 : Int) := by omega
    have HO := Lib.hid (hC.trans (by exact decide_eq_false (by omega)) : cntOK ns = false)
    clear hC
    go_enter Tryz.func49, Tryz.ntmps49
    go_wp2
    refine wp_loop_rounds 4 ?_
    rw [rounds_succ]
    go_wp2
    rw [rounds_succ]
    go_wp2
    rw [rounds_succ]
    go_wp2
    rw [rounds_succ]
    go_wp2
    refine wp_loop_rounds 6 ?_
    rw [rounds_succ]
    go_wp2
    rw [rounds_succ]
    go_wp2
    go_ret
    exact ⟨by rw [HO.out] <;> rfl, by first | exact (Below.refl _ _).alloc (Nat.le_refl _) _ | exact ((Below.refl _ _).alloc (Nat.le_refl _) _).alloc (by simp) _⟩
  have z5 : ¬ (1 : Int) < (n5 : Int) := by omega
  by_cases f6 : 1 < n6
  · have z6 : (1 : Int) < (n6 : Int) := by omega
    have HO := Lib.hid (hC.trans (by exact decide_eq_false (by omega)) : cntOK ns = false)
    clear hC
    go_enter Tryz.func49, Tryz.ntmps49
    go_wp2
    refine wp_loop_rounds 4 ?_
    rw [rounds_succ]
    go_wp2
    rw [rounds_succ]
    go_wp2
    rw [rounds_succ]
    go_wp2
    rw [rounds_succ]
    go_wp2
    refine wp_loop_rounds 6 ?_
    rw [rounds_succ]
    go_wp2
    rw [rounds_succ]
    go_wp2
    rw [rounds_succ]
    go_wp2
    go_ret
    exact ⟨by rw [HO.out] <;> rfl, by first | exact (Below.refl _ _).alloc (Nat.le_refl _) _ | exact ((Below.refl _ _).alloc (Nat.le_refl _) _).alloc (by simp) _⟩
  have z6 : ¬ (1 : Int) < (n6 : Int) := by omega
  by_cases f7 : 1 < n7
  · have z7 : (1 : Int) < (n7 : Int) := by omega
    have HO := Lib.hid (hC.trans (by exact decide_eq_false (by omega)) : cntOK ns = false)
    clear hC
    go_enter Tryz.func49, Tryz.ntmps49
    go_wp2
    refine wp_loop_rounds 4 ?_
    rw [rounds_succ]
    go_wp2
    rw [rounds_succ]
    go_wp2
    rw [rounds_succ]
    go_wp2
    rw [rounds_succ]
    go_wp2
    refine wp_loop_rounds 6 ?_
    rw [rounds_succ]
    go_wp2
    rw [rounds_succ]
    go_wp2
    rw [rounds_succ]
    go_wp2
    rw [rounds_succ]
    go_wp2
    go_ret
    exact ⟨by rw [HO.out] <;> rfl, by first | exact (Below.refl _ _).alloc (Nat.le_refl _) _ | exact ((Below.refl _ _).alloc (Nat.le_refl _) _).alloc (by simp) _⟩
  have z7 : ¬ (1 : Int) < (n7 : Int) := by omega
  by_cases f8 : 1 < n8
  · have z8 : (1 : Int) < (n8 : Int) := by omega
    have HO := Lib.hid (hC.trans (by exact decide_eq_false (by omega)) : cntOK ns = false)
    clear hC
    go_enter Tryz.func49, Tryz.ntmps49
    go_wp2
    refine wp_loop_rounds 4 ?_
    rw [rounds_succ]
    go_wp2
    rw [rounds_succ]
    go_wp2
    rw [rounds_succ]
    go_wp2
    rw [rounds_succ]
    go_wp2
    refine wp_loop_rounds 6 ?_
    rw [rounds_succ]
    go_wp2
    rw [rounds_succ]
    go_wp2
    rw [rounds_succ]
    go_wp2
    rw [rounds_succ]
    go_wp2
    rw [rounds_succ]
    go_wp2
    go_ret
    exact ⟨by rw [HO.out] <;> rfl, by first | exact (Below.refl _ _).alloc (Nat.le_refl _) _ | exact ((Below.refl _ _).alloc (Nat.le_refl _) _).alloc (by simp) _⟩
  have z8 : ¬ (1 : Int) < (n8 : Int) := by omega
  by_cases f9 : 0 < n9
  · have z9 : (0 : Int) < (n9 : Int) := by omega
    have HO := Lib.hid (hC.trans (by exact decide_eq_true (by omega)) : cntOK ns = true)
    clear hC
    go_enter Tryz.func49, Tryz.ntmps49
    go_wp2
    refine wp_loop_rounds 4 ?_
    rw [rounds_succ]
    go_wp2
    rw [rounds_succ]
    go_wp2
    rw [rounds_succ]
    go_wp2
    rw [rounds_succ]
    go_wp2
    refine wp_loop_rounds 6 ?_
    rw [rounds_succ]
    go_wp2
    rw [rounds_succ]
    go_wp2
    rw [rounds_succ]
    go_wp2
    rw [rounds_succ]
    go_wp2
    rw [rounds_succ]
    go_wp2
    rw [rounds_succ]
    go_wp2
    go_ret
    exact ⟨by rw [HO.out] <;> rfl, by first | exact (Below.refl _ _).alloc (Nat.le_refl _) _ | exact ((Below.refl _ _).alloc (Nat.le_refl _) _).alloc (by simp) _⟩
  · have z9 : ¬ (0 : Int) < (n9 : Int) := by omega
    have HO := Lib.hid (hC.trans (by exact decide_eq_false (by omega)) : cntOK ns = false)
    clear hC
    go_enter Tryz.func49, Tryz.ntmps49
    go_wp2
    refine wp_loop_rounds 4 ?_
    rw [rounds_succ]
    go_wp2
    rw [rounds_succ]
    go_wp2
    rw [rounds_succ]
    go_wp2
    rw [rounds_succ]
    go_wp2
    refine wp_loop_rounds 6 ?_
    rw [rounds_succ]
    go_wp2
    rw [rounds_succ]
    go_wp2
    rw [rounds_succ]
    go_wp2
    rw [rounds_succ]
    go_wp2
    rw [rounds_succ]
    go_wp2
    rw [rounds_succ]
    go_wp2
    go_ret
    exact ⟨by rw [HO.out] <;> rfl, by first | exact (Below.refl _ _).alloc (Nat.le_refl _) _ | exact ((Below.refl _ _).alloc (Nat.le_refl _) _).alloc (by simp) _⟩
end Go.Proofs.YthnnpnlapjlnoaaGreatDoor.Ca

/-
  THE WALK OF card.right.
-/
set_option linter.unusedVariables false
namespace Go.Proofs.YthnnpnlapjlnoaaGreatDoor.Ca
open Go.Lib Go.RowKit Go.Maps Go.WideMaps
open Li (LD PD sv LineAt PrmsAt)

theorem i64_wf {a : Int} (h1 : -9223372036854775808 ≤ a) (h2 : a ≤ 9223372036854775807) : (Lit.int .i64 a).wf = true := by
  have : wrap64 a = a := by unfold wrap64; omega
  rw [← this]; exact wrap64_wf _
theorem CntAt.next {w' : World} {b n : Nat} {ns : List Row} {D : DataW Unit} {m : Row} (h1 : n ≤ ns.length) (hD : IsMap D) (h : w'.ownsMap Tryz.prog 9 (plainElem Tryz.prog 3) b (n + 1) (D.put (.string m) (.lit (.int .i64 (((ns.count m : Nat) : Int) + 1)))))
    (h3 : ∀ m : Row, D.atKey (.string m) (.lit (.int .i64 0)) = .lit (.int .i64 ((ns.count m : Nat) : Int))) : CntAt w' b (ns ++ [m]) := by
  refine ⟨n + 1, _, by simp; omega, h, fun m' => ?_⟩
  by_cases hm : m' = m
  · subst hm
    rw [atKey_put_same hD (by trivial)]
    rw [List.count_append, List.count_singleton_self]
    rfl
  · rw [atKey_put_other (fun e => hm (by injection e)), h3 m']
    rw [List.count_append]
    have : [m].count m' = 0 := List.count_eq_zero.2 (by simpa using hm)
    rw [this]; rfl
/-- a card's lines are right, their names and their values -/
def rightB (Ls : List LD) : Bool := Ls.all (fun L => okV (Ch.up L.name) L.value) && cntOK (Ls.map fun L => Ch.up L.name)
theorem rightB_no {Ls : List LD} {L : LD} (h : L ∈ Ls) (hk : okV (Ch.up L.name) L.value = false) : rightB Ls = false := by
  unfold rightB
  have : Ls.all (fun L => okV (Ch.up L.name) L.value) = false := by
    rw [List.all_eq_false]
    exact ⟨L, h, by simp [hk]⟩
  rw [this]; rfl
theorem rightB_all {Ls : List LD} (h : ∀ L ∈ Ls, okV (Ch.up L.name) L.value = true) : rightB Ls = cntOK (Ls.map fun L => Ch.up L.name) := by
  unfold rightB
  have : Ls.all (fun L => okV (Ch.up L.name) L.value) = true := List.all_eq_true.2 h
  rw [this]; rfl
theorem CntAt.below {w w' : World} {b : Nat} {ns : List Row} (h : CntAt w b ns) (hb : Below w.heap.size w w') : CntAt w' b ns := h.kept hb

set_option maxHeartbeats 8000000 in
set_option maxRecDepth 100000 in
theorem right_any (v : Value) (Ls : List LD) (w : World) (h : LinesAt w v Ls) (hsm : ∀ L ∈ Ls, L.name.length ≤ 281474976710656 ∧ L.value.length ≤ 268435456) (hlen : Ls.length ≤ 1099511627776) :
    Calls Tryz.prog 27 #[.agg #[v]] w fun e w' => e = .returned (.bool (rightB Ls)) ∧ Below w.heap.size w w' := by
  obtain ⟨A, b, off, c, rfl, h1, h2, h3, h4⟩ := h
  obtain ⟨n, hn⟩ : ∃ n, Ls.length = n := ⟨_, rfl⟩
  rw [hn] at h1 h3 hlen ⊢
  unfold maxLen at h2
  have hn' := Lib.hid hn
  have h3' := Lib.hid h3
  have h4' := Lib.hid h4
  have hsm' := Lib.hid hsm
  have hmm := @run_makeMap Tryz.prog
  have B0 : Below w.heap.size w (w.alloc (.cells #[.slice A n c] 25)) := (Below.refl _ _).alloc (Nat.le_refl _) _
  clear hn h3 h4 hsm
  go_enter Tryz.func27, Tryz.ntmps27
  go_wp2
  go_loopw [11] (fun s11 wr => ∃ k : Nat, s11 = .int .i64 (k : Int) ∧ k ≤ n ∧ CntAt wr (w.heap.size + 1) ((Ls.take k).map fun L => Ch.up L.name) ∧ (∀ L ∈ Ls.take k, okV (Ch.up L.name) L.value = true) ∧ Below w.heap.size w wr) (fun s11 wr => n - (RowKit.intOf s11).toNat)
  case atStart =>
    refine ⟨0, rfl, Nat.zero_le _, ?_, fun L hL => by simp at hL, (B0.alloc (by simp) _)⟩
    have := CntAt.start (w.alloc (.cells #[.slice A n c] 25))
    simpa using this
  case round =>
    obtain ⟨k, rfl, hk, hC, hall, hbw⟩ := hrel
    by_cases hlt : k < n
    · have hl : Ls[k]? = some (Ls[k]'(by have := hn'.out; omega)) := List.getElem?_eq_getElem _
      obtain ⟨L, hle⟩ : ∃ L, Ls[k]'(by have := hn'.out; omega) = L := ⟨_, rfl⟩
      have hmem : L ∈ Ls := by rw [← hle]; exact List.getElem_mem _
      rw [hle] at hl
      obtain ⟨rfl, hg⟩ := h3'.out (by omega)
      obtain ⟨a1, a2, a4, pA, pn, pc, e1, e2, e4, hpn, hpp, g0, g1, g2, g3⟩ := LinesAt.line h4'.out hg hbw hl
      have hbx : Below wr.heap.size wr (wr.alloc (.cells #[.string a1, .string a2, .slice pA pn pc, .string a4] 41)) := (Below.refl _ _).alloc (Nat.le_refl _) _
      have d2 : a2.data.toList = L.name := by unfold sv at e2; injection e2 with e2; rw [← e2]
      have d4 : a4.data.toList = L.value := by unfold sv at e4; injection e4 with e4; rw [← e4]
      have hs := hsm'.out L hmem
      have s2 : a2.size ≤ 281474976710656 := by rw [Lib.size_eq, d2]; exact hs.1
      have s4 : a4.size ≤ 268435456 := by rw [Lib.size_eq, d4]; exact hs.2
      have cU := fun W => Ch.upper_any a2 W (by omega)
      rw [d2] at cU
      obtain ⟨t, ht⟩ : ∃ t : ByteArray, (⟨(Ch.up L.name).toArray⟩ : ByteArray) = t := ⟨_, rfl⟩
      have htd : t.data.toList = Ch.up L.name := by rw [← ht]
      have htl : t.size ≤ 281474976710656 := by rw [Lib.size_eq, htd, Ch.up_length, ← d2, ← Lib.size_eq]; exact s2
      rw [ht] at cU
      have cR := fun W => rightValue_any t a4 W s4
      rw [htd, d4] at cR
      cases hok : okV (Ch.up L.name) L.value with
      | false =>
        have HO := Lib.hid (rightB_no hmem hok)
        rw [hok] at cR
        clear hle hl hmem e1 e2 e4 hpn hpp hs hok hall hC htd ht
        go_wp2_with fail
        go_at_call 47
        refine (cU _).mono ?_
        rintro e w3 ⟨rfl, hb3⟩
        have hB3 := belowThen (belowThen hbw hbx) hb3
        have hbc : w3.cell? ⟨wr.heap.size, 3, none⟩ = some (.string a4) := (hb3.cell (p := ⟨wr.heap.size, 3, none⟩) (by simp)).trans (by simp)
        go_wp2_with fail
        go_at_call 48
        refine (cR _).mono ?_
        rintro e w4 ⟨rfl, hb4⟩
        have hB4 := belowThen hB3 hb4
        go_wp2
        go_ret
        exact ⟨by rw [HO.out] <;> rfl, hB4⟩
      | true =>
        rw [hok] at cR
        have hall2 : ∀ L ∈ Ls.take (k + 1), okV (Ch.up L.name) L.value = true := fun M hM => by
          have hlk : k < Ls.length := (List.getElem?_eq_some_iff.1 hl).1
          rw [List.take_succ_eq_append_getElem hlk] at hM
          rcases List.mem_append.1 hM with hM | hM
          · exact hall M hM
          · rw [List.mem_singleton.1 hM, hle]; exact hok
        have htk : (Ls.take (k + 1)).map (fun L => Ch.up L.name) = (Ls.take k).map (fun L => Ch.up L.name) ++ [Ch.up L.name] := by
          have hlk : k < Ls.length := (List.getElem?_eq_some_iff.1 hl).1
          rw [List.take_succ_eq_append_getElem hlk, hle, List.map_append]; rfl
        obtain ⟨ns, hns⟩ : ∃ ns, (Ls.take k).map (fun L => Ch.up L.name) = ns := ⟨_, rfl⟩
        have hnl : ns.length ≤ 1099511627776 := by rw [← hns]; simp; omega
        rw [hns] at hC htk
        have hcl : ns.count (Ch.up L.name) ≤ 1099511627776 := Nat.le_trans List.count_le_length hnl
        have hall2' := Lib.hid hall2
        have htk' := Lib.hid htk
        have htd' := Lib.hid htd
        clear hle hl hmem e1 e2 e4 hpn hpp hs hok hall htd ht hall2 htk hns
        go_wp2_with fail
        go_at_call 47
        refine (cU _).mono ?_
        rintro e w3 ⟨rfl, hb3⟩
        have hB3 := belowThen (belowThen hbw hbx) hb3
        have hC3 := (hC.alloc (.cells #[.string a1, .string a2, .slice pA pn pc, .string a4] 41)).kept hb3
        have hbc : w3.cell? ⟨wr.heap.size, 3, none⟩ = some (.string a4) := (hb3.cell (p := ⟨wr.heap.size, 3, none⟩) (by simp)).trans (by simp)
        go_wp2_with fail
        go_at_call 48
        refine (cR _).mono ?_
        rintro e w4 ⟨rfl, hb4⟩
        have hB4 := belowThen hB3 hb4
        have hC4 := hC3.kept hb4
        have hrun := hC4.look t (by unfold maxLen; omega)
        rw [htd'.out] at hrun
        obtain ⟨mn, D, q1, hown, q3⟩ := hC4
        have hkey : keyOf Tryz.prog 9 (.string t) = some (.string t.data.toList) := keyOf_string_mk Tryz.underlying9 (by unfold maxLen; omega)
        rw [htd'.out] at hkey
        have hB4' := Lib.hid hB4
        have q3' := Lib.hid q3
        obtain ⟨cn, hcn⟩ : ∃ cn, ns.count (Ch.up L.name) = cn := ⟨_, rfl⟩
        rw [hcn] at hrun hcl
        have hcn' := Lib.hid hcn
        have hnx := hB4.size
        have hlts : w.heap.size < w.heap.size + 1 := by omega
        clear hC3 hB3 hbc hb3 hb4 hC g0 g1 g2 g3 cU cR hbx hbw hB4 q3 hcn
        go_wp2_with (first
          | (at_mapUpdate; refine wpList_mapUpdate_own _ rfl _ _ _ 78 rfl 9 3 strKey Tryz.underlying78 _ (w.heap.size + 1) mn D rfl hown (by unfold maxLen; omega) _ _ _ rfl rfl hkey _ [] (plainElem_int Tryz.underlying3 (i64_wf (by omega) (by omega))) ?_)
          | go_in)
        intro w5 hown5 hgrow5
        have hIs : IsMap D := by obtain ⟨es, cl, _, _, _, hD⟩ := hown; rw [hD]; exact ⟨_, rfl⟩
        have hC5 : CntAt w5 (w.heap.size + 1) (ns ++ [Ch.up L.name]) := CntAt.next q1 hIs (by rw [hcn'.out]; exact hown5) q3'.out
        have hB5 : Below w.heap.size w w5 := hB4'.out.grown hgrow5 hnx (fun j hj => by cases hj; omega)
        have hC5' := Lib.hid hC5
        have hB5' := Lib.hid hB5
        clear hown5 hgrow5 hown hrun hkey hIs hC5 hB5 q1 hB4'
        go_wp2
        go_roundw
        case rel => exact ⟨k + 1, by go_num, by omega, by rw [htk'.out]; exact hC5'.out, hall2'.out, hB5'.out⟩
        case measure => simp [RowKit.intOf]; omega
    · obtain rfl : k = n := by omega
      have htk : Ls.take k = Ls := List.take_of_length_le (by have := hn'.out; omega)
      rw [htk] at hC hall
      have HO := Lib.hid (rightB_all hall)
      have cC := rightCount_any _ _ wr hC
      have hbw' := Lib.hid hbw
      clear htk hC hall hbw
      go_wp2_with (go_at_call 49; refine cC.mono ?_; rintro e w3 ⟨rfl, hb3⟩)
      go_ret
      exact ⟨by rw [HO.out] <;> rfl, belowThen hbw'.out hb3⟩
end Go.Proofs.YthnnpnlapjlnoaaGreatDoor.Ca

/-
  WALKS OF slices.IndexFunc, ContainsFunc AT []string AND []api.Param, at whatever predicate that leaves what there is; the closures of line.check.
-/
set_option linter.unusedVariables false
namespace Go.Proofs.YthnnpnlapjlnoaaGreatDoor.Li
open Go.Lib Go.RowKit Bu

/-- a function value that tells q of the strings of a list -/
def PredS (g : Nat) (lb : Array Value) (q : Row → Bool) (vs : List Row) (w : World) : Prop :=
  ∀ (W : World) (v : Row), v ∈ vs → Below w.heap.size w W → Calls Tryz.prog g (#[sv v] ++ lb) W fun e w' => e = .returned (.bool (q v)) ∧ Below W.heap.size W w'
/-- .. of parameters -/
def PredP (g : Nat) (lb : Array Value) (q : PD → Bool) (ps : List PD) (w : World) : Prop :=
  ∀ (W : World) (p : PD) (u : Value), p ∈ ps → StrsAt W u p.vals → Below w.heap.size w W → Calls Tryz.prog g (#[.agg #[sv p.name, u]] ++ lb) W fun e w' => e = .returned (.bool (q p)) ∧ Below W.heap.size W w'
def FoundP {α : Type} (q : α → Bool) (xs : List α) (e : Ending) : Prop := ∃ i : Int, e = .returned (.int .i64 i) ∧ xs.any q = decide (0 ≤ i)
theorem any_none {α : Type} {q : α → Bool} {xs : List α} (h : ∀ x ∈ xs, q x = false) : xs.any q = false := by
  rw [List.any_eq_false]
  intro x hx
  rw [h x hx]; decide
theorem any_some {α : Type} {q : α → Bool} {xs : List α} {k : Nat} {x : α} (h : xs[k]? = some x) (hx : q x = true) : xs.any q = true := by
  rw [List.any_eq_true]
  exact ⟨x, List.mem_of_getElem? h, hx⟩
theorem mem_take_succ {α : Type} {q : α → Bool} {xs : List α} {k : Nat} {x : α} (h : xs[k]? = some x) (hall : ∀ y ∈ xs.take k, q y = false) (hx : q x = false) : ∀ y ∈ xs.take (k + 1), q y = false := by
  obtain ⟨hl, hv⟩ := List.getElem?_eq_some_iff.1 h
  intro y hy
  rw [List.take_succ_eq_append_getElem hl, List.mem_append, List.mem_singleton, hv] at hy
  rcases hy with hy | rfl
  · exact hall y hy
  · exact hx

set_option maxHeartbeats 4000000 in
set_option maxRecDepth 100000 in
theorem indexFuncS (g : Nat) (lb : Array Value) (q : Row → Bool) (vs : List Row) (vv : Value) (w : World) (eg : ∀ args w, (callFunc g args).run Tryz.prog w = .ok (.enter g args) w) (hs : StrsAt w vv vs) (hp : PredS g lb q vs w) :
    Calls Tryz.prog 117 #[vv, .func (.func g) #[] lb] w fun e w' => FoundP q vs e ∧ Below w.heap.size w w' := by
  obtain ⟨A, b, o, c, rfl, h1, h2, h3, h4⟩ := hs
  obtain ⟨n, hn⟩ : ∃ n, vs.length = n := ⟨_, rfl⟩
  rw [hn] at h1 h3 ⊢
  have hn' := Lib.hid hn
  have h3' := Lib.hid h3
  have h4' := Lib.hid h4
  have hp' := Lib.hid hp
  unfold maxLen at h2
  clear hn h3 h4 hp
  go_enter Tryz.func117, Tryz.ntmps117
  go_wp2
  go_loopw [8] (fun s8 wr => ∃ k : Nat, s8 = .int .i64 (k : Int) ∧ k ≤ n ∧ Below w.heap.size w wr ∧ ∀ y ∈ vs.take k, q y = false) (fun s8 wr => n - (RowKit.intOf s8).toNat)
  case atStart => exact ⟨0, rfl, Nat.zero_le _, Below.refl _ _, fun y hy => by simp at hy⟩
  case round =>
    obtain ⟨k, rfl, hk, hbw, hall⟩ := hrel
    have hall' := Lib.hid hall
    clear hall
    by_cases hlt : k < n
    · have hv : vs[k]? = some (vs[k]'(by have := hn'.out; omega)) := List.getElem?_eq_getElem _
      obtain ⟨V, hV⟩ : ∃ V, vs[k]'(by have := hn'.out; omega) = V := ⟨_, rfl⟩
      rw [hV] at hv
      have hVm : V ∈ vs := by rw [← hV]; exact List.getElem_mem _
      obtain ⟨rfl, hg⟩ := h3'.out (by omega)
      have hc := h4'.out k V hv
      rw [← hbw.cell (p := ⟨b, o + k, none⟩) hg] at hc
      have hcall := hp'.out wr V hVm hbw
      unfold sv at hc hcall
      generalize (⟨V.toArray⟩ : ByteArray) = x at hc hcall
      have hv' := Lib.hid hv
      clear hv hV hVm
      cases hq : q V
      · rw [hq] at hcall
        have hnx := Lib.hid (mem_take_succ hv'.out hall'.out hq)
        clear hq
        go_wp2_with (go_at_fn g; refine hcall.mono ?_; rintro e w3 ⟨rfl, hb3⟩)
        go_roundw
        case rel => exact ⟨k + 1, by go_num, by omega, hbw.trans (hb3.mono hbw.size), hnx.out⟩
        case measure => simp [RowKit.intOf]; omega
      · rw [hq] at hcall
        have hf : FoundP q vs (.returned (.int .i64 (k : Int))) := ⟨k, rfl, by rw [any_some hv'.out hq, decide_eq_true (by omega)]⟩
        have hf' := Lib.hid hf
        clear hq hf
        go_wp2_with (go_at_fn g; refine hcall.mono ?_; rintro e w3 ⟨rfl, hb3⟩)
        go_ret
        exact ⟨hf'.out, hbw.trans (hb3.mono hbw.size)⟩
    · have hf : FoundP q vs (.returned (.int .i64 (-1))) := ⟨-1, rfl, by
        have := hall'.out
        rw [List.take_of_length_le (by have := hn'.out; omega)] at this
        rw [any_none this]; rfl⟩
      have hf' := Lib.hid hf
      clear hf
      go_wp2
      go_ret
      exact ⟨hf'.out, hbw⟩

set_option maxHeartbeats 4000000 in
set_option maxRecDepth 100000 in
theorem containsFuncS (g : Nat) (lb : Array Value) (q : Row → Bool) (vs : List Row) (vv : Value) (w : World) (eg : ∀ args w, (callFunc g args).run Tryz.prog w = .ok (.enter g args) w) (hs : StrsAt w vv vs) (hp : PredS g lb q vs w) :
    Calls Tryz.prog 96 #[vv, .func (.func g) #[] lb] w fun e w' => e = .returned (.bool (vs.any q)) ∧ Below w.heap.size w w' := by
  have cI := indexFuncS g lb q vs vv w eg hs hp
  unfold FoundP at cI
  generalize vs.any q = R at cI ⊢
  clear hs hp
  go_enter Tryz.func96, Tryz.ntmps96
  go_wp2_with (go_at_call 117; refine cI.mono ?_; rintro e w' ⟨⟨i, rfl, hi⟩, hb⟩; subst hi)
  go_ret
  exact ⟨rfl, hb⟩

set_option maxHeartbeats 4000000 in
set_option maxRecDepth 100000 in
theorem indexFuncP (g : Nat) (lb : Array Value) (q : PD → Bool) (ps : List PD) (vv : Value) (w : World) (eg : ∀ args w, (callFunc g args).run Tryz.prog w = .ok (.enter g args) w) (hs : PrmsAt w vv ps) (hp : PredP g lb q ps w) :
    Calls Tryz.prog 118 #[vv, .func (.func g) #[] lb] w fun e w' => FoundP q ps e ∧ Below w.heap.size w w' := by
  obtain ⟨A, b, o, c, rfl, h1, h2, h3, h4⟩ := hs
  obtain ⟨n, hn⟩ : ∃ n, ps.length = n := ⟨_, rfl⟩
  rw [hn] at h1 h3 ⊢
  have hn' := Lib.hid hn
  have h3' := Lib.hid h3
  have h4' := Lib.hid h4
  have hp' := Lib.hid hp
  unfold maxLen at h2
  clear hn h3 h4 hp
  go_enter Tryz.func118, Tryz.ntmps118
  go_wp2
  go_loopw [8] (fun s8 wr => ∃ k : Nat, s8 = .int .i64 (k : Int) ∧ k ≤ n ∧ Below w.heap.size w wr ∧ ∀ y ∈ ps.take k, q y = false) (fun s8 wr => n - (RowKit.intOf s8).toNat)
  case atStart => exact ⟨0, rfl, Nat.zero_le _, Below.refl _ _, fun y hy => by simp at hy⟩
  case round =>
    obtain ⟨k, rfl, hk, hbw, hall⟩ := hrel
    have hall' := Lib.hid hall
    clear hall
    by_cases hlt : k < n
    · have hv : ps[k]? = some (ps[k]'(by have := hn'.out; omega)) := List.getElem?_eq_getElem _
      obtain ⟨V, hV⟩ : ∃ V, ps[k]'(by have := hn'.out; omega) = V := ⟨_, rfl⟩
      rw [hV] at hv
      have hVm : V ∈ ps := by rw [← hV]; exact List.getElem_mem _
      obtain ⟨rfl, hg⟩ := h3'.out (by omega)
      obtain ⟨hc, u, hu, hsu⟩ := h4'.out k V hv
      rw [← hbw.cell (p := ⟨b, o + k * 2, none⟩) hg] at hc
      rw [← hbw.cell (p := ⟨b, o + k * 2 + 1, none⟩) hg] at hu
      have hcall := hp'.out wr V u hVm (hsu.kept hbw) hbw
      unfold sv at hc hcall
      generalize (⟨V.name.toArray⟩ : ByteArray) = x at hc hcall
      have hv' := Lib.hid hv
      clear hv hV hVm hsu
      cases hq : q V
      · rw [hq] at hcall
        have hnx := Lib.hid (mem_take_succ hv'.out hall'.out hq)
        clear hq
        go_wp2_with (go_at_fn g; refine hcall.mono ?_; rintro e w3 ⟨rfl, hb3⟩)
        go_roundw
        case rel => exact ⟨k + 1, by go_num, by omega, hbw.trans (hb3.mono hbw.size), hnx.out⟩
        case measure => simp [RowKit.intOf]; omega
      · rw [hq] at hcall
        have hf : FoundP q ps (.returned (.int .i64 (k : Int))) := ⟨k, rfl, by rw [any_some hv'.out hq, decide_eq_true (by omega)]⟩
        have hf' := Lib.hid hf
        clear hq hf
        go_wp2_with (go_at_fn g; refine hcall.mono ?_; rintro e w3 ⟨rfl, hb3⟩)
        go_ret
        exact ⟨hf'.out, hbw.trans (hb3.mono hbw.size)⟩
    · have hf : FoundP q ps (.returned (.int .i64 (-1))) := ⟨-1, rfl, by
        have := hall'.out
        rw [List.take_of_length_le (by have := hn'.out; omega)] at this
        rw [any_none this]; rfl⟩
      have hf' := Lib.hid hf
      clear hf
      go_wp2
      go_ret
      exact ⟨hf'.out, hbw⟩

set_option maxHeartbeats 4000000 in
set_option maxRecDepth 100000 in
theorem containsFuncP (g : Nat) (lb : Array Value) (q : PD → Bool) (ps : List PD) (vv : Value) (w : World) (eg : ∀ args w, (callFunc g args).run Tryz.prog w = .ok (.enter g args) w) (hs : PrmsAt w vv ps) (hp : PredP g lb q ps w) :
    Calls Tryz.prog 97 #[vv, .func (.func g) #[] lb] w fun e w' => e = .returned (.bool (ps.any q)) ∧ Below w.heap.size w w' := by
  have cI := indexFuncP g lb q ps vv w eg hs hp
  unfold FoundP at cI
  generalize ps.any q = R at cI ⊢
  clear hs hp
  go_enter Tryz.func97, Tryz.ntmps97
  go_wp2_with (go_at_call 118; refine cI.mono ?_; rintro e w' ⟨⟨i, rfl, hi⟩, hb⟩; subst hi)
  go_ret
  exact ⟨rfl, hb⟩

/-! ### the closures of check -/
def Small (ps : List PD) : Prop := ∀ p ∈ ps, p.name.length ≤ 9223372036854775807 ∧ ∀ v ∈ p.vals, v.length ≤ 9223372036854775807

set_option maxHeartbeats 2000000 in
set_option maxRecDepth 100000 in
theorem unnamed_is (ps : List PD) (hs : Small ps) (w : World) : PredP 91 #[] (fun p => !nameB p.name) ps w := fun W p u hp hu hb => by
  have hl := (hs p hp).1
  obtain ⟨x, hx⟩ : ∃ x : ByteArray, (⟨p.name.toArray⟩ : ByteArray) = x := ⟨_, rfl⟩
  have hxd : x.data.toList = p.name := by rw [← hx]
  have cN := fun W => name_any x W (by rw [Lib.size_eq, hxd]; exact hl)
  rw [hxd] at cN
  unfold sv
  rw [hx]
  obtain ⟨A, b, o, c, rfl, _⟩ := hu
  dsimp only
  generalize nameB p.name = R at cN ⊢
  have hal : Below W.heap.size W (W.alloc (.cells #[.string x, .slice A p.vals.length c] 47)) := (Below.refl _ _).alloc (Nat.le_refl _) _
  clear hl hx hxd hb
  go_enter Tryz.func91, Tryz.ntmps91
  go_wp2_with (go_at_call 92; refine (cN _).mono ?_; rintro e w1 ⟨rfl, hb1⟩)
  go_ret
  exact ⟨rfl, below_then hal hb1⟩

set_option maxHeartbeats 2000000 in
set_option maxRecDepth 100000 in
theorem unvalued_is (ps : List PD) (w : World) : PredP 93 #[] (fun p => p.vals.isEmpty) ps w := fun W p u hp hu hb => by
  obtain ⟨A, b, o, c, rfl, _⟩ := hu
  unfold sv
  generalize (⟨p.name.toArray⟩ : ByteArray) = x
  have hal : Below W.heap.size W (W.alloc (.cells #[.string x, .slice A p.vals.length c] 47)) := (Below.refl _ _).alloc (Nat.le_refl _) _
  have hE : p.vals.isEmpty = ((p.vals.length : Int) == 0) := by
    cases p.vals with
    | nil => rfl
    | cons v vs => simp; omega
  dsimp only
  rw [hE]
  clear hE
  generalize p.vals.length = n at hal ⊢
  go_enter Tryz.func93, Tryz.ntmps93
  go_wp2
  go_ret
  exact ⟨rfl, hal⟩

set_option maxHeartbeats 2000000 in
set_option maxRecDepth 100000 in
theorem odd_is (vs : List Row) (hs : ∀ v ∈ vs, v.length ≤ 9223372036854775807) (w : World) (hT : Ch.Tabs w) : PredS 94 #[] (fun v => !okV v) vs w := fun W v hv hb => by
  have hl := hs v hv
  obtain ⟨x, hx⟩ : ∃ x : ByteArray, (⟨v.toArray⟩ : ByteArray) = x := ⟨_, rfl⟩
  have hxd : x.data.toList = v := by rw [← hx]
  have cV := plainV_any x W (Ch.tabs_below hT hb) (by rw [Lib.size_eq, hxd]; exact hl)
  rw [hxd] at cV
  unfold sv
  rw [hx]
  dsimp only
  generalize okV v = R at cV ⊢
  clear hl hx hxd hb hT
  go_enter Tryz.func94, Tryz.ntmps94
  go_wp2_with (go_at_call 74; refine cV.mono ?_; rintro e w1 ⟨rfl, hb1⟩)
  go_ret
  exact ⟨rfl, hb1⟩

set_option maxHeartbeats 2000000 in
set_option maxRecDepth 100000 in
theorem oddly_is (ps : List PD) (hs : Small ps) (g : Nat) (w : World) (hg : g < w.heap.size) (hc : w.cell? ⟨g, 0, none⟩ = some (.func (.func 94) #[] #[])) (hT : Ch.Tabs w) : PredP 95 #[.pointer (some ⟨g, 0, none⟩)] (fun p => p.vals.any fun v => !okV v) ps w := fun W p u hp hu hb => by
  have hal : ∀ x, Below W.heap.size W (W.alloc (.cells #[x, u] 47)) := fun x => (Below.refl _ _).alloc (Nat.le_refl _) _
  have cC := fun x => containsFuncS 94 #[] (fun v => !okV v) p.vals u (W.alloc (.cells #[x, u] 47)) (enters_of Tryz.func94 (by kernel_rfl) rfl) (hu.kept (hal x)) (odd_is _ (hs p hp).2 _ (Ch.tabs_below (Ch.tabs_below hT hb) (hal x)))
  rw [← hb.cell (p := ⟨g, 0, none⟩) hg] at hc
  have hgW : g < W.heap.size := Nat.lt_of_lt_of_le hg hb.size
  obtain ⟨A, b, o, c, rfl, _⟩ := hu
  unfold sv
  generalize (⟨p.name.toArray⟩ : ByteArray) = x
  have cX := cC (.string x)
  have halx := hal (.string x)
  dsimp only at cX ⊢
  generalize (p.vals.any fun v => !okV v) = R at cX ⊢
  generalize p.vals.length = n at cX halx ⊢
  clear cC hal hT hb hs hp hg
  go_enter Tryz.func95, Tryz.ntmps95
  go_wp2_with (go_at_call 96; refine cX.mono ?_; rintro e w1 ⟨rfl, hb1⟩)
  go_ret
  exact ⟨rfl, below_then halx hb1⟩
end Go.Proofs.YthnnpnlapjlnoaaGreatDoor.Li

/-
  THE WALK OF line.check.
-/
set_option linter.unusedVariables false
namespace Go.Proofs.YthnnpnlapjlnoaaGreatDoor.Li
open Go.Lib Go.RowKit Bu

structure SmallL (L : LD) : Prop where
  group : L.group.length ≤ 9223372036854775807
  name : L.name.length ≤ 9223372036854775807
  value : L.value.length ≤ 9223372036854775807
  params : Small L.params
theorem chk_30 {L : LD} (h : badN L = true) : chk L = 30 := by unfold chk; rw [if_pos h]
theorem chk_31 {L : LD} (h : badN L = false) (h2 : badF L = true) : chk L = 31 := by unfold chk; rw [h, if_neg (by decide), if_pos h2]
theorem chk_10 {L : LD} (h : badN L = false) (h2 : badF L = false) (h3 : badT L = true) : chk L = 10 := by unfold chk; rw [h, h2, if_neg (by decide), if_neg (by decide), if_pos h3]
theorem chk_0 {L : LD} (h : badN L = false) (h2 : badF L = false) (h3 : badT L = false) : chk L = 0 := by unfold chk; rw [h, h2, h3]; rfl
def ChkP (L : LD) (e : Ending) : Prop := e = .returned (.int .i64 (chk L : Int))
theorem ChkP.of {L : LD} {n : Nat} (h : chk L = n) : ChkP L (.returned (.int .i64 (n : Int))) := by unfold ChkP; rw [h]

set_option maxHeartbeats 8000000 in
set_option maxRecDepth 100000 in
theorem check_any (v : Value) (L : LD) (w : World) (hv : LineAt w v L) (hS : SmallL L) (hT : Ch.Tabs w) :
    Calls Tryz.prog 65 #[v] w fun e w' => ChkP L e ∧ Below w.heap.size w w' := by
  obtain ⟨pv, rfl, hP⟩ := hv
  have hpf : ∃ A c, pv = .slice A L.params.length c := by obtain ⟨A, b, o, c, h, _⟩ := hP; exact ⟨A, c, h⟩
  obtain ⟨A, c, rfl⟩ := hpf
  obtain ⟨n, hn⟩ : ∃ n, L.params.length = n := ⟨_, rfl⟩
  rw [hn] at hP ⊢
  clear hn
  unfold sv
  obtain ⟨a1, ha1⟩ : ∃ a : ByteArray, (⟨L.group.toArray⟩ : ByteArray) = a := ⟨_, rfl⟩
  obtain ⟨a2, ha2⟩ : ∃ a : ByteArray, (⟨L.name.toArray⟩ : ByteArray) = a := ⟨_, rfl⟩
  obtain ⟨a4, ha4⟩ : ∃ a : ByteArray, (⟨L.value.toArray⟩ : ByteArray) = a := ⟨_, rfl⟩
  have d1 : a1.data.toList = L.group := by rw [← ha1]
  have d2 : a2.data.toList = L.name := by rw [← ha2]
  have d4 : a4.data.toList = L.value := by rw [← ha4]
  rw [ha1, ha2, ha4]
  clear ha1 ha2 ha4
  have n1 := fun W => name_any a1 W (by rw [Lib.size_eq, d1]; exact hS.group)
  have n2 := fun W => name_any a2 W (by rw [Lib.size_eq, d2]; exact hS.name)
  rw [d1] at n1
  rw [d2] at n2
  obtain ⟨wA, hwA⟩ : ∃ wA, (w.alloc (.cells #[.string a1, .string a2, .slice A n c, .string a4] 41)).alloc (.cells #[.func (.func 94) #[] #[]] 37) = wA := ⟨_, rfl⟩
  have hbA : Below w.heap.size w wA := by rw [← hwA]; exact ((Below.refl _ _).alloc (Nat.le_refl _) _).alloc (by simp) _
  have hkA : wA.heap[w.heap.size]? = some (.cells #[.string a1, .string a2, .slice A n c, .string a4] 41 (0, 0)) := by
    rw [← hwA, Below.heap_alloc _ _ _ (by simp)]
    exact heap_alloc_new w _
  have hoA : wA.heap[w.heap.size + 1]? = some (.cells #[.func (.func 94) #[] #[]] 37 (0, 0)) := by
    rw [← hwA]
    have := heap_alloc_new (w.alloc (.cells #[.string a1, .string a2, .slice A n c, .string a4] 41)) (.cells #[.func (.func 94) #[] #[]] 37)
    simpa using this
  have hzA : w.heap.size + 1 < wA.heap.size := (Array.getElem?_eq_some_iff.1 hoA).1
  have hF : ∀ W, Below wA.heap.size wA W → W.cell? ⟨w.heap.size, 0, none⟩ = some (.string a1) ∧ W.cell? ⟨w.heap.size, 1, none⟩ = some (.string a2) ∧ W.cell? ⟨w.heap.size, 2, none⟩ = some (.slice A n c) ∧ W.cell? ⟨w.heap.size, 3, none⟩ = some (.string a4) ∧
      W.cell? ⟨w.heap.size + 1, 0, none⟩ = some (.func (.func 94) #[] #[]) ∧ w.heap.size + 1 < W.heap.size ∧ Below w.heap.size w W := fun W hW => by
    have hk := (hW.block w.heap.size (by omega)).trans hkA
    have ho := (hW.block (w.heap.size + 1) hzA).trans hoA
    obtain ⟨c0, c1, c2, c3, _⟩ := res4 hk
    exact ⟨c0, c1, c2, c3, by rw [Lib.cell_of_heap ho]; rfl, Nat.lt_of_lt_of_le hzA hW.size, hbA.trans (hW.mono hbA.size)⟩
  have cU : ∀ W, Below wA.heap.size wA W → Calls Tryz.prog 97 #[.slice A n c, .func (.func 91) #[] #[]] W fun e w' => e = .returned (.bool (L.params.any fun p => !nameB p.name)) ∧ Below W.heap.size W w' := fun W hW =>
    containsFuncP 91 #[] _ L.params _ W (enters_of Tryz.func91 (by kernel_rfl) rfl) (hP.kept (hF W hW).2.2.2.2.2.2) (unnamed_is _ hS.params W)
  have cN : ∀ W, Below wA.heap.size wA W → Calls Tryz.prog 97 #[.slice A n c, .func (.func 93) #[] #[]] W fun e w' => e = .returned (.bool (badF L)) ∧ Below W.heap.size W w' := fun W hW =>
    containsFuncP 93 #[] _ L.params _ W (enters_of Tryz.func93 (by kernel_rfl) rfl) (hP.kept (hF W hW).2.2.2.2.2.2) (unvalued_is _ W)
  have cO : ∀ W, Below wA.heap.size wA W → Calls Tryz.prog 97 #[.slice A n c, .func (.func 95) #[] #[.pointer (some ⟨w.heap.size + 1, 0, none⟩)]] W fun e w' => e = .returned (.bool (L.params.any fun p => p.vals.any fun v => !okV v)) ∧ Below W.heap.size W w' := fun W hW =>
    containsFuncP 95 _ _ L.params _ W (enters_of Tryz.func95 (by kernel_rfl) rfl) (hP.kept (hF W hW).2.2.2.2.2.2) (oddly_is _ hS.params _ W (hF W hW).2.2.2.2.2.1 (hF W hW).2.2.2.2.1 (Ch.tabs_below hT (hF W hW).2.2.2.2.2.2))
  have cT : ∀ W, Below wA.heap.size wA W → Calls Tryz.prog 74 #[.string a4, .string ⟨#[13, 10]⟩] W fun e w' => e = .returned (.bool (okT L.value)) ∧ Below W.heap.size W w' := fun W hW => by
    have := plainT_any a4 W (Ch.tabs_below hT (hF W hW).2.2.2.2.2.2) (by rw [Lib.size_eq, d4]; exact hS.value)
    rwa [d4] at this
  have hbadN : badN L = ((!L.group.isEmpty && !nameB L.group) || !nameB L.name || L.params.any fun p => !nameB p.name) := rfl
  have hbadT : badT L = (!okT L.value || L.params.any fun p => p.vals.any fun v => !okV v) := rfl
  have f30 := fun h => ChkP.of (chk_30 (L := L) h)
  have f31 := fun h h2 => ChkP.of (chk_31 (L := L) h h2)
  have f10 := fun h h2 h3 => ChkP.of (chk_10 (L := L) h h2 h3)
  have f0 := fun h h2 h3 => ChkP.of (chk_0 (L := L) h h2 h3)
  have hE : (L.group.isEmpty = true ∧ a1.toList.isEmpty = true) ∨ (L.group.isEmpty = false ∧ a1.toList.isEmpty = false) := by
    by_cases h : L.group = []
    · exact .inl ⟨by rw [h]; rfl, empty_of a1 (by rw [d1, h])⟩
    · exact .inr ⟨List.isEmpty_eq_false_iff.2 h, nonempty_of a1 (by rw [d1]; exact h)⟩
  generalize ChkP L = Fin at f30 f31 f10 f0 ⊢
  generalize badN L = bN at hbadN f30 f31 f10 f0
  generalize badF L = bF at f31 f10 f0 cN
  generalize badT L = bT at hbadT f10 f0
  generalize (L.params.any fun p => !nameB p.name) = U at cU hbadN
  generalize (L.params.any fun p => p.vals.any fun v => !okV v) = O at cO hbadT
  generalize nameB L.group = G at n1 hbadN
  generalize nameB L.name = N at n2 hbadN
  generalize okT L.value = T at cT hbadT
  generalize L.group.isEmpty = E at hE hbadN
  have hF' := Lib.hid hF
  have f30' := Lib.hid f30
  have f31' := Lib.hid f31
  have f10' := Lib.hid f10
  have f0' := Lib.hid f0
  have hbN := Lib.hid hbadN
  have hbT := Lib.hid hbadT
  have cU' := Lib.hid cU
  have cN' := Lib.hid cN
  have cO' := Lib.hid cO
  have cT' := Lib.hid cT
  have hwA' := Lib.hid hwA
  clear hF f30 f31 f10 f0 hbadN hbadT cU cN cO cT hP hT hS d1 d2 d4 hkA hoA hzA hwA
  have hend : ∀ W, Below wA.heap.size wA W → Below w.heap.size w W := fun W hW => (hF'.out W hW).2.2.2.2.2.2
  have hend' := Lib.hid hend
  clear hend
  rcases hE with ⟨rfl, he⟩ | ⟨rfl, he⟩
  · go_enter Tryz.func65, Tryz.ntmps65
    go_wp2_with fail
    go_at_call 92
    refine (n2 _).mono ?_
    rintro e W ⟨rfl, hb⟩
    rw [hwA'.out] at hb
    cases N
    · have hf := Lib.hid (f30'.out (by rw [hbN.out]; simp))
      go_wp2
      go_ret
      exact ⟨hf.out, hend'.out _ hb⟩
    · obtain ⟨k0, k1, k2, k3, k4, kz, _⟩ := hF'.out W hb
      go_wp2_with fail
      go_at_call 97
      refine (cU'.out _ hb).mono ?_
      rintro e W1 ⟨rfl, hb1⟩
      replace hb1 := below_then hb hb1
      clear k0 k1 k2 k3 k4 kz hb
      cases U
      · have hbn : bN = false := by rw [hbN.out]; simp
        subst hbn
        obtain ⟨k0, k1, k2, k3, k4, kz, _⟩ := hF'.out W1 hb1
        go_wp2_with fail
        go_at_call 97
        refine (cN'.out _ hb1).mono ?_
        rintro e W2 ⟨rfl, hb2⟩
        replace hb2 := below_then hb1 hb2
        clear k0 k1 k2 k3 k4 kz hb1
        cases bF
        · obtain ⟨k0, k1, k2, k3, k4, kz, _⟩ := hF'.out W2 hb2
          go_wp2_with fail
          go_at_call 74
          refine (cT'.out _ hb2).mono ?_
          rintro e W3 ⟨rfl, hb3⟩
          replace hb3 := below_then hb2 hb3
          clear k0 k1 k2 k3 k4 kz hb2
          cases T
          · have hf := Lib.hid (f10'.out (by simp) (by simp) (by rw [hbT.out]; simp))
            go_wp2
            go_ret
            exact ⟨hf.out, hend'.out _ hb3⟩
          · obtain ⟨k0, k1, k2, k3, k4, kz, _⟩ := hF'.out W3 hb3
            go_wp2_with fail
            go_at_call 97
            refine (cO'.out _ hb3).mono ?_
            rintro e W4 ⟨rfl, hb4⟩
            replace hb4 := below_then hb3 hb4
            clear k0 k1 k2 k3 k4 kz hb3
            cases O
            · have hf := Lib.hid (f0'.out (by simp) (by simp) (by rw [hbT.out]; simp))
              go_wp2
              go_ret
              exact ⟨hf.out, hend'.out _ hb4⟩
            · have hf := Lib.hid (f10'.out (by simp) (by simp) (by rw [hbT.out]; simp))
              go_wp2
              go_ret
              exact ⟨hf.out, hend'.out _ hb4⟩
        · have hf := Lib.hid (f31'.out (by simp) (by simp))
          go_wp2
          go_ret
          exact ⟨hf.out, hend'.out _ hb2⟩
      · have hf := Lib.hid (f30'.out (by rw [hbN.out]; simp))
        go_wp2
        go_ret
        exact ⟨hf.out, hend'.out _ hb1⟩
  · cases G
    · go_enter Tryz.func65, Tryz.ntmps65
      go_wp2_with fail
      go_at_call 92
      refine (n1 _).mono ?_
      rintro e W ⟨rfl, hb⟩
      rw [hwA'.out] at hb
      have hf := Lib.hid (f30'.out (by rw [hbN.out]; simp))
      go_wp2
      go_ret
      exact ⟨hf.out, hend'.out _ hb⟩
    · go_enter Tryz.func65, Tryz.ntmps65
      go_wp2_with fail
      go_at_call 92
      refine (n1 _).mono ?_
      rintro e W0 ⟨rfl, hb0⟩
      rw [hwA'.out] at hb0
      obtain ⟨k0, k1, k2, k3, k4, kz, _⟩ := hF'.out W0 hb0
      go_wp2_with fail
      go_at_call 92
      refine (n2 _).mono ?_
      rintro e W ⟨rfl, hb⟩
      replace hb := below_then hb0 hb
      clear k0 k1 k2 k3 k4 kz hb0
      cases N
      · have hf := Lib.hid (f30'.out (by rw [hbN.out]; simp))
        go_wp2
        go_ret
        exact ⟨hf.out, hend'.out _ hb⟩
      · obtain ⟨k0, k1, k2, k3, k4, kz, _⟩ := hF'.out W hb
        go_wp2_with fail
        go_at_call 97
        refine (cU'.out _ hb).mono ?_
        rintro e W1 ⟨rfl, hb1⟩
        replace hb1 := below_then hb hb1
        clear k0 k1 k2 k3 k4 kz hb
        cases U
        · have hbn : bN = false := by rw [hbN.out]; simp
          subst hbn
          obtain ⟨k0, k1, k2, k3, k4, kz, _⟩ := hF'.out W1 hb1
          go_wp2_with fail
          go_at_call 97
          refine (cN'.out _ hb1).mono ?_
          rintro e W2 ⟨rfl, hb2⟩
          replace hb2 := below_then hb1 hb2
          clear k0 k1 k2 k3 k4 kz hb1
          cases bF
          · obtain ⟨k0, k1, k2, k3, k4, kz, _⟩ := hF'.out W2 hb2
            go_wp2_with fail
            go_at_call 74
            refine (cT'.out _ hb2).mono ?_
            rintro e W3 ⟨rfl, hb3⟩
            replace hb3 := below_then hb2 hb3
            clear k0 k1 k2 k3 k4 kz hb2
            cases T
            · have hf := Lib.hid (f10'.out (by simp) (by simp) (by rw [hbT.out]; simp))
              go_wp2
              go_ret
              exact ⟨hf.out, hend'.out _ hb3⟩
            · obtain ⟨k0, k1, k2, k3, k4, kz, _⟩ := hF'.out W3 hb3
              go_wp2_with fail
              go_at_call 97
              refine (cO'.out _ hb3).mono ?_
              rintro e W4 ⟨rfl, hb4⟩
              replace hb4 := below_then hb3 hb4
              clear k0 k1 k2 k3 k4 kz hb3
              cases O
              · have hf := Lib.hid (f0'.out (by simp) (by simp) (by rw [hbT.out]; simp))
                go_wp2
                go_ret
                exact ⟨hf.out, hend'.out _ hb4⟩
              · have hf := Lib.hid (f10'.out (by simp) (by simp) (by rw [hbT.out]; simp))
                go_wp2
                go_ret
                exact ⟨hf.out, hend'.out _ hb4⟩
          · have hf := Lib.hid (f31'.out (by simp) (by simp))
            go_wp2
            go_ret
            exact ⟨hf.out, hend'.out _ hb2⟩
        · have hf := Lib.hid (f30'.out (by rw [hbN.out]; simp))
          go_wp2
          go_ret
          exact ⟨hf.out, hend'.out _ hb1⟩
end Go.Proofs.YthnnpnlapjlnoaaGreatDoor.Li
