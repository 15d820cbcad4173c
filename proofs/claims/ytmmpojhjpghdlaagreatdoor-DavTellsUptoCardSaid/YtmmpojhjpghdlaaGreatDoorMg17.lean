import Derived.Test.YtmmpojhjpghdlaaGreatDoorMg16
import Derived.Test.YtmmpojhjpghdlaaGreatDoorMg2
import Derived.Test.YtmmpojhjpghdlaaGreatDoorMg1
import Derived.Laws.RangeAny
import Derived.LoopTactic
import Derived.Lib.Hide
import Derived.Lib.OthersKept
import Derived.Lib.IndexLaws
import Derived.Deep.QuietTactic
import Derived.BigQuiet
import Derived.Laws.Runes
import Derived.Deep.RegionHeld3

/-
  WALKS OF THE PROGRAM's READER OF LAYER xml: until, blanks, name, fullName, quoted, remark.
-/
set_option linter.unusedVariables false
namespace Go.Proofs.YtmmpojhjpghdlaaGreatDoor.Xm
open Go.Lib Go.RowKit

theorem Bef.gw {w0 w : World} {b : Nat} {r : ByteArray} {l : Row} {ps : Pq} (h : Bef w0 b r l ps w) (hG : Gw w0) : Gw w := gw_below hG h.bel
def UntilP (w0 : World) (b : Nat) (r s : ByteArray) (l : Row) (ps : Pq) (e : Ending) (w' : World) : Prop :=
  (∃ a r' : ByteArray, find s.data.toList r.data.toList = some (a.data.toList, r'.data.toList) ∧ e = .returned (.string a) ∧ Bef w0 b r' l ps w') ∨ (find s.data.toList r.data.toList = none ∧ e = gone ∧ Below w0.heap.size w0 w')
set_option maxHeartbeats 1000000 in
set_option maxRecDepth 100000 in
theorem until_any {w0 w : World} (hG : Gw w0) {b : Nat} {r : ByteArray} {l : Row} {ps : Pq} (h : Bef w0 b r l ps w) (s : ByteArray) (hs : s.data.toList ≠ []) (hr : r.size ≤ 65536) :
    Calls Tryz.prog 69 #[.pointer (some ⟨b, 0, none⟩), .string s] w fun e w' => UntilP w0 b r s l ps e w' ∧ KeptR w w' := by
  obtain ⟨c0, f0⟩ := h.cell
  have cC := cut_any r s hs w (h.gw hG) hr
  have hp := Lib.hid (fun (W : World) (hW : Below w.heap.size w W) (x : ByteArray) => (h.kept hW).put x)
  have hcl := Lib.hid (fun (W : World) (hW : Below w.heap.size w W) => (h.kept hW).cell)
  have hbl := Lib.hid (fun (W : World) (hW : Below w.heap.size w W) => (h.kept hW).bel)
  clear h hG
  go_enter Tryz.func69, Tryz.ntmps69
  go_wp2_with fail
  go_at_call 96
  with_reducible refine cC.mono ?_
  rintro e w4 ⟨hq, hb4⟩
  clear cC
  have hk4 := Lib.hid (KeptR.of_below hb4)
  have hcl4 := hcl.out w4 hb4
  obtain ⟨c4, f4⟩ := hcl4
  have hbl4 := Lib.hid (hbl.out w4 hb4)
  rcases hq with ⟨hn, rfl⟩ | ⟨a, r', hy, rfl⟩
  · have hn' := Lib.hid hn
    clear hn hp hcl hbl hb4
    have cG := giveUp_any w4
    unfold gone at cG
    go_wp2_with fail
    go_at_call 72
    with_reducible refine cG.mono ?_
    rintro e w5 ⟨rfl, rfl⟩
    go_wp2
    exact ⟨rfl, .inr ⟨hn'.out, rfl, hbl4.out⟩, hk4.out⟩
  · have hp1 := Lib.hid (hp.out w4 hb4 r')
    have hy' := Lib.hid hy
    clear hp hy hcl hbl hb4
    go_wp2
    go_ret
    exact ⟨.inl ⟨a, r', hy'.out, rfl, hp1.out.1⟩, hk4.out.trans hp1.out.2⟩

set_option maxHeartbeats 1000000 in
set_option maxRecDepth 100000 in
theorem blanks_any {w0 w : World} {b : Nat} {r : ByteArray} {l : Row} {ps : Pq} (h : Bef w0 b r l ps w) :
    Calls Tryz.prog 97 #[.pointer (some ⟨b, 0, none⟩)] w fun e w' => (∃ r' : ByteArray, r'.data.toList = r.data.toList.dropWhile blk ∧ e = .returned (.bool (decide (r'.size < r.size))) ∧ Bef w0 b r' l ps w') ∧ KeptR w w' := by
  obtain ⟨c0, f0⟩ := h.cell
  have cC := trimL_any r w
  have hp := Lib.hid (fun (W : World) (hW : Below w.heap.size w W) (x : ByteArray) => (h.kept hW).put x)
  have hcl := Lib.hid (fun (W : World) (hW : Below w.heap.size w W) => (h.kept hW).cell)
  clear h
  go_enter Tryz.func97, Tryz.ntmps97
  go_wp2_with fail
  go_at_call 114
  with_reducible refine cC.mono ?_
  rintro e w4 ⟨⟨x, rfl, hx⟩, hb4⟩
  clear cC
  have hk4 := Lib.hid (KeptR.of_below hb4)
  have hcl4 := hcl.out w4 hb4
  obtain ⟨c4, f4⟩ := hcl4
  have hp1 := Lib.hid (hp.out w4 hb4 x)
  have hx' := Lib.hid hx
  clear hp hx hcl hb4
  go_wp2
  go_ret
  refine ⟨⟨x, hx'.out, ?_, hp1.out.1⟩, hk4.out.trans hp1.out.2⟩
  first
    | rfl
    | (refine ret_bool ?_
       rw [Bool.eq_iff_iff]
       simp)

def NameP (w0 : World) (b : Nat) (r : ByteArray) (l : Row) (ps : Pq) (e : Ending) (w' : World) : Prop :=
  (∃ n r' : ByteArray, nameC r.data.toList = some (n.data.toList, r'.data.toList) ∧ e = .returned (.string n) ∧ Bef w0 b r' l ps w') ∨ (nameC r.data.toList = none ∧ e = gone ∧ Below w0.heap.size w0 w')
set_option maxHeartbeats 1000000 in
set_option maxRecDepth 100000 in
theorem name_any {w0 w : World} {b : Nat} {r : ByteArray} {l : Row} {ps : Pq} (h : Bef w0 b r l ps w) (hr : r.size ≤ 65536) :
    Calls Tryz.prog 116 #[.pointer (some ⟨b, 0, none⟩)] w fun e w' => NameP w0 b r l ps e w' ∧ KeptR w w' := by
  obtain ⟨c0, f0⟩ := h.cell
  have cE := nameEnd_any r w (by omega)
  obtain ⟨N, hN⟩ : ∃ N, nEnd r.data.toList = N := ⟨_, rfl⟩
  have hNl : N ≤ r.size := by rw [← hN, Lib.size_eq]; exact nEnd_le _
  rw [hN] at cE
  have e1 : (r.extract 0 N).data.toList = r.data.toList.takeWhile nxB := by
    rw [Lib.extract_data]
    show (r.data.toList.take N) = _
    rw [← hN]; exact takeWhile_take nxB _
  have e2 : (r.extract N r.size).data.toList = r.data.toList.dropWhile nxB := by
    rw [Lib.extract_to_end r N, ← hN]; exact takeWhile_drop nxB _
  have hc := nameC_cut r.data.toList
  rw [← e1, ← e2] at hc
  have hp := Lib.hid (h.put (r.extract N r.size))
  have hbl := Lib.hid h.bel
  have cI := isName_any (r.extract 0 N) w (by
    have := congrArg List.length e1
    have h2 := (List.takeWhile_sublist nxB (l := r.data.toList)).length_le
    rw [← Lib.size_eq] at this h2
    omega)
  clear h e1 e2 hN
  obtain ⟨K, hK⟩ : ∃ K, nameB (r.extract 0 N).data.toList = K := ⟨_, rfl⟩
  rw [hK] at cI hc
  cases K with
  | true =>
    have hc' := Lib.hid hc
    clear hc hK
    go_enter Tryz.func116, Tryz.ntmps116
    go_wp2_with fail
    go_at_call 136
    with_reducible refine cE.mono ?_
    rintro e w4 ⟨rfl, rfl⟩
    clear cE
    go_wp2_with fail
    go_at_call 125
    with_reducible refine cI.mono ?_
    rintro e w5 ⟨rfl, rfl⟩
    clear cI
    go_wp2
    go_ret
    exact ⟨.inl ⟨_, _, hc'.out, rfl, hp.out.1⟩, hp.out.2⟩
  | false =>
    have hc' := Lib.hid hc
    clear hc hK
    go_enter Tryz.func116, Tryz.ntmps116
    go_wp2_with fail
    go_at_call 136
    with_reducible refine cE.mono ?_
    rintro e w4 ⟨rfl, rfl⟩
    clear cE
    go_wp2_with fail
    go_at_call 125
    with_reducible refine cI.mono ?_
    rintro e w5 ⟨rfl, rfl⟩
    clear cI
    have cG := giveUp_any w5
    unfold gone at cG
    go_wp2_with fail
    go_at_call 72
    with_reducible refine cG.mono ?_
    rintro e w5 ⟨rfl, rfl⟩
    go_wp2
    exact ⟨rfl, .inr ⟨hc'.out, rfl, hbl.out⟩, KeptR.refl _⟩

theorem written_parts (t : Row) : written t = match nameC t with
  | none => none
  | some (n, u) => if ([58] : Row).isPrefixOf u = true then (nameC (u.drop 1)).map fun q => (n, q.1, q.2) else some ([], n, u) := by
  unfold written
  cases h : nameC t with
  | none => rfl
  | some p =>
    obtain ⟨n, u⟩ := p
    rw [Option.bind_some]
    simp only
    cases u with
    | nil => rfl
    | cons c v =>
      by_cases hc : c = 58
      · subst hc; rfl
      · rw [if_neg (by rw [pre1 (fun e => hc e.symm)]; decide)]
        split
        · rename_i e; injection e with e1 _; exact absurd e1 hc
        · rfl
def FullP (w0 : World) (b : Nat) (r : ByteArray) (l : Row) (ps : Pq) (e : Ending) (w' : World) : Prop :=
  (∃ p n r' : ByteArray, written r.data.toList = some (p.data.toList, n.data.toList, r'.data.toList) ∧ e = .returned (.tuple #[.string p, .string n]) ∧ Bef w0 b r' l ps w') ∨ (written r.data.toList = none ∧ e = gone ∧ Below w0.heap.size w0 w')
theorem nameC_size {r n r' : ByteArray} (h : nameC r.data.toList = some (n.data.toList, r'.data.toList)) : r'.size < r.size := by
  have := nameC_len h
  rw [← Lib.size_eq, ← Lib.size_eq] at this
  exact this
theorem pre_size {r s r' : ByteArray} (h : r.data.toList = s.data.toList ++ r'.data.toList) : r.size = s.size + r'.size := by
  have := congrArg List.length h
  rw [List.length_append, ← Lib.size_eq, ← Lib.size_eq, ← Lib.size_eq] at this
  exact this
set_option maxHeartbeats 1000000 in
set_option maxRecDepth 100000 in
theorem fullName_any {w0 w : World} {b : Nat} {r : ByteArray} {l : Row} {ps : Pq} (h : Bef w0 b r l ps w) (hr : r.size ≤ 65536) :
    Calls Tryz.prog 100 #[.pointer (some ⟨b, 0, none⟩)] w fun e w' => FullP w0 b r l ps e w' ∧ KeptR w w' := by
  have cN := name_any h hr
  have hwr := written_parts r.data.toList
  clear h
  go_enter Tryz.func100, Tryz.ntmps100
  go_wp2_with fail
  go_at_call 116
  with_reducible refine cN.mono ?_
  rintro e w4 ⟨hq, hk4⟩
  clear cN
  have hk4' := Lib.hid hk4
  clear hk4
  rcases hq with ⟨n, r', hn, rfl, h4⟩ | ⟨hn, rfl, h4⟩
  · rw [hn] at hwr
    simp only at hwr
    have hsz := nameC_size hn
    have cT := take_any h4 ⟨#[58]⟩
    clear hn h4
    go_wp2_with fail
    go_at_call 68
    with_reducible refine cT.mono ?_
    rintro e w5 ⟨hq, hk5⟩
    clear cT
    have hk5' := Lib.hid (hk4'.out.trans hk5)
    clear hk5 hk4'
    rcases hq with ⟨r2, hy, rfl, h5⟩ | ⟨hn, rfl, h5⟩
    · have hsz2 := pre_size hy
      have e1 : r'.data.toList = 58 :: r2.data.toList := hy
      rw [e1, if_pos (by simp)] at hwr
      have hwr' : written r.data.toList = (nameC r2.data.toList).map fun q => (n.data.toList, q.1, q.2) := hwr
      have cN2 := name_any h5 (by omega)
      clear hy e1 hwr h5
      go_wp2_with fail
      go_at_call 116
      with_reducible refine cN2.mono ?_
      rintro e w6 ⟨hq, hk6⟩
      clear cN2
      have hk6' := Lib.hid (hk5'.out.trans hk6)
      clear hk6 hk5'
      rcases hq with ⟨n2, r3, hn, rfl, h6⟩ | ⟨hn, rfl, h6⟩
      · have hf := Lib.hid (show FullP w0 b r l ps (.returned (.tuple #[.string n, .string n2])) w6 from .inl ⟨n, n2, r3, by rw [hwr', hn]; rfl, rfl, h6⟩)
        clear hwr' hn h6
        go_wp2
        go_ret2
        exact ⟨hf.out, hk6'.out⟩
      · have hf := Lib.hid (show FullP w0 b r l ps gone w6 from .inr ⟨by rw [hwr', hn]; rfl, rfl, h6⟩)
        clear hwr' hn h6
        unfold gone at hf ⊢
        go_wp2
        exact ⟨rfl, hf.out, hk6'.out⟩
    · have e1 : ([58] : Row).isPrefixOf r'.data.toList = false := hn
      rw [e1, if_neg (by decide)] at hwr
      have hf := Lib.hid (show FullP w0 b r l ps (.returned (.tuple #[.string ⟨#[]⟩, .string n])) w5 from .inl ⟨⟨#[]⟩, n, r', hwr, rfl, h5⟩)
      clear e1 hn h5 hwr
      go_wp2
      go_ret2
      exact ⟨hf.out, hk5'.out⟩
  · rw [hn] at hwr
    have hf := Lib.hid (show FullP w0 b r l ps gone w4 from .inr ⟨hwr, rfl, h4⟩)
    clear hwr hn h4
    unfold gone at hf ⊢
    go_wp2
    exact ⟨rfl, hf.out, hk4'.out⟩
end Go.Proofs.YtmmpojhjpghdlaaGreatDoor.Xm

/-
  WALKS OF THE PROGRAM's READER OF LAYER xml: quoted, remark, aside, spaceOf. (wip/tools/genxmld.py)
-/
set_option linter.unusedVariables false
namespace Go.Proofs.YtmmpojhjpghdlaaGreatDoor.Xm
open Go.Lib Go.RowKit

theorem find_sizes {p l : Row} {a r : ByteArray} (hp : p ≠ []) (h : find p l = some (a.data.toList, r.data.toList)) : a.size ≤ l.length ∧ r.size < l.length := by
  have e := find_some hp h
  have := congrArg List.length e
  have h2 := List.length_pos_iff.2 hp
  rw [List.length_append, List.length_append, ← Lib.size_eq, ← Lib.size_eq] at this
  omega
theorem bind_find_none {f : Row × Row → Option (Row × Row)} {o : Option (Row × Row)} (h : o = none) : o.bind f = none := by rw [h]; rfl

/-- a declaration's value, behind its = -/
def QuP (w0 : World) (b : Nat) (r : ByteArray) (l : Row) (ps : Pq) (e : Ending) (w' : World) : Prop :=
  (∃ v r' : ByteArray, quoted (61 :: r.data.toList) = some (v.data.toList, r'.data.toList) ∧ e = .returned (.string v) ∧ Bef w0 b r' l ps w') ∨ (quoted (61 :: r.data.toList) = none ∧ e = gone ∧ Below w0.heap.size w0 w')
theorem qu_yes {w0 w' : World} {b : Nat} {r r2 v r' : ByteArray} {l : Row} {ps : Pq} {q : UInt8} (hq : q = 34 ∨ q = 39) (h : r.data.toList = q :: r2.data.toList) (hf : find [q] r2.data.toList = some (v.data.toList, r'.data.toList)) (hv : (find [60] v.data.toList).isSome = false) (hb : Bef w0 b r' l ps w') : QuP w0 b r l ps (.returned (.string v)) w' := by
  refine .inl ⟨v, r', ?_, rfl, hb⟩
  rw [find_has] at hv
  rw [h, quoted_is hq, hf, Option.bind_some]
  simp only
  rw [if_neg (of_decide_eq_false hv)]
theorem qu_no1 {w0 w' : World} {b : Nat} {r r2 : ByteArray} {l : Row} {ps : Pq} {q : UInt8} (hq : q = 34 ∨ q = 39) (h : r.data.toList = q :: r2.data.toList) (hf : find [q] r2.data.toList = none) (hb : Below w0.heap.size w0 w') : QuP w0 b r l ps gone w' := by
  refine .inr ⟨?_, rfl, hb⟩
  rw [h, quoted_is hq, hf]; rfl
theorem qu_no2 {w0 w' : World} {b : Nat} {r r2 v r' : ByteArray} {l : Row} {ps : Pq} {q : UInt8} (hq : q = 34 ∨ q = 39) (h : r.data.toList = q :: r2.data.toList) (hf : find [q] r2.data.toList = some (v.data.toList, r'.data.toList)) (hv : (find [60] v.data.toList).isSome = true) (hb : Below w0.heap.size w0 w') : QuP w0 b r l ps gone w' := by
  refine .inr ⟨?_, rfl, hb⟩
  rw [find_has] at hv
  rw [h, quoted_is hq, hf, Option.bind_some]
  simp only
  rw [if_pos (of_decide_eq_true hv)]
theorem qu_no3 {w0 w' : World} {b : Nat} {r : ByteArray} {l : Row} {ps : Pq} (h1 : ([34] : Row).isPrefixOf r.data.toList = false) (h2 : ([39] : Row).isPrefixOf r.data.toList = false) (hb : Below w0.heap.size w0 w') : QuP w0 b r l ps gone w' := by
  refine .inr ⟨?_, rfl, hb⟩
  refine quoted_sign (fun e => ?_) (fun e => ?_)
  · cases hr : r.data.toList with
    | nil => rw [hr] at e; cases e
    | cons x t => rw [hr] at e h1; simp at e; subst e; simp at h1
  · cases hr : r.data.toList with
    | nil => rw [hr] at e; cases e
    | cons x t => rw [hr] at e h2; simp at e; subst e; simp at h2

set_option maxHeartbeats 2000000 in
set_option maxRecDepth 100000 in
theorem quoted_any {w0 w : World} (hG : Gw w0) {b : Nat} {r : ByteArray} {l : Row} {ps : Pq} (h : Bef w0 b r l ps w) (hr : r.size ≤ 65536) :
    Calls Tryz.prog 118 #[.pointer (some ⟨b, 0, none⟩)] w fun e w' => QuP w0 b r l ps e w' ∧ KeptR w w' := by
  have cT := take_any h ⟨#[34]⟩
  clear h
  go_enter Tryz.func118, Tryz.ntmps118
  go_wp2_with fail
  go_at_call 68
  with_reducible refine cT.mono ?_
  rintro e w4 ⟨hq, hk4⟩
  clear cT
  have hk4' := Lib.hid hk4
  clear hk4
  rcases hq with ⟨r2, hy, rfl, h4⟩ | ⟨hn, rfl, h4⟩
  · have hk5' := hk4'
    have h5 := h4
    clear hk4' h4
    have hsz2 := pre_size hy
    have hy' : Hid (r.data.toList = 34 :: r2.data.toList) := Lib.hid hy
    have cU := until_any hG h5 ⟨#[34]⟩ (by decide) (by omega)
    clear hy h5
    go_wp2_with fail
    go_at_call 69
    with_reducible refine cU.mono ?_
    rintro e w6 ⟨hq, hk6⟩
    clear cU
    have hk6' := Lib.hid (hk5'.out.trans hk6)
    clear hk6 hk5'
    rcases hq with ⟨v, r3, hf, rfl, h6⟩ | ⟨hn, rfl, h6⟩
    · have hf' : Hid (find [34] r2.data.toList = some (v.data.toList, r3.data.toList)) := Lib.hid hf
      have hvs := (find_sizes (by decide) hf).1
      rw [← Lib.size_eq] at hvs
      have cC := contains_any v ⟨#[60]⟩ (by decide) w6 (h6.gw hG) (by omega)
      obtain ⟨K, hK⟩ : ∃ K, (find (⟨#[60]⟩ : ByteArray).data.toList v.data.toList).isSome = K := ⟨_, rfl⟩
      rw [hK] at cC
      have hK' : Hid ((find [60] v.data.toList).isSome = K) := Lib.hid hK
      have h6' := Lib.hid h6
      clear hf hK h6
      cases K with
      | true =>
        go_wp2_with fail
        go_at_call 115
        with_reducible refine cC.mono ?_
        rintro e w7 ⟨rfl, rfl⟩
        have cG := giveUp_any w7
        have hfin := Lib.hid (show QuP w0 b r l ps gone w7 from qu_no2 (.inl rfl) hy'.out hf'.out hK'.out h6'.out.bel)
        clear cC hf' hK' h6' hy'
        unfold gone at cG hfin
        go_wp2_with fail
        go_at_call 72
        with_reducible refine cG.mono ?_
        rintro e w5 ⟨rfl, rfl⟩
        go_wp2
        exact ⟨rfl, hfin.out, hk6'.out⟩
      | false =>
        go_wp2_with fail
        go_at_call 115
        with_reducible refine cC.mono ?_
        rintro e w7 ⟨rfl, rfl⟩
        have hfin := Lib.hid (show QuP w0 b r l ps (.returned (.string v)) w7 from qu_yes (.inl rfl) hy'.out hf'.out hK'.out h6'.out)
        clear cC hf' hK' h6' hy'
        go_wp2
        go_ret
        exact ⟨hfin.out, hk6'.out⟩
    · have hfin := Lib.hid (show QuP w0 b r l ps gone w6 from qu_no1 (.inl rfl) hy'.out hn h6)
      clear hn h6 hy'
      unfold gone at hfin ⊢
      go_wp2
      exact ⟨rfl, hfin.out, hk6'.out⟩
  · have cN := need_any h4 ⟨#[39]⟩
    have hn1 : Hid (([34] : Row).isPrefixOf r.data.toList = false) := Lib.hid hn
    clear hn h4
    go_wp2_with fail
    go_at_call 99
    with_reducible refine cN.mono ?_
    rintro e w5 ⟨hq, hk5⟩
    clear cN
    have hk5' := Lib.hid (hk4'.out.trans hk5)
    clear hk5 hk4'
    rcases hq with ⟨r2, hy, rfl, h5⟩ | ⟨hn, rfl, h5⟩
    · clear hn1
      have hsz2 := pre_size hy
      have hy' : Hid (r.data.toList = 39 :: r2.data.toList) := Lib.hid hy
      have cU := until_any hG h5 ⟨#[39]⟩ (by decide) (by omega)
      clear hy h5
      go_wp2_with fail
      go_at_call 69
      with_reducible refine cU.mono ?_
      rintro e w6 ⟨hq, hk6⟩
      clear cU
      have hk6' := Lib.hid (hk5'.out.trans hk6)
      clear hk6 hk5'
      rcases hq with ⟨v, r3, hf, rfl, h6⟩ | ⟨hn, rfl, h6⟩
      · have hf' : Hid (find [39] r2.data.toList = some (v.data.toList, r3.data.toList)) := Lib.hid hf
        have hvs := (find_sizes (by decide) hf).1
        rw [← Lib.size_eq] at hvs
        have cC := contains_any v ⟨#[60]⟩ (by decide) w6 (h6.gw hG) (by omega)
        obtain ⟨K, hK⟩ : ∃ K, (find (⟨#[60]⟩ : ByteArray).data.toList v.data.toList).isSome = K := ⟨_, rfl⟩
        rw [hK] at cC
        have hK' : Hid ((find [60] v.data.toList).isSome = K) := Lib.hid hK
        have h6' := Lib.hid h6
        clear hf hK h6
        cases K with
        | true =>
          go_wp2_with fail
          go_at_call 115
          with_reducible refine cC.mono ?_
          rintro e w7 ⟨rfl, rfl⟩
          have cG := giveUp_any w7
          have hfin := Lib.hid (show QuP w0 b r l ps gone w7 from qu_no2 (.inr rfl) hy'.out hf'.out hK'.out h6'.out.bel)
          clear cC hf' hK' h6' hy'
          unfold gone at cG hfin
          go_wp2_with fail
          go_at_call 72
          with_reducible refine cG.mono ?_
          rintro e w5 ⟨rfl, rfl⟩
          go_wp2
          exact ⟨rfl, hfin.out, hk6'.out⟩
        | false =>
          go_wp2_with fail
          go_at_call 115
          with_reducible refine cC.mono ?_
          rintro e w7 ⟨rfl, rfl⟩
          have hfin := Lib.hid (show QuP w0 b r l ps (.returned (.string v)) w7 from qu_yes (.inr rfl) hy'.out hf'.out hK'.out h6'.out)
          clear cC hf' hK' h6' hy'
          go_wp2
          go_ret
          exact ⟨hfin.out, hk6'.out⟩
      · have hfin := Lib.hid (show QuP w0 b r l ps gone w6 from qu_no1 (.inr rfl) hy'.out hn h6)
        clear hn h6 hy'
        unfold gone at hfin ⊢
        go_wp2
        exact ⟨rfl, hfin.out, hk6'.out⟩
    · have hfin := Lib.hid (show QuP w0 b r l ps gone w5 from qu_no3 hn1.out hn h5)
      clear hn h5 hn1
      unfold gone at hfin ⊢
      go_wp2
      exact ⟨rfl, hfin.out, hk5'.out⟩

/-- a remark, or none -/
def RemP (w0 : World) (b : Nat) (r : ByteArray) (l : Row) (ps : Pq) (e : Ending) (w' : World) : Prop :=
  (∃ (t : Row) (r' : ByteArray), r.data.toList = remarkS ++ t ∧ Xm.remark t = some r'.data.toList ∧ e = .returned (.bool true) ∧ Bef w0 b r' l ps w') ∨ (remarkS.isPrefixOf r.data.toList = false ∧ e = .returned (.bool false) ∧ Bef w0 b r l ps w') ∨
  ∃ t : Row, r.data.toList = remarkS ++ t ∧ Xm.remark t = none ∧ e = gone ∧ Below w0.heap.size w0 w'
set_option maxHeartbeats 2000000 in
set_option maxRecDepth 100000 in
theorem remark_any {w0 w : World} (hG : Gw w0) {b : Nat} {r : ByteArray} {l : Row} {ps : Pq} (h : Bef w0 b r l ps w) (hr : r.size ≤ 65536) :
    Calls Tryz.prog 98 #[.pointer (some ⟨b, 0, none⟩)] w fun e w' => RemP w0 b r l ps e w' ∧ KeptR w w' := by
  have cT := take_any h ⟨#[60, 33, 45, 45]⟩
  clear h
  go_enter Tryz.func98, Tryz.ntmps98
  go_wp2_with fail
  go_at_call 68
  with_reducible refine cT.mono ?_
  rintro e w4 ⟨hq, hk4⟩
  clear cT
  have hk4' := Lib.hid hk4
  clear hk4
  rcases hq with ⟨r2, hy, rfl, h4⟩ | ⟨hn, rfl, h4⟩
  · have hsz2 := pre_size hy
    have hy' : Hid (r.data.toList = remarkS ++ r2.data.toList) := Lib.hid hy
    have cU := until_any hG h4 ⟨#[45, 45, 62]⟩ (by decide) (by omega)
    clear hy h4
    go_wp2_with fail
    go_at_call 69
    with_reducible refine cU.mono ?_
    rintro e w6 ⟨hq, hk6⟩
    clear cU
    have hk6' := Lib.hid (hk4'.out.trans hk6)
    clear hk6 hk4'
    rcases hq with ⟨v, r3, hf, rfl, h6⟩ | ⟨hn, rfl, h6⟩
    · have hf' : Hid (find [45, 45, 62] r2.data.toList = some (v.data.toList, r3.data.toList)) := Lib.hid hf
      have hvs := (find_sizes (by decide) hf).1
      rw [← Lib.size_eq] at hvs
      have cC := contains_any v ⟨#[45, 45]⟩ (by decide) w6 (h6.gw hG) (by omega)
      obtain ⟨K, hK⟩ : ∃ K, (find (⟨#[45, 45]⟩ : ByteArray).data.toList v.data.toList).isSome = K := ⟨_, rfl⟩
      rw [hK] at cC
      have hK' : Hid ((find [45, 45] v.data.toList).isSome = K) := Lib.hid hK
      have h6' := Lib.hid h6
      clear hf hK h6
      cases K with
      | true =>
        go_wp2_with fail
        go_at_call 115
        with_reducible refine cC.mono ?_
        rintro e w7 ⟨rfl, rfl⟩
        have cG := giveUp_any w7
        have hfin := Lib.hid (show RemP w0 b r l ps gone w7 from .inr (.inr ⟨_, hy'.out, by unfold Xm.remark; rw [hf'.out, Option.bind_some]; simp only; rw [if_pos hK'.out], rfl, h6'.out.bel⟩))
        clear cC hf' hK' h6' hy'
        unfold gone at cG hfin
        go_wp2_with fail
        go_at_call 72
        with_reducible refine cG.mono ?_
        rintro e w5 ⟨rfl, rfl⟩
        go_wp2
        exact ⟨rfl, hfin.out, hk6'.out⟩
      | false =>
        go_wp2_with fail
        go_at_call 115
        with_reducible refine cC.mono ?_
        rintro e w7 ⟨rfl, rfl⟩
        have hfin := Lib.hid (show RemP w0 b r l ps (.returned (.bool true)) w7 from .inl ⟨_, r3, hy'.out, by unfold Xm.remark; rw [hf'.out, Option.bind_some]; simp only; rw [if_neg (by rw [hK'.out]; decide)], rfl, h6'.out⟩)
        clear cC hf' hK' h6' hy'
        go_wp2
        go_ret
        exact ⟨hfin.out, hk6'.out⟩
    · have hfin := Lib.hid (show RemP w0 b r l ps gone w6 from .inr (.inr ⟨_, hy'.out, by unfold Xm.remark; rw [show find [45, 45, 62] r2.data.toList = none from hn]; rfl, rfl, h6⟩))
      clear hn h6 hy'
      unfold gone at hfin ⊢
      go_wp2
      exact ⟨rfl, hfin.out, hk6'.out⟩
  · have hfin := Lib.hid (show RemP w0 b r l ps (.returned (.bool false)) w4 from .inr (.inl ⟨hn, rfl, h4⟩))
    clear hn h4
    go_wp2
    go_ret
    exact ⟨hfin.out, hk4'.out⟩

/-! ### the spaces that values name -/
set_option maxHeartbeats 2000000 in
set_option maxRecDepth 100000 in
theorem spaceOf_any (v : ByteArray) (w : World) : Calls Tryz.prog 117 #[.string v] w fun e w' => e = .returned (.int .i64 (spaceOf v.data.toList)) ∧ w' = w := by
  unfold spaceOf
  by_cases h0 : v.data.toList = []
  · have hl : v.toList = [] := by rw [Lib.toList_data, h0]
    have he : v.toList.isEmpty = true := by rw [hl]; rfl
    rw [if_pos h0]
    clear h0
    go_enter Tryz.func117, Tryz.ntmps117
    go_wp2
    go_ret
    exact ⟨rfl, rfl⟩
  · rw [if_neg h0]
    have hl : ¬ v.toList = [] := by rw [Lib.toList_data]; exact h0
    have he : v.toList.isEmpty = false := by
      cases hv : v.toList with
      | nil => exact absurd hv hl
      | cons x t => rfl
    by_cases h1 : v.data.toList = davS
    · rw [if_pos h1]
      have e1 : (v.toList == [68, 65, 86, 58]) = true := by rw [Lib.toList_data, h1]; rfl
      have e1' : v.toList = [68, 65, 86, 58] := by rw [Lib.toList_data, h1]; rfl
      clear h0 h1
      go_enter Tryz.func117, Tryz.ntmps117
      go_wp2
      go_ret
      exact ⟨rfl, rfl⟩
    · rw [if_neg h1]
      have e1' : ¬ v.toList = [68, 65, 86, 58] := by rw [Lib.toList_data]; exact h1
      have e1 : (v.toList == [68, 65, 86, 58]) = false := beq_eq_false_iff_ne.2 e1'
      by_cases h2 : v.data.toList = cardS
      · rw [if_pos h2]
        have e2' : v.toList = [117, 114, 110, 58, 105, 101, 116, 102, 58, 112, 97, 114, 97, 109, 115, 58, 120, 109, 108, 58, 110, 115, 58, 99, 97, 114, 100, 100, 97, 118] := by rw [Lib.toList_data, h2]; rfl
        have e2 : (v.toList == [117, 114, 110, 58, 105, 101, 116, 102, 58, 112, 97, 114, 97, 109, 115, 58, 120, 109, 108, 58, 110, 115, 58, 99, 97, 114, 100, 100, 97, 118]) = true := by rw [e2']; decide
        clear h0 h1 h2
        go_enter Tryz.func117, Tryz.ntmps117
        go_wp2
        go_ret
        exact ⟨rfl, rfl⟩
      · rw [if_neg h2]
        have e2' : ¬ v.toList = [117, 114, 110, 58, 105, 101, 116, 102, 58, 112, 97, 114, 97, 109, 115, 58, 120, 109, 108, 58, 110, 115, 58, 99, 97, 114, 100, 100, 97, 118] := by rw [Lib.toList_data]; exact h2
        have e2 : (v.toList == [117, 114, 110, 58, 105, 101, 116, 102, 58, 112, 97, 114, 97, 109, 115, 58, 120, 109, 108, 58, 110, 115, 58, 99, 97, 114, 100, 100, 97, 118]) = false := beq_eq_false_iff_ne.2 e2'
        clear h0 h1 h2
        go_enter Tryz.func117, Tryz.ntmps117
        go_wp2
        go_ret
        exact ⟨rfl, rfl⟩
end Go.Proofs.YtmmpojhjpghdlaaGreatDoor.Xm

/-
  WALKS OF strings.IndexRune at whatever two bytes or more below 128 are looked for (at most 64).
-/
set_option linter.unusedVariables false
namespace Go.Proofs.YtmmpojhjpghdlaaGreatDoor.An
open Go.Lib Go.RowKit

theorem drewN_below {a w : World} (n : Nat) (h : Below a.heap.size a w) : Below a.heap.size a (w.drewN n) := ⟨h.os, h.tape, h.output, h.size, h.block⟩
theorem quiet_again {P : Program} {f : FuncId} {args : Array Value} {w : World} {a n : Nat} {v : Value}
    (h : Calls P f args (w.drewN (a + n)) fun e w' => e = .returned v ∧ w' = w.drewN (a + n)) :
    Calls P f args (w.drewN (a + n)) fun e w'' => e = .returned v ∧ ∃ m, w'' = w.drewN (a + m) :=
  h.mono fun _ _ ⟨he, hm⟩ => ⟨he, n, hm⟩
theorem valid_of (r : Int) (h : Lib.validRune r = true) : Utf8.valid r = true := by
  unfold Lib.validRune at h
  unfold Utf8.valid
  have h := of_decide_eq_true h
  simp
  omega
/-- bytes below 128 -/
def Asc (cs : ByteArray) : Prop := ∀ (j : Nat) b, cs.data.toList[j]? = some b → b.toNat < 128
theorem Asc.at {cs : ByteArray} (h : Asc cs) (i : Nat) (hi : i < cs.size) : (cs[i]'hi).toNat < 128 := h i _ (Lib.data_getElem? cs i hi)
theorem Asc.cut {cs : ByteArray} (h : Asc cs) (k : Nat) : Asc (cs.extract k cs.size) := fun j b hb => by
  rw [Lib.extract_to_end, List.getElem?_drop] at hb
  exact h _ _ hb
theorem Asc.none {cs : ByteArray} (h : Asc cs) (c : Int) (h1 : 128 ≤ c) (h2 : c < 256) : Lib.indexByte cs.data.toList c.toNat.toUInt8 = -1 := by
  have hge := Lib.indexByte_ge cs.data.toList c.toNat.toUInt8
  by_cases hn : Lib.indexByte cs.data.toList c.toNat.toUInt8 = -1
  · exact hn
  · obtain ⟨k, hk⟩ : ∃ k : Nat, Lib.indexByte cs.data.toList c.toNat.toUInt8 = k := ⟨(Lib.indexByte cs.data.toList c.toNat.toUInt8).toNat, by omega⟩
    have := h k _ (Lib.indexByte_some hk).1
    have e : c.toNat.toUInt8.toNat = c.toNat := by simp [UInt8.toNat_ofNat']; omega
    rw [e] at this
    omega


set_option maxHeartbeats 2000000 in
set_option maxRecDepth 1000000 in
theorem indexRune_far2 (cs : ByteArray) (c : Nat) (rs : ByteArray) (w : World) (h1 : 128 ≤ c) (d2 : ((c : Int) == 65533) = false) (hrs : Utf8.encode (c : Int) = rs) (h2 : rs.size = 2) (hcs : cs.size ≤ 1)
    (cV : ∀ W, Calls Tryz.prog 140 #[.int .i32 (c : Int)] W fun e w' => e = .returned (.bool true) ∧ w' = W) :
    Calls Tryz.prog 156 #[.string cs, .int .i32 (c : Int)] w fun e w' => e = .returned (.int .i64 (-1)) ∧ Below w.heap.size w w' := by
  go_enter Tryz.func156, Tryz.ntmps156
  go_wp2_with (go_at_call 140; refine (cV _).mono ?_; rintro e w' ⟨rfl, rfl⟩)
  go_step3
  go_wp2
  refine wp_loop_rounds 1 ?_
  rw [rounds_succ]
  go_wp2
  rw [Exit.noGoto_ret]
  go_ret
  exact ⟨rfl, Below.refl _ _⟩

set_option maxHeartbeats 2000000 in
set_option maxRecDepth 1000000 in
theorem indexRune_near2 (cs : ByteArray) (ha : Asc cs) (c : Nat) (rs : ByteArray) (w : World) (h1 : 128 ≤ c) (d2 : ((c : Int) == 65533) = false) (hrs : Utf8.encode (c : Int) = rs) (h2 : rs.size = 2) (hl : 1 < rs.size) (hb : 128 ≤ (rs[1]'hl).toNat) (hcs : 1 < cs.size) (hbig : cs.size ≤ 64)
    (cV : ∀ W, Calls Tryz.prog 140 #[.int .i32 (c : Int)] W fun e w' => e = .returned (.bool true) ∧ w' = W) :
    Calls Tryz.prog 156 #[.string cs, .int .i32 (c : Int)] w fun e w' => e = .returned (.int .i64 (-1)) ∧ Below w.heap.size w w' := by
  have e10 := ha.at 1 hcs
  have dne : ((((cs[1]'hcs)).toNat : Int) != ((rs[1]'hl).toNat : Int)) = true := by rw [bne_iff_ne]; omega
  have hlt := (rs[1]'hl).toNat_lt
  have cB := fun W => Tryz.strings_IndexByte (cs.extract 2 cs.size) ((rs[1]'hl).toNat : Int) W
  rw [(ha.cut 2).none ((rs[1]'hl).toNat : Int) (by omega) (by omega)] at cB
  clear e10
  go_enter Tryz.func156, Tryz.ntmps156
  go_wp2_with (go_at_call 140; refine (cV _).mono ?_; rintro e w' ⟨rfl, rfl⟩)
  go_step3
  go_wp2
  refine wp_loop_rounds 1 ?_
  rw [rounds_succ]
  go_wp2
  go_step3
  go_wp2
  go_quiet (fail)
  go_wp2
  have w2 : IntKind.i64.wrap 2 = 2 := by decide
  go_quiet ((go_at_call 167; exact quiet_again (cB _)))
  go_wp2
  rw [Exit.noGoto_ret]
  go_simp
  go_ret
  exact ⟨rfl, drewN_below _ (Below.refl _ _)⟩


set_option maxHeartbeats 2000000 in
set_option maxRecDepth 1000000 in
theorem indexRune_far3 (cs : ByteArray) (c : Nat) (rs : ByteArray) (w : World) (h1 : 128 ≤ c) (d2 : ((c : Int) == 65533) = false) (hrs : Utf8.encode (c : Int) = rs) (h2 : rs.size = 3) (hcs : cs.size ≤ 2)
    (cV : ∀ W, Calls Tryz.prog 140 #[.int .i32 (c : Int)] W fun e w' => e = .returned (.bool true) ∧ w' = W) :
    Calls Tryz.prog 156 #[.string cs, .int .i32 (c : Int)] w fun e w' => e = .returned (.int .i64 (-1)) ∧ Below w.heap.size w w' := by
  go_enter Tryz.func156, Tryz.ntmps156
  go_wp2_with (go_at_call 140; refine (cV _).mono ?_; rintro e w' ⟨rfl, rfl⟩)
  go_step3
  go_wp2
  refine wp_loop_rounds 1 ?_
  rw [rounds_succ]
  go_wp2
  rw [Exit.noGoto_ret]
  go_ret
  exact ⟨rfl, Below.refl _ _⟩

set_option maxHeartbeats 2000000 in
set_option maxRecDepth 1000000 in
theorem indexRune_near3 (cs : ByteArray) (ha : Asc cs) (c : Nat) (rs : ByteArray) (w : World) (h1 : 128 ≤ c) (d2 : ((c : Int) == 65533) = false) (hrs : Utf8.encode (c : Int) = rs) (h2 : rs.size = 3) (hl : 2 < rs.size) (hb : 128 ≤ (rs[2]'hl).toNat) (hcs : 2 < cs.size) (hbig : cs.size ≤ 64)
    (cV : ∀ W, Calls Tryz.prog 140 #[.int .i32 (c : Int)] W fun e w' => e = .returned (.bool true) ∧ w' = W) :
    Calls Tryz.prog 156 #[.string cs, .int .i32 (c : Int)] w fun e w' => e = .returned (.int .i64 (-1)) ∧ Below w.heap.size w w' := by
  have e10 := ha.at 2 hcs
  have dne : ((((cs[2]'hcs)).toNat : Int) != ((rs[2]'hl).toNat : Int)) = true := by rw [bne_iff_ne]; omega
  have hlt := (rs[2]'hl).toNat_lt
  have cB := fun W => Tryz.strings_IndexByte (cs.extract 3 cs.size) ((rs[2]'hl).toNat : Int) W
  rw [(ha.cut 3).none ((rs[2]'hl).toNat : Int) (by omega) (by omega)] at cB
  clear e10
  go_enter Tryz.func156, Tryz.ntmps156
  go_wp2_with (go_at_call 140; refine (cV _).mono ?_; rintro e w' ⟨rfl, rfl⟩)
  go_step3
  go_wp2
  refine wp_loop_rounds 1 ?_
  rw [rounds_succ]
  go_wp2
  go_step3
  go_wp2
  go_quiet (fail)
  go_wp2
  have w2 : IntKind.i64.wrap 3 = 3 := by decide
  go_quiet ((go_at_call 167; exact quiet_again (cB _)))
  go_wp2
  rw [Exit.noGoto_ret]
  go_simp
  go_ret
  exact ⟨rfl, drewN_below _ (Below.refl _ _)⟩


set_option maxHeartbeats 2000000 in
set_option maxRecDepth 1000000 in
theorem indexRune_far4 (cs : ByteArray) (c : Nat) (rs : ByteArray) (w : World) (h1 : 128 ≤ c) (d2 : ((c : Int) == 65533) = false) (hrs : Utf8.encode (c : Int) = rs) (h2 : rs.size = 4) (hcs : cs.size ≤ 3)
    (cV : ∀ W, Calls Tryz.prog 140 #[.int .i32 (c : Int)] W fun e w' => e = .returned (.bool true) ∧ w' = W) :
    Calls Tryz.prog 156 #[.string cs, .int .i32 (c : Int)] w fun e w' => e = .returned (.int .i64 (-1)) ∧ Below w.heap.size w w' := by
  go_enter Tryz.func156, Tryz.ntmps156
  go_wp2_with (go_at_call 140; refine (cV _).mono ?_; rintro e w' ⟨rfl, rfl⟩)
  go_step3
  go_wp2
  refine wp_loop_rounds 1 ?_
  rw [rounds_succ]
  go_wp2
  rw [Exit.noGoto_ret]
  go_ret
  exact ⟨rfl, Below.refl _ _⟩

set_option maxHeartbeats 2000000 in
set_option maxRecDepth 1000000 in
theorem indexRune_near4 (cs : ByteArray) (ha : Asc cs) (c : Nat) (rs : ByteArray) (w : World) (h1 : 128 ≤ c) (d2 : ((c : Int) == 65533) = false) (hrs : Utf8.encode (c : Int) = rs) (h2 : rs.size = 4) (hl : 3 < rs.size) (hb : 128 ≤ (rs[3]'hl).toNat) (hcs : 3 < cs.size) (hbig : cs.size ≤ 64)
    (cV : ∀ W, Calls Tryz.prog 140 #[.int .i32 (c : Int)] W fun e w' => e = .returned (.bool true) ∧ w' = W) :
    Calls Tryz.prog 156 #[.string cs, .int .i32 (c : Int)] w fun e w' => e = .returned (.int .i64 (-1)) ∧ Below w.heap.size w w' := by
  have e10 := ha.at 3 hcs
  have dne : ((((cs[3]'hcs)).toNat : Int) != ((rs[3]'hl).toNat : Int)) = true := by rw [bne_iff_ne]; omega
  have hlt := (rs[3]'hl).toNat_lt
  have cB := fun W => Tryz.strings_IndexByte (cs.extract 4 cs.size) ((rs[3]'hl).toNat : Int) W
  rw [(ha.cut 4).none ((rs[3]'hl).toNat : Int) (by omega) (by omega)] at cB
  clear e10
  go_enter Tryz.func156, Tryz.ntmps156
  go_wp2_with (go_at_call 140; refine (cV _).mono ?_; rintro e w' ⟨rfl, rfl⟩)
  go_step3
  go_wp2
  refine wp_loop_rounds 1 ?_
  rw [rounds_succ]
  go_wp2
  go_step3
  go_wp2
  go_quiet (fail)
  go_wp2
  have w2 : IntKind.i64.wrap 4 = 4 := by decide
  go_quiet ((go_at_call 167; exact quiet_again (cB _)))
  go_wp2
  rw [Exit.noGoto_ret]
  go_simp
  go_ret
  exact ⟨rfl, drewN_below _ (Below.refl _ _)⟩


set_option maxHeartbeats 2000000 in
set_option maxRecDepth 1000000 in
theorem indexRune_big (cs : ByteArray) (ha : Asc cs) (hbig : cs.size ≤ 64) (c : Nat) (w : World) (h1 : 128 ≤ c) (h3 : c ≠ 65533) :
    Calls Tryz.prog 156 #[.string cs, .int .i32 (c : Int)] w fun e w' => e = .returned (.int .i64 (-1)) ∧ Below w.heap.size w w' := by
  have d2 : ((c : Int) == 65533) = false := beq_eq_false_iff_ne.2 (by omega)
  cases hv : Lib.validRune (c : Int)
  · have cV := fun W => Tryz.utf8_ValidRune (c : Int) W
    rw [hv] at cV
    clear hv
    go_enter Tryz.func156, Tryz.ntmps156
    go_wp2_with (go_at_call 140; refine (cV _).mono ?_; rintro e w' ⟨rfl, rfl⟩)
    go_ret
    exact ⟨rfl, Below.refl _ _⟩
  · have cV := fun W => Tryz.utf8_ValidRune (c : Int) W
    rw [hv] at cV
    obtain ⟨hz, hz4, hl⟩ := encode_facts (c : Int) (valid_of _ hv) (by omega)
    clear hv
    obtain ⟨rs, hrs⟩ : ∃ rs, Utf8.encode (c : Int) = rs := ⟨_, rfl⟩
    rw [hrs] at hz hz4
    have hl2 : ∀ h : rs.size - 1 < rs.size, 128 ≤ (rs[rs.size - 1]'h).toNat := by subst hrs; exact hl
    have hsz : rs.size = 2 ∨ rs.size = 3 ∨ rs.size = 4 := by omega
    rcases hsz with h2 | h2 | h2

    · have hb := hl2 (by omega)
      rcases Nat.lt_or_ge 1 cs.size with h | h
      · exact indexRune_near2 cs ha c rs w h1 d2 hrs h2 (by omega) (by simpa only [h2] using hb) h hbig cV
      · exact indexRune_far2 cs c rs w h1 d2 hrs h2 h cV

    · have hb := hl2 (by omega)
      rcases Nat.lt_or_ge 2 cs.size with h | h
      · exact indexRune_near3 cs ha c rs w h1 d2 hrs h2 (by omega) (by simpa only [h2] using hb) h hbig cV
      · exact indexRune_far3 cs c rs w h1 d2 hrs h2 h cV

    · have hb := hl2 (by omega)
      rcases Nat.lt_or_ge 3 cs.size with h | h
      · exact indexRune_near4 cs ha c rs w h1 d2 hrs h2 (by omega) (by simpa only [h2] using hb) h hbig cV
      · exact indexRune_far4 cs c rs w h1 d2 hrs h2 h cV


set_option maxHeartbeats 2000000 in
set_option maxRecDepth 1000000 in
/-- the rune that stands for a broken byte -/
theorem indexRune_err (cs : ByteArray) (ha : Asc cs) (hbig : cs.size ≤ 64) (w : World) : Calls Tryz.prog 156 #[.string cs, .int .i32 65533] w fun e w' => e = .returned (.int .i64 (-1)) ∧ Below w.heap.size w w' := by
  go_enter Tryz.func156, Tryz.ntmps156
  go_wp2
  go_loopg [5, 6] cs.size (fun g _ _ wx => ∃ i : Nat, i + g = cs.size ∧ wx = w.iter cs i)
  case atStart => exact ⟨0, by omega, rfl⟩
  case round =>
    obtain ⟨i, hig, rfl⟩ := hrel
    by_cases hlt : i < cs.size
    · have hai := ha.at i hlt
      have hnx := fun ty => run_next_ascii (P := Tryz.prog) w cs i ty hlt hai
      have d1 : (((cs[i]'hlt).toNat : Int) == 65533) = false := beq_eq_false_iff_ne.2 (by omega)
      obtain ⟨g, rfl⟩ : ∃ g, gk = g + 1 := ⟨gk - 1, by omega⟩
      clear hai
      go_wp2
      go_roundg g
      case measure => omega
      case rel => exact ⟨i + 1, by omega, rfl⟩
    · have hnx := fun ty => run_next_end (P := Tryz.prog) w cs i ty hlt
      go_wp2
      go_ret
      exact ⟨rfl, (Below.refl _ _).alloc (Nat.le_refl _) _⟩

/-- a rune at the front: a byte below 128, or bytes none of which is below -/
theorem dec_facts (l : List UInt8) (hne : l ≠ []) :
    1 ≤ (decodeL l).2 ∧ (decodeL l).2 ≤ l.length ∧ (((decodeL l).1 < 128 ∧ (decodeL l).2 = 1 ∧ (l.getD 0 0).toNat = (decodeL l).1) ∨ (128 ≤ (decodeL l).1 ∧ ∀ j, j < (decodeL l).2 → 128 ≤ (l.getD j 0).toNat)) := by
  have hp := Ch.pos_of_ne hne
  have hw := decodeL_width l
  have hr : Ch.rune l = if decodeL l = (65533, 1) then (0, 0) else decodeL l := by
    rw [Ch.rune_eq l hne, decodeL_N]
    rfl
  by_cases h0 : (l.getD 0 0).toNat < 128
  · have e := Ch.runeN_one l.length (l.getD 0 0).toNat (l.getD 1 0).toNat (l.getD 2 0).toNat (l.getD 3 0).toNat h0
    rw [← Ch.rune_eq l hne, hr] at e
    by_cases hd : decodeL l = (65533, 1)
    · rw [if_pos hd] at e
      have := congrArg Prod.snd e
      simp at this
    · rw [if_neg hd] at e
      rw [e]
      exact ⟨Nat.le_refl _, hp, .inl ⟨h0, rfl, rfl⟩⟩
  · by_cases hd : decodeL l = (65533, 1)
    · rw [hd]
      refine ⟨Nat.le_refl _, hp, .inr ⟨by decide, fun j hj => ?_⟩⟩
      obtain rfl : j = 0 := by simpa using hj
      omega
    · rw [if_neg hd] at hr
      have hk : (Ch.rune l).2 ≠ 0 := by rw [hr]; omega
      obtain ⟨t1, t2, t3, t4⟩ := Ch.rune_tells hne hk
      rw [hr] at t1 t2 t3 t4
      rcases t4 with ⟨t4, _⟩ | ⟨t4, t5⟩
      · omega
      · refine ⟨hw, t1, .inr ⟨t3 t5, fun j hj => ?_⟩⟩
        rcases Nat.eq_zero_or_pos j with rfl | hj0
        · omega
        · exact (t2 j hj0 hj).1


/-- no byte of some in the first k -/
theorem NoAny.more {l cs : List UInt8} {pos n : Nat} (h : Lib.NoAny l cs pos) (ha : ∀ (j : Nat) b, cs[j]? = some b → b.toNat < 128) (hb : ∀ j, j < n → 128 ≤ ((l.drop pos).getD j 0).toNat) : Lib.NoAny l cs (pos + n) := by
  intro j b hj hjb
  by_cases hlt : j < pos
  · exact h j b hlt hjb
  · have := hb (j - pos) (by omega)
    rw [List.getD_eq_getElem?_getD, List.getElem?_drop, show pos + (j - pos) = j by omega, hjb] at this
    rw [Bool.eq_false_iff]
    intro hm
    obtain ⟨k, hk⟩ := List.mem_iff_getElem?.1 (by simpa using hm)
    have := ha k b hk
    simp at *
    omega
theorem NoAny.one {l cs : List UInt8} {pos : Nat} {x : UInt8} (h : Lib.NoAny l cs pos) (hx : l[pos]? = some x) (hn : cs.contains x = false) : Lib.NoAny l cs (pos + 1) := by
  intro j b hj hjb
  by_cases hlt : j < pos
  · exact h j b hlt hjb
  · obtain rfl : j = pos := by omega
    rw [hx] at hjb
    obtain rfl := Option.some.inj hjb
    exact hn
theorem in_index (l : List UInt8) (c : UInt8) : l.contains c = decide (0 ≤ Lib.indexByte l c) := by
  have hge := Lib.indexByte_ge l c
  by_cases hn : Lib.indexByte l c = -1
  · rw [hn]
    have : c ∉ l := fun hm => by
      obtain ⟨k, hk⟩ := List.mem_iff_getElem?.1 hm
      exact Lib.indexByte_none hn k hk
    simpa using this
  · obtain ⟨k, hk⟩ : ∃ k : Nat, Lib.indexByte l c = k := ⟨(Lib.indexByte l c).toNat, by omega⟩
    have := List.mem_iff_getElem?.2 ⟨k, (Lib.indexByte_some hk).1⟩
    rw [hk, decide_eq_true (by omega)]
    simpa using this

/-- IndexRune at whatever rune: found or not -/
theorem indexRune_at (cs : ByteArray) (ha : Asc cs) (hbig : cs.size ≤ 64) (c : Nat) (w : World) : Calls Tryz.prog 156 #[.string cs, .int .i32 (c : Int)] w fun e w' => (∃ i : Int, e = .returned (.int .i64 i) ∧ (if c < 128 then cs.data.toList.contains (UInt8.ofNat c) else false) = decide (0 ≤ i)) ∧ Below w.heap.size w w' := by
  by_cases h1 : c < 128
  · refine (Tryz.strings_IndexRune_ascii cs (c : Int) w (by omega) (by omega)).mono ?_
    rintro e w' ⟨rfl, rfl⟩
    refine ⟨⟨_, rfl, ?_⟩, Below.refl _ _⟩
    rw [if_pos h1, in_index]
    rfl
  · rw [if_neg h1]
    have hno : ∀ e w', (e = Ending.returned (.int .i64 (-1)) ∧ Below w.heap.size w w') → (∃ i : Int, e = .returned (.int .i64 i) ∧ false = decide (0 ≤ i)) ∧ Below w.heap.size w w' := fun e w' ⟨h, hb⟩ => ⟨⟨-1, h, rfl⟩, hb⟩
    by_cases h3 : c = 65533
    · subst h3; exact (indexRune_err cs ha hbig w).mono hno
    · exact (indexRune_big cs ha hbig c w (by omega) h3).mono hno

end Go.Proofs.YtmmpojhjpghdlaaGreatDoor.An

/-
  WALKS OF strings.IndexAny, ContainsAny, at every string and at whatever two bytes or more below 128 are looked for (at most 64).
-/
set_option linter.unusedVariables false
namespace Go.Proofs.YtmmpojhjpghdlaaGreatDoor.An
open Go.Lib Go.RowKit

theorem zero256 : ∀ w, (zeroValue 177).run Tryz.prog w = .ok (.agg (Array.replicate 256 (.bool false))) w :=
  (zero_of_info (show (Tryz.prog.info? 177).map (fun i => (i.zero, i.size)) = some (some (.agg (Array.replicate 256 (.bool false))), 256) by kernel_rfl)).1

def IxP (l cs : List UInt8) (e : Ending) : Prop := e = .returned (.int .i64 (Lib.indexAny l cs))

set_option maxHeartbeats 2000000 in
set_option maxRecDepth 1000000 in
theorem indexAny_short (s cs : ByteArray) (ha : Asc cs) (h2 : 2 ≤ cs.size) (hbig : cs.size ≤ 64) (w : World) (h8 : s.size ≤ 8) :
    Calls Tryz.prog 138 #[.string s, .string cs] w fun e w' => IxP s.data.toList cs.data.toList e ∧ Below w.heap.size w w' := by
  have cU : ∀ W, Calls Tryz.prog 157 #[.int .i64 (s.size : Int)] W fun e w' => e = .returned (.bool false) ∧ W = w' := fun W => by
    refine (Tryz.strings_shouldUseASCIISet (s.size : Int) W).mono ?_
    rintro e w' ⟨rfl, rfl⟩
    rw [show decide ((8 : Int) < (s.size : Int)) = false from decide_eq_false (by omega)]
    exact ⟨rfl, rfl⟩
  have hcn : cs.toList.isEmpty = false := by
    rw [Lib.toList_data]
    cases hd : cs.data.toList with
    | nil => have := Lib.size_eq cs; rw [hd, List.length_nil] at this; omega
    | cons _ _ => rfl
  have hc1 : ((cs.size : Int) == 1) = false := beq_eq_false_iff_ne.2 (by omega)
  have hc2 : (cs.size == 1) = false := beq_eq_false_iff_ne.2 (by omega)
  go_enter Tryz.func138, Tryz.ntmps138
  go_wp2_with (go_at_call 157; refine (cU _).mono ?_; rintro e w' ⟨rfl, rfl⟩)
  clear cU
  go_loopw [] (fun wr => ∃ pos : Nat, pos ≤ s.size ∧ wr.heap[w.heap.size]? = some (.stringIter s pos) ∧ Below w.heap.size w wr ∧ Lib.NoAny s.data.toList cs.data.toList pos) (fun wr => s.size - wr.iterPos w.heap.size)
  case atStart => exact ⟨0, Nat.zero_le _, World.iter_heap w s 0, (Below.refl _ _).alloc (Nat.le_refl _) _, fun j b hj _ => absurd hj (Nat.not_lt_zero _)⟩
  case round =>
    obtain ⟨pos, hpos, hit, hbw, hen⟩ := hrel
    have hsz : w.heap.size < wr.heap.size := (Array.getElem?_eq_some_iff.1 hit).1
    have hen' := Lib.hid hen
    clear hen
    by_cases hp : pos < s.size
    · have hne : s.data.toList.drop pos ≠ [] := fun h => by
        have := List.drop_eq_nil_iff.1 h
        rw [← Lib.size_eq] at this
        omega
      obtain ⟨f1, f2, f3⟩ := dec_facts _ hne
      rw [decodeL_drop] at f1 f2 f3
      rw [List.length_drop, ← Lib.size_eq] at f2
      have hnx : ∀ ty, (Instr.next (.pointer (some ⟨w.heap.size, 0, none⟩)) true ty).run Tryz.prog wr = _ := fun ty => Lib.run_next_any_at wr w.heap.size s pos ty hit hp
      obtain ⟨⟨r, n⟩, hd⟩ : ∃ p, Utf8.decode s pos = p := ⟨_, rfl⟩
      rw [hd] at f1 f2 f3
      simp only [hd] at hnx
      have hit2 := Lib.iterAt_heap wr w.heap.size s pos (pos + n) hit
      have hbw2 := Lib.below_iterAt hbw (k := w.heap.size) (Nat.le_refl _) s (pos + n)
      have hsz2 : w.heap.size < (wr.iterAt w.heap.size s (pos + n)).heap.size := by rw [Lib.iterAt_size]; exact hsz
      have hxg : s.data.toList[pos]? = some (s[pos]'hp) := Lib.data_getElem? s pos hp
      have hx0 : ((s.data.toList.drop pos).getD 0 0).toNat = (s[pos]'hp).toNat := by
        rw [List.getD_eq_getElem?_getD, List.getElem?_drop, Nat.add_zero, hxg]; rfl
      have cR0 := fun W => indexRune_at cs ha hbig r W
      clear hd hne
      cases hc : (if r < 128 then cs.data.toList.contains (UInt8.ofNat r) else false)
      · have hnext : Lib.NoAny s.data.toList cs.data.toList (pos + n) := by
          rcases f3 with ⟨g1, g2, g3⟩ | ⟨g1, g2⟩
          · rw [hx0] at g3
            have g2 : n = 1 := g2
            have g3 : (s[pos]'hp).toNat = r := g3
            rw [if_pos g1] at hc
            rw [g2]
            exact NoAny.one hen'.out hxg (by rw [← hc, ← g3]; simp)
          · exact NoAny.more hen'.out ha g2
        have hnext' := Lib.hid hnext
        have cR : ∀ W, Calls Tryz.prog 156 #[.string cs, .int .i32 (r : Int)] W fun e w' => (∃ i : Int, e = .returned (.int .i64 i) ∧ i < 0) ∧ Below W.heap.size W w' := fun W => (cR0 W).mono fun e w' ⟨⟨i, h1, h2⟩, hb⟩ => ⟨⟨i, h1, by
          rw [hc] at h2
          have := of_decide_eq_false h2.symm
          omega⟩, hb⟩
        have hit4 := Lib.hid hit
        clear hnext f3 hx0 hxg hc hit cR0
        go_wp2_with (go_at_call 156; refine (cR _).mono ?_; rintro e w3 ⟨⟨i, rfl, hi⟩, hb3⟩)
        have hit3 : w3.heap[w.heap.size]? = some (.stringIter s (pos + n)) := (hb3.block _ hsz2).trans hit2
        go_roundw
        case rel => exact ⟨pos + n, by omega, hit3, hbw2.trans (hb3.mono (by omega)), hnext'.out⟩
        case measure =>
          simp only [World.iterPos, hit3, hit4.out]
          omega
      · have hfin : IxP s.data.toList cs.data.toList (.returned (.int .i64 (pos : Int))) := by
          rcases f3 with ⟨g1, g2, g3⟩ | ⟨g1, _⟩
          · rw [hx0] at g3
            have g3 : (s[pos]'hp).toNat = r := g3
            rw [if_pos g1] at hc
            unfold IxP
            rw [Lib.indexAny_hit hen'.out hxg (by rw [← hc, ← g3]; simp)]
          · have g1 : 128 ≤ r := g1
            rw [if_neg (by omega)] at hc
            cases hc
        have hfin' := Lib.hid hfin
        have cR : ∀ W, Calls Tryz.prog 156 #[.string cs, .int .i32 (r : Int)] W fun e w' => (∃ i : Int, e = .returned (.int .i64 i) ∧ 0 ≤ i) ∧ Below W.heap.size W w' := fun W => (cR0 W).mono fun e w' ⟨⟨i, h1, h2⟩, hb⟩ => ⟨⟨i, h1, by
          rw [hc] at h2
          exact of_decide_eq_true h2.symm⟩, hb⟩
        clear hfin f3 hx0 hxg hc f1 f2 hit cR0
        go_wp2_with (go_at_call 156; refine (cR _).mono ?_; rintro e w3 ⟨⟨i, rfl, hi⟩, hb3⟩)
        go_ret
        exact ⟨hfin'.out, hbw2.trans (hb3.mono (by omega))⟩
    · have hfin : IxP s.data.toList cs.data.toList (.returned (.int .i64 (-1))) := by
        have h := hen'.out
        unfold IxP
        rw [Lib.indexAny_none (fun j b hj hb => h j b (by rw [← Lib.size_eq] at hj; omega) hb)]
      have hfin' := Lib.hid hfin
      have hnx : ∀ ty, (Instr.next (.pointer (some ⟨w.heap.size, 0, none⟩)) true ty).run Tryz.prog wr = _ := fun ty => Lib.run_next_end_at wr w.heap.size s pos ty hit hp
      clear hfin
      go_wp2
      go_ret
      exact ⟨hfin'.out, hbw⟩

/-- the set of the bytes in a new block -/
def setW (cs : List UInt8) (w : World) : World := (w.alloc (.cells (Lib.setCells cs) 177)).alloc (.cells (Lib.setCells cs) 177)
theorem setW_cell (cs : List UInt8) (w : World) (x : UInt8) : (setW cs w).cell? ⟨w.heap.size + 1, x.toNat, none⟩ = some (.bool (cs.contains x)) := by
  unfold setW
  rw [World.cell?_alloc_at _ _ _ _ (by simp), Lib.setCells_at]
theorem setW_below (cs : List UInt8) (w : World) : Below w.heap.size w (setW cs w) := ((Below.refl _ _).alloc (Nat.le_refl _) _).alloc (by simp) _

set_option maxHeartbeats 4000000 in
set_option maxRecDepth 1000000 in
/-- a string of more than eight bytes: the set is made, each byte is looked up in it -/
theorem indexAny_long (s cs : ByteArray) (ha : Asc cs) (h2 : 2 ≤ cs.size) (hbig : cs.size ≤ 64) (w : World) (h8 : 8 < s.size) (hs : s.size ≤ 9223372036854775807) :
    Calls Tryz.prog 138 #[.string s, .string cs] w fun e w' => IxP s.data.toList cs.data.toList e ∧ Below w.heap.size w w' := by
  have hM := Tryz.strings_makeASCIISet zero256 cs w (by omega) ha
  have cU : ∀ W, Calls Tryz.prog 157 #[.int .i64 (s.size : Int)] W fun e w' => e = .returned (.bool true) ∧ W = w' := fun W => by
    refine (Tryz.strings_shouldUseASCIISet (s.size : Int) W).mono ?_
    rintro e w' ⟨rfl, rfl⟩
    rw [show decide ((8 : Int) < (s.size : Int)) = true from decide_eq_true (by omega)]
    exact ⟨rfl, rfl⟩
  have hsc : (storeCells ⟨w.heap.size + 1, 0, none⟩ (Lib.setCells cs.data.toList).toList 0).run Tryz.prog ((w.alloc (.cells (Lib.setCells cs.data.toList) 177)).alloc (.cells (Array.replicate 256 (.bool false)) 177)) = .ok () (setW cs.data.toList w) := by
    have := run_storeCells_new (P := Tryz.prog) (w.alloc (.cells (Lib.setCells cs.data.toList) 177)) 177 (Array.replicate 256 (.bool false)) (Lib.setCells cs.data.toList) (by rw [Lib.setCells_size]; kernel_rfl) (by rw [Lib.setCells_size, Array.size_replicate]) (Lib.setCells_one _)
    simpa [setW] using this
  have hz : ∀ w, (zeroValue 177).run Tryz.prog w = _ := zero256
  have hcn : cs.toList.isEmpty = false := by
    rw [Lib.toList_data]
    cases hd : cs.data.toList with
    | nil => have := Lib.size_eq cs; rw [hd, List.length_nil] at this; omega
    | cons _ _ => rfl
  have hc1 : ((cs.size : Int) == 1) = false := beq_eq_false_iff_ne.2 (by omega)
  have hc2 : (cs.size == 1) = false := beq_eq_false_iff_ne.2 (by omega)
  have hss := Lib.setCells_size cs.data.toList
  have ha' := Lib.hid ha
  clear ha
  go_enter Tryz.func138, Tryz.ntmps138
  go_wp2_with (first
    | (go_at_call 157; refine (cU _).mono ?_; rintro e w' ⟨rfl, rfl⟩)
    | (go_at_call 132; refine hM.mono ?_; rintro e w' ⟨rfl, hw⟩; rw [hw]))
  clear hM hsc cU hss
  have hbw := setW_below cs.data.toList w
  have hcell := Lib.hid (setW_cell cs.data.toList w)
  generalize setW cs.data.toList w = w2 at hbw hcell ⊢
  go_loop [8] (fun s8 => ∃ i : Nat, s8 = .int .i64 (i : Int) ∧ i ≤ s.size ∧ Lib.NoAny s.data.toList cs.data.toList i) (fun s8 => s.size - (RowKit.intOf s8).toNat)
  case atStart => exact ⟨0, rfl, Nat.zero_le _, fun j b hj _ => absurd hj (Nat.not_lt_zero _)⟩
  case round =>
    obtain ⟨i, rfl, hi, hen⟩ := hrel
    have hen' := Lib.hid hen
    clear hen
    by_cases hlt : i < s.size
    · have hxg : s.data.toList[i]? = some (s[i]'hlt) := Lib.data_getElem? s i hlt
      have cC : ∀ v, cs.data.toList.contains (s[i]'hlt) = v → Calls Tryz.prog 149 #[.pointer (some ⟨w.heap.size + 1, 0, none⟩), .int .u8 ((s[i]'hlt).toNat : Int)] w2 fun e w' => e = .returned (.bool v) ∧ w2 = w' := fun v hv => by
        have hc := hcell.out (s[i]'hlt)
        rw [hv] at hc
        refine (Tryz.asciiSet_contains (w.heap.size + 1) (s[i]'hlt) v w2 hc).mono ?_
        rintro e w' ⟨rfl, rfl⟩
        exact ⟨rfl, rfl⟩
      cases hx : cs.data.toList.contains (s[i]'hlt)
      · have hn := Lib.hid (NoAny.one hen'.out hxg hx)
        have cC1 := cC false hx
        clear hx hxg cC
        go_wp2_with (go_at_call 149; refine cC1.mono ?_; rintro e w' ⟨rfl, rfl⟩)
        go_round
        case rel => exact ⟨i + 1, by go_num, by omega, hn.out⟩
        case measure => simp [RowKit.intOf]; omega
      · have hfin : IxP s.data.toList cs.data.toList (.returned (.int .i64 (i : Int))) := by unfold IxP; rw [Lib.indexAny_hit hen'.out hxg hx]
        have hfin' := Lib.hid hfin
        have cC1 := cC true hx
        clear hfin hx hxg cC
        go_wp2_with (go_at_call 149; refine cC1.mono ?_; rintro e w' ⟨rfl, rfl⟩)
        go_ret
        exact ⟨hfin'.out, hbw⟩
    · have hfin : IxP s.data.toList cs.data.toList (.returned (.int .i64 (-1))) := by
        have h := hen'.out
        unfold IxP
        rw [Lib.indexAny_none (fun j b hj hb => h j b (by rw [← Lib.size_eq] at hj; omega) hb)]
      have hfin' := Lib.hid hfin
      clear hfin
      go_wp2
      go_ret
      exact ⟨hfin'.out, hbw⟩

theorem indexAny_all (s cs : ByteArray) (ha : Asc cs) (h2 : 2 ≤ cs.size) (hbig : cs.size ≤ 64) (w : World) (hs : s.size ≤ 9223372036854775807) :
    Calls Tryz.prog 138 #[.string s, .string cs] w fun e w' => e = .returned (.int .i64 (Lib.indexAny s.data.toList cs.data.toList)) ∧ Below w.heap.size w w' := by
  by_cases h8 : s.size ≤ 8
  · exact indexAny_short s cs ha h2 hbig w h8
  · exact indexAny_long s cs ha h2 hbig w (by omega) hs

theorem contains_any (l cs : List UInt8) : Lib.containsAny l cs = l.any fun b => cs.contains b := by
  unfold Lib.containsAny
  induction l with
  | nil => rfl
  | cons b l ih =>
    have hge := Lib.indexAny_ge cs l
    rw [Lib.indexAny, List.any_cons, ← ih]
    cases hb : cs.contains b
    · simp only [Bool.false_or, Bool.false_eq_true, if_false]
      by_cases h : Lib.indexAny l cs = -1
      · simp [h]
      · have h1 : (Lib.indexAny l cs == -1) = false := by simpa using h
        simp only [h1, Bool.false_eq_true, if_false]
        rw [decide_eq_true (show (0 : Int) ≤ Lib.indexAny l cs + 1 by omega), decide_eq_true (show (0 : Int) ≤ Lib.indexAny l cs by omega)]
    · simp
end Go.Proofs.YtmmpojhjpghdlaaGreatDoor.An

/-
  WALKS OF THE PROGRAM's READER OF LAYER xml: aside, characters.
-/
set_option linter.unusedVariables false
namespace Go.Proofs.YtmmpojhjpghdlaaGreatDoor.Xm
open Go.Lib Go.RowKit

/-- how long what isn't read yet is -/
def restSize (b : Nat) (w : World) : Nat := match w.cell? ⟨b, 0, none⟩ with
  | some (.string s) => s.size
  | _ => 0
theorem Bef.size {w0 w : World} {b : Nat} {r : ByteArray} {l : Row} {ps : Pq} (h : Bef w0 b r l ps w) : restSize b w = r.size := by unfold restSize; rw [h.cell.1]
/-- outside the element: blanks and remarks -/
def AsideP (w0 : World) (b : Nat) (σ : St) (r : ByteArray) (l : Row) (ps : Pq) (e : Ending) (w' : World) : Prop :=
  (∃ r' : ByteArray, ans σ = ans { σ with rest := r'.data.toList } ∧ r'.data.toList.dropWhile blk = r'.data.toList ∧ remarkS.isPrefixOf r'.data.toList = false ∧ r'.size ≤ r.size ∧ e = .returned (.tuple #[]) ∧ Bef w0 b r' l ps w') ∨
  (ans σ = none ∧ e = gone ∧ Below w0.heap.size w0 w')
theorem aside_blank {σ : St} (hs : σ.stack = []) {x x' : Row} (h : x' = x.dropWhile blk) (ha : ans σ = ans { σ with rest := x }) : ans σ = ans { σ with rest := x' } := by
  rw [ha, ans_blanks (σ := { σ with rest := x }) hs, h]
theorem aside_remark {σ : St} {x t v : Row} (hx : x = remarkS ++ t) (hv : Xm.remark t = some v) (ha : ans σ = ans { σ with rest := x }) : ans σ = ans { σ with rest := v } := by
  rw [ha, ans_remark (σ := { σ with rest := x }) hx, hv]; rfl
theorem aside_none {σ : St} {x t : Row} (hx : x = remarkS ++ t) (hv : Xm.remark t = none) (ha : ans σ = ans { σ with rest := x }) : ans σ = none := by
  rw [ha, ans_remark (σ := { σ with rest := x }) hx, hv]; rfl
theorem dw_same {x x' : ByteArray} (h : x'.data.toList = x.data.toList.dropWhile blk) (hn : ¬ x'.size < x.size) : x' = x ∧ x.data.toList.dropWhile blk = x.data.toList := by
  have hl : (x.data.toList.dropWhile blk).length = x.data.toList.length := by
    have h1 := dropWhile_len blk x.data.toList
    rw [← h] at h1 ⊢
    rw [← Lib.size_eq, ← Lib.size_eq] at *
    omega
  have e := (List.dropWhile_sublist blk (l := x.data.toList)).eq_of_length hl
  exact ⟨data_is (by rw [h, e]), e⟩
theorem remark_size {x r' : ByteArray} {t : Row} (hx : x.data.toList = remarkS ++ t) (hv : Xm.remark t = some r'.data.toList) : r'.size < x.size := by
  have h1 := remark_len hv
  have h2 := congrArg List.length hx
  rw [List.length_append] at h2
  rw [← Lib.size_eq] at h1 h2
  have : remarkS.length = 4 := rfl
  omega
set_option maxHeartbeats 2000000 in
set_option maxRecDepth 100000 in
theorem aside_any {w0 w : World} (hG : Gw w0) {b : Nat} {r : ByteArray} {l : Row} {ps : Pq} (h : Bef w0 b r l ps w) (hr : r.size ≤ 65536) {σ : St} (hs : σ.stack = []) (hrest : σ.rest = r.data.toList) :
    Calls Tryz.prog 70 #[.pointer (some ⟨b, 0, none⟩)] w fun e w' => AsideP w0 b σ r l ps e w' ∧ KeptR w w' := by
  have h' := Lib.hid h
  have hst : Hid (ans σ = ans { σ with rest := r.data.toList }) := Lib.hid (by rw [← hrest])
  clear h hrest
  go_enter Tryz.func70, Tryz.ntmps70
  go_wp2
  go_loopw [] (fun wr => ∃ x : ByteArray, Bef w0 b x l ps wr ∧ KeptR w wr ∧ ans σ = ans { σ with rest := x.data.toList } ∧ x.size ≤ r.size) (fun wr => restSize b wr)
  case atStart => exact ⟨r, h'.out, KeptR.refl _, hst.out, Nat.le_refl _⟩
  case round =>
    obtain ⟨x, hB, hk, ha, hx⟩ := hrel
    have hsz := hB.size
    have cB := blanks_any hB
    have hk' := Lib.hid hk
    have ha' := Lib.hid ha
    clear hk ha hB
    go_wp2_with fail
    go_at_call 97
    with_reducible refine cB.mono ?_
    rintro e w3 ⟨⟨x1, hx1, rfl, h3⟩, hk3⟩
    clear cB
    have hk3' := Lib.hid (hk'.out.trans hk3)
    clear hk3 hk'
    by_cases hd : x1.size < x.size
    · have hd' : decide (x1.size < x.size) = true := decide_eq_true hd
      rw [hd']
      have hrel2 := Lib.hid (show ∃ x : ByteArray, Bef w0 b x l ps w3 ∧ KeptR w w3 ∧ ans σ = ans { σ with rest := x.data.toList } ∧ x.size ≤ r.size from ⟨x1, h3, hk3'.out, aside_blank hs hx1 ha'.out, by omega⟩)
      have hm := Lib.hid (show restSize b w3 < restSize b wr by rw [h3.size, hsz]; exact hd)
      clear hx1 h3 ha' hk3' hd'
      go_wp2
      go_roundw
      case rel => exact hrel2.out
      case measure => exact hm.out
    · have hd' : decide (x1.size < x.size) = false := decide_eq_false hd
      rw [hd']
      obtain ⟨e1, e2⟩ := dw_same hx1 hd
      subst e1
      have e2' := Lib.hid e2
      have cR := remark_any hG h3 (by omega)
      clear hx1 h3 e2 hd' hd
      go_wp2_with fail
      go_at_call 98
      with_reducible refine cR.mono ?_
      rintro e w4 ⟨hq, hk4⟩
      clear cR
      have hk4' := Lib.hid (hk3'.out.trans hk4)
      clear hk4 hk3'
      rcases hq with ⟨t, r', hy, hv, rfl, h4⟩ | ⟨hn, rfl, h4⟩ | ⟨t, hy, hv, rfl, h4⟩
      · have hlt := remark_size hy hv
        have hrel2 := Lib.hid (show ∃ x : ByteArray, Bef w0 b x l ps w4 ∧ KeptR w w4 ∧ ans σ = ans { σ with rest := x.data.toList } ∧ x.size ≤ r.size from ⟨r', h4, hk4'.out, aside_remark hy hv ha'.out, by omega⟩)
        have hm := Lib.hid (show restSize b w4 < restSize b wr by rw [h4.size, hsz]; exact hlt)
        clear hy hv h4 ha' hk4' hlt
        go_wp2
        go_roundw
        case rel => exact hrel2.out
        case measure => exact hm.out
      · have hfin := Lib.hid (show AsideP w0 b σ r l ps (.returned (.tuple #[])) w4 from .inl ⟨x1, ha'.out, e2'.out, hn, hx, rfl, h4⟩)
        clear hn h4 ha'
        go_wp2
        go_end0
        exact ⟨hfin.out, hk4'.out⟩
      · have hfin := Lib.hid (show AsideP w0 b σ r l ps gone w4 from .inr ⟨aside_none hy hv ha'.out, rfl, h4⟩)
        clear hy hv h4 ha'
        unfold gone at hfin ⊢
        go_wp2
        exact ⟨rfl, hfin.out, hk4'.out⟩

/-! ### characters -/
theorem idx_any (cs : Row) : ∀ (l : Row), (Lib.indexAny l cs = -1 ∧ ∀ c ∈ l, cs.contains c = false) ∨ ∃ k : Nat, Lib.indexAny l cs = k ∧ k < l.length ∧ (∀ c ∈ l.take k, cs.contains c = false) ∧ ∃ c t, l.drop k = c :: t ∧ cs.contains c = true
  | [] => .inl ⟨rfl, fun c hc => by cases hc⟩
  | b :: l => by
    rw [Lib.indexAny]
    cases hb : cs.contains b with
    | true =>
      right
      exact ⟨0, by simp, by simp, fun c hc => (by simp at hc), b, l, rfl, hb⟩
    | false =>
      simp only [Bool.false_eq_true, if_false]
      rcases idx_any cs l with ⟨h1, h2⟩ | ⟨k, h1, h2, h3, c, t, h4, h5⟩
      · left
        rw [h1]
        refine ⟨rfl, fun c hc => ?_⟩
        rcases List.mem_cons.1 hc with rfl | hc
        · exact hb
        · exact h2 c hc
      · right
        refine ⟨k + 1, ?_, by rw [List.length_cons]; omega, fun c hc => ?_, c, t, by rw [List.drop_succ_cons]; exact h4, h5⟩
        · rw [h1, if_neg (by simp)]; rfl
        · rw [List.take_succ_cons] at hc
          rcases List.mem_cons.1 hc with rfl | hc
          · exact hb
          · exact h3 c hc
def markS : ByteArray := ⟨#[60, 38]⟩
theorem mark_in (c : UInt8) : ([60, 38] : Row).contains c = decide (c = 60 ∨ c = 38) := Ch.byte_all (P := fun c => ([60, 38] : Row).contains c = decide (c = 60 ∨ c = 38)) (by decide +kernel) c
theorem mark_no {c : UInt8} (h : ([60, 38] : Row).contains c = false) : c ≠ 60 ∧ c ≠ 38 := by
  rw [mark_in] at h
  have := of_decide_eq_false h
  exact ⟨fun e => this (.inl e), fun e => this (.inr e)⟩
theorem mark_yes {c : UInt8} (h : ([60, 38] : Row).contains c = true) : c = 60 ∨ c = 38 := by
  rw [mark_in] at h
  exact of_decide_eq_true h
theorem markS_asc : An.Asc markS := by
  intro j b h
  have hm := List.mem_of_getElem? h
  have e : markS.data.toList = [60, 38] := rfl
  rw [e] at hm
  simp at hm
  rcases hm with rfl | rfl <;> decide
theorem rd_cell {B b : Nat} {r : ByteArray} {l : Row} {ps : Pq} {w : World} (h : Rd B b r l ps w) : w.cell? ⟨b, 0, none⟩ = some (.string r) := by
  obtain ⟨p, v, h⟩ := h
  exact h.cell.1
/-- characters up to the next mark -/
def CharP (w0 : World) (b : Nat) (r : ByteArray) (l : Row) (ps : Pq) (e : Ending) (w' : World) : Prop :=
  (∃ a r' : ByteArray, r.data.toList = a.data.toList ++ r'.data.toList ∧ (∀ c ∈ a.data.toList, c ≠ 60 ∧ c ≠ 38) ∧ (∃ c t, r'.data.toList = c :: t ∧ (c = 60 ∨ c = 38)) ∧ e = .returned (.bool (decide (0 < a.size))) ∧ Bef w0 b r' (l ++ a.data.toList) ps w') ∨
  ((∀ c ∈ r.data.toList, c ≠ 60 ∧ c ≠ 38) ∧ e = gone ∧ Below w0.heap.size w0 w')
set_option maxHeartbeats 2000000 in
set_option maxRecDepth 100000 in
theorem characters_any {w0 w : World} {b : Nat} {r : ByteArray} {l : Row} {ps : Pq} (h : Bef w0 b r l ps w) (hr : r.size ≤ 65536) (hl : l.length ≤ 1048576) :
    Calls Tryz.prog 122 #[.pointer (some ⟨b, 0, none⟩)] w fun e w' => CharP w0 b r l ps e w' ∧ KeptR w w' := by
  obtain ⟨c0, f0⟩ := h.cell
  have cI := An.indexAny_all r markS markS_asc (by decide) (by decide) w (by omega)
  have hkp := Lib.hid (fun (W : World) (hW : Below w.heap.size w W) => h.kept hW)
  clear h
  rcases idx_any [60, 38] r.data.toList with ⟨h1, h2⟩ | ⟨k, h1, h2, h3, c, t, h4, h5⟩
  · rw [show Lib.indexAny r.data.toList markS.data.toList = -1 from h1] at cI
    have hno : Hid (∀ c ∈ r.data.toList, c ≠ 60 ∧ c ≠ 38) := Lib.hid fun c hc => mark_no (h2 c hc)
    clear h1 h2
    go_enter Tryz.func122, Tryz.ntmps122
    go_wp2_with fail
    go_at_call 138
    refine cI.mono ?_
    rintro e w3 ⟨rfl, hb3⟩
    clear cI
    have hk3 := Lib.hid (KeptR.of_below hb3)
    have h3 := hkp.out w3 hb3
    have hfin := Lib.hid (show CharP w0 b r l ps gone w3 from .inr ⟨hno.out, rfl, h3.bel⟩)
    have cG := giveUp_any w3
    clear h3 hkp hb3
    unfold gone at hfin cG
    go_wp2_with fail
    go_at_call 72
    with_reducible refine cG.mono ?_
    rintro e w5 ⟨rfl, rfl⟩
    go_wp2
    exact ⟨rfl, hfin.out, hk3.out⟩
  · rw [show Lib.indexAny r.data.toList markS.data.toList = k from h1] at cI
    have hk : k < r.size := by rw [Lib.size_eq]; exact h2
    obtain ⟨A, hA⟩ : ∃ A, r.extract 0 k = A := ⟨_, rfl⟩
    obtain ⟨R, hR⟩ : ∃ R, r.extract k r.size = R := ⟨_, rfl⟩
    have e1 : A.data.toList = r.data.toList.take k := by rw [← hA, Lib.extract_data]; rfl
    have e2 : R.data.toList = r.data.toList.drop k := by rw [← hR]; exact Lib.extract_to_end r k
    have hAs : A.size = k := by rw [Lib.size_eq, e1, List.length_take, ← Lib.size_eq]; omega
    have hsplit : Hid (r.data.toList = A.data.toList ++ R.data.toList) := Lib.hid (by rw [e1, e2, List.take_append_drop])
    have hno : Hid (∀ c ∈ A.data.toList, c ≠ 60 ∧ c ≠ 38) := Lib.hid fun c hc => mark_no (h3 c (by rw [← e1]; exact hc))
    have hhd : Hid (∃ c t, R.data.toList = c :: t ∧ (c = 60 ∨ c = 38)) := Lib.hid ⟨c, t, by rw [e2]; exact h4, mark_yes h5⟩
    have hAs' := Lib.hid hAs
    have hkz : (k : Int) ≤ (r.size : Int) := by omega
    have hkz0 : (0 : Int) ≤ (k : Int) := by omega
    have hkz1 : (k : Int) ≤ 9223372036854775807 := by omega
    clear h1 h2 h3 h4 h5 e1 e2 hAs
    go_enter Tryz.func122, Tryz.ntmps122
    go_wp2_with fail
    go_at_call 138
    refine cI.mono ?_
    rintro e w3 ⟨rfl, hb3⟩
    clear cI
    have hk3 := Lib.hid ((KeptR.of_below hb3).trans (KeptR.of_below (Below.drew (Below.refl _ _))))
    have hB3 : Bef w0 b r l ps w3.drew := (hkp.out w3 hb3).kept (Below.drew (Below.refl _ _))
    obtain ⟨c3, f3⟩ := (hkp.out w3 hb3).cell
    obtain ⟨p, v, hv⟩ := hB3.rd
    have cW := rdWrite_any hv A (by rw [hAs'.out]; omega) hB3.bel.size
    have hbel3 := Lib.hid hB3.bel
    clear hkp hb3 hB3 hv
    go_wp2_with fail
    go_region_held3 (fun W => Below w0.heap.size w3 W ∧ W.cell? ⟨b, 0, none⟩ = some (.string r)) (refine ⟨?_, ?_⟩ <;> first | exact Below.drew (Below.refl _ _) | exact (Below.drew (Below.refl _ _)).trans (by assumption) | assumption | exact rd_cell (by assumption))
      (first | (go_at_call 84; refine cW.mono ?_; rintro e w4 ⟨rfl, hrd4, hb4, hk4⟩))
    clear cW
    have hB4 : Bef w0 b r (l ++ A.data.toList) ps w4 := ⟨hbel3.out.trans hb4, hrd4⟩
    have hp4 := Lib.hid (hB4.put R)
    obtain ⟨c4, f4⟩ := hB4.cell
    have hk4' := Lib.hid (hk3.out.trans hk4)
    clear hB4 hrd4 hb4 hk4 hk3
    go_wp2
    go_ret
    refine ⟨.inl ⟨A, R, hsplit.out, hno.out, hhd.out, ?_, hp4.out.1⟩, hk4'.out.trans hp4.out.2⟩
    rw [hAs'.out]
    first
      | rfl
      | (refine ret_bool ?_
         rw [Bool.eq_iff_iff]
         simp)
end Go.Proofs.YtmmpojhjpghdlaaGreatDoor.Xm
