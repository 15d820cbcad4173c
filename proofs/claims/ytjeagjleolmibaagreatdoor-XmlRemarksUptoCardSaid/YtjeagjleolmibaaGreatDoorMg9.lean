import Derived.Test.YtjeagjleolmibaaGreatDoorMg8
import Derived.Test.YtjeagjleolmibaaGreatDoorMg7
import Derived.Test.YtjeagjleolmibaaGreatDoorMg5
import Derived.Test.YtjeagjleolmibaaGreatDoorMg1
import Derived.Laws.RangeAny
import Derived.LoopTactic
import Derived.Lib.Hide
import Derived.Lib.OthersKept
import Derived.Lib.IndexLaws
import Derived.Deep.QuietTactic
import Derived.BigQuiet
import Derived.Laws.Runes

/-
  WALKS OF THE PROGRAM's READER OF LAYER xml: giveUp, take, need, until, blanks.
-/
set_option linter.unusedVariables false
namespace Go.Proofs.YtjeagjleolmibaaGreatDoor.Xm
open Go.Lib Go.RowKit

/-- how a reader ends that gives up -/
def gone : Ending := .panicked [{ v := .iface 69 (.int .i64 70), recovered := false }]
set_option maxHeartbeats 1000000 in
set_option maxRecDepth 100000 in
theorem giveUp_any (w : World) : Calls Tryz.prog 45 #[] w fun e w' => e = gone ∧ w' = w := by
  unfold gone
  go_enter Tryz.func45, Tryz.ntmps45
  go_wp2
  exact ⟨rfl, rfl, rfl⟩

/-- the reader in a call: behind w0 -/
structure Bef (w0 : World) (b : Nat) (r : ByteArray) (l : Row) (ps : Pq) (w : World) : Prop where
  bel : Below w0.heap.size w0 w
  rd : Rd w0.heap.size b r l ps w
theorem Bef.kept {w0 w w' : World} {b : Nat} {r : ByteArray} {l : Row} {ps : Pq} (h : Bef w0 b r l ps w) (hb : Below w.heap.size w w') : Bef w0 b r l ps w' :=
  ⟨h.bel.trans (hb.mono h.bel.size), h.rd.kept hb⟩
theorem Bef.cell {w0 w : World} {b : Nat} {r : ByteArray} {l : Row} {ps : Pq} (h : Bef w0 b r l ps w) : w.cell? ⟨b, 0, none⟩ = some (.string r) ∧ w.frozen? ⟨b, 0, none⟩ = false := by
  obtain ⟨_, p, v, h⟩ := h
  exact ⟨h.cell.1, h.free 0⟩
/-- what isn't read yet is put -/
theorem Bef.put {w0 w : World} {b : Nat} {r : ByteArray} {l : Row} {ps : Pq} (h : Bef w0 b r l ps w) (r' : ByteArray) : Bef w0 b r' l ps (w.setCell ⟨b, 0, none⟩ (.string r')) ∧ KeptR w (w.setCell ⟨b, 0, none⟩ (.string r')) := by
  obtain ⟨hb, p, v, h⟩ := h
  exact ⟨⟨hb.setCell (p := ⟨b, 0, none⟩) h.hB _, p, v, h.rest r'⟩, KeptR.setCell h.at0 0 _⟩

/-- what take answers -/
def TakeP (w0 : World) (b : Nat) (r s : ByteArray) (l : Row) (ps : Pq) (e : Ending) (w' : World) : Prop :=
  (∃ r' : ByteArray, r.data.toList = s.data.toList ++ r'.data.toList ∧ e = .returned (.bool true) ∧ Bef w0 b r' l ps w') ∨ (s.data.toList.isPrefixOf r.data.toList = false ∧ e = .returned (.bool false) ∧ Bef w0 b r l ps w')
set_option maxHeartbeats 1000000 in
set_option maxRecDepth 100000 in
theorem take_any {w0 w : World} {b : Nat} {r : ByteArray} {l : Row} {ps : Pq} (h : Bef w0 b r l ps w) (s : ByteArray) :
    Calls Tryz.prog 41 #[.pointer (some ⟨b, 0, none⟩), .string s] w fun e w' => TakeP w0 b r s l ps e w' ∧ KeptR w w' := by
  obtain ⟨c0, f0⟩ := h.cell
  have hp := fun x => Lib.hid (h.put x)
  clear h
  have cP := fun W => pre_any r s W
  go_enter Tryz.func41, Tryz.ntmps41
  go_wp2_with fail
  go_at_call 53
  with_reducible refine (cP _).mono ?_
  rintro e w4 ⟨hq, rfl⟩
  clear cP
  rcases hq with ⟨hn, rfl⟩ | ⟨r', hy, rfl⟩
  · have hp1 := hp r
    have hn' := Lib.hid hn
    clear hp hn
    go_wp2
    go_ret
    exact ⟨.inr ⟨hn'.out, rfl, hp1.out.1⟩, hp1.out.2⟩
  · have hp1 := hp r'
    have hy' := Lib.hid hy
    clear hp hy
    go_wp2
    go_ret
    exact ⟨.inl ⟨r', hy'.out, rfl, hp1.out.1⟩, hp1.out.2⟩
/-- what need answers -/
def NeedP (w0 : World) (b : Nat) (r s : ByteArray) (l : Row) (ps : Pq) (e : Ending) (w' : World) : Prop :=
  (∃ r' : ByteArray, r.data.toList = s.data.toList ++ r'.data.toList ∧ e = .returned (.tuple #[]) ∧ Bef w0 b r' l ps w') ∨ (s.data.toList.isPrefixOf r.data.toList = false ∧ e = gone ∧ Below w0.heap.size w0 w')
set_option maxHeartbeats 1000000 in
set_option maxRecDepth 100000 in
theorem need_any {w0 w : World} {b : Nat} {r : ByteArray} {l : Row} {ps : Pq} (h : Bef w0 b r l ps w) (s : ByteArray) :
    Calls Tryz.prog 57 #[.pointer (some ⟨b, 0, none⟩), .string s] w fun e w' => NeedP w0 b r s l ps e w' ∧ KeptR w w' := by
  have cT := take_any h s
  clear h
  go_enter Tryz.func57, Tryz.ntmps57
  go_wp2_with fail
  go_at_call 41
  with_reducible refine cT.mono ?_
  rintro e w4 ⟨hq, hk⟩
  clear cT
  have hk' := Lib.hid hk
  clear hk
  rcases hq with ⟨r', hy, rfl, hb⟩ | ⟨hn, rfl, hb⟩
  · have hy' := Lib.hid hy
    have hb' := Lib.hid hb
    clear hy hb
    go_wp2
    go_end0
    exact ⟨.inl ⟨r', hy'.out, rfl, hb'.out⟩, hk'.out⟩
  · have hn' := Lib.hid hn
    have hb' := Lib.hid hb
    clear hn hb
    have cG := giveUp_any w4
    unfold gone at cG
    go_wp2_with fail
    go_at_call 45
    with_reducible refine cG.mono ?_
    rintro e w5 ⟨rfl, rfl⟩
    go_wp2
    exact ⟨rfl, .inr ⟨hn'.out, rfl, hb'.out.bel⟩, hk'.out⟩
end Go.Proofs.YtjeagjleolmibaaGreatDoor.Xm

/-
  WALKS OF THE PROGRAM's READER OF LAYER xml: until, blanks, name, fullName, quoted, remark.
-/
set_option linter.unusedVariables false
namespace Go.Proofs.YtjeagjleolmibaaGreatDoor.Xm
open Go.Lib Go.RowKit

theorem Bef.gw {w0 w : World} {b : Nat} {r : ByteArray} {l : Row} {ps : Pq} (h : Bef w0 b r l ps w) (hG : Gw w0) : Gw w := gw_below hG h.bel
def UntilP (w0 : World) (b : Nat) (r s : ByteArray) (l : Row) (ps : Pq) (e : Ending) (w' : World) : Prop :=
  (∃ a r' : ByteArray, find s.data.toList r.data.toList = some (a.data.toList, r'.data.toList) ∧ e = .returned (.string a) ∧ Bef w0 b r' l ps w') ∨ (find s.data.toList r.data.toList = none ∧ e = gone ∧ Below w0.heap.size w0 w')
set_option maxHeartbeats 1000000 in
set_option maxRecDepth 100000 in
theorem until_any {w0 w : World} (hG : Gw w0) {b : Nat} {r : ByteArray} {l : Row} {ps : Pq} (h : Bef w0 b r l ps w) (s : ByteArray) (hs : s.data.toList ≠ []) (hr : r.size ≤ 65536) :
    Calls Tryz.prog 42 #[.pointer (some ⟨b, 0, none⟩), .string s] w fun e w' => UntilP w0 b r s l ps e w' ∧ KeptR w w' := by
  obtain ⟨c0, f0⟩ := h.cell
  have cC := cut_any r s hs w (h.gw hG) hr
  have hp := Lib.hid (fun (W : World) (hW : Below w.heap.size w W) (x : ByteArray) => (h.kept hW).put x)
  have hcl := Lib.hid (fun (W : World) (hW : Below w.heap.size w W) => (h.kept hW).cell)
  have hbl := Lib.hid (fun (W : World) (hW : Below w.heap.size w W) => (h.kept hW).bel)
  clear h hG
  go_enter Tryz.func42, Tryz.ntmps42
  go_wp2_with fail
  go_at_call 54
  with_reducible refine cC.mono ?_
  rintro e w4 ⟨hq, hb4⟩
  clear cC
  have hk4 := Lib.hid (KeptR.of_below hb4)
  have hcl4 := hcl.out w4 hb4
  obtain ⟨c4, f4⟩ := hcl4
  have hbl4 := Lib.hid (hbl.out w4 hb4)
  rcases hq with ⟨hn, rfl⟩ | ⟨a, r', hy, rfl⟩
  · have hn' := Lib.hid hn
    clear hn hp hcl hbl hb4
    have cG := giveUp_any w4
    unfold gone at cG
    go_wp2_with fail
    go_at_call 45
    with_reducible refine cG.mono ?_
    rintro e w5 ⟨rfl, rfl⟩
    go_wp2
    exact ⟨rfl, .inr ⟨hn'.out, rfl, hbl4.out⟩, hk4.out⟩
  · have hp1 := Lib.hid (hp.out w4 hb4 r')
    have hy' := Lib.hid hy
    clear hp hy hcl hbl hb4
    go_wp2
    go_ret
    exact ⟨.inl ⟨a, r', hy'.out, rfl, hp1.out.1⟩, hk4.out.trans hp1.out.2⟩

set_option maxHeartbeats 1000000 in
set_option maxRecDepth 100000 in
theorem blanks_any {w0 w : World} {b : Nat} {r : ByteArray} {l : Row} {ps : Pq} (h : Bef w0 b r l ps w) :
    Calls Tryz.prog 55 #[.pointer (some ⟨b, 0, none⟩)] w fun e w' => (∃ r' : ByteArray, r'.data.toList = r.data.toList.dropWhile blk ∧ e = .returned (.bool (decide (r'.size < r.size))) ∧ Bef w0 b r' l ps w') ∧ KeptR w w' := by
  obtain ⟨c0, f0⟩ := h.cell
  have cC := trimL_any r w
  have hp := Lib.hid (fun (W : World) (hW : Below w.heap.size w W) (x : ByteArray) => (h.kept hW).put x)
  have hcl := Lib.hid (fun (W : World) (hW : Below w.heap.size w W) => (h.kept hW).cell)
  clear h
  go_enter Tryz.func55, Tryz.ntmps55
  go_wp2_with fail
  go_at_call 75
  with_reducible refine cC.mono ?_
  rintro e w4 ⟨⟨x, rfl, hx⟩, hb4⟩
  clear cC
  have hk4 := Lib.hid (KeptR.of_below hb4)
  have hcl4 := hcl.out w4 hb4
  obtain ⟨c4, f4⟩ := hcl4
  have hp1 := Lib.hid (hp.out w4 hb4 x)
  have hx' := Lib.hid hx
  clear hp hx hcl hb4
  go_wp2
  go_ret
  refine ⟨⟨x, hx'.out, ?_, hp1.out.1⟩, hk4.out.trans hp1.out.2⟩
  first
    | rfl
    | (refine ret_bool ?_
       rw [Bool.eq_iff_iff]
       simp)

def NameP (w0 : World) (b : Nat) (r : ByteArray) (l : Row) (ps : Pq) (e : Ending) (w' : World) : Prop :=
  (∃ n r' : ByteArray, nameC r.data.toList = some (n.data.toList, r'.data.toList) ∧ e = .returned (.string n) ∧ Bef w0 b r' l ps w') ∨ (nameC r.data.toList = none ∧ e = gone ∧ Below w0.heap.size w0 w')
set_option maxHeartbeats 1000000 in
set_option maxRecDepth 100000 in
theorem name_any {w0 w : World} {b : Nat} {r : ByteArray} {l : Row} {ps : Pq} (h : Bef w0 b r l ps w) (hr : r.size ≤ 65536) :
    Calls Tryz.prog 77 #[.pointer (some ⟨b, 0, none⟩)] w fun e w' => NameP w0 b r l ps e w' ∧ KeptR w w' := by
  obtain ⟨c0, f0⟩ := h.cell
  have cE := nameEnd_any r w (by omega)
  obtain ⟨N, hN⟩ : ∃ N, nEnd r.data.toList = N := ⟨_, rfl⟩
  have hNl : N ≤ r.size := by rw [← hN, Lib.size_eq]; exact nEnd_le _
  rw [hN] at cE
  have e1 : (r.extract 0 N).data.toList = r.data.toList.takeWhile nxB := by
    rw [Lib.extract_data]
    show (r.data.toList.take N) = _
    rw [← hN]; exact takeWhile_take nxB _
  have e2 : (r.extract N r.size).data.toList = r.data.toList.dropWhile nxB := by
    rw [Lib.extract_to_end r N, ← hN]; exact takeWhile_drop nxB _
  have hc := nameC_cut r.data.toList
  rw [← e1, ← e2] at hc
  have hp := Lib.hid (h.put (r.extract N r.size))
  have hbl := Lib.hid h.bel
  have cI := isName_any (r.extract 0 N) w (by
    have := congrArg List.length e1
    have h2 := (List.takeWhile_sublist nxB (l := r.data.toList)).length_le
    rw [← Lib.size_eq] at this h2
    omega)
  clear h e1 e2 hN
  obtain ⟨K, hK⟩ : ∃ K, nameB (r.extract 0 N).data.toList = K := ⟨_, rfl⟩
  rw [hK] at cI hc
  cases K with
  | true =>
    have hc' := Lib.hid hc
    clear hc hK
    go_enter Tryz.func77, Tryz.ntmps77
    go_wp2_with fail
    go_at_call 47
    with_reducible refine cE.mono ?_
    rintro e w4 ⟨rfl, rfl⟩
    clear cE
    go_wp2_with fail
    go_at_call 32
    with_reducible refine cI.mono ?_
    rintro e w5 ⟨rfl, rfl⟩
    clear cI
    go_wp2
    go_ret
    exact ⟨.inl ⟨_, _, hc'.out, rfl, hp.out.1⟩, hp.out.2⟩
  | false =>
    have hc' := Lib.hid hc
    clear hc hK
    go_enter Tryz.func77, Tryz.ntmps77
    go_wp2_with fail
    go_at_call 47
    with_reducible refine cE.mono ?_
    rintro e w4 ⟨rfl, rfl⟩
    clear cE
    go_wp2_with fail
    go_at_call 32
    with_reducible refine cI.mono ?_
    rintro e w5 ⟨rfl, rfl⟩
    clear cI
    have cG := giveUp_any w5
    unfold gone at cG
    go_wp2_with fail
    go_at_call 45
    with_reducible refine cG.mono ?_
    rintro e w5 ⟨rfl, rfl⟩
    go_wp2
    exact ⟨rfl, .inr ⟨hc'.out, rfl, hbl.out⟩, KeptR.refl _⟩

theorem written_parts (t : Row) : written t = match nameC t with
  | none => none
  | some (n, u) => if ([58] : Row).isPrefixOf u = true then (nameC (u.drop 1)).map fun q => (n, q.1, q.2) else some ([], n, u) := by
  unfold written
  cases h : nameC t with
  | none => rfl
  | some p =>
    obtain ⟨n, u⟩ := p
    rw [Option.bind_some]
    simp only
    cases u with
    | nil => rfl
    | cons c v =>
      by_cases hc : c = 58
      · subst hc; rfl
      · rw [if_neg (by rw [pre1 (fun e => hc e.symm)]; decide)]
        split
        · rename_i e; injection e with e1 _; exact absurd e1 hc
        · rfl
def FullP (w0 : World) (b : Nat) (r : ByteArray) (l : Row) (ps : Pq) (e : Ending) (w' : World) : Prop :=
  (∃ p n r' : ByteArray, written r.data.toList = some (p.data.toList, n.data.toList, r'.data.toList) ∧ e = .returned (.tuple #[.string p, .string n]) ∧ Bef w0 b r' l ps w') ∨ (written r.data.toList = none ∧ e = gone ∧ Below w0.heap.size w0 w')
theorem nameC_size {r n r' : ByteArray} (h : nameC r.data.toList = some (n.data.toList, r'.data.toList)) : r'.size < r.size := by
  have := nameC_len h
  rw [← Lib.size_eq, ← Lib.size_eq] at this
  exact this
theorem pre_size {r s r' : ByteArray} (h : r.data.toList = s.data.toList ++ r'.data.toList) : r.size = s.size + r'.size := by
  have := congrArg List.length h
  rw [List.length_append, ← Lib.size_eq, ← Lib.size_eq, ← Lib.size_eq] at this
  exact this
set_option maxHeartbeats 1000000 in
set_option maxRecDepth 100000 in
theorem fullName_any {w0 w : World} {b : Nat} {r : ByteArray} {l : Row} {ps : Pq} (h : Bef w0 b r l ps w) (hr : r.size ≤ 65536) :
    Calls Tryz.prog 58 #[.pointer (some ⟨b, 0, none⟩)] w fun e w' => FullP w0 b r l ps e w' ∧ KeptR w w' := by
  have cN := name_any h hr
  have hwr := written_parts r.data.toList
  clear h
  go_enter Tryz.func58, Tryz.ntmps58
  go_wp2_with fail
  go_at_call 77
  with_reducible refine cN.mono ?_
  rintro e w4 ⟨hq, hk4⟩
  clear cN
  have hk4' := Lib.hid hk4
  clear hk4
  rcases hq with ⟨n, r', hn, rfl, h4⟩ | ⟨hn, rfl, h4⟩
  · rw [hn] at hwr
    simp only at hwr
    have hsz := nameC_size hn
    have cT := take_any h4 ⟨#[58]⟩
    clear hn h4
    go_wp2_with fail
    go_at_call 41
    with_reducible refine cT.mono ?_
    rintro e w5 ⟨hq, hk5⟩
    clear cT
    have hk5' := Lib.hid (hk4'.out.trans hk5)
    clear hk5 hk4'
    rcases hq with ⟨r2, hy, rfl, h5⟩ | ⟨hn, rfl, h5⟩
    · have hsz2 := pre_size hy
      have e1 : r'.data.toList = 58 :: r2.data.toList := hy
      rw [e1, if_pos (by simp)] at hwr
      have hwr' : written r.data.toList = (nameC r2.data.toList).map fun q => (n.data.toList, q.1, q.2) := hwr
      have cN2 := name_any h5 (by omega)
      clear hy e1 hwr h5
      go_wp2_with fail
      go_at_call 77
      with_reducible refine cN2.mono ?_
      rintro e w6 ⟨hq, hk6⟩
      clear cN2
      have hk6' := Lib.hid (hk5'.out.trans hk6)
      clear hk6 hk5'
      rcases hq with ⟨n2, r3, hn, rfl, h6⟩ | ⟨hn, rfl, h6⟩
      · have hf := Lib.hid (show FullP w0 b r l ps (.returned (.tuple #[.string n, .string n2])) w6 from .inl ⟨n, n2, r3, by rw [hwr', hn]; rfl, rfl, h6⟩)
        clear hwr' hn h6
        go_wp2
        go_ret2
        exact ⟨hf.out, hk6'.out⟩
      · have hf := Lib.hid (show FullP w0 b r l ps gone w6 from .inr ⟨by rw [hwr', hn]; rfl, rfl, h6⟩)
        clear hwr' hn h6
        unfold gone at hf ⊢
        go_wp2
        exact ⟨rfl, hf.out, hk6'.out⟩
    · have e1 : ([58] : Row).isPrefixOf r'.data.toList = false := hn
      rw [e1, if_neg (by decide)] at hwr
      have hf := Lib.hid (show FullP w0 b r l ps (.returned (.tuple #[.string ⟨#[]⟩, .string n])) w5 from .inl ⟨⟨#[]⟩, n, r', hwr, rfl, h5⟩)
      clear e1 hn h5 hwr
      go_wp2
      go_ret2
      exact ⟨hf.out, hk5'.out⟩
  · rw [hn] at hwr
    have hf := Lib.hid (show FullP w0 b r l ps gone w4 from .inr ⟨hwr, rfl, h4⟩)
    clear hwr hn h4
    unfold gone at hf ⊢
    go_wp2
    exact ⟨rfl, hf.out, hk4'.out⟩
end Go.Proofs.YtjeagjleolmibaaGreatDoor.Xm

/-
  WALKS OF THE PROGRAM's READER OF LAYER xml: quoted, remark, aside, spaceOf. (wip/tools/genxmld.py)
-/
set_option linter.unusedVariables false
namespace Go.Proofs.YtjeagjleolmibaaGreatDoor.Xm
open Go.Lib Go.RowKit

theorem find_sizes {p l : Row} {a r : ByteArray} (hp : p ≠ []) (h : find p l = some (a.data.toList, r.data.toList)) : a.size ≤ l.length ∧ r.size < l.length := by
  have e := find_some hp h
  have := congrArg List.length e
  have h2 := List.length_pos_iff.2 hp
  rw [List.length_append, List.length_append, ← Lib.size_eq, ← Lib.size_eq] at this
  omega
theorem bind_find_none {f : Row × Row → Option (Row × Row)} {o : Option (Row × Row)} (h : o = none) : o.bind f = none := by rw [h]; rfl

/-- a declaration's value, behind its = -/
def QuP (w0 : World) (b : Nat) (r : ByteArray) (l : Row) (ps : Pq) (e : Ending) (w' : World) : Prop :=
  (∃ v r' : ByteArray, quoted (61 :: r.data.toList) = some (v.data.toList, r'.data.toList) ∧ e = .returned (.string v) ∧ Bef w0 b r' l ps w') ∨ (quoted (61 :: r.data.toList) = none ∧ e = gone ∧ Below w0.heap.size w0 w')
theorem qu_yes {w0 w' : World} {b : Nat} {r r2 v r' : ByteArray} {l : Row} {ps : Pq} {q : UInt8} (hq : q = 34 ∨ q = 39) (h : r.data.toList = q :: r2.data.toList) (hf : find [q] r2.data.toList = some (v.data.toList, r'.data.toList)) (hv : (find [60] v.data.toList).isSome = false) (hb : Bef w0 b r' l ps w') : QuP w0 b r l ps (.returned (.string v)) w' := by
  refine .inl ⟨v, r', ?_, rfl, hb⟩
  rw [find_has] at hv
  rw [h, quoted_is hq, hf, Option.bind_some]
  simp only
  rw [if_neg (of_decide_eq_false hv)]
theorem qu_no1 {w0 w' : World} {b : Nat} {r r2 : ByteArray} {l : Row} {ps : Pq} {q : UInt8} (hq : q = 34 ∨ q = 39) (h : r.data.toList = q :: r2.data.toList) (hf : find [q] r2.data.toList = none) (hb : Below w0.heap.size w0 w') : QuP w0 b r l ps gone w' := by
  refine .inr ⟨?_, rfl, hb⟩
  rw [h, quoted_is hq, hf]; rfl
theorem qu_no2 {w0 w' : World} {b : Nat} {r r2 v r' : ByteArray} {l : Row} {ps : Pq} {q : UInt8} (hq : q = 34 ∨ q = 39) (h : r.data.toList = q :: r2.data.toList) (hf : find [q] r2.data.toList = some (v.data.toList, r'.data.toList)) (hv : (find [60] v.data.toList).isSome = true) (hb : Below w0.heap.size w0 w') : QuP w0 b r l ps gone w' := by
  refine .inr ⟨?_, rfl, hb⟩
  rw [find_has] at hv
  rw [h, quoted_is hq, hf, Option.bind_some]
  simp only
  rw [if_pos (of_decide_eq_true hv)]
theorem qu_no3 {w0 w' : World} {b : Nat} {r : ByteArray} {l : Row} {ps : Pq} (h1 : ([34] : Row).isPrefixOf r.data.toList = false) (h2 : ([39] : Row).isPrefixOf r.data.toList = false) (hb : Below w0.heap.size w0 w') : QuP w0 b r l ps gone w' := by
  refine .inr ⟨?_, rfl, hb⟩
  refine quoted_sign (fun e => ?_) (fun e => ?_)
  · cases hr : r.data.toList with
    | nil => rw [hr] at e; cases e
    | cons x t => rw [hr] at e h1; simp at e; subst e; simp at h1
  · cases hr : r.data.toList with
    | nil => rw [hr] at e; cases e
    | cons x t => rw [hr] at e h2; simp at e; subst e; simp at h2

set_option maxHeartbeats 2000000 in
set_option maxRecDepth 100000 in
theorem quoted_any {w0 w : World} (hG : Gw w0) {b : Nat} {r : ByteArray} {l : Row} {ps : Pq} (h : Bef w0 b r l ps w) (hr : r.size ≤ 65536) :
    Calls Tryz.prog 79 #[.pointer (some ⟨b, 0, none⟩)] w fun e w' => QuP w0 b r l ps e w' ∧ KeptR w w' := by
  have cT := take_any h ⟨#[34]⟩
  clear h
  go_enter Tryz.func79, Tryz.ntmps79
  go_wp2_with fail
  go_at_call 41
  with_reducible refine cT.mono ?_
  rintro e w4 ⟨hq, hk4⟩
  clear cT
  have hk4' := Lib.hid hk4
  clear hk4
  rcases hq with ⟨r2, hy, rfl, h4⟩ | ⟨hn, rfl, h4⟩
  · have hk5' := hk4'
    have h5 := h4
    clear hk4' h4
    have hsz2 := pre_size hy
    have hy' : Hid (r.data.toList = 34 :: r2.data.toList) := Lib.hid hy
    have cU := until_any hG h5 ⟨#[34]⟩ (by decide) (by omega)
    clear hy h5
    go_wp2_with fail
    go_at_call 42
    with_reducible refine cU.mono ?_
    rintro e w6 ⟨hq, hk6⟩
    clear cU
    have hk6' := Lib.hid (hk5'.out.trans hk6)
    clear hk6 hk5'
    rcases hq with ⟨v, r3, hf, rfl, h6⟩ | ⟨hn, rfl, h6⟩
    · have hf' : Hid (find [34] r2.data.toList = some (v.data.toList, r3.data.toList)) := Lib.hid hf
      have hvs := (find_sizes (by decide) hf).1
      rw [← Lib.size_eq] at hvs
      have cC := contains_any v ⟨#[60]⟩ (by decide) w6 (h6.gw hG) (by omega)
      obtain ⟨K, hK⟩ : ∃ K, (find (⟨#[60]⟩ : ByteArray).data.toList v.data.toList).isSome = K := ⟨_, rfl⟩
      rw [hK] at cC
      have hK' : Hid ((find [60] v.data.toList).isSome = K) := Lib.hid hK
      have h6' := Lib.hid h6
      clear hf hK h6
      cases K with
      | true =>
        go_wp2_with fail
        go_at_call 76
        with_reducible refine cC.mono ?_
        rintro e w7 ⟨rfl, rfl⟩
        have cG := giveUp_any w7
        have hfin := Lib.hid (show QuP w0 b r l ps gone w7 from qu_no2 (.inl rfl) hy'.out hf'.out hK'.out h6'.out.bel)
        clear cC hf' hK' h6' hy'
        unfold gone at cG hfin
        go_wp2_with fail
        go_at_call 45
        with_reducible refine cG.mono ?_
        rintro e w5 ⟨rfl, rfl⟩
        go_wp2
        exact ⟨rfl, hfin.out, hk6'.out⟩
      | false =>
        go_wp2_with fail
        go_at_call 76
        with_reducible refine cC.mono ?_
        rintro e w7 ⟨rfl, rfl⟩
        have hfin := Lib.hid (show QuP w0 b r l ps (.returned (.string v)) w7 from qu_yes (.inl rfl) hy'.out hf'.out hK'.out h6'.out)
        clear cC hf' hK' h6' hy'
        go_wp2
        go_ret
        exact ⟨hfin.out, hk6'.out⟩
    · have hfin := Lib.hid (show QuP w0 b r l ps gone w6 from qu_no1 (.inl rfl) hy'.out hn h6)
      clear hn h6 hy'
      unfold gone at hfin ⊢
      go_wp2
      exact ⟨rfl, hfin.out, hk6'.out⟩
  · have cN := need_any h4 ⟨#[39]⟩
    have hn1 : Hid (([34] : Row).isPrefixOf r.data.toList = false) := Lib.hid hn
    clear hn h4
    go_wp2_with fail
    go_at_call 57
    with_reducible refine cN.mono ?_
    rintro e w5 ⟨hq, hk5⟩
    clear cN
    have hk5' := Lib.hid (hk4'.out.trans hk5)
    clear hk5 hk4'
    rcases hq with ⟨r2, hy, rfl, h5⟩ | ⟨hn, rfl, h5⟩
    · clear hn1
      have hsz2 := pre_size hy
      have hy' : Hid (r.data.toList = 39 :: r2.data.toList) := Lib.hid hy
      have cU := until_any hG h5 ⟨#[39]⟩ (by decide) (by omega)
      clear hy h5
      go_wp2_with fail
      go_at_call 42
      with_reducible refine cU.mono ?_
      rintro e w6 ⟨hq, hk6⟩
      clear cU
      have hk6' := Lib.hid (hk5'.out.trans hk6)
      clear hk6 hk5'
      rcases hq with ⟨v, r3, hf, rfl, h6⟩ | ⟨hn, rfl, h6⟩
      · have hf' : Hid (find [39] r2.data.toList = some (v.data.toList, r3.data.toList)) := Lib.hid hf
        have hvs := (find_sizes (by decide) hf).1
        rw [← Lib.size_eq] at hvs
        have cC := contains_any v ⟨#[60]⟩ (by decide) w6 (h6.gw hG) (by omega)
        obtain ⟨K, hK⟩ : ∃ K, (find (⟨#[60]⟩ : ByteArray).data.toList v.data.toList).isSome = K := ⟨_, rfl⟩
        rw [hK] at cC
        have hK' : Hid ((find [60] v.data.toList).isSome = K) := Lib.hid hK
        have h6' := Lib.hid h6
        clear hf hK h6
        cases K with
        | true =>
          go_wp2_with fail
          go_at_call 76
          with_reducible refine cC.mono ?_
          rintro e w7 ⟨rfl, rfl⟩
          have cG := giveUp_any w7
          have hfin := Lib.hid (show QuP w0 b r l ps gone w7 from qu_no2 (.inr rfl) hy'.out hf'.out hK'.out h6'.out.bel)
          clear cC hf' hK' h6' hy'
          unfold gone at cG hfin
          go_wp2_with fail
          go_at_call 45
          with_reducible refine cG.mono ?_
          rintro e w5 ⟨rfl, rfl⟩
          go_wp2
          exact ⟨rfl, hfin.out, hk6'.out⟩
        | false =>
          go_wp2_with fail
          go_at_call 76
          with_reducible refine cC.mono ?_
          rintro e w7 ⟨rfl, rfl⟩
          have hfin := Lib.hid (show QuP w0 b r l ps (.returned (.string v)) w7 from qu_yes (.inr rfl) hy'.out hf'.out hK'.out h6'.out)
          clear cC hf' hK' h6' hy'
          go_wp2
          go_ret
          exact ⟨hfin.out, hk6'.out⟩
      · have hfin := Lib.hid (show QuP w0 b r l ps gone w6 from qu_no1 (.inr rfl) hy'.out hn h6)
        clear hn h6 hy'
        unfold gone at hfin ⊢
        go_wp2
        exact ⟨rfl, hfin.out, hk6'.out⟩
    · have hfin := Lib.hid (show QuP w0 b r l ps gone w5 from qu_no3 hn1.out hn h5)
      clear hn h5 hn1
      unfold gone at hfin ⊢
      go_wp2
      exact ⟨rfl, hfin.out, hk5'.out⟩

/-- a remark, or none -/
def RemP (w0 : World) (b : Nat) (r : ByteArray) (l : Row) (ps : Pq) (e : Ending) (w' : World) : Prop :=
  (∃ (t : Row) (r' : ByteArray), r.data.toList = remarkS ++ t ∧ Xm.remark t = some r'.data.toList ∧ e = .returned (.bool true) ∧ Bef w0 b r' l ps w') ∨ (remarkS.isPrefixOf r.data.toList = false ∧ e = .returned (.bool false) ∧ Bef w0 b r l ps w') ∨
  ∃ t : Row, r.data.toList = remarkS ++ t ∧ Xm.remark t = none ∧ e = gone ∧ Below w0.heap.size w0 w'
set_option maxHeartbeats 2000000 in
set_option maxRecDepth 100000 in
theorem remark_any {w0 w : World} (hG : Gw w0) {b : Nat} {r : ByteArray} {l : Row} {ps : Pq} (h : Bef w0 b r l ps w) (hr : r.size ≤ 65536) :
    Calls Tryz.prog 56 #[.pointer (some ⟨b, 0, none⟩)] w fun e w' => RemP w0 b r l ps e w' ∧ KeptR w w' := by
  have cT := take_any h ⟨#[60, 33, 45, 45]⟩
  clear h
  go_enter Tryz.func56, Tryz.ntmps56
  go_wp2_with fail
  go_at_call 41
  with_reducible refine cT.mono ?_
  rintro e w4 ⟨hq, hk4⟩
  clear cT
  have hk4' := Lib.hid hk4
  clear hk4
  rcases hq with ⟨r2, hy, rfl, h4⟩ | ⟨hn, rfl, h4⟩
  · have hsz2 := pre_size hy
    have hy' : Hid (r.data.toList = remarkS ++ r2.data.toList) := Lib.hid hy
    have cU := until_any hG h4 ⟨#[45, 45, 62]⟩ (by decide) (by omega)
    clear hy h4
    go_wp2_with fail
    go_at_call 42
    with_reducible refine cU.mono ?_
    rintro e w6 ⟨hq, hk6⟩
    clear cU
    have hk6' := Lib.hid (hk4'.out.trans hk6)
    clear hk6 hk4'
    rcases hq with ⟨v, r3, hf, rfl, h6⟩ | ⟨hn, rfl, h6⟩
    · have hf' : Hid (find [45, 45, 62] r2.data.toList = some (v.data.toList, r3.data.toList)) := Lib.hid hf
      have hvs := (find_sizes (by decide) hf).1
      rw [← Lib.size_eq] at hvs
      have cC := contains_any v ⟨#[45, 45]⟩ (by decide) w6 (h6.gw hG) (by omega)
      obtain ⟨K, hK⟩ : ∃ K, (find (⟨#[45, 45]⟩ : ByteArray).data.toList v.data.toList).isSome = K := ⟨_, rfl⟩
      rw [hK] at cC
      have hK' : Hid ((find [45, 45] v.data.toList).isSome = K) := Lib.hid hK
      have h6' := Lib.hid h6
      clear hf hK h6
      cases K with
      | true =>
        go_wp2_with fail
        go_at_call 76
        with_reducible refine cC.mono ?_
        rintro e w7 ⟨rfl, rfl⟩
        have cG := giveUp_any w7
        have hfin := Lib.hid (show RemP w0 b r l ps gone w7 from .inr (.inr ⟨_, hy'.out, by unfold Xm.remark; rw [hf'.out, Option.bind_some]; simp only; rw [if_pos hK'.out], rfl, h6'.out.bel⟩))
        clear cC hf' hK' h6' hy'
        unfold gone at cG hfin
        go_wp2_with fail
        go_at_call 45
        with_reducible refine cG.mono ?_
        rintro e w5 ⟨rfl, rfl⟩
        go_wp2
        exact ⟨rfl, hfin.out, hk6'.out⟩
      | false =>
        go_wp2_with fail
        go_at_call 76
        with_reducible refine cC.mono ?_
        rintro e w7 ⟨rfl, rfl⟩
        have hfin := Lib.hid (show RemP w0 b r l ps (.returned (.bool true)) w7 from .inl ⟨_, r3, hy'.out, by unfold Xm.remark; rw [hf'.out, Option.bind_some]; simp only; rw [if_neg (by rw [hK'.out]; decide)], rfl, h6'.out⟩)
        clear cC hf' hK' h6' hy'
        go_wp2
        go_ret
        exact ⟨hfin.out, hk6'.out⟩
    · have hfin := Lib.hid (show RemP w0 b r l ps gone w6 from .inr (.inr ⟨_, hy'.out, by unfold Xm.remark; rw [show find [45, 45, 62] r2.data.toList = none from hn]; rfl, rfl, h6⟩))
      clear hn h6 hy'
      unfold gone at hfin ⊢
      go_wp2
      exact ⟨rfl, hfin.out, hk6'.out⟩
  · have hfin := Lib.hid (show RemP w0 b r l ps (.returned (.bool false)) w4 from .inr (.inl ⟨hn, rfl, h4⟩))
    clear hn h4
    go_wp2
    go_ret
    exact ⟨hfin.out, hk4'.out⟩

/-! ### the spaces that values name -/
set_option maxHeartbeats 2000000 in
set_option maxRecDepth 100000 in
theorem spaceOf_any (v : ByteArray) (w : World) : Calls Tryz.prog 78 #[.string v] w fun e w' => e = .returned (.int .i64 (spaceOf v.data.toList)) ∧ w' = w := by
  unfold spaceOf
  by_cases h0 : v.data.toList = []
  · have hl : v.toList = [] := by rw [Lib.toList_data, h0]
    have he : v.toList.isEmpty = true := by rw [hl]; rfl
    rw [if_pos h0]
    clear h0
    go_enter Tryz.func78, Tryz.ntmps78
    go_wp2
    go_ret
    exact ⟨rfl, rfl⟩
  · rw [if_neg h0]
    have hl : ¬ v.toList = [] := by rw [Lib.toList_data]; exact h0
    have he : v.toList.isEmpty = false := by
      cases hv : v.toList with
      | nil => exact absurd hv hl
      | cons x t => rfl
    by_cases h1 : v.data.toList = davS
    · rw [if_pos h1]
      have e1 : (v.toList == [68, 65, 86, 58]) = true := by rw [Lib.toList_data, h1]; rfl
      have e1' : v.toList = [68, 65, 86, 58] := by rw [Lib.toList_data, h1]; rfl
      clear h0 h1
      go_enter Tryz.func78, Tryz.ntmps78
      go_wp2
      go_ret
      exact ⟨rfl, rfl⟩
    · rw [if_neg h1]
      have e1' : ¬ v.toList = [68, 65, 86, 58] := by rw [Lib.toList_data]; exact h1
      have e1 : (v.toList == [68, 65, 86, 58]) = false := beq_eq_false_iff_ne.2 e1'
      by_cases h2 : v.data.toList = cardS
      · rw [if_pos h2]
        have e2' : v.toList = [117, 114, 110, 58, 105, 101, 116, 102, 58, 112, 97, 114, 97, 109, 115, 58, 120, 109, 108, 58, 110, 115, 58, 99, 97, 114, 100, 100, 97, 118] := by rw [Lib.toList_data, h2]; rfl
        have e2 : (v.toList == [117, 114, 110, 58, 105, 101, 116, 102, 58, 112, 97, 114, 97, 109, 115, 58, 120, 109, 108, 58, 110, 115, 58, 99, 97, 114, 100, 100, 97, 118]) = true := by rw [e2']; decide
        clear h0 h1 h2
        go_enter Tryz.func78, Tryz.ntmps78
        go_wp2
        go_ret
        exact ⟨rfl, rfl⟩
      · rw [if_neg h2]
        have e2' : ¬ v.toList = [117, 114, 110, 58, 105, 101, 116, 102, 58, 112, 97, 114, 97, 109, 115, 58, 120, 109, 108, 58, 110, 115, 58, 99, 97, 114, 100, 100, 97, 118] := by rw [Lib.toList_data]; exact h2
        have e2 : (v.toList == [117, 114, 110, 58, 105, 101, 116, 102, 58, 112, 97, 114, 97, 109, 115, 58, 120, 109, 108, 58, 110, 115, 58, 99, 97, 114, 100, 100, 97, 118]) = false := beq_eq_false_iff_ne.2 e2'
        clear h0 h1 h2
        go_enter Tryz.func78, Tryz.ntmps78
        go_wp2
        go_ret
        exact ⟨rfl, rfl⟩
end Go.Proofs.YtjeagjleolmibaaGreatDoor.Xm

/-
  WALKS OF strings.IndexRune at whatever two bytes or more below 128 are looked for (at most 64).
-/
set_option linter.unusedVariables false
namespace Go.Proofs.YtjeagjleolmibaaGreatDoor.An
open Go.Lib Go.RowKit

theorem drewN_below {a w : World} (n : Nat) (h : Below a.heap.size a w) : Below a.heap.size a (w.drewN n) := ⟨h.os, h.tape, h.output, h.size, h.block⟩
theorem quiet_again {P : Program} {f : FuncId} {args : Array Value} {w : World} {a n : Nat} {v : Value}
    (h : Calls P f args (w.drewN (a + n)) fun e w' => e = .returned v ∧ w' = w.drewN (a + n)) :
    Calls P f args (w.drewN (a + n)) fun e w'' => e = .returned v ∧ ∃ m, w'' = w.drewN (a + m) :=
  h.mono fun _ _ ⟨he, hm⟩ => ⟨he, n, hm⟩
theorem valid_of (r : Int) (h : Lib.validRune r = true) : Utf8.valid r = true := by
  unfold Lib.validRune at h
  unfold Utf8.valid
  have h := of_decide_eq_true h
  simp
  omega
/-- bytes below 128 -/
def Asc (cs : ByteArray) : Prop := ∀ (j : Nat) b, cs.data.toList[j]? = some b → b.toNat < 128
theorem Asc.at {cs : ByteArray} (h : Asc cs) (i : Nat) (hi : i < cs.size) : (cs[i]'hi).toNat < 128 := h i _ (Lib.data_getElem? cs i hi)
theorem Asc.cut {cs : ByteArray} (h : Asc cs) (k : Nat) : Asc (cs.extract k cs.size) := fun j b hb => by
  rw [Lib.extract_to_end, List.getElem?_drop] at hb
  exact h _ _ hb
theorem Asc.none {cs : ByteArray} (h : Asc cs) (c : Int) (h1 : 128 ≤ c) (h2 : c < 256) : Lib.indexByte cs.data.toList c.toNat.toUInt8 = -1 := by
  have hge := Lib.indexByte_ge cs.data.toList c.toNat.toUInt8
  by_cases hn : Lib.indexByte cs.data.toList c.toNat.toUInt8 = -1
  · exact hn
  · obtain ⟨k, hk⟩ : ∃ k : Nat, Lib.indexByte cs.data.toList c.toNat.toUInt8 = k := ⟨(Lib.indexByte cs.data.toList c.toNat.toUInt8).toNat, by omega⟩
    have := h k _ (Lib.indexByte_some hk).1
    have e : c.toNat.toUInt8.toNat = c.toNat := by simp [UInt8.toNat_ofNat']; omega
    rw [e] at this
    omega


set_option maxHeartbeats 2000000 in
set_option maxRecDepth 1000000 in
theorem indexRune_far2 (cs : ByteArray) (c : Nat) (rs : ByteArray) (w : World) (h1 : 128 ≤ c) (d2 : ((c : Int) == 65533) = false) (hrs : Utf8.encode (c : Int) = rs) (h2 : rs.size = 2) (hcs : cs.size ≤ 1)
    (cV : ∀ W, Calls Tryz.prog 96 #[.int .i32 (c : Int)] W fun e w' => e = .returned (.bool true) ∧ w' = W) :
    Calls Tryz.prog 98 #[.string cs, .int .i32 (c : Int)] w fun e w' => e = .returned (.int .i64 (-1)) ∧ Below w.heap.size w w' := by
  go_enter Tryz.func98, Tryz.ntmps98
  go_wp2_with (go_at_call 96; refine (cV _).mono ?_; rintro e w' ⟨rfl, rfl⟩)
  go_step3
  go_wp2
  refine wp_loop_rounds 1 ?_
  rw [rounds_succ]
  go_wp2
  rw [Exit.noGoto_ret]
  go_ret
  exact ⟨rfl, Below.refl _ _⟩

set_option maxHeartbeats 2000000 in
set_option maxRecDepth 1000000 in
theorem indexRune_near2 (cs : ByteArray) (ha : Asc cs) (c : Nat) (rs : ByteArray) (w : World) (h1 : 128 ≤ c) (d2 : ((c : Int) == 65533) = false) (hrs : Utf8.encode (c : Int) = rs) (h2 : rs.size = 2) (hl : 1 < rs.size) (hb : 128 ≤ (rs[1]'hl).toNat) (hcs : 1 < cs.size) (hbig : cs.size ≤ 64)
    (cV : ∀ W, Calls Tryz.prog 96 #[.int .i32 (c : Int)] W fun e w' => e = .returned (.bool true) ∧ w' = W) :
    Calls Tryz.prog 98 #[.string cs, .int .i32 (c : Int)] w fun e w' => e = .returned (.int .i64 (-1)) ∧ Below w.heap.size w w' := by
  have e10 := ha.at 1 hcs
  have dne : ((((cs[1]'hcs)).toNat : Int) != ((rs[1]'hl).toNat : Int)) = true := by rw [bne_iff_ne]; omega
  have hlt := (rs[1]'hl).toNat_lt
  have cB := fun W => Tryz.strings_IndexByte (cs.extract 2 cs.size) ((rs[1]'hl).toNat : Int) W
  rw [(ha.cut 2).none ((rs[1]'hl).toNat : Int) (by omega) (by omega)] at cB
  clear e10
  go_enter Tryz.func98, Tryz.ntmps98
  go_wp2_with (go_at_call 96; refine (cV _).mono ?_; rintro e w' ⟨rfl, rfl⟩)
  go_step3
  go_wp2
  refine wp_loop_rounds 1 ?_
  rw [rounds_succ]
  go_wp2
  go_step3
  go_wp2
  go_quiet (fail)
  go_wp2
  have w2 : IntKind.i64.wrap 2 = 2 := by decide
  go_quiet ((go_at_call 113; exact quiet_again (cB _)))
  go_wp2
  rw [Exit.noGoto_ret]
  go_simp
  go_ret
  exact ⟨rfl, drewN_below _ (Below.refl _ _)⟩


set_option maxHeartbeats 2000000 in
set_option maxRecDepth 1000000 in
theorem indexRune_far3 (cs : ByteArray) (c : Nat) (rs : ByteArray) (w : World) (h1 : 128 ≤ c) (d2 : ((c : Int) == 65533) = false) (hrs : Utf8.encode (c : Int) = rs) (h2 : rs.size = 3) (hcs : cs.size ≤ 2)
    (cV : ∀ W, Calls Tryz.prog 96 #[.int .i32 (c : Int)] W fun e w' => e = .returned (.bool true) ∧ w' = W) :
    Calls Tryz.prog 98 #[.string cs, .int .i32 (c : Int)] w fun e w' => e = .returned (.int .i64 (-1)) ∧ Below w.heap.size w w' := by
  go_enter Tryz.func98, Tryz.ntmps98
  go_wp2_with (go_at_call 96; refine (cV _).mono ?_; rintro e w' ⟨rfl, rfl⟩)
  go_step3
  go_wp2
  refine wp_loop_rounds 1 ?_
  rw [rounds_succ]
  go_wp2
  rw [Exit.noGoto_ret]
  go_ret
  exact ⟨rfl, Below.refl _ _⟩

set_option maxHeartbeats 2000000 in
set_option maxRecDepth 1000000 in
theorem indexRune_near3 (cs : ByteArray) (ha : Asc cs) (c : Nat) (rs : ByteArray) (w : World) (h1 : 128 ≤ c) (d2 : ((c : Int) == 65533) = false) (hrs : Utf8.encode (c : Int) = rs) (h2 : rs.size = 3) (hl : 2 < rs.size) (hb : 128 ≤ (rs[2]'hl).toNat) (hcs : 2 < cs.size) (hbig : cs.size ≤ 64)
    (cV : ∀ W, Calls Tryz.prog 96 #[.int .i32 (c : Int)] W fun e w' => e = .returned (.bool true) ∧ w' = W) :
    Calls Tryz.prog 98 #[.string cs, .int .i32 (c : Int)] w fun e w' => e = .returned (.int .i64 (-1)) ∧ Below w.heap.size w w' := by
  have e10 := ha.at 2 hcs
  have dne : ((((cs[2]'hcs)).toNat : Int) != ((rs[2]'hl).toNat : Int)) = true := by rw [bne_iff_ne]; omega
  have hlt := (rs[2]'hl).toNat_lt
  have cB := fun W => Tryz.strings_IndexByte (cs.extract 3 cs.size) ((rs[2]'hl).toNat : Int) W
  rw [(ha.cut 3).none ((rs[2]'hl).toNat : Int) (by omega) (by omega)] at cB
  clear e10
  go_enter Tryz.func98, Tryz.ntmps98
  go_wp2_with (go_at_call 96; refine (cV _).mono ?_; rintro e w' ⟨rfl, rfl⟩)
  go_step3
  go_wp2
  refine wp_loop_rounds 1 ?_
  rw [rounds_succ]
  go_wp2
  go_step3
  go_wp2
  go_quiet (fail)
  go_wp2
  have w2 : IntKind.i64.wrap 3 = 3 := by decide
  go_quiet ((go_at_call 113; exact quiet_again (cB _)))
  go_wp2
  rw [Exit.noGoto_ret]
  go_simp
  go_ret
  exact ⟨rfl, drewN_below _ (Below.refl _ _)⟩


set_option maxHeartbeats 2000000 in
set_option maxRecDepth 1000000 in
theorem indexRune_far4 (cs : ByteArray) (c : Nat) (rs : ByteArray) (w : World) (h1 : 128 ≤ c) (d2 : ((c : Int) == 65533) = false) (hrs : Utf8.encode (c : Int) = rs) (h2 : rs.size = 4) (hcs : cs.size ≤ 3)
    (cV : ∀ W, Calls Tryz.prog 96 #[.int .i32 (c : Int)] W fun e w' => e = .returned (.bool true) ∧ w' = W) :
    Calls Tryz.prog 98 #[.string cs, .int .i32 (c : Int)] w fun e w' => e = .returned (.int .i64 (-1)) ∧ Below w.heap.size w w' := by
  go_enter Tryz.func98, Tryz.ntmps98
  go_wp2_with (go_at_call 96; refine (cV _).mono ?_; rintro e w' ⟨rfl, rfl⟩)
  go_step3
  go_wp2
  refine wp_loop_rounds 1 ?_
  rw [rounds_succ]
  go_wp2
  rw [Exit.noGoto_ret]
  go_ret
  exact ⟨rfl, Below.refl _ _⟩

set_option maxHeartbeats 2000000 in
set_option maxRecDepth 1000000 in
theorem indexRune_near4 (cs : ByteArray) (ha : Asc cs) (c : Nat) (rs : ByteArray) (w : World) (h1 : 128 ≤ c) (d2 : ((c : Int) == 65533) = false) (hrs : Utf8.encode (c : Int) = rs) (h2 : rs.size = 4) (hl : 3 < rs.size) (hb : 128 ≤ (rs[3]'hl).toNat) (hcs : 3 < cs.size) (hbig : cs.size ≤ 64)
    (cV : ∀ W, Calls Tryz.prog 96 #[.int .i32 (c : Int)] W fun e w' => e = .returned (.bool true) ∧ w' = W) :
    Calls Tryz.prog 98 #[.string cs, .int .i32 (c : Int)] w fun e w' => e = .returned (.int .i64 (-1)) ∧ Below w.heap.size w w' := by
  have e10 := ha.at 3 hcs
  have dne : ((((cs[3]'hcs)).toNat : Int) != ((rs[3]'hl).toNat : Int)) = true := by rw [bne_iff_ne]; omega
  have hlt := (rs[3]'hl).toNat_lt
  have cB := fun W => Tryz.strings_IndexByte (cs.extract 4 cs.size) ((rs[3]'hl).toNat : Int) W
  rw [(ha.cut 4).none ((rs[3]'hl).toNat : Int) (by omega) (by omega)] at cB
  clear e10
  go_enter Tryz.func98, Tryz.ntmps98
  go_wp2_with (go_at_call 96; refine (cV _).mono ?_; rintro e w' ⟨rfl, rfl⟩)
  go_step3
  go_wp2
  refine wp_loop_rounds 1 ?_
  rw [rounds_succ]
  go_wp2
  go_step3
  go_wp2
  go_quiet (fail)
  go_wp2
  have w2 : IntKind.i64.wrap 4 = 4 := by decide
  go_quiet ((go_at_call 113; exact quiet_again (cB _)))
  go_wp2
  rw [Exit.noGoto_ret]
  go_simp
  go_ret
  exact ⟨rfl, drewN_below _ (Below.refl _ _)⟩


set_option maxHeartbeats 2000000 in
set_option maxRecDepth 1000000 in
theorem indexRune_big (cs : ByteArray) (ha : Asc cs) (hbig : cs.size ≤ 64) (c : Nat) (w : World) (h1 : 128 ≤ c) (h3 : c ≠ 65533) :
    Calls Tryz.prog 98 #[.string cs, .int .i32 (c : Int)] w fun e w' => e = .returned (.int .i64 (-1)) ∧ Below w.heap.size w w' := by
  have d2 : ((c : Int) == 65533) = false := beq_eq_false_iff_ne.2 (by omega)
  cases hv : Lib.validRune (c : Int)
  · have cV := fun W => Tryz.utf8_ValidRune (c : Int) W
    rw [hv] at cV
    clear hv
    go_enter Tryz.func98, Tryz.ntmps98
    go_wp2_with (go_at_call 96; refine (cV _).mono ?_; rintro e w' ⟨rfl, rfl⟩)
    go_ret
    exact ⟨rfl, Below.refl _ _⟩
  · have cV := fun W => Tryz.utf8_ValidRune (c : Int) W
    rw [hv] at cV
    obtain ⟨hz, hz4, hl⟩ := encode_facts (c : Int) (valid_of _ hv) (by omega)
    clear hv
    obtain ⟨rs, hrs⟩ : ∃ rs, Utf8.encode (c : Int) = rs := ⟨_, rfl⟩
    rw [hrs] at hz hz4
    have hl2 : ∀ h : rs.size - 1 < rs.size, 128 ≤ (rs[rs.size - 1]'h).toNat := by subst hrs; exact hl
    have hsz : rs.size = 2 ∨ rs.size = 3 ∨ rs.size = 4 := by omega
    rcases hsz with h2 | h2 | h2

    · have hb := hl2 (by omega)
      rcases Nat.lt_or_ge 1 cs.size with h | h
      · exact indexRune_near2 cs ha c rs w h1 d2 hrs h2 (by omega) (by simpa only [h2] using hb) h hbig cV
      · exact indexRune_far2 cs c rs w h1 d2 hrs h2 h cV

    · have hb := hl2 (by omega)
      rcases Nat.lt_or_ge 2 cs.size with h | h
      · exact indexRune_near3 cs ha c rs w h1 d2 hrs h2 (by omega) (by simpa only [h2] using hb) h hbig cV
      · exact indexRune_far3 cs c rs w h1 d2 hrs h2 h cV

    · have hb := hl2 (by omega)
      rcases Nat.lt_or_ge 3 cs.size with h | h
      · exact indexRune_near4 cs ha c rs w h1 d2 hrs h2 (by omega) (by simpa only [h2] using hb) h hbig cV
      · exact indexRune_far4 cs c rs w h1 d2 hrs h2 h cV


set_option maxHeartbeats 2000000 in
set_option maxRecDepth 1000000 in
/-- the rune that stands for a broken byte -/
theorem indexRune_err (cs : ByteArray) (ha : Asc cs) (hbig : cs.size ≤ 64) (w : World) : Calls Tryz.prog 98 #[.string cs, .int .i32 65533] w fun e w' => e = .returned (.int .i64 (-1)) ∧ Below w.heap.size w w' := by
  go_enter Tryz.func98, Tryz.ntmps98
  go_wp2
  go_loopg [5, 6] cs.size (fun g _ _ wx => ∃ i : Nat, i + g = cs.size ∧ wx = w.iter cs i)
  case atStart => exact ⟨0, by omega, rfl⟩
  case round =>
    obtain ⟨i, hig, rfl⟩ := hrel
    by_cases hlt : i < cs.size
    · have hai := ha.at i hlt
      have hnx := fun ty => run_next_ascii (P := Tryz.prog) w cs i ty hlt hai
      have d1 : (((cs[i]'hlt).toNat : Int) == 65533) = false := beq_eq_false_iff_ne.2 (by omega)
      obtain ⟨g, rfl⟩ : ∃ g, gk = g + 1 := ⟨gk - 1, by omega⟩
      clear hai
      go_wp2
      go_roundg g
      case measure => omega
      case rel => exact ⟨i + 1, by omega, rfl⟩
    · have hnx := fun ty => run_next_end (P := Tryz.prog) w cs i ty hlt
      go_wp2
      go_ret
      exact ⟨rfl, (Below.refl _ _).alloc (Nat.le_refl _) _⟩

/-- a rune at the front: a byte below 128, or bytes none of which is below -/
theorem dec_facts (l : List UInt8) (hne : l ≠ []) :
    1 ≤ (decodeL l).2 ∧ (decodeL l).2 ≤ l.length ∧ (((decodeL l).1 < 128 ∧ (decodeL l).2 = 1 ∧ (l.getD 0 0).toNat = (decodeL l).1) ∨ (128 ≤ (decodeL l).1 ∧ ∀ j, j < (decodeL l).2 → 128 ≤ (l.getD j 0).toNat)) := by
  have hp := Ch.pos_of_ne hne
  have hw := decodeL_width l
  have hr : Ch.rune l = if decodeL l = (65533, 1) then (0, 0) else decodeL l := by
    rw [Ch.rune_eq l hne, decodeL_N]
    rfl
  by_cases h0 : (l.getD 0 0).toNat < 128
  · have e := Ch.runeN_one l.length (l.getD 0 0).toNat (l.getD 1 0).toNat (l.getD 2 0).toNat (l.getD 3 0).toNat h0
    rw [← Ch.rune_eq l hne, hr] at e
    by_cases hd : decodeL l = (65533, 1)
    · rw [if_pos hd] at e
      have := congrArg Prod.snd e
      simp at this
    · rw [if_neg hd] at e
      rw [e]
      exact ⟨Nat.le_refl _, hp, .inl ⟨h0, rfl, rfl⟩⟩
  · by_cases hd : decodeL l = (65533, 1)
    · rw [hd]
      refine ⟨Nat.le_refl _, hp, .inr ⟨by decide, fun j hj => ?_⟩⟩
      obtain rfl : j = 0 := by simpa using hj
      omega
    · rw [if_neg hd] at hr
      have hk : (Ch.rune l).2 ≠ 0 := by rw [hr]; omega
      obtain ⟨t1, t2, t3, t4⟩ := Ch.rune_tells hne hk
      rw [hr] at t1 t2 t3 t4
      rcases t4 with ⟨t4, _⟩ | ⟨t4, t5⟩
      · omega
      · refine ⟨hw, t1, .inr ⟨t3 t5, fun j hj => ?_⟩⟩
        rcases Nat.eq_zero_or_pos j with rfl | hj0
        · omega
        · exact (t2 j hj0 hj).1


/-- no byte of some in the first k -/
theorem NoAny.more {l cs : List UInt8} {pos n : Nat} (h : Lib.NoAny l cs pos) (ha : ∀ (j : Nat) b, cs[j]? = some b → b.toNat < 128) (hb : ∀ j, j < n → 128 ≤ ((l.drop pos).getD j 0).toNat) : Lib.NoAny l cs (pos + n) := by
  intro j b hj hjb
  by_cases hlt : j < pos
  · exact h j b hlt hjb
  · have := hb (j - pos) (by omega)
    rw [List.getD_eq_getElem?_getD, List.getElem?_drop, show pos + (j - pos) = j by omega, hjb] at this
    rw [Bool.eq_false_iff]
    intro hm
    obtain ⟨k, hk⟩ := List.mem_iff_getElem?.1 (by simpa using hm)
    have := ha k b hk
    simp at *
    omega
theorem NoAny.one {l cs : List UInt8} {pos : Nat} {x : UInt8} (h : Lib.NoAny l cs pos) (hx : l[pos]? = some x) (hn : cs.contains x = false) : Lib.NoAny l cs (pos + 1) := by
  intro j b hj hjb
  by_cases hlt : j < pos
  · exact h j b hlt hjb
  · obtain rfl : j = pos := by omega
    rw [hx] at hjb
    obtain rfl := Option.some.inj hjb
    exact hn
theorem in_index (l : List UInt8) (c : UInt8) : l.contains c = decide (0 ≤ Lib.indexByte l c) := by
  have hge := Lib.indexByte_ge l c
  by_cases hn : Lib.indexByte l c = -1
  · rw [hn]
    have : c ∉ l := fun hm => by
      obtain ⟨k, hk⟩ := List.mem_iff_getElem?.1 hm
      exact Lib.indexByte_none hn k hk
    simpa using this
  · obtain ⟨k, hk⟩ : ∃ k : Nat, Lib.indexByte l c = k := ⟨(Lib.indexByte l c).toNat, by omega⟩
    have := List.mem_iff_getElem?.2 ⟨k, (Lib.indexByte_some hk).1⟩
    rw [hk, decide_eq_true (by omega)]
    simpa using this

/-- IndexRune at whatever rune: found or not -/
theorem indexRune_at (cs : ByteArray) (ha : Asc cs) (hbig : cs.size ≤ 64) (c : Nat) (w : World) : Calls Tryz.prog 98 #[.string cs, .int .i32 (c : Int)] w fun e w' => (∃ i : Int, e = .returned (.int .i64 i) ∧ (if c < 128 then cs.data.toList.contains (UInt8.ofNat c) else false) = decide (0 ≤ i)) ∧ Below w.heap.size w w' := by
  by_cases h1 : c < 128
  · refine (Tryz.strings_IndexRune_ascii cs (c : Int) w (by omega) (by omega)).mono ?_
    rintro e w' ⟨rfl, rfl⟩
    refine ⟨⟨_, rfl, ?_⟩, Below.refl _ _⟩
    rw [if_pos h1, in_index]
    rfl
  · rw [if_neg h1]
    have hno : ∀ e w', (e = Ending.returned (.int .i64 (-1)) ∧ Below w.heap.size w w') → (∃ i : Int, e = .returned (.int .i64 i) ∧ false = decide (0 ≤ i)) ∧ Below w.heap.size w w' := fun e w' ⟨h, hb⟩ => ⟨⟨-1, h, rfl⟩, hb⟩
    by_cases h3 : c = 65533
    · subst h3; exact (indexRune_err cs ha hbig w).mono hno
    · exact (indexRune_big cs ha hbig c w (by omega) h3).mono hno

end Go.Proofs.YtjeagjleolmibaaGreatDoor.An
