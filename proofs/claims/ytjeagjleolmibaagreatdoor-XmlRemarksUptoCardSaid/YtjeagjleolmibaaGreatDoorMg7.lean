import Derived.Test.YtjeagjleolmibaaGreatDoorMg6
import Derived.Lib.FrozenHead
import Derived.Lib.UnsafeStr
import Derived.BigQuiet
import Derived.Deep.QuietTactic
import Derived.RegionTactic
import Derived.Test.YtjeagjleolmibaaGreatDoorMg5
import Derived.Test.YtjeagjleolmibaaGreatDoorMg1
import Derived.Lib.Hide
import Derived.WalkMore
import Derived.LoopTactic
import Derived.Laws.IdiomStrings
import Derived.Laws.MakeOwn
import Derived.Shelf.Strings.SlTrimAscii
import Derived.Lib.IndexMore
import Derived.Test.YtjeagjleolmibaaGreatDoorMg4

/-
  THE PROGRAM's READER OF LAYER xml IN MEMORY ('Rd'): its block, the bytes and the pieces of its own, what its calls leave ('KeptR'); strings.Builder's calls at its field.
-/
set_option linter.unusedVariables false
namespace Go.Proofs.YtjeagjleolmibaaGreatDoor.Xm
open Go.Lib Go.RowKit

/-! ### what is left -/
/-- a block that the reader's calls write -/
def frail (o : Obj) : Prop := ∃ cs t fr, o = .cells cs t fr ∧ (t = 5 ∨ t = 61)
def KeptR (w w' : World) : Prop := w.heap.size ≤ w'.heap.size ∧ ∀ (k : Nat) (o : Obj), w.heap[k]? = some o → ¬ frail o → w'.heap[k]? = some o
theorem KeptR.refl (w : World) : KeptR w w := ⟨Nat.le_refl _, fun _ _ h _ => h⟩
theorem KeptR.trans {a b c : World} (h : KeptR a b) (k : KeptR b c) : KeptR a c := ⟨Nat.le_trans h.1 k.1, fun i o hi hf => k.2 i o (h.2 i o hi hf) hf⟩
theorem KeptR.of_below {w w' : World} (h : Below w.heap.size w w') : KeptR w w' := ⟨h.size, fun i o hi _ => (h.block i (Array.getElem?_eq_some_iff.1 hi).1).trans hi⟩
theorem KeptR.setCell {w : World} {b : Nat} {cs : Array Value} {fr : Nat × Nat} (hb : w.heap[b]? = some (.cells cs 61 fr)) (o : Nat) (u : Value) : KeptR w (w.setCell ⟨b, o, none⟩ u) := ⟨by simp [World.setCell], fun i ob hi hf => by
  rw [Below.heap_setCell w ⟨b, o, none⟩ u i (fun e => by
    have e : i = b := e
    subst e
    rw [hb] at hi
    injection hi with hi
    exact hf ⟨cs, _, fr, hi.symm, .inr rfl⟩)]
  exact hi⟩
theorem KeptR.grownB {w w' : World} {B : Nat} {size n : Nat} {v : Value} {xs : List Value} (h : w.ownsRowF B 5 size v n xs) (hg : w.grownBy w' v.ownBlock) : KeptR w w' := ⟨hg.size, fun i o hi hf => by
  rw [hg.block i (Array.getElem?_eq_some_iff.1 hi).1 (fun e => by
    rcases h.2 with ⟨hv, _⟩ | ⟨g, cap, cur, fz, hv, _, hh, _⟩
    · rw [hv] at e; cases e
    · rw [hv] at e
      have e : i = g := by simpa [Value.ownBlock] using e
      subst e
      rw [hi] at hh
      injection hh with hh
      exact hf ⟨cur, _, fz, hh, .inl rfl⟩)]
  exact hi⟩
theorem KeptR.freeze {w : World} {g : Nat} {cs : Array Value} {fr : Nat × Nat} (hb : w.heap[g]? = some (.cells cs 5 fr)) (n : Nat) : KeptR w (w.freeze ⟨g, 0, none⟩ n) := ⟨by unfold World.freeze; split <;> simp, fun i o hi hf => by
  unfold World.freeze
  split
  · exact hi
  · have hne : g ≠ i := fun e => by
      subst e
      rw [hb] at hi
      injection hi with hi
      exact hf ⟨cs, _, fr, hi.symm, .inl rfl⟩
    simp only [Array.getElem?_modify]
    rw [if_neg hne]
    exact hi⟩

/-! ### the reader -/
theorem ownsRowF_kept {w w' : World} {B : Nat} {e : TypeId} {size : Nat} {v : Value} {n : Nat} {xs : List Value} (h : w.ownsRowF B e size v n xs) (hb : ∀ i o, w.heap[i]? = some o → v.ownBlock = some i → w'.heap[i]? = some o) : w'.ownsRowF B e size v n xs := by
  refine ⟨h.1, ?_⟩
  rcases h.2 with h | ⟨g, cap, cur, fz, e1, e2, e3, e4⟩
  · exact .inl h
  · exact .inr ⟨g, cap, cur, fz, e1, e2, hb g _ e3 (by rw [e1]; rfl), e4⟩
theorem psOwn_kept {w w' : World} {B : Nat} {v : Value} {ps : List Pc} (h : PsOwn B v ps w) (hb : ∀ i o, w.heap[i]? = some o → v.ownBlock = some i → w'.heap[i]? = some o) : PsOwn B v ps w' := by
  refine ⟨h.1, ?_⟩
  rcases h.2 with h | ⟨g, cap, cur, e1, e2, e3, e4⟩
  · exact .inl h
  · exact .inr ⟨g, cap, cur, e1, e2, hb g _ e3 (by rw [e1]; rfl), e4⟩
theorem rowB_type {w : World} {B : Nat} {v : Value} {n : Nat} {xs : List Value} {size : Nat} (h : w.ownsRowF B 5 size v n xs) {i : Nat} (hi : v.ownBlock = some i) : ∃ cs fr, w.heap[i]? = some (.cells cs 5 fr) := by
  rcases h.2 with ⟨hv, _⟩ | ⟨g, cap, cur, fz, hv, _, hh, _⟩
  · rw [hv] at hi; cases hi
  · rw [hv] at hi
    have e : g = i := by simpa [Value.ownBlock] using hi
    exact ⟨cur, fz, e ▸ hh⟩
theorem rowP_type {w : World} {B : Nat} {v : Value} {ps : List Pc} (h : PsOwn B v ps w) {i : Nat} (hi : v.ownBlock = some i) : ∃ cs fr, w.heap[i]? = some (.cells cs 37 fr) := by
  rcases h.2 with ⟨hv, _⟩ | ⟨g, cap, cur, hv, _, hh, _⟩
  · rw [hv] at hi; cases hi
  · rw [hv] at hi
    have e : g = i := by simpa [Value.ownBlock] using hi
    exact ⟨cur, (0, 0), e ▸ hh⟩
theorem types_ne : (5 : TypeId) ≠ 37 ∧ (5 : TypeId) ≠ 61 ∧ (37 : TypeId) ≠ 61 := by decide
theorem cells_type {w : World} {i : Nat} {cs cs' : Array Value} {t t' : TypeId} {fr fr' : Nat × Nat} (h : w.heap[i]? = some (.cells cs t fr)) (h' : w.heap[i]? = some (.cells cs' t' fr')) : t = t' := by
  rw [h] at h'
  injection h' with h'
  injection h' with _ h' _

/-- the reader in block b: what isn't read yet, the characters, the pieces -/
structure RdV (B b : Nat) (r : ByteArray) (p v : Value) (l : Row) (q : Value) (ps : List Pc) (w : World) : Prop where
  hB : B ≤ b
  at0 : w.heap[b]? = some (.cells #[.string r, p, v, q] 61 (0, 0))
  ptr : p = .pointer none ∨ p = .pointer (some ⟨b, 1, none⟩)
  row : w.ownsRowF B 5 1 v l.length (byteCells l)
  nil : l = [] → v = .slice none 0 0
  pcs : PsOwn B q ps w
/-- pieces, and the slice that holds them -/
abbrev Pq := List Pc × Value
def Rd (B b : Nat) (r : ByteArray) (l : Row) (ps : Pq) (w : World) : Prop := ∃ p v, RdV B b r p v l ps.2 ps.1 w
theorem RdV.lt {B b : Nat} {r : ByteArray} {p v q : Value} {l : Row} {ps : List Pc} {w : World} (h : RdV B b r p v l q ps w) : b < w.heap.size := (Array.getElem?_eq_some_iff.1 h.at0).1
theorem RdV.kept {B b : Nat} {r : ByteArray} {p v q : Value} {l : Row} {ps : List Pc} {w w' : World} (h : RdV B b r p v l q ps w) (hb : Below w.heap.size w w') : RdV B b r p v l q ps w' :=
  have hk : ∀ (i : Nat) (o : Obj), w.heap[i]? = some o → w'.heap[i]? = some o := fun i o hi => (hb.block i (Array.getElem?_eq_some_iff.1 hi).1).trans hi
  ⟨h.hB, hk _ _ h.at0, h.ptr, ownsRowF_kept h.row (fun i o hi _ => hk i o hi), h.nil, psOwn_kept h.pcs (fun i o hi _ => hk i o hi)⟩
theorem Rd.kept {B b : Nat} {r : ByteArray} {l : Row} {ps : Pq} {w w' : World} (h : Rd B b r l ps w) (hb : Below w.heap.size w w') : Rd B b r l ps w' := by
  obtain ⟨p, v, h⟩ := h; exact ⟨p, v, h.kept hb⟩
theorem Rd.lt {B b : Nat} {r : ByteArray} {l : Row} {ps : Pq} {w : World} (h : Rd B b r l ps w) : B ≤ b ∧ b < w.heap.size := by
  obtain ⟨p, v, h⟩ := h; exact ⟨h.hB, h.lt⟩
/-- a store into one of its cells -/
theorem RdV.set {B b : Nat} {r r' : ByteArray} {p p' v v' q q' u : Value} {l' : Row} {ps' : List Pc} {w : World} (o : Nat) (h : w.heap[b]? = some (.cells #[.string r, p, v, q] 61 (0, 0))) (hB : B ≤ b)
    (hset : (#[.string r, p, v, q] : Array Value).setIfInBounds o u = #[.string r', p', v', q']) (hp : p' = .pointer none ∨ p' = .pointer (some ⟨b, 1, none⟩)) (hv : w.ownsRowF B 5 1 v' l'.length (byteCells l')) (hn : l' = [] → v' = .slice none 0 0) (hq : PsOwn B q' ps' w) :
    RdV B b r' p' v' l' q' ps' (w.setCell ⟨b, o, none⟩ u) := by
  have hk : ∀ (i : Nat), i ≠ b → (w.setCell ⟨b, o, none⟩ u).heap[i]? = w.heap[i]? := fun i hi => Below.heap_setCell w ⟨b, o, none⟩ u i hi
  refine ⟨hB, ?_, hp, ownsRowF_kept hv (fun i ob hi ho => ?_), hn, psOwn_kept hq (fun i ob hi ho => ?_)⟩
  · simp only [World.setCell, Array.getElem?_modify]
    rw [if_pos trivial, h]
    simp only [Option.map_some]
    rw [hset]
    rfl
  · rw [hk i (fun e => ?_)]; exact hi
    subst e
    obtain ⟨cs, fr, h1⟩ := rowB_type hv ho
    exact types_ne.2.1 (cells_type h1 h)
  · rw [hk i (fun e => ?_)]; exact hi
    subst e
    obtain ⟨cs, fr, h1⟩ := rowP_type hq ho
    exact types_ne.2.2 (cells_type h1 h)
theorem RdV.cell {B b : Nat} {r : ByteArray} {p v q : Value} {l : Row} {ps : List Pc} {w : World} (h : RdV B b r p v l q ps w) : w.cell? ⟨b, 0, none⟩ = some (.string r) ∧ w.cell? ⟨b, 1, none⟩ = some p ∧ w.cell? ⟨b, 2, none⟩ = some v ∧ w.cell? ⟨b, 3, none⟩ = some q := by
  refine ⟨?_, ?_, ?_, ?_⟩ <;> (rw [Lib.cell_of_heap h.at0]; rfl)
theorem RdV.free {B b : Nat} {r : ByteArray} {p v q : Value} {l : Row} {ps : List Pc} {w : World} (h : RdV B b r p v l q ps w) (o : Nat) : w.frozen? ⟨b, o, none⟩ = false := Lib.frozen_of_heap h.at0 o
theorem RdV.rest {B b : Nat} {r : ByteArray} {p v q : Value} {l : Row} {ps : List Pc} {w : World} (h : RdV B b r p v l q ps w) (r' : ByteArray) : RdV B b r' p v l q ps (w.setCell ⟨b, 0, none⟩ (.string r')) :=
  RdV.set 0 h.at0 h.hB rfl h.ptr h.row h.nil h.pcs
theorem RdV.form {B b : Nat} {r : ByteArray} {p v q : Value} {l : Row} {ps : List Pc} {w : World} (h : RdV B b r p v l q ps w) : (∃ A c, v = .slice A l.length c) ∧ ∃ A c, q = .slice A ps.length c := by
  refine ⟨?_, ownsRow_form h.pcs⟩
  rcases h.row.2 with ⟨hv, hn⟩ | ⟨g, cap, cur, fz, e1, _⟩
  · exact ⟨none, 0, by rw [hv, hn]⟩
  · exact ⟨_, _, e1⟩

/-! ### the builder in it -/
theorem sizeB : (Tryz.prog.info? 51).map (·.size) = some 2 := by kernel_rfl
theorem liesR : liesAt Tryz.prog Tryz.prog.depth 61 (4 / Tryz.prog.cellsOf 61) 1 51 1 = true := by kernel_rfl
theorem cells8 : Tryz.prog.cellsOf 5 = 1 := by kernel_rfl
set_option maxHeartbeats 1000000 in
set_option maxRecDepth 100000 in
theorem rdCheck_new (b : Nat) (w : World) (h0 : w.cell? ⟨b, 1, none⟩ = some (.pointer none)) (hsh : w.shape? b = some (61, 4)) (hfz : w.frozen? ⟨b, 1, none⟩ = false) :
    Calls Tryz.prog 34 #[.pointer (some ⟨b, 1, none⟩)] w fun e w' => e = .returned (.tuple #[]) ∧ w' = w.setCell ⟨b, 1, none⟩ (.pointer (some ⟨b, 1, none⟩)) := by
  obtain ⟨j, hj, hjs⟩ := Option.map_eq_some_iff.1 sizeB
  go_enter Tryz.func34, Tryz.ntmps34
  go_wp2
  rw [Lib.run_to_unsafe w ⟨b, 1, none⟩ Tryz.underlying48 Tryz.underlying74 hj (by rw [hjs]; decide) hsh (show 1 < 4 by decide)]
  simp only [Result.andThen]
  rw [Oper.upon_value]
  go_wp2
  rw [run_callFunc_extern Tryz.func49 (by kernel_rfl) (by kernel_rfl) (by kernel_rfl) (e := Extern.AbiNoEscape.same) (by kernel_rfl)]
  rw [Lib.run_noEscape]
  simp only [Result.andThen]
  rw [Oper.upon_value]
  go_wp2
  rw [Lib.run_from_unsafe w ⟨b, 1, none⟩ Tryz.underlying74 Tryz.underlying48 hj hsh liesR]
  simp only [Result.andThen]
  rw [Oper.upon_value]
  go_wp2
  go_end0
  exact ⟨rfl, rfl⟩
set_option maxHeartbeats 1000000 in
set_option maxRecDepth 100000 in
theorem rdCheck_old (b : Nat) (w : World) (h0 : w.cell? ⟨b, 1, none⟩ = some (.pointer (some ⟨b, 1, none⟩))) :
    Calls Tryz.prog 34 #[.pointer (some ⟨b, 1, none⟩)] w fun e w' => e = .returned (.tuple #[]) ∧ w' = w := by
  obtain ⟨j, hj, hjs⟩ := Option.map_eq_some_iff.1 sizeB
  go_enter Tryz.func34, Tryz.ntmps34
  go_wp2
  rw [Lib.run_neq_ptr_same w _ Tryz.underlying48 hj]
  go_wp2
  go_end0
  exact ⟨rfl, rfl⟩
theorem rdCheck_any {B b : Nat} {r : ByteArray} {p v q : Value} {l : Row} {ps : List Pc} {w : World} (h : RdV B b r p v l q ps w) :
    Calls Tryz.prog 34 #[.pointer (some ⟨b, 1, none⟩)] w fun e w' => e = .returned (.tuple #[]) ∧ RdV B b r (.pointer (some ⟨b, 1, none⟩)) v l q ps w' ∧ Below B w w' ∧ KeptR w w' := by
  rcases h.ptr with hp | hp
  · subst hp
    refine (rdCheck_new b w h.cell.2.1 (by simp [World.shape?, h.at0]) (h.free 1)).mono ?_
    rintro e w' ⟨rfl, rfl⟩
    exact ⟨rfl, RdV.set 1 h.at0 h.hB rfl (.inr rfl) h.row h.nil h.pcs, (Below.refl B w).setCell (p := ⟨b, 1, none⟩) h.hB _, KeptR.setCell h.at0 1 _⟩
  · subst hp
    refine (rdCheck_old b w h.cell.2.1).mono ?_
    rintro e w' ⟨rfl, rfl⟩
    exact ⟨rfl, h, Below.refl B _, KeptR.refl _⟩
set_option maxHeartbeats 1000000 in
set_option maxRecDepth 100000 in
theorem rdWrite_any {B b : Nat} {r : ByteArray} {p v q : Value} {l : Row} {ps : List Pc} {w : World} (h : RdV B b r p v l q ps w) (s : ByteArray) (hlen : l.length + s.size ≤ 140737488355328) (hBw : B ≤ w.heap.size) :
    Calls Tryz.prog 22 #[.pointer (some ⟨b, 1, none⟩), .string s] w fun e w' => e = .returned (.tuple #[.int .i64 s.size, .nilIface]) ∧ Rd B b r (l ++ s.data.toList) (ps, q) w' ∧ Below B w w' ∧ KeptR w w' := by
  obtain ⟨i0, hi, hz0, hz1, hz2⟩ := info_parts infoU8
  rw [← Lib.byteCells_length l] at hlen
  go_enter Tryz.func22, Tryz.ntmps22
  go_wp2_with (go_at_call 34; refine (rdCheck_any h).mono ?_)
  rintro e w1 ⟨rfl, h1, hb1, ht1⟩
  have hown := h1.row
  obtain ⟨c0, c1, c2, c3⟩ := h1.cell
  rw [← Lib.byteCells_length l] at hown
  go_wp2_with (at_builtin; refine Lib.wpList_append_own_stringF _ rfl _ _ 49 9 rfl B 5 i0 Tryz.underlying49 Tryz.underlying9 hi hz0 hz1 hz2 _ _ _ rfl hown s rfl ?c3 ?c4 ?c5 ?_)
  case c3 => unfold maxLen; omega
  case c4 => omega
  case c5 => have := hb1.size; omega
  intro v' w2 hown' hgrow hnil
  have hgk : ∀ (i : Nat) (o : Obj), w1.heap[i]? = some o → v.ownBlock ≠ some i → w2.heap[i]? = some o := fun i o hi' hne => (hgrow.block i (Array.getElem?_eq_some_iff.1 hi').1 (fun e => hne e.symm)).trans hi'
  have hb2 : w2.heap[b]? = some (.cells #[.string r, .pointer (some ⟨b, 1, none⟩), v, q] 61 (0, 0)) :=
    hgk b _ h1.at0 (fun e => by
      obtain ⟨cs, fr, hx⟩ := rowB_type hown e
      exact types_ne.2.1 (cells_type hx h1.at0))
  have hq2 : PsOwn B q ps w2 := psOwn_kept h1.pcs (fun i o hi' ho => hgk i o hi' (fun e => by
      obtain ⟨cs, fr, hx⟩ := rowB_type hown e
      obtain ⟨cs', fr', hy⟩ := rowP_type h1.pcs ho
      exact types_ne.1 (cells_type hx hy)))
  have d0 : w2.cell? ⟨b, 1, none⟩ = some (.pointer (some ⟨b, 1, none⟩)) := by rw [Lib.cell_of_heap hb2]; rfl
  have d1 : w2.cell? ⟨b, 2, none⟩ = some v := by rw [Lib.cell_of_heap hb2]; rfl
  have f1 : w2.frozen? ⟨b, 2, none⟩ = false := Lib.frozen_of_heap hb2 2
  have e : byteCells (l ++ s.data.toList) = byteCells l ++ strCells s := by rw [byteCells_append]; rfl
  have hrow2 : w2.ownsRowF B 5 1 v' (l ++ s.data.toList).length (byteCells (l ++ s.data.toList)) := by
    rw [e, ← Lib.byteCells_length (l ++ s.data.toList), e]
    simpa [Lib.strCells_length] using hown'
  have hnil2 : l ++ s.data.toList = [] → v' = .slice none 0 0 := fun q => by
    have q := List.append_eq_nil_iff.1 q
    refine hnil.2 ⟨h1.nil q.1, ?_⟩
    exact ByteArray.ext (Array.toList_inj.1 (by rw [q.2]; rfl))
  have hfin : Hid (RdV B b r (.pointer (some ⟨b, 1, none⟩)) v' (l ++ s.data.toList) q ps (w2.setCell ⟨b, 2, none⟩ v')) := Lib.hid (RdV.set 2 hb2 h1.hB rfl (.inr rfl) hrow2 hnil2 hq2)
  have hbl : Hid (Below B w (w2.setCell ⟨b, 2, none⟩ v')) := Lib.hid ((hb1.grown hgrow (by have := hb1.size; omega) (fun k hk => (hown.lt k hk).1)).setCell (p := ⟨b, 2, none⟩) h1.hB _)
  have hkp : Hid (KeptR w (w2.setCell ⟨b, 2, none⟩ v')) := Lib.hid (ht1.trans ((KeptR.grownB hown hgrow).trans (KeptR.setCell hb2 2 _)))
  obtain ⟨ao, n', cap, rfl⟩ : ∃ ao n' cap, v' = .slice ao n' cap := by
    rcases hown'.2 with ⟨hv, _⟩ | ⟨g, cap, cur, fz, hv, _⟩
    · exact ⟨_, _, _, hv⟩
    · exact ⟨_, _, _, hv⟩
  clear hq2 hb2 hown' hrow2 hnil2 hnil hgk hgrow hown h1 e ht1 hb1
  go_wp2
  go_ret2
  exact ⟨rfl, ⟨_, _, hfin.out⟩, hbl.out, hkp.out⟩
end Go.Proofs.YtjeagjleolmibaaGreatDoor.Xm

/-
  THE WALKS OF TEXTS: char.control, char.Valid (utf8.ValidString by the shelf's contract), the reference's Rune and Valid.
-/
set_option linter.unusedVariables false
namespace Go.Proofs.YtjeagjleolmibaaGreatDoor.Ch
open Go.Lib Go.RowKit Go.Shelf

def Tabs (w : World) : Prop := Lib.Utf8Tabs (Tryz.laysValid_ren.g 3) (Tryz.laysValid_ren.g 4) w
theorem tabs_below {w w' : World} (h : Tabs w) (hb : Below w.heap.size w w') : Tabs w' := Utf8Tabs_below h hb

set_option maxHeartbeats 1000000 in
set_option maxRecDepth 100000 in
theorem control_any (x : UInt8) (w : World) : Calls Tryz.prog 39 #[.int .u8 (x.toNat : Int)] w fun e w' => e = .returned (.bool (ctl x)) ∧ w = w' := by
  have hx := x.toNat_lt
  unfold ctl
  generalize x.toNat = v at hx ⊢
  by_cases c1 : v = 9
  · subst c1
    go_enter Tryz.func39, Tryz.ntmps39
    go_wp2
    go_ret
    exact ⟨rfl, rfl⟩
  by_cases c2 : v = 10
  · subst c2
    go_enter Tryz.func39, Tryz.ntmps39
    go_wp2
    go_ret
    exact ⟨rfl, rfl⟩
  by_cases c3 : v = 13
  · subst c3
    go_enter Tryz.func39, Tryz.ntmps39
    go_wp2
    go_ret
    exact ⟨rfl, rfl⟩
  by_cases c4 : v = 127
  · subst c4
    go_enter Tryz.func39, Tryz.ntmps39
    go_wp2
    go_ret
    exact ⟨rfl, rfl⟩
  rw [if_neg (by omega), if_neg c4]
  by_cases c5 : v < 32
  · have d1 : ((v : Int) == 9) = false := by simp; omega
    have d2 : ((v : Int) == 10) = false := by simp; omega
    have d3 : ((v : Int) == 13) = false := by simp; omega
    have d4 : ((v : Int) == 127) = false := by simp; omega
    have d5 : decide ((v : Int) < 32) = true := by simp; omega
    rw [decide_eq_true c5]
    go_enter Tryz.func39, Tryz.ntmps39
    go_wp2
    go_ret
    exact ⟨rfl, rfl⟩
  · have d1 : ((v : Int) == 9) = false := by simp; omega
    have d2 : ((v : Int) == 10) = false := by simp; omega
    have d3 : ((v : Int) == 13) = false := by simp; omega
    have d4 : ((v : Int) == 127) = false := by simp; omega
    have d5 : decide ((v : Int) < 32) = false := by simp; omega
    rw [decide_eq_false c5]
    go_enter Tryz.func39, Tryz.ntmps39
    go_wp2
    go_ret
    exact ⟨rfl, rfl⟩

theorem clean_take (l : List UInt8) (k : Nat) (hk : k < l.length) (h : clean (l.take k) = true) (hc : ctl l[k] = false) : clean (l.take (k + 1)) = true := by
  rw [List.take_succ_eq_append_getElem hk, clean_append, h]
  simp [clean, hc]
theorem clean_not (l : List UInt8) (k : Nat) (hk : k < l.length) (hc : ctl l[k] = true) : clean l = false := by
  unfold clean
  rw [Bool.eq_false_iff]
  intro h
  rw [List.all_eq_true] at h
  have := h _ (List.getElem_mem hk)
  rw [hc] at this
  exact absurd this (by decide)

set_option maxHeartbeats 1000000 in
set_option maxRecDepth 100000 in
theorem valid_any (s : ByteArray) (w : World) (hs : s.size ≤ 9223372036854775807) (hT : Tabs w) :
    Calls Tryz.prog 27 #[.string s] w fun e w' => e = .returned (.bool (valid s.data.toList)) ∧ Below w.heap.size w w' := by
  have cV : Calls Tryz.prog 38 #[.string s] w _ := Any.utf8_ValidString Tryz.laysValid s w hs hT
  unfold valid
  obtain ⟨V, hV⟩ : ∃ V, validD s.data.toList = V := ⟨_, rfl⟩
  rw [hV] at cV ⊢
  clear hV hT
  cases V
  · go_enter Tryz.func27, Tryz.ntmps27
    go_wp2_with (go_at_call 38; refine cV.mono ?_; rintro e w' ⟨rfl, hb⟩)
    go_ret
    exact ⟨rfl, hb⟩
  · rw [Bool.true_and]
    go_enter Tryz.func27, Tryz.ntmps27
    go_wp2_with (go_at_call 38; refine cV.mono ?_; rintro e w1 ⟨rfl, hb⟩)
    clear cV
    go_loop [3] (fun i => ∃ k : Nat, k ≤ s.size ∧ i = .int .i64 k ∧ clean (s.data.toList.take k) = true) (fun i => s.size - (RowKit.intOf i).toNat)
    case atStart => exact ⟨0, Nat.zero_le _, rfl, rfl⟩
    case round =>
      obtain ⟨k, hk, rfl, hcl⟩ := hrel
      have hcl' := Lib.hid hcl
      clear hcl
      by_cases hlt : k < s.size
      · have hkl : k < s.data.toList.length := by simpa using hlt
        have hsk := Lib.hid (show s[k]'hlt = s.data.toList[k]'hkl by simp; rfl)
        by_cases hc : ctl (s[k]'hlt) = true
        · have hno := Lib.hid (clean_not s.data.toList k hkl (by rw [← hsk.out]; exact hc))
          go_wp2_with (go_at_call 39; refine (control_any _ _).mono ?_; rintro e w' ⟨rfl, rfl⟩)
          go_ret
          exact ⟨by rw [hno.out]; rfl, hb⟩
        · rw [Bool.not_eq_true] at hc
          have hyes := Lib.hid (clean_take s.data.toList k hkl hcl'.out (by rw [← hsk.out]; exact hc))
          go_wp2_with (go_at_call 39; refine (control_any _ _).mono ?_; rintro e w' ⟨rfl, rfl⟩)
          go_round
          case rel => exact ⟨k + 1, by omega, by go_num, hyes.out⟩
          case measure => simp [RowKit.intOf]; omega
      · have hks : k = s.size := by omega
        have hfin := Lib.hid (show clean s.data.toList = true by
          have h := hcl'.out
          rwa [List.take_of_length_le (by rw [← Lib.size_eq]; omega)] at h)
        clear hks
        go_wp2
        go_ret
        exact ⟨by rw [hfin.out]; rfl, hb⟩
end Go.Proofs.YtjeagjleolmibaaGreatDoor.Ch

/-
  THE LIBRARY's CALLS THAT LAYER xml MAKES, in the words of its plain laws: CutPrefix, HasPrefix, Cut, Contains, TrimLeft, Trim; the world that they want ('Gw').
-/
set_option linter.unusedVariables false
namespace Go.Proofs.YtjeagjleolmibaaGreatDoor.Xm
open Go.Lib Go.RowKit Go.Shelf

/-! ### the world -/
/-- utf8's tables, bytealg's MaxLen some number, strconv's two errors some error -/
structure Gw (w : World) : Prop where
  tabs : Ch.Tabs w
  most : ∃ m, w.cell? ⟨2, 0, none⟩ = some (.int .i64 m)
  syn : ∃ ev, w.cell? ⟨3, 0, none⟩ = some ev ∧ (ev = .nilIface ∨ ∃ te pe, ev = .iface te pe)
  rng : ∃ ev, w.cell? ⟨4, 0, none⟩ = some ev ∧ (ev = .nilIface ∨ ∃ te pe, ev = .iface te pe)
theorem lt_of_cell {w : World} {a : Addr} {v : Value} (h : w.cell? a = some v) : a.block < w.heap.size := World.block_lt_of_cell? w a h
theorem gw_below {w w' : World} (h : Gw w) (hb : Below w.heap.size w w') : Gw w' := by
  obtain ⟨h1, ⟨m, h2⟩, ⟨e, h3, h3'⟩, ⟨f, h4, h4'⟩⟩ := h
  refine ⟨Ch.tabs_below h1 hb, ⟨m, ?_⟩, ⟨e, ?_, h3'⟩, ⟨f, ?_, h4'⟩⟩
  · rw [hb.cell (p := ⟨2, 0, none⟩) (lt_of_cell h2)]; exact h2
  · rw [hb.cell (p := ⟨3, 0, none⟩) (lt_of_cell h3)]; exact h3
  · rw [hb.cell (p := ⟨4, 0, none⟩) (lt_of_cell h4)]; exact h4

/-! ### prefixes -/
theorem data_is {x y : ByteArray} (h : x.data.toList = y.data.toList) : x = y := ByteArray.ext (Array.toList_inj.1 h)
theorem mk_is (l : Row) (x : ByteArray) (h : x.data.toList = l) : (⟨l.toArray⟩ : ByteArray) = x := data_is (by simp [h])
theorem has_pre (s p : Row) : Lib.hasPrefix s p = p.isPrefixOf s := rfl
/-- strings.CutPrefix -/
def PreP (t p : ByteArray) (e : Ending) : Prop :=
  (p.data.toList.isPrefixOf t.data.toList = false ∧ e = .returned (.tuple #[.string t, .bool false])) ∨ ∃ r : ByteArray, t.data.toList = p.data.toList ++ r.data.toList ∧ e = .returned (.tuple #[.string r, .bool true])
theorem pre_any (t p : ByteArray) (w : World) : Calls Tryz.prog 53 #[.string t, .string p] w fun e w' => PreP t p e ∧ w' = w := by
  refine (Tryz.strings_CutPrefix t p w).mono ?_
  rintro e w' ⟨rfl, rfl⟩
  refine ⟨?_, rfl⟩
  rcases pre_split p.data.toList t.data.toList with ⟨h, r, hr⟩ | h
  · right
    refine ⟨⟨r.toArray⟩, by rw [hr], ?_⟩
    have h1 : Lib.hasPrefix t.data.toList p.data.toList = true := h
    have h2 : Lib.trimPrefix t.data.toList p.data.toList = r := by
      unfold Lib.trimPrefix
      rw [h1, hr]; simp
    rw [h1, h2]
  · left
    have h1 : Lib.hasPrefix t.data.toList p.data.toList = false := h
    have h2 : Lib.trimPrefix t.data.toList p.data.toList = t.data.toList := by
      unfold Lib.trimPrefix
      rw [h1]; rfl
    refine ⟨h, ?_⟩
    rw [h1, h2, mk_is _ t rfl]
theorem hasPre_any (t p : ByteArray) (w : World) : Calls Tryz.prog 81 #[.string t, .string p] w fun e w' => e = .returned (.bool (p.data.toList.isPrefixOf t.data.toList)) ∧ w' = w := Tryz.strings_HasPrefix t p w

/-! ### a text found -/
theorem find_index (p : Row) (hp : p ≠ []) : ∀ (l : Row), (find p l = none ∧ Lib.index l p = -1) ∨ ∃ k : Nat, Lib.index l p = k ∧ find p l = some (l.take k, l.drop (k + p.length))
  | [] => by
    left
    refine ⟨rfl, ?_⟩
    show (if p.isEmpty = true then (0 : Int) else -1) = -1
    rw [if_neg]
    simpa using hp
  | c :: r => by
    by_cases h : p.isPrefixOf (c :: r) = true
    · right
      refine ⟨0, ?_, ?_⟩
      · show (if p.isPrefixOf (c :: r) = true then (0 : Int) else _) = _
        rw [if_pos h]; rfl
      · show (if p.isPrefixOf (c :: r) = true then _ else _) = _
        rw [if_pos h]; simp
    · have e1 : Lib.index (c :: r) p = if (Lib.index r p == -1) = true then -1 else Lib.index r p + 1 := by
        show (if p.isPrefixOf (c :: r) = true then (0 : Int) else _) = _
        rw [if_neg h]
      have e2 : find p (c :: r) = (find p r).map fun q => (c :: q.1, q.2) := by
        show (if p.isPrefixOf (c :: r) = true then _ else _) = _
        rw [if_neg h]
      rcases find_index p hp r with ⟨h1, h2⟩ | ⟨k, h1, h2⟩
      · left
        rw [e1, e2, h1, h2]; exact ⟨rfl, rfl⟩
      · right
        refine ⟨k + 1, ?_, ?_⟩
        · rw [e1, h1, if_neg (by simp)]; rfl
        · rw [e2, h2]
          simp [Nat.add_right_comm]
/-- strings.Cut -/
def CutP (t p : ByteArray) (e : Ending) : Prop :=
  (find p.data.toList t.data.toList = none ∧ e = .returned (.tuple #[.string t, .string ⟨#[]⟩, .bool false])) ∨ ∃ a r : ByteArray, find p.data.toList t.data.toList = some (a.data.toList, r.data.toList) ∧ e = .returned (.tuple #[.string a, .string r, .bool true])
theorem cut_any (t p : ByteArray) (hp : p.data.toList ≠ []) (w : World) (hG : Gw w) (ht : t.size ≤ 65536) : Calls Tryz.prog 54 #[.string t, .string p] w fun e w' => CutP t p e ∧ Below w.heap.size w w' := by
  obtain ⟨m, hm⟩ := hG.most
  refine (Tryz.strings_Cut t p m w (by omega) hm).mono ?_
  rintro e w' ⟨rfl, n, rfl⟩
  refine ⟨?_, below_drewN n (Below.refl _ _)⟩
  rcases find_index p.data.toList hp t.data.toList with ⟨h1, h2⟩ | ⟨k, h1, h2⟩
  · left
    have : Lib.cut t.data.toList p.data.toList = (t.data.toList, [], false) := by unfold Lib.cut; rw [h2]; rfl
    refine ⟨h1, ?_⟩
    rw [this, mk_is _ t rfl]
  · right
    have : Lib.cut t.data.toList p.data.toList = (t.data.toList.take k, t.data.toList.drop (k + p.data.toList.length), true) := by
      unfold Lib.cut
      rw [h1, if_pos (by omega)]; simp
    refine ⟨⟨(t.data.toList.take k).toArray⟩, ⟨(t.data.toList.drop (k + p.data.toList.length)).toArray⟩, by rw [h2], ?_⟩
    rw [this]
theorem contains_any (t p : ByteArray) (hp : p.data.toList ≠ []) (w : World) (hG : Gw w) (ht : t.size ≤ 65536) : Calls Tryz.prog 76 #[.string t, .string p] w fun e w' => e = .returned (.bool (find p.data.toList t.data.toList).isSome) ∧ w' = w := by
  obtain ⟨m, hm⟩ := hG.most
  refine (Tryz.strings_Contains t p m w (by omega) hm).mono ?_
  rintro e w' ⟨rfl, rfl⟩
  refine ⟨?_, rfl⟩
  have : Lib.contains t.data.toList p.data.toList = (find p.data.toList t.data.toList).isSome := by
    unfold Lib.contains
    rcases find_index p.data.toList hp t.data.toList with ⟨h1, h2⟩ | ⟨k, h1, h2⟩
    · rw [h1, h2]; rfl
    · rw [h1, h2]
      simp
  rw [this]
theorem find_has (c : UInt8) : ∀ (l : Row), (find [c] l).isSome = decide (c ∈ l)
  | [] => rfl
  | x :: l => by
    rw [find]
    by_cases h : c = x
    · rw [if_pos (by simp [h]), h]; simp
    · rw [if_neg (by rw [pre1 h]; decide), Option.isSome_map, find_has c l]
      simp [h]

/-! ### blanks cut off -/
theorem blk_in (c : UInt8) : ([32, 9, 10, 13] : Row).contains c = blk c := Ch.byte_all (P := fun c => ([32, 9, 10, 13] : Row).contains c = blk c) (by decide +kernel) c
def blankS : ByteArray := ⟨#[32, 9, 10, 13]⟩
theorem blankS_row : blankS.data.toList = [32, 9, 10, 13] := rfl
theorem blankS_asc : ∀ (j : Nat) (b : UInt8), blankS.data.toList[j]? = some b → b.toNat < 128 := by
  intro j b h
  have hm := List.mem_of_getElem? h
  rw [blankS_row] at hm
  simp at hm
  rcases hm with rfl | rfl | rfl | rfl <;> decide
theorem trimL_any (s : ByteArray) (w : World) : Calls Tryz.prog 75 #[.string s, .string ⟨#[32, 9, 10, 13]⟩] w fun e w' => (∃ x : ByteArray, e = .returned (.string x) ∧ x.data.toList = s.data.toList.dropWhile blk) ∧ Below w.heap.size w w' := by
  refine (Any.strings_TrimLeft_laid Tryz.lays161 (by kernel_rfl) s blankS w (by decide) blankS_asc).mono ?_
  rintro e w' ⟨rfl, hb⟩
  refine ⟨⟨_, rfl, ?_⟩, hb⟩
  unfold Lib.trimLeftS
  rw [blankS_row]
  simp only [blk_in]
theorem dw_nil (p : UInt8 → Bool) : ∀ (l : Row), l.dropWhile p = [] ↔ ∀ x ∈ l, p x = true
  | [] => by simp
  | c :: l => by
    rw [List.dropWhile_cons]
    cases hc : p c with
    | true =>
      rw [if_pos rfl, dw_nil p l]
      simp [hc]
    | false =>
      rw [if_neg (by decide)]
      simp [hc]
theorem trim_blank (l : Row) : ((Lib.trimS l [32, 9, 10, 13]) = []) ↔ blanks l = true := by
  unfold Lib.trimS Lib.trimLeftS Lib.trimRightS blanks
  simp only [blk_in]
  show List.dropWhile blk (List.dropWhile blk l.reverse).reverse = [] ↔ _
  rw [dw_nil, List.all_eq_true]
  constructor
  · intro h x hx
    rcases hb : blk x with _ | _
    · exfalso
      -- what the reverse's dropWhile leaves ends with a byte that is no blank
      have hne : l.reverse.dropWhile blk ≠ [] := fun e => by
        rw [dw_nil] at e
        have := e x (by simpa using hx)
        rw [hb] at this; cases this
      cases hd : l.reverse.dropWhile blk with
      | nil => exact hne hd
      | cons y r =>
        have h1 := List.head?_dropWhile_not blk l.reverse
        rw [hd] at h1
        simp at h1
        have := h y (by rw [hd]; simp)
        rw [h1] at this; cases this
    · rfl
  · intro h x hx
    have hx2 : x ∈ l.reverse.dropWhile blk := by simpa using hx
    have := (List.dropWhile_sublist blk (l := l.reverse)).subset hx2
    exact h x (by simpa using this)
theorem trim_any (s : ByteArray) (w : World) (hs : s.size ≤ 9223372036854775807) : Calls Tryz.prog 48 #[.string s, .string ⟨#[32, 9, 10, 13]⟩] w fun e w' => (∃ x : ByteArray, e = .returned (.string x) ∧ (x.data.toList = [] ↔ blanks s.data.toList = true)) ∧ Below w.heap.size w w' := by
  refine (Any.strings_Trim_laid Tryz.lays160 (by kernel_rfl) s blankS w hs (by decide) blankS_asc).mono ?_
  rintro e w' ⟨rfl, hb⟩
  refine ⟨⟨_, rfl, ?_⟩, hb⟩
  rw [← trim_blank, blankS_row]
end Go.Proofs.YtjeagjleolmibaaGreatDoor.Xm

/-
  THE WALK OF internal/strconv.ParseUint AT BASE 16, of strconv.ParseUint over it.
-/
set_option linter.unusedVariables false
namespace Go.Proofs.YtjeagjleolmibaaGreatDoor.Xm
open Go.Lib Go.RowKit

theorem digN_mono (b : Nat) (hb : 1 ≤ b) : ∀ (x : Row) (m n : Nat), digN b m x = some n → m ≤ n
  | [], m, n, h => by simp [digN] at h; omega
  | c :: x, m, n, h => by
    simp only [digN] at h
    cases hd : digV b c with
    | none => rw [hd] at h; cases h
    | some d =>
      rw [hd, Option.bind_some] at h
      have := digN_mono b hb x _ n h
      have : m ≤ m * b := Nat.le_mul_of_pos_right m hb
      omega
theorem digN_split (b : Nat) : ∀ (x y : Row) (m : Nat), digN b m (x ++ y) = (digN b m x).bind fun v => digN b v y
  | [], y, m => by simp [digN]
  | c :: x, y, m => by
    simp only [List.cons_append, digN]
    cases digV b c with
    | none => rfl
    | some d => simp only [Option.bind_some]; exact digN_split b x y _
/-- a byte as a digit of sixteen, as strconv reckons it -/
theorem dig16 : ∀ k : Fin 256, digV 16 (UInt8.ofNat k.val) = (if 48 ≤ k.val ∧ k.val ≤ 57 then some (k.val - 48) else if 97 ≤ k.val ||| 32 ∧ k.val ||| 32 ≤ 122 then (if (k.val ||| 32) - 97 + 10 < 16 then some ((k.val ||| 32) - 97 + 10) else none) else none) := by decide +kernel
/-- what ParseUint answers at base 16 -/
def HexP (s : Row) (e : Ending) : Prop :=
  (∃ n : Nat, digN 16 0 s = some n ∧ n < 18446744073709551616 ∧ e = .returned (.tuple #[.int .u64 (n : Int), .nilIface])) ∨
  (∃ (x : Int) (k : Int), (k = 1 ∨ k = 2) ∧ (∀ n, digN 16 0 s = some n → 18446744073709551616 ≤ n) ∧ e = .returned (.tuple #[.int .u64 x, .iface 180 (.int .i64 k)]))
theorem digV_of {c : UInt8} {v : Nat} (h : c.toNat = v) : digV 16 c = (if 48 ≤ v ∧ v ≤ 57 then some (v - 48) else if 97 ≤ v ||| 32 ∧ v ||| 32 ≤ 122 then (if (v ||| 32) - 97 + 10 < 16 then some ((v ||| 32) - 97 + 10) else none) else none) := by
  have hv : v < 256 := by rw [← h]; exact c.toNat_lt
  have := dig16 ⟨v, hv⟩
  have e : UInt8.ofNat v = c := UInt8.toNat_inj.1 (by simp [UInt8.toNat_ofNat']; omega)
  simp only at this
  rw [e] at this
  exact this
theorem or32 : ∀ k : Fin 256, bits .or .u8 (k.val : Int) 32 = ((k.val ||| 32 : Nat) : Int) ∧ k.val ||| 32 < 256 ∧ (97 ≤ k.val ||| 32 → 65 ≤ k.val) := by decide +kernel
/-- how far it has been read -/
def Rd16 (s : ByteArray) (k v : Nat) : Prop := digN 16 0 (s.data.toList.take k) = some v
theorem rd16_next {s : ByteArray} {k v d : Nat} (hk : k < s.size) (h : Rd16 s k v) (hd : digV 16 (s[k]'hk) = some d) : Rd16 s (k + 1) (v * 16 + d) := by
  have hl : k < s.data.toList.length := by rw [← Lib.size_eq]; exact hk
  unfold Rd16 at h ⊢
  rw [List.take_succ_eq_append_getElem hl, digN_snoc, h, Option.bind_some, show digV 16 s.data.toList[k] = some d from hd]; rfl
theorem rd16_bad {s : ByteArray} {k v : Nat} (hk : k < s.size) (h : Rd16 s k v) (hd : digV 16 (s[k]'hk) = none) : digN 16 0 s.data.toList = none := by
  have hl : k < s.data.toList.length := by rw [← Lib.size_eq]; exact hk
  have e : s.data.toList = s.data.toList.take k ++ s.data.toList[k] :: s.data.toList.drop (k + 1) := by
    conv => lhs; rw [← List.take_append_drop k s.data.toList, List.drop_eq_getElem_cons hl]
  unfold Rd16 at h
  rw [e, digN_split, h, Option.bind_some]
  simp only [digN]
  rw [show digV 16 s.data.toList[k] = none from hd]; rfl
theorem rd16_big {s : ByteArray} {k v d : Nat} (hk : k < s.size) (h : Rd16 s k v) (hd : digV 16 (s[k]'hk) = some d) (hb : 1152921504606846976 ≤ v) : ∀ n, digN 16 0 s.data.toList = some n → 18446744073709551616 ≤ n := by
  intro n hn
  have h2 := rd16_next hk h hd
  unfold Rd16 at h2
  rw [← List.take_append_drop (k + 1) s.data.toList, digN_split, h2, Option.bind_some] at hn
  have := digN_mono 16 (by decide) _ _ _ hn
  omega
theorem hexP_syn {s : Row} (h : digN 16 0 s = none) : HexP s (.returned (.tuple #[.int .u64 0, .iface 180 (.int .i64 2)])) := .inr ⟨0, 2, .inr rfl, fun n hn => (by rw [h] at hn; cases hn), rfl⟩
theorem hexP_rng {s : Row} (h : ∀ n, digN 16 0 s = some n → 18446744073709551616 ≤ n) : HexP s (.returned (.tuple #[.int .u64 18446744073709551615, .iface 180 (.int .i64 1)])) := .inr ⟨18446744073709551615, 1, .inl rfl, h, rfl⟩

set_option maxHeartbeats 4000000 in
set_option maxRecDepth 100000 in
theorem hex_any (s : ByteArray) (w : World) (h0 : 0 < s.size) (hs : s.size ≤ 65536) :
    Calls Tryz.prog 122 #[.string s, .int .i64 16, .int .i64 64] w fun e w' => HexP s.data.toList e ∧ Below w.heap.size w w' := by
  obtain ⟨cap, C, hconv, hC, hCs⟩ := Ch.bytes_new w s
  obtain ⟨W1, hW1⟩ : ∃ W1, (w.alloc (.cells C 5 (C.size, C.size + 1))).drew = W1 := ⟨_, rfl⟩
  have hst := Lib.hid (Ch.rowF_start Ch.lowB s w C 5 hC hCs)
  rw [hW1] at hst
  have hbl : Hid (Below w.heap.size w W1) := Lib.hid (by rw [← hW1]; exact ((Below.refl _ _).alloc (Nat.le_refl _) _).drew)
  have hcell : Hid (∀ k (hk : k < s.size), W1.cell? ⟨w.heap.size, k, none⟩ = some (.int .u8 ((s[k]'hk).toNat : Int))) := Lib.hid fun k hk => by
    have := (hst.out.2.2 k hk).1
    rw [if_neg (Nat.not_lt_zero k), Ch.rest_at s k hk] at this
    exact this
  have hne : ¬ s = ByteArray.empty := fun e => by rw [e] at h0; exact absurd h0 (by decide)
  have hnl : ¬ s.toList = [] := fun e => hne (by
    rw [Lib.toList_data] at e
    exact data_is (by rw [e]; rfl))
  have hie : s.toList.isEmpty = false := by
    cases hv : s.toList with
    | nil => exact absurd hv hnl
    | cons y t => rfl
  have hmx : IntKind.u64.wrap (IntKind.u64.wrap 18446744073709551616 - 1) = 18446744073709551615 := by decide
  obtain ⟨N, hN⟩ : ∃ N, s.size = N := ⟨_, rfl⟩
  have hN' := Lib.hid hN
  rw [hN] at hconv h0 hs
  clear hC hCs hN hst
  go_enter Tryz.func122, Tryz.ntmps122
  go_wp2
  go_loopw [12, 13, 101] (fun s12 s13 s101 wr => ∃ (k v : Nat) (a : Int), s12 = .bool false ∧ s101 = .int .i64 (k : Int) ∧ s13 = .int .u64 a ∧ k ≤ N ∧ Hid (a = (v : Int) ∧ v < 18446744073709551616 ∧ Rd16 s k v) ∧ wr = W1) (fun s12 s13 s101 wr => N - (RowKit.intOf s101).toNat)
  case atStart => exact ⟨0, 0, 0, rfl, rfl, rfl, Nat.zero_le _, Lib.hid ⟨rfl, by decide, rfl⟩, rfl⟩
  case round =>
    obtain ⟨k, v, a, rfl, rfl, rfl, hk, hrd, rfl⟩ := hrel
    obtain ⟨hav, hv, hrd⟩ := hrd.out
    have a0 : (0 : Int) ≤ a := by omega
    have a1 : a < 18446744073709551616 := by omega
    by_cases hlt : k < N
    · have hks : k < s.size := by rw [hN'.out]; exact hlt
      have g1 := hcell.out k hks
      have hxl := (s[k]'hks).toNat_lt
      obtain ⟨x, hx⟩ : ∃ x, (s[k]'hks).toNat = x := ⟨_, rfl⟩
      have hdig := digV_of hx
      have hor := or32 ⟨x, by rw [← hx]; exact hxl⟩
      rw [hx] at g1 hxl
      simp only at hor
      obtain ⟨L, hL⟩ : ∃ L, x ||| 32 = L := ⟨_, rfl⟩
      rw [hL] at hdig hor
      have cL := fun W => Tryz.internal_strconv_lower (x : Int) W
      rw [hor.1] at cL
      have hLb := hor.2.1
      have hLx := hor.2.2
      clear hor
      by_cases hA : 48 ≤ x ∧ x ≤ 57
      · obtain ⟨b1, b2⟩ := hA
        obtain ⟨d, hdx⟩ : ∃ d, x - 48 = d := ⟨_, rfl⟩
        have hd : digV 16 (s[k]'hks) = some d := by rw [hdig, if_pos ⟨b1, b2⟩, hdx]
        obtain ⟨dz, hdz⟩ : ∃ dz : Int, (x : Int) - 48 = dz := ⟨_, rfl⟩
        have r2 : IntKind.u8.wrap dz = dz := IntWalk.u8_in _ (by omega)
        have r3 : ((x : Int) == 95) = false := by simp; omega
        have hdd : dz = (d : Int) := by omega
        clear cL hL hLb
        have z0 : (0 : Int) ≤ dz := by omega
        have z1 : dz ≤ 15 := by omega
        have z2 : ¬ (16 : Int) ≤ dz := by omega
        have q5 : IntKind.u64.wrap dz = dz := IntWalk.u64_in _ (by omega)
        by_cases hbig : 1152921504606846976 ≤ v
        · have hfin := Lib.hid (hexP_rng (rd16_big hks hrd hd hbig))
          have icut : (1152921504606846976 : Int) ≤ a := by omega
          clear hd hdig hrd hx hbig hv hav hdd
          go_wp2
          go_ret2
          exact ⟨hfin.out, hbl.out⟩
        · have hnx := Lib.hid (rd16_next hks hrd hd)
          obtain ⟨Q, hQ⟩ : ∃ Q : Int, a * 16 = Q := ⟨_, rfl⟩
          obtain ⟨M, hM⟩ : ∃ M : Int, Q + dz = M := ⟨_, rfl⟩
          have q2 : IntKind.u64.wrap Q = Q := IntWalk.u64_in _ (by omega)
          have q4 : IntKind.u64.wrap M = M := IntWalk.u64_in _ (by omega)
          have q6 : ¬ M < Q := by omega
          have q7 : ¬ (18446744073709551615 : Int) < M := by omega
          have icut : ¬ (1152921504606846976 : Int) ≤ a := by omega
          have hM' : Hid (M = ((v * 16 + d : Nat) : Int) ∧ v * 16 + d < 18446744073709551616) := Lib.hid ⟨by omega, by omega⟩
          clear hd hdig hrd hx hbig hv hav hdd
          go_wp2
          go_roundw
          case rel => exact ⟨k + 1, v * 16 + d, M, rfl, by go_num, by first | rfl | (congr 1; omega), by omega, Lib.hid ⟨hM'.out.1, hM'.out.2, hnx.out⟩, by first | rfl | trivial⟩
          case measure => simp [RowKit.intOf]; omega
      · have hdig2 := hdig
        rw [if_neg hA] at hdig2
        by_cases hB : 97 ≤ L ∧ L ≤ 122
        · obtain ⟨c1, c2⟩ := hB
          rw [if_pos ⟨c1, c2⟩] at hdig2
          have h95 : x ≠ 95 := fun e => by
            subst e
            have : (95 : Nat) ||| 32 = 127 := by decide
            omega
          have r3 : ((x : Int) == 95) = false := by simp; omega
          obtain ⟨d, hdx⟩ : ∃ d, L - 97 + 10 = d := ⟨_, rfl⟩
          rw [hdx] at hdig2
          obtain ⟨y, hy⟩ : ∃ y : Int, (L : Int) - 97 = y := ⟨_, rfl⟩
          have r2 : IntKind.u8.wrap y = y := IntWalk.u8_in _ (by omega)
          obtain ⟨dz, hdz⟩ : ∃ dz : Int, y + 10 = dz := ⟨_, rfl⟩
          have r5 : IntKind.u8.wrap dz = dz := IntWalk.u8_in _ (by omega)
          have hA1 : ¬ ((48 : Int) ≤ (x : Int) ∧ (x : Int) ≤ 57) := by omega
          by_cases h16 : d < 16
          · rw [if_pos h16] at hdig2
            have hd := hdig2
            have hdd : dz = (d : Int) := by omega
            clear hL hdig2
            have hx57 : 57 < x := by have := hLx c1; omega
            have hx48 : 48 ≤ x := by omega
            have z0 : (0 : Int) ≤ dz := by omega
            have z1 : dz ≤ 15 := by omega
            have z2 : ¬ (16 : Int) ≤ dz := by omega
            have q5 : IntKind.u64.wrap dz = dz := IntWalk.u64_in _ (by omega)
            by_cases hbig : 1152921504606846976 ≤ v
            · have hfin := Lib.hid (hexP_rng (rd16_big hks hrd hd hbig))
              have icut : (1152921504606846976 : Int) ≤ a := by omega
              clear hd hdig hrd hx hbig hv hav hdd
              go_wp2_with (go_at_call 133; refine (cL _).mono ?_; rintro e wq ⟨rfl, rfl⟩)
              go_ret2
              exact ⟨hfin.out, hbl.out⟩
            · have hnx := Lib.hid (rd16_next hks hrd hd)
              obtain ⟨Q, hQ⟩ : ∃ Q : Int, a * 16 = Q := ⟨_, rfl⟩
              obtain ⟨M, hM⟩ : ∃ M : Int, Q + dz = M := ⟨_, rfl⟩
              have q2 : IntKind.u64.wrap Q = Q := IntWalk.u64_in _ (by omega)
              have q4 : IntKind.u64.wrap M = M := IntWalk.u64_in _ (by omega)
              have q6 : ¬ M < Q := by omega
              have q7 : ¬ (18446744073709551615 : Int) < M := by omega
              have icut : ¬ (1152921504606846976 : Int) ≤ a := by omega
              have hM' : Hid (M = ((v * 16 + d : Nat) : Int) ∧ v * 16 + d < 18446744073709551616) := Lib.hid ⟨by omega, by omega⟩
              clear hd hdig hrd hx hbig hv hav hdd
              go_wp2_with (go_at_call 133; refine (cL _).mono ?_; rintro e wq ⟨rfl, rfl⟩)
              go_roundw
              case rel => exact ⟨k + 1, v * 16 + d, M, rfl, by go_num, by first | rfl | (congr 1; omega), by omega, Lib.hid ⟨hM'.out.1, hM'.out.2, hnx.out⟩, by first | rfl | trivial⟩
              case measure => simp [RowKit.intOf]; omega
          · rw [if_neg h16] at hdig2
            have z2 : (16 : Int) ≤ dz := by omega
            have hfin := Lib.hid (hexP_syn (rd16_bad hks hrd hdig2))
            have hx57 : 57 < x := by have := hLx c1; omega
            have hx48 : 48 ≤ x := by omega
            clear hdig2 hdig hrd hx hv hav hL
            go_wp2_with (go_at_call 133; refine (cL _).mono ?_; rintro e wq ⟨rfl, rfl⟩)
            go_ret2
            exact ⟨hfin.out, hbl.out⟩
        · rw [if_neg hB] at hdig2
          have hfin := Lib.hid (hexP_syn (rd16_bad hks hrd hdig2))
          by_cases h95 : x = 95
          · have cL2 : ∀ W, Calls Tryz.prog 133 #[.int .u8 95] W fun e w' => e = .returned (.int .u8 127) ∧ w' = W := fun W => by
              have := Tryz.internal_strconv_lower 95 W
              rw [show bits .or .u8 95 32 = 127 by decide] at this
              exact this
            subst h95
            clear hdig2 hdig hrd hx hv hav hL cL
            go_wp2_with (go_at_call 133; refine (cL2 _).mono ?_; rintro e wq ⟨rfl, rfl⟩)
            all_goals (go_ret2; exact ⟨hfin.out, hbl.out⟩)
          · have r3 : ((x : Int) == 95) = false := by simp; omega
            have hLB : L < 97 ∨ 122 < L := by omega
            have hXA : x < 48 ∨ 57 < x := by omega
            clear hdig2 hdig hrd hx hv hav hL hA hB
            rcases hXA with hXA | hXA <;> rcases hLB with hLB | hLB
            all_goals
              go_wp2_with (go_at_call 133; refine (cL _).mono ?_; rintro e wq ⟨rfl, rfl⟩)
              all_goals (go_ret2; exact ⟨hfin.out, hbl.out⟩)
    · have hkN : k = N := by omega
      subst hkN
      have hfin := Lib.hid (show HexP s.data.toList (.returned (.tuple #[.int .u64 a, .nilIface])) from .inl ⟨v, by
        have := hrd
        unfold Rd16 at this
        rw [List.take_of_length_le (by rw [← Lib.size_eq, hN'.out]; exact Nat.le_refl _)] at this
        exact this, hv, by rw [hav]⟩)
      clear hrd hv hav
      go_wp2
      go_ret2
      exact ⟨hfin.out, hbl.out⟩
end Go.Proofs.YtjeagjleolmibaaGreatDoor.Xm
