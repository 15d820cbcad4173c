import Derived.Test.YthnnpnlapjlnoaaGreatDoorMg6
import Derived.Lib.Hide
import Derived.Test.YthnnpnlapjlnoaaGreatDoorMg5
import Derived.Below
import Derived.Lib.IndexLaws
import Derived.KernelRfl
import Derived.OwnWalk
import Derived.WalkKit
import Derived.LoopTactic
import Derived.BigQuiet
import Derived.Deep.QuietTactic
import Derived.IntWalk
import Derived.Test.YthnnpnlapjlnoaaGreatDoorMg4
import Derived.Laws.RangeAny
import Derived.Lib.OthersKept
import Derived.Laws.Runes

/-
  WALKS OF strings.Builder AT THIS DUMP (its copyCheck holds a statement that the loader refuses, on a way that no builder of the call's own takes): copyCheck, WriteString, WriteByte, String, over a builder that the call made.
-/
set_option linter.unusedVariables false
namespace Go.Proofs.YthnnpnlapjlnoaaGreatDoor.Bu
open Go.Lib Go.RowKit Go.Shelf

/-- a builder of the call's own, in block b, that holds the bytes l; the call's own blocks begin at B -/
def Bd (B b : Nat) (l : List UInt8) (w : World) : Prop := IsBuilderF 101 5 B b (byteCells l) w

theorem sizeB : (Tryz.prog.info? 101).map (·.size) = some 2 := by kernel_rfl
theorem liesB : liesAt Tryz.prog Tryz.prog.depth 101 (2 / Tryz.prog.cellsOf 101) 0 101 1 = true := by kernel_rfl
theorem infoU8 : (Tryz.prog.info? 5).map (fun i => (i.zero, i.size, i.bytes)) = some (some (.int .u8 0), 1, 1) := by kernel_rfl

theorem fresh (w : World) : Bd w.heap.size w.heap.size [] (w.alloc (.cells #[.pointer none, .slice none 0 0] 101)) := IsBuilderF.of (fresh_isBuilder _ _ w)
theorem Bd.kept {B b : Nat} {l : List UInt8} {w w' : World} (h : Bd B b l w) (hb : Below w.heap.size w w') : Bd B b l w' := by
  have main : ∀ p, BuilderAtF 101 5 B b p (byteCells l) w → BuilderAtF 101 5 B b p (byteCells l) w' := by
    rintro p ⟨h1, v, h2, h3, h4⟩
    refine ⟨h1, v, ?_, ?_, h4⟩
    · rw [hb.block b (Array.getElem?_eq_some_iff.1 h2).1]; exact h2
    · refine ⟨h3.1, ?_⟩
      rcases h3.2 with h | ⟨g, cap, cur, fz, e1, e2, e3, e4⟩
      · exact .inl h
      · exact .inr ⟨g, cap, cur, fz, e1, e2, by rw [hb.block g (Array.getElem?_eq_some_iff.1 e3).1]; exact e3, e4⟩
  exact h.elim (fun x => .inl (main _ x)) (fun x => .inr (main _ x))
theorem Bd.drew {B b : Nat} {l : List UInt8} {w : World} (h : Bd B b l w) : Bd B b l w.drew := h
theorem Bd.lt {B b : Nat} {l : List UInt8} {w : World} (h : Bd B b l w) : B ≤ b ∧ b < w.heap.size := by
  rcases h with ⟨h1, v, h2, _⟩ | ⟨h1, v, h2, _⟩ <;> exact ⟨h1, (Array.getElem?_eq_some_iff.1 h2).1⟩

/-- what is of another type than a builder's blocks is left -/
def KeptT (w w' : World) : Prop := ∀ (k : Nat) (cs : Array Value) (t : TypeId) (fr : Nat × Nat), w.heap[k]? = some (.cells cs t fr) → t ≠ 101 → t ≠ 5 → w'.heap[k]? = some (.cells cs t fr)
theorem KeptT.refl (w : World) : KeptT w w := fun _ _ _ _ h _ _ => h
theorem KeptT.trans {a b c : World} (h : KeptT a b) (k : KeptT b c) : KeptT a c := fun i cs t fr hi h1 h2 => k i cs t fr (h i cs t fr hi h1 h2) h1 h2
theorem KeptT.of_below {w w' : World} (h : Below w.heap.size w w') : KeptT w w' := fun i cs t fr hi _ _ => (h.block i (Array.getElem?_eq_some_iff.1 hi).1).trans hi
theorem KeptT.setCell {w : World} {b : Nat} {cs : Array Value} {fr : Nat × Nat} (hb : w.heap[b]? = some (.cells cs 101 fr)) (o : Nat) (u : Value) : KeptT w (w.setCell ⟨b, o, none⟩ u) := fun i cs' t fr' hi h1 _ => by
  rw [Below.heap_setCell w ⟨b, o, none⟩ u i (fun e => by
    have e : i = b := e
    subst e
    rw [hb] at hi
    injection hi with hi
    injection hi with _ ht
    exact h1 ht.symm)]
  exact hi
theorem KeptT.grown {w w' : World} {B : Nat} {size n : Nat} {v : Value} {xs : List Value} (h : w.ownsRowF B 5 size v n xs) (hg : w.grownBy w' v.ownBlock) : KeptT w w' := fun i cs t fr hi _ h2 => by
  rw [hg.block i (Array.getElem?_eq_some_iff.1 hi).1 (fun e => by
    rcases h.2 with ⟨hv, _⟩ | ⟨g, cap, cur, fz, hv, _, hh, _⟩
    · rw [hv] at e; cases e
    · rw [hv] at e
      have e : i = g := by simpa [Value.ownBlock] using e
      subst e
      rw [hi] at hh
      injection hh with hh
      injection hh with _ ht
      exact h2 ht)]
  exact hi

set_option maxHeartbeats 1000000 in
set_option maxRecDepth 100000 in
theorem check_new (b : Nat) (w : World) (h0 : w.cell? ⟨b, 0, none⟩ = some (.pointer none)) (hsh : w.shape? b = some (101, 2)) (hfz : w.frozen? ⟨b, 0, none⟩ = false) :
    Calls Tryz.prog 98 #[.pointer (some ⟨b, 0, none⟩)] w fun e w' => e = .returned (.tuple #[]) ∧ w' = w.setCell ⟨b, 0, none⟩ (.pointer (some ⟨b, 0, none⟩)) := by
  obtain ⟨j, hj, hjs⟩ := Option.map_eq_some_iff.1 sizeB
  go_enter Tryz.func98, Tryz.ntmps98
  go_wp2
  rw [Lib.run_to_unsafe w ⟨b, 0, none⟩ Tryz.underlying99 Tryz.underlying146 hj (by rw [hjs]; decide) hsh (Nat.zero_lt_succ 1)]
  simp only [Result.andThen]
  rw [Oper.upon_value]
  go_wp2
  rw [run_callFunc_extern Tryz.func119 (by kernel_rfl) (by kernel_rfl) (by kernel_rfl) (e := Extern.AbiNoEscape.same) (by kernel_rfl)]
  rw [Lib.run_noEscape]
  simp only [Result.andThen]
  rw [Oper.upon_value]
  go_wp2
  rw [Lib.run_from_unsafe w ⟨b, 0, none⟩ Tryz.underlying146 Tryz.underlying99 hj hsh liesB]
  simp only [Result.andThen]
  rw [Oper.upon_value]
  go_wp2
  go_end0
  exact ⟨rfl, rfl⟩

set_option maxHeartbeats 1000000 in
set_option maxRecDepth 100000 in
theorem check_old (b : Nat) (w : World) (h0 : w.cell? ⟨b, 0, none⟩ = some (.pointer (some ⟨b, 0, none⟩))) :
    Calls Tryz.prog 98 #[.pointer (some ⟨b, 0, none⟩)] w fun e w' => e = .returned (.tuple #[]) ∧ w' = w := by
  obtain ⟨j, hj, hjs⟩ := Option.map_eq_some_iff.1 sizeB
  go_enter Tryz.func98, Tryz.ntmps98
  go_wp2
  rw [Lib.run_neq_ptr_same w _ Tryz.underlying99 hj]
  go_wp2
  go_end0
  exact ⟨rfl, rfl⟩

/-- behind copyCheck -/
theorem check_any (B b : Nat) (l : List UInt8) (w : World) (h : Bd B b l w) :
    Calls Tryz.prog 98 #[.pointer (some ⟨b, 0, none⟩)] w fun e w' => e = .returned (.tuple #[]) ∧ BuilderAtF 101 5 B b (.pointer (some ⟨b, 0, none⟩)) (byteCells l) w' ∧ Below B w w' ∧ KeptT w w' := by
  rcases h with h | h
  · refine (check_new b w h.cell0 h.shape h.frozen0).mono ?_
    rintro e w' ⟨rfl, rfl⟩
    obtain ⟨_, _, hbk, _⟩ := id h
    exact ⟨rfl, h.used _, (Below.refl B w).setCell (p := ⟨b, 0, none⟩) h.1 _, KeptT.setCell hbk 0 _⟩
  · refine (check_old b w h.cell0).mono ?_
    rintro e w' ⟨rfl, rfl⟩
    exact ⟨rfl, h, Below.refl B _, KeptT.refl _⟩

set_option maxHeartbeats 1000000 in
set_option maxRecDepth 100000 in
theorem write_full (B b : Nat) (l : List UInt8) (s : ByteArray) (w : World) (h : Bd B b l w) (hlen : l.length + s.size ≤ 140737488355328) (hBw : B ≤ w.heap.size) :
    Calls Tryz.prog 66 #[.pointer (some ⟨b, 0, none⟩), .string s] w fun e w' => e = .returned (.tuple #[.int .i64 s.size, .nilIface]) ∧ Bd B b (l ++ s.data.toList) w' ∧ Below B w w' ∧ KeptT w w' := by
  obtain ⟨i0, hi, hz0, hz1, hz2⟩ := info_parts infoU8
  rw [← Lib.byteCells_length l] at hlen
  go_enter Tryz.func66, Tryz.ntmps66
  go_wp2_with (go_at_call 98; refine (check_any B b l _ h).mono ?_)
  rintro e w1 ⟨rfl, h1, hb1, ht1⟩
  obtain ⟨hB, v, hbk, hown, hne⟩ := h1
  have c0 : w1.cell? ⟨b, 0, none⟩ = some (.pointer (some ⟨b, 0, none⟩)) := by rw [Lib.cell_of_heap hbk]; rfl
  have c1 : w1.cell? ⟨b, 1, none⟩ = some v := by rw [Lib.cell_of_heap hbk]; rfl
  go_wp2_with (at_builtin; refine Lib.wpList_append_own_stringF _ rfl _ _ 72 9 rfl B 5 i0 Tryz.underlying72 Tryz.underlying9 hi hz0 hz1 hz2 _ _ _ rfl hown s rfl ?c3 ?c4 ?c5 ?_)
  case c3 => unfold maxLen; omega
  case c4 => omega
  case c5 => have := hb1.size; omega
  intro v' w2 hown' hgrow _
  have hlt : b < w1.heap.size := (Array.getElem?_eq_some_iff.1 hbk).1
  have hb2 : w2.heap[b]? = some (.cells #[.pointer (some ⟨b, 0, none⟩), v] 101 (0, 0)) := by
    rw [hgrow.block b hlt (fun e => hne e.symm)]
    exact hbk
  have d0 : w2.cell? ⟨b, 0, none⟩ = some (.pointer (some ⟨b, 0, none⟩)) := by rw [Lib.cell_of_heap hb2]; rfl
  have d1 : w2.cell? ⟨b, 1, none⟩ = some v := by rw [Lib.cell_of_heap hb2]; rfl
  have f1 : w2.frozen? ⟨b, 1, none⟩ = false := Lib.frozen_of_heap hb2 1
  have ht2 : KeptT w w2 := ht1.trans (KeptT.grown hown hgrow)
  have hb2' := Lib.hid hb2
  have ht2' := Lib.hid ht2
  clear ht1 ht2
  obtain ⟨ao, n', cap, rfl⟩ : ∃ ao n' cap, v' = .slice ao n' cap := by
    rcases hown'.2 with ⟨hv, _⟩ | ⟨g, cap, cur, fz, hv, _⟩
    · exact ⟨_, _, _, hv⟩
    · exact ⟨_, _, _, hv⟩
  go_wp2
  go_ret2
  refine ⟨rfl, .inr ?_, ?_, ht2'.out.trans (KeptT.setCell hb2'.out 1 _)⟩
  · have e : byteCells (l ++ s.data.toList) = byteCells l ++ strCells s := by rw [byteCells_append]; rfl
    rw [e]
    exact Lib.BuilderAtF.put (T := 101) (e := 5) hB hb2 (bs' := byteCells l ++ strCells s) (by simpa [Lib.strCells_length] using hown') (by decide)
  · exact (hb1.grown hgrow (by have := hb1.size; omega) (fun k hk => (hown.lt k hk).1)).setCell (p := ⟨b, 1, none⟩) hB _

theorem write_any (B b : Nat) (l : List UInt8) (s : ByteArray) (w : World) (h : Bd B b l w) (hlen : l.length + s.size ≤ 140737488355328) (hBw : B ≤ w.heap.size) :
    Calls Tryz.prog 66 #[.pointer (some ⟨b, 0, none⟩), .string s] w fun e w' => e = .returned (.tuple #[.int .i64 s.size, .nilIface]) ∧ Bd B b (l ++ s.data.toList) w' ∧ Below B w w' :=
  (write_full B b l s w h hlen hBw).mono fun e w' ⟨h1, h2, h3, _⟩ => ⟨h1, h2, h3⟩

set_option maxHeartbeats 1000000 in
set_option maxRecDepth 100000 in
theorem byte_full (B b : Nat) (l : List UInt8) (c : UInt8) (w : World) (h : Bd B b l w) (hlen : l.length + 1 ≤ 140737488355328) (hBw : B ≤ w.heap.size) :
    Calls Tryz.prog 67 #[.pointer (some ⟨b, 0, none⟩), .int .u8 (c.toNat : Int)] w fun e w' => e = .returned .nilIface ∧ Bd B b (l ++ [c]) w' ∧ Below B w w' ∧ KeptT w w' := by
  obtain ⟨i0, hi, hz0, hz1, hz2⟩ := info_parts infoU8
  rw [← Lib.byteCells_length l] at hlen
  have hcc : byteCells (l ++ [c]) = byteCells l ++ [.int .u8 (c.toNat : Int)] := by rw [byteCells_append]; rfl
  have hcc' := Lib.hid hcc
  clear hcc
  obtain ⟨n, hn⟩ : ∃ n : Int, (c.toNat : Int) = n := ⟨_, rfl⟩
  rw [hn] at hcc' ⊢
  clear hn
  go_enter Tryz.func67, Tryz.ntmps67
  go_wp2_with (go_at_call 98; refine (check_any B b l _ h).mono ?_)
  rintro e w1 ⟨rfl, h1, hb1, ht1⟩
  obtain ⟨hB, v, hbk, hown, hne⟩ := h1
  have c0 : w1.cell? ⟨b, 0, none⟩ = some (.pointer (some ⟨b, 0, none⟩)) := by rw [Lib.cell_of_heap hbk]; rfl
  have c1 : w1.cell? ⟨b, 1, none⟩ = some v := by rw [Lib.cell_of_heap hbk]; rfl
  go_wp2_with (at_builtin; refine wpList_append_ownF _ rfl _ _ 72 rfl B 5 i0 (.int .u8 0) 1 1 Tryz.underlying72 hi hz0 hz1 hz2 rfl (by decide) _ _ _ rfl (hown.alloc _) ⟨w1.heap.size, 0, none⟩ 1 1 [.int .u8 n] rfl rfl ?c1 ?c2 ?c3 ?c4 ?c5 ?_)
  case c1 =>
    intro j u hj
    match j, hj with
    | 0, hj => simp at hj; subst hj; simp [Addr.add]
  case c2 => intro u hu; simp at hu; subst hu; rfl
  case c3 => unfold maxLen; omega
  case c4 => omega
  case c5 => have := hb1.size; simp; omega
  intro v' w2 hown' hgrow _
  have hlt : b < w1.heap.size := (Array.getElem?_eq_some_iff.1 hbk).1
  have hb2 : w2.heap[b]? = some (.cells #[.pointer (some ⟨b, 0, none⟩), v] 101 (0, 0)) := by
    rw [hgrow.block b (by simp; omega) (fun e => hne e.symm), Lib.alloc_old w1 _ b hlt]
    exact hbk
  have d0 : w2.cell? ⟨b, 0, none⟩ = some (.pointer (some ⟨b, 0, none⟩)) := by rw [Lib.cell_of_heap hb2]; rfl
  have d1 : w2.cell? ⟨b, 1, none⟩ = some v := by rw [Lib.cell_of_heap hb2]; rfl
  have f1 : w2.frozen? ⟨b, 1, none⟩ = false := Lib.frozen_of_heap hb2 1
  have ht2 : KeptT w w2 := (ht1.trans (KeptT.of_below ((Below.refl _ _).alloc (Nat.le_refl _) _))).trans (KeptT.grown (hown.alloc _) hgrow)
  have hb2' := Lib.hid hb2
  have ht2' := Lib.hid ht2
  clear ht1 ht2
  obtain ⟨ao, n', cap, rfl⟩ : ∃ ao n' cap, v' = .slice ao n' cap := by
    rcases hown'.2 with ⟨hv, _⟩ | ⟨g, cap, cur, fz, hv, _⟩
    · exact ⟨_, _, _, hv⟩
    · exact ⟨_, _, _, hv⟩
  go_wp2
  go_ret
  refine ⟨rfl, .inr ?_, ?_, ht2'.out.trans (KeptT.setCell hb2'.out 1 _)⟩
  · rw [hcc'.out]
    exact Lib.BuilderAtF.put (T := 101) (e := 5) hB hb2 (bs' := byteCells l ++ [.int .u8 n]) (by simpa using hown') (by decide)
  · exact ((hb1.alloc (by have := hb1.size; omega) _).grown hgrow (by have := hb1.size; simp; omega) (fun k hk => (hown.lt k hk).1)).setCell (p := ⟨b, 1, none⟩) hB _
theorem byte_any (B b : Nat) (l : List UInt8) (c : UInt8) (w : World) (h : Bd B b l w) (hlen : l.length + 1 ≤ 140737488355328) (hBw : B ≤ w.heap.size) :
    Calls Tryz.prog 67 #[.pointer (some ⟨b, 0, none⟩), .int .u8 (c.toNat : Int)] w fun e w' => e = .returned .nilIface ∧ Bd B b (l ++ [c]) w' ∧ Below B w w' :=
  (byte_full B b l c w h hlen hBw).mono fun e w' ⟨h1, h2, h3, _⟩ => ⟨h1, h2, h3⟩

theorem text_any (B b : Nat) (l : List UInt8) (w : World) (h : Bd B b l w) (hBw : B ≤ w.heap.size) :
    Calls Tryz.prog 69 #[.pointer (some ⟨b, 0, none⟩)] w fun e w' => e = .returned (.string ⟨l.toArray⟩) ∧ Bd B b l w' ∧ Below B w w' :=
  (Tryz.Builder_String_any_f B b l w h hBw).mono fun e w' ⟨h1, h2, h3⟩ => ⟨h1, h2, h3⟩
end Go.Proofs.YthnnpnlapjlnoaaGreatDoor.Bu

/-
  HOW LINES LIE IN MEMORY: strings and parameters in rows of the call's own ('Own', 'POwn', 'LOwn'), and wherever they read ('StrsAt', 'PrmsAt', 'LineAt').
-/
set_option linter.unusedVariables false
namespace Go.Proofs.YthnnpnlapjlnoaaGreatDoor.Li
open Go.Lib Go.RowKit

def sv (l : Row) : Value := .string ⟨l.toArray⟩
theorem sv_data (s : ByteArray) : sv s.data.toList = .string s := by unfold sv; rw [Lib.mk_data]
/-- a slice of the call's own that reads as these strings -/
def Own (B : Nat) (v : Value) (ls : List Row) (w : World) : Prop := w.ownsRow B 9 1 v ls.length (ls.map sv)
theorem Own.nil (B : Nat) (w : World) : Own B (.slice none 0 0) [] w := World.ownsRow_nil w B _ 1
theorem ownsRow_kept {w w' : World} {B : Nat} {e : TypeId} {size : Nat} {v : Value} {n : Nat} {xs : List Value} (h : w.ownsRow B e size v n xs) (hb : Below w.heap.size w w') : w'.ownsRow B e size v n xs := by
  refine ⟨h.1, ?_⟩
  rcases h.2 with h | ⟨g, cap, cur, e1, e2, e3, e4⟩
  · exact .inl h
  · exact .inr ⟨g, cap, cur, e1, e2, by rw [hb.block g (Array.getElem?_eq_some_iff.1 e3).1]; exact e3, e4⟩
theorem ownsRow_less {w : World} {B B' : Nat} {e : TypeId} {size : Nat} {v : Value} {n : Nat} {xs : List Value} (h : w.ownsRow B e size v n xs) (hb : B' ≤ B) : w.ownsRow B' e size v n xs := by
  refine ⟨h.1, ?_⟩
  rcases h.2 with h | ⟨g, cap, cur, e1, e2, e3, e4⟩
  · exact .inl h
  · exact .inr ⟨g, cap, cur, e1, Nat.le_trans hb e2, e3, e4⟩
/-- a row of another element type is left where a row is written -/
theorem ownsRow_beside {w w' : World} {B B' : Nat} {e e' : TypeId} {size size' : Nat} {v v' : Value} {n n' : Nat} {xs xs' : List Value} (h : w.ownsRow B e size v n xs) (k : w.ownsRow B' e' size' v' n' xs') (hne : e ≠ e') (hg : w.grownBy w' v'.ownBlock) : w'.ownsRow B e size v n xs := by
  refine ⟨h.1, ?_⟩
  rcases h.2 with h | ⟨g, cap, cur, e1, e2, e3, e4⟩
  · exact .inl h
  · refine .inr ⟨g, cap, cur, e1, e2, ?_, e4⟩
    rw [hg.block g (Array.getElem?_eq_some_iff.1 e3).1 ?_]
    · exact e3
    · intro hk
      rcases k.2 with k | ⟨g', cap', cur', f1, f2, f3, f4⟩
      · rw [k.1] at hk; cases hk
      · rw [f1] at hk
        obtain rfl : g = g' := by simpa [Value.ownBlock] using hk
        rw [e3] at f3
        have := Option.some.inj f3
        injection this with _ ht
        exact hne ht
theorem Own.kept {w w' : World} {B : Nat} {v : Value} {ls : List Row} (h : Own B v ls w) (hb : Below w.heap.size w w') : Own B v ls w' := ownsRow_kept h hb
theorem Own.less {w : World} {B B' : Nat} {v : Value} {ls : List Row} (h : Own B v ls w) (hb : B' ≤ B) : Own B' v ls w := ownsRow_less h hb
theorem infoStr : (Tryz.prog.info? 9).map (fun i => (i.zero, i.size, i.bytes)) = some (some (.string ⟨#[]⟩), 1, 16) := by kernel_rfl
theorem infoPrm : (Tryz.prog.info? 47).map (fun i => (i.zero, i.size, i.bytes)) = some (some (.agg #[.string ⟨#[]⟩, .slice none 0 0]), 2, 40) := by kernel_rfl
theorem strPrm_ne : (9 : TypeId) ≠ 47 := by decide

/-! ### parameters of the call's own -/
def pcells : List PD → List Value → List Value
  | p :: ps, v :: vs => sv p.name :: v :: pcells ps vs
  | _, _ => []
theorem pcells_len : ∀ (ps : List PD) (vs : List Value), ps.length = vs.length → (pcells ps vs).length = ps.length * 2
  | [], [], _ => rfl
  | p :: ps, v :: vs, h => by
    have := pcells_len ps vs (by simpa using h)
    simp only [pcells, List.length_cons]; omega
  | [], _ :: _, h => by simp at h
  | _ :: _, [], h => by simp at h
theorem pcells_snoc : ∀ (ps : List PD) (vs : List Value) (p : PD) (v : Value), ps.length = vs.length → pcells (ps ++ [p]) (vs ++ [v]) = pcells ps vs ++ [sv p.name, v]
  | [], [], _, _, _ => rfl
  | q :: ps, u :: vs, p, v, h => by
    have := pcells_snoc ps vs p v (by simpa using h)
    simp only [List.cons_append, pcells, this]
  | [], _ :: _, _, _, h => by simp at h
  | _ :: _, [], _, _, h => by simp at h
theorem pcells_at : ∀ (ps : List PD) (vs : List Value) (j : Nat) (p : PD) (v : Value), ps.length = vs.length → ps[j]? = some p → vs[j]? = some v → (pcells ps vs)[j * 2]? = some (sv p.name) ∧ (pcells ps vs)[j * 2 + 1]? = some v
  | q :: ps, u :: vs, 0, p, v, h, h1, h2 => by
    simp at h1 h2; subst h1; subst h2
    exact ⟨rfl, rfl⟩
  | q :: ps, u :: vs, j + 1, p, v, h, h1, h2 => by
    have := pcells_at ps vs j p v (by simpa using h) (by simpa using h1) (by simpa using h2)
    rw [show (j + 1) * 2 = j * 2 + 1 + 1 by omega]
    simpa [pcells] using this
  | [], [], j, p, v, _, h1, _ => by simp at h1
  | [], _ :: _, _, _, _, h, _, _ => by simp at h
  | _ :: _, [], _, _, _, h, _, _ => by simp at h
theorem pcells_one : ∀ (ps : List PD) (vs : List Value), (∀ v ∈ vs, v.oneCell' = true) → ∀ u ∈ pcells ps vs, u.oneCell' = true
  | p :: ps, v :: vs, h, u, hu => by
    simp only [pcells, List.mem_cons] at hu
    rcases hu with rfl | rfl | hu
    · rfl
    · exact h u (by simp)
    · exact pcells_one ps vs (fun x hx => h x (by simp [hx])) u hu
  | [], _, _, u, hu => by simp [pcells] at hu
  | _ :: _, [], _, u, hu => by simp [pcells] at hu
/-- a slice of the call's own that reads as these parameters, whose values lie in rows of the call's own -/
def POwn (B : Nat) (v : Value) (ps : List PD) (w : World) : Prop :=
  ∃ vs : List Value, ps.length = vs.length ∧ w.ownsRow B 47 2 v ps.length (pcells ps vs) ∧ ∀ (j : Nat) (p : PD) (u : Value), ps[j]? = some p → vs[j]? = some u → Own B u p.vals w
theorem POwn.nil (B : Nat) (w : World) : POwn B (.slice none 0 0) [] w := ⟨[], rfl, World.ownsRow_nil w B _ 2, fun j p u h => by simp at h⟩
theorem POwn.kept {w w' : World} {B : Nat} {v : Value} {ps : List PD} (h : POwn B v ps w) (hb : Below w.heap.size w w') : POwn B v ps w' := by
  obtain ⟨vs, h1, h2, h3⟩ := h
  exact ⟨vs, h1, ownsRow_kept h2 hb, fun j p u hp hu => (h3 j p u hp hu).kept hb⟩
theorem POwn.less {w : World} {B B' : Nat} {v : Value} {ps : List PD} (h : POwn B v ps w) (hb : B' ≤ B) : POwn B' v ps w := by
  obtain ⟨vs, h1, h2, h3⟩ := h
  exact ⟨vs, h1, ownsRow_less h2 hb, fun j p u hp hu => (h3 j p u hp hu).less hb⟩

/-! ### wherever they read -/
def StrsAt (w : World) (v : Value) (ls : List Row) : Prop :=
  ∃ (A : Option Addr) (b off c : Nat), v = .slice A ls.length c ∧ ls.length ≤ c ∧ c ≤ maxLen ∧ (0 < ls.length → A = some ⟨b, off, none⟩ ∧ b < w.heap.size) ∧ ∀ j l, ls[j]? = some l → w.cell? ⟨b, off + j, none⟩ = some (sv l)
theorem StrsAt.kept {w w' : World} {v : Value} {ls : List Row} (h : StrsAt w v ls) (hb : Below w.heap.size w w') : StrsAt w' v ls := by
  obtain ⟨A, b, off, c, h1, h2, h3, h4, h5⟩ := h
  refine ⟨A, b, off, c, h1, h2, h3, fun hl => ⟨(h4 hl).1, Nat.lt_of_lt_of_le (h4 hl).2 hb.size⟩, fun j l hj => ?_⟩
  have hlt := (h4 (by have := (List.getElem?_eq_some_iff.1 hj).1; omega)).2
  rw [hb.cell (p := ⟨b, off + j, none⟩) hlt]
  exact h5 j l hj
theorem Own.at {B : Nat} {v : Value} {ls : List Row} {w : World} (h : Own B v ls w) : StrsAt w v ls := by
  obtain ⟨h1, h2 | ⟨g, cap, cur, e1, e2, e3, e4, e5, e6, e7⟩⟩ := h
  · obtain rfl : ls = [] := List.eq_nil_of_length_eq_zero h2.2
    exact ⟨none, 0, 0, 0, h2.1, by simp, by unfold maxLen; omega, fun h => absurd h (by simp), fun j l hj => by simp at hj⟩
  · refine ⟨_, g, 0, cap, e1, e4, e5, fun _ => ⟨rfl, (Array.getElem?_eq_some_iff.1 e3).1⟩, fun j l hj => ?_⟩
    have hlt := (List.getElem?_eq_some_iff.1 hj).1
    rw [Lib.cell_of_heap e3, Nat.zero_add]
    have : (cur.toList.take (ls.length * 1))[j]? = (ls.map sv)[j]? := by rw [e7]
    rw [List.getElem?_take, if_pos (by omega), List.getElem?_map, hj] at this
    rw [← Array.getElem?_toList, this]; rfl
def PrmsAt (w : World) (v : Value) (ps : List PD) : Prop :=
  ∃ (A : Option Addr) (b off c : Nat), v = .slice A ps.length c ∧ ps.length ≤ c ∧ c ≤ maxLen ∧ (0 < ps.length → A = some ⟨b, off, none⟩ ∧ b < w.heap.size) ∧
    ∀ (j : Nat) (p : PD), ps[j]? = some p → w.cell? ⟨b, off + j * 2, none⟩ = some (sv p.name) ∧ ∃ u, w.cell? ⟨b, off + j * 2 + 1, none⟩ = some u ∧ StrsAt w u p.vals
theorem PrmsAt.kept {w w' : World} {v : Value} {ps : List PD} (h : PrmsAt w v ps) (hb : Below w.heap.size w w') : PrmsAt w' v ps := by
  obtain ⟨A, b, off, c, h1, h2, h3, h4, h5⟩ := h
  refine ⟨A, b, off, c, h1, h2, h3, fun hl => ⟨(h4 hl).1, Nat.lt_of_lt_of_le (h4 hl).2 hb.size⟩, fun j p hj => ?_⟩
  have hlt := (h4 (by have := (List.getElem?_eq_some_iff.1 hj).1; omega)).2
  obtain ⟨g1, u, g2, g3⟩ := h5 j p hj
  rw [hb.cell (p := ⟨b, off + j * 2, none⟩) hlt, hb.cell (p := ⟨b, off + j * 2 + 1, none⟩) hlt]
  exact ⟨g1, u, g2, g3.kept hb⟩
theorem POwn.at {B : Nat} {v : Value} {ps : List PD} {w : World} (h : POwn B v ps w) : PrmsAt w v ps := by
  obtain ⟨vs, hl, ⟨h1, h2 | ⟨g, cap, cur, e1, e2, e3, e4, e5, e6, e7⟩⟩, hv⟩ := h
  · obtain rfl : ps = [] := List.eq_nil_of_length_eq_zero h2.2
    exact ⟨none, 0, 0, 0, h2.1, by simp, by unfold maxLen; omega, fun h => absurd h (by simp), fun j l hj => by simp at hj⟩
  · refine ⟨_, g, 0, cap, e1, e4, e5, fun _ => ⟨rfl, (Array.getElem?_eq_some_iff.1 e3).1⟩, fun j p hj => ?_⟩
    have hlt := (List.getElem?_eq_some_iff.1 hj).1
    have hu : vs[j]? = some (vs[j]'(by omega)) := List.getElem?_eq_getElem (by omega)
    obtain ⟨c1, c2⟩ := pcells_at ps vs j p _ hl hj hu
    have key : ∀ i x, i < ps.length * 2 → (pcells ps vs)[i]? = some x → w.cell? ⟨g, 0 + i, none⟩ = some x := fun i x hi hx => by
      rw [Lib.cell_of_heap e3, Nat.zero_add]
      have : (cur.toList.take (ps.length * 2))[i]? = (pcells ps vs)[i]? := by rw [e7]
      rw [List.getElem?_take, if_pos hi, hx] at this
      rw [← Array.getElem?_toList, this]
    refine ⟨key _ _ (by omega) c1, _, ?_, (hv j p _ hj hu).at⟩
    have := key (j * 2 + 1) _ (by omega) c2
    rwa [← Nat.add_assoc] at this
/-- a line by value -/
def LineAt (w : World) (v : Value) (L : LD) : Prop := ∃ pv, v = .agg #[sv L.group, sv L.name, pv, sv L.value] ∧ PrmsAt w pv L.params
theorem LineAt.kept {w w' : World} {v : Value} {L : LD} (h : LineAt w v L) (hb : Below w.heap.size w w') : LineAt w' v L := by
  obtain ⟨pv, h1, h2⟩ := h
  exact ⟨pv, h1, h2.kept hb⟩
def LOwn (B : Nat) (v : Value) (L : LD) (w : World) : Prop := ∃ pv, v = .agg #[sv L.group, sv L.name, pv, sv L.value] ∧ POwn B pv L.params w
theorem LOwn.at {B : Nat} {v : Value} {L : LD} {w : World} (h : LOwn B v L w) : LineAt w v L := by
  obtain ⟨pv, h1, h2⟩ := h
  exact ⟨pv, h1, h2.at⟩
theorem LOwn.kept {w w' : World} {B : Nat} {v : Value} {L : LD} (h : LOwn B v L w) (hb : Below w.heap.size w w') : LOwn B v L w' := by
  obtain ⟨pv, h1, h2⟩ := h
  exact ⟨pv, h1, h2.kept hb⟩
theorem LOwn.less {w : World} {B B' : Nat} {v : Value} {L : LD} (h : LOwn B v L w) (hb : B' ≤ B) : LOwn B' v L w := by
  obtain ⟨pv, h1, h2⟩ := h
  exact ⟨pv, h1, h2.less hb⟩
end Go.Proofs.YthnnpnlapjlnoaaGreatDoor.Li

/-
  WALKS OF line.inName, cutName, Name, the reference's in and Name.
-/
set_option linter.unusedVariables false
namespace Go.Proofs.YthnnpnlapjlnoaaGreatDoor.Li
open Go.Lib Go.RowKit

theorem below_then {a b c : World} (h1 : Below a.heap.size a b) (h2 : Below b.heap.size b c) : Below a.heap.size a c := h1.trans (h2.mono h1.size)
theorem below_drewN {a w : World} (n : Nat) (h : Below a.heap.size a w) : Below a.heap.size a (w.drewN n) := ⟨h.os, h.tape, h.output, h.size, h.block⟩
theorem below_drew (w : World) (n : Nat) : Below w.heap.size w (w.drewN n) := below_drewN n (Below.refl _ _)
theorem ret_bool {a b : Bool} (h : a = b) : Ending.returned (.bool a) = .returned (.bool b) := by rw [h]

theorem inB_of (b : UInt8) (v : Nat) (h : b.toNat = v) : Hid (∀ r : Bool, (r = true ↔ ((97 ≤ v ∧ v ≤ 122) ∨ (65 ≤ v ∧ v ≤ 90) ∨ (48 ≤ v ∧ v ≤ 57) ∨ v = 45)) → r = inB b) := Lib.hid fun r hr => by
  unfold inB
  rw [h, Bool.eq_iff_iff, hr, decide_eq_true_iff]

set_option maxHeartbeats 1000000 in
set_option maxRecDepth 100000 in
theorem inName_any (b : UInt8) (w : World) : Calls Tryz.prog 124 #[.int .u8 (b.toNat : Int)] w fun e w' => e = .returned (.bool (inB b)) ∧ w = w' := by
  have H := inB_of b b.toNat rfl
  generalize inB b = R at H ⊢
  generalize b.toNat = v at H ⊢
  go_enter Tryz.func124, Tryz.ntmps124
  go_wp2
  all_goals
    go_ret
    exact ⟨ret_bool (H.out _ (by first | omega | (simp; omega))), rfl⟩
set_option maxHeartbeats 1000000 in
set_option maxRecDepth 100000 in
theorem refIn_any (b : UInt8) (w : World) : Calls Tryz.prog 82 #[.int .u8 (b.toNat : Int)] w fun e w' => e = .returned (.bool (inB b)) ∧ w = w' := by
  have H := inB_of b b.toNat rfl
  generalize inB b = R at H ⊢
  generalize b.toNat = v at H ⊢
  go_enter Tryz.func82, Tryz.ntmps82
  go_wp2
  all_goals
    go_ret
    exact ⟨ret_bool (H.out _ (by first | omega | (simp; omega))), rfl⟩

/-- what cutName answers -/
def CutNameP (t : Row) (e : Ending) : Prop :=
  (nameC t = none ∧ e = .returned (.tuple #[.string ⟨#[]⟩, .string ⟨#[]⟩, .bool false])) ∨
  ∃ n r : ByteArray, nameC t = some (n.data.toList, r.data.toList) ∧ e = .returned (.tuple #[.string n, .string r, .bool true])

theorem data_at (s : ByteArray) (k : Nat) (h : k < s.size) : s.data.toList.getD k 0 = s[k]'h := by
  rw [List.getD_eq_getElem?_getD, Lib.data_getElem? s k h]; rfl
theorem cutName_fin (s : ByteArray) (k : Nat) (hk : k ≤ s.size) (h1 : ∀ j, j < k → inB (s.data.toList.getD j 0) = true) (h2 : k < s.size → inB (s.data.toList.getD k 0) = false) :
    nlen s.data.toList = k := nlen_at _ _ (by rw [← Lib.size_eq]; exact hk) h1 (fun h => h2 (by rw [← Lib.size_eq] at h; exact h))

set_option maxHeartbeats 2000000 in
set_option maxRecDepth 100000 in
theorem cutName_any (s : ByteArray) (w : World) (hs : s.size ≤ 9223372036854775807) :
    Calls Tryz.prog 104 #[.string s] w fun e w' => CutNameP s.data.toList e ∧ Below w.heap.size w w' := by
  go_enter Tryz.func104, Tryz.ntmps104
  go_wp2
  go_loop [5] (fun i => ∃ k : Nat, k ≤ s.size ∧ i = .int .i64 k ∧ ∀ j, j < k → inB (s.data.toList.getD j 0) = true) (fun i => s.size - (RowKit.intOf i).toNat)
  case atStart => exact ⟨0, Nat.zero_le _, rfl, fun j hj => absurd hj (Nat.not_lt_zero _)⟩
  case round =>
    obtain ⟨k, hk, rfl, hall⟩ := hrel
    have hall' := Lib.hid hall
    clear hall
    have hout : nlen s.data.toList = k → ((k = 0 ∨ 64 < k) → CutNameP s.data.toList (.returned (.tuple #[.string ⟨#[]⟩, .string ⟨#[]⟩, .bool false]))) ∧ (¬ (k = 0 ∨ 64 < k) → CutNameP s.data.toList (.returned (.tuple #[.string (s.extract 0 k), .string (s.extract k s.size), .bool true]))) := fun hn =>
      ⟨fun h => .inl ⟨by unfold nameC; rw [hn, if_pos h], rfl⟩, fun h => .inr ⟨_, _, by
        unfold nameC
        rw [hn, if_neg h, Lib.extract_to_end, Lib.extract_data]; rfl, rfl⟩⟩
    by_cases hgo : k < s.size ∧ inB (s.data.toList.getD k 0) = true
    · obtain ⟨hlt, hin⟩ := hgo
      have hnext : ∀ j, j < k + 1 → inB (s.data.toList.getD j 0) = true := fun j hj => by
        rcases Nat.lt_succ_iff_lt_or_eq.1 hj with h | h
        · exact hall'.out j h
        · rw [h]; exact hin
      have hnext' := Lib.hid hnext
      have cI := fun W => inName_any (s[k]'hlt) W
      rw [← data_at s k hlt, hin, data_at s k hlt] at cI
      clear hnext hin hout
      go_wp2_with (go_at_call 124; refine (cI _).mono ?_; rintro e w' ⟨rfl, rfl⟩)
      go_round
      case rel => exact ⟨k + 1, by omega, by go_num, hnext'.out⟩
      case measure => simp [RowKit.intOf]; omega
    · have hn : nlen s.data.toList = k := cutName_fin s k hk hall'.out (fun h => by
        rw [Bool.eq_false_iff]; exact fun h' => hgo ⟨h, h'⟩)
      obtain ⟨f1, f2⟩ := hout hn
      have f1' := Lib.hid f1
      have f2' := Lib.hid f2
      clear f1 f2 hn hout
      by_cases hlt : k < s.size
      · have hin : inB (s.data.toList.getD k 0) = false := by rw [Bool.eq_false_iff]; exact fun h' => hgo ⟨hlt, h'⟩
        have cI := fun W => inName_any (s[k]'hlt) W
        rw [← data_at s k hlt, hin, data_at s k hlt] at cI
        clear hin hgo
        rcases Nat.lt_or_ge 64 k with h64 | h64
        · have d0 : ((k : Int) == 0) = false := beq_eq_false_iff_ne.2 (by omega)
          go_wp2_with (go_at_call 124; refine (cI _).mono ?_; rintro e w' ⟨rfl, rfl⟩)
          go_ret3
          exact ⟨f1'.out (.inr h64), Below.refl _ _⟩
        · by_cases h0 : k = 0
          · subst h0
            go_wp2_with (go_at_call 124; refine (cI _).mono ?_; rintro e w' ⟨rfl, rfl⟩)
            go_ret3
            exact ⟨f1'.out (by simp), Below.refl _ _⟩
          · have d0 : ((k : Int) == 0) = false := beq_eq_false_iff_ne.2 (by omega)
            go_wp2_with (go_at_call 124; refine (cI _).mono ?_; rintro e w' ⟨rfl, rfl⟩)
            go_quiet (fail)
            go_wp2
            go_ret3
            exact ⟨f2'.out (by omega), below_drew _ _⟩
      · clear hgo
        rcases Nat.lt_or_ge 64 k with h64 | h64
        · have d0 : ((k : Int) == 0) = false := beq_eq_false_iff_ne.2 (by omega)
          go_wp2
          go_ret3
          exact ⟨f1'.out (.inr h64), Below.refl _ _⟩
        · by_cases h0 : k = 0
          · subst h0
            go_wp2
            go_ret3
            exact ⟨f1'.out (by simp), Below.refl _ _⟩
          · have d0 : ((k : Int) == 0) = false := beq_eq_false_iff_ne.2 (by omega)
            go_wp2
            go_quiet (fail)
            go_wp2
            go_ret3
            exact ⟨f2'.out (by omega), below_drew _ _⟩

theorem nonempty_of (s : ByteArray) (h : s.data.toList ≠ []) : s.toList.isEmpty = false := by
  rw [Lib.toList_data]
  cases h' : s.data.toList with
  | nil => exact absurd h' h
  | cons _ _ => rfl
theorem empty_of (s : ByteArray) (h : s.data.toList = []) : s.toList.isEmpty = true := by rw [Lib.toList_data, h]; rfl
theorem size_pos (s : ByteArray) {c : UInt8} (h : s.data.toList.head? = some c) : 1 ≤ s.size := by
  rw [Lib.size_eq]
  cases h' : s.data.toList with
  | nil => rw [h'] at h; cases h
  | cons x t => simp
theorem cut_tail (s : ByteArray) : (s.extract 1 s.size).data.toList = s.data.toList.tail := by rw [Lib.extract_to_end, List.drop_one]

set_option maxHeartbeats 2000000 in
set_option maxRecDepth 100000 in
theorem name_any (s : ByteArray) (w : World) (hs : s.size ≤ 9223372036854775807) :
    Calls Tryz.prog 92 #[.string s] w fun e w' => e = .returned (.bool (nameB s.data.toList)) ∧ Below w.heap.size w w' := by
  have hN := Lib.hid (name_of_cut s.data.toList)
  generalize nameB s.data.toList = R at hN ⊢
  go_enter Tryz.func92, Tryz.ntmps92
  go_wp2_with fail
  go_at_call 104
  refine (cutName_any s w hs).mono ?_
  rintro e w1 ⟨hc, hb⟩
  rcases hc with ⟨h1, rfl⟩ | ⟨n, r, h1, rfl⟩
  · have hR := hN.out
    rw [h1] at hR
    have hR' := Lib.hid hR
    clear hR h1
    go_wp2
    go_ret
    exact ⟨ret_bool hR'.out.symm, hb⟩
  · have hR := hN.out
    rw [h1] at hR
    have hR' := Lib.hid hR
    clear hR h1
    by_cases h0 : r.data.toList = []
    · have he := empty_of r h0
      have hR2 := hR'.out
      dsimp only at hR2
      rw [h0] at hR2
      have hR3 := Lib.hid hR2
      clear h0 hR2
      go_wp2
      go_ret
      exact ⟨ret_bool hR3.out.symm, hb⟩
    · have he := nonempty_of r h0
      have hR2 := hR'.out
      dsimp only at hR2
      rw [List.isEmpty_eq_false_iff.2 h0] at hR2
      have hR3 := Lib.hid hR2
      clear h0 hR2
      go_wp2
      go_ret
      exact ⟨ret_bool hR3.out.symm, hb⟩

set_option maxHeartbeats 2000000 in
set_option maxRecDepth 100000 in
theorem refName_any (s : ByteArray) (w : World) (hs : s.size ≤ 9223372036854775807) :
    Calls Tryz.prog 55 #[.string s] w fun e w' => e = .returned (.bool (nameB s.data.toList)) ∧ w = w' := by
  have hno : ∀ k, k < s.size → inB (s.data.toList.getD k 0) = false → nameB s.data.toList = false := fun k hk h => by
    unfold nameB
    have : s.data.toList.all inB = false := by
      rw [List.all_eq_false]
      rw [Lib.size_eq] at hk
      refine ⟨_, List.getElem_mem hk, ?_⟩
      rw [List.getD_eq_getElem?_getD, List.getElem?_eq_getElem hk] at h
      simpa using h
    rw [this]; rfl
  have hyes : (∀ j, j < s.size → inB (s.data.toList.getD j 0) = true) → nameB s.data.toList = (decide (1 ≤ s.size) && decide (s.size ≤ 64)) := fun h => by
    unfold nameB
    have : s.data.toList.all inB = true := by
      rw [List.all_eq_true]
      intro x hx
      obtain ⟨k, hk, rfl⟩ := List.getElem_of_mem hx
      have := h k (by rw [Lib.size_eq]; exact hk)
      rwa [List.getD_eq_getElem?_getD, List.getElem?_eq_getElem hk] at this
    rw [this, Lib.size_eq]; rfl
  generalize nameB s.data.toList = R at hno hyes ⊢
  have hno' := Lib.hid hno
  have hyes' := Lib.hid hyes
  clear hno hyes
  go_enter Tryz.func55, Tryz.ntmps55
  go_wp2
  go_loop [3] (fun i => ∃ k : Nat, k ≤ s.size ∧ i = .int .i64 k ∧ ∀ j, j < k → inB (s.data.toList.getD j 0) = true) (fun i => s.size - (RowKit.intOf i).toNat)
  case atStart => exact ⟨0, Nat.zero_le _, rfl, fun j hj => absurd hj (Nat.not_lt_zero _)⟩
  case round =>
    obtain ⟨k, hk, rfl, hall⟩ := hrel
    have hall' := Lib.hid hall
    clear hall
    by_cases hlt : k < s.size
    · cases hin : inB (s.data.toList.getD k 0)
      · have cI := fun W => refIn_any (s[k]'hlt) W
        rw [← data_at s k hlt, hin, data_at s k hlt] at cI
        have hR := Lib.hid (hno'.out k hlt hin)
        clear hin
        go_wp2_with (go_at_call 82; refine (cI _).mono ?_; rintro e w' ⟨rfl, rfl⟩)
        go_ret
        exact ⟨ret_bool hR.out.symm, rfl⟩
      · have hnext : ∀ j, j < k + 1 → inB (s.data.toList.getD j 0) = true := fun j hj => by
          rcases Nat.lt_succ_iff_lt_or_eq.1 hj with h | h
          · exact hall'.out j h
          · rw [h]; exact hin
        have hnext' := Lib.hid hnext
        have cI := fun W => refIn_any (s[k]'hlt) W
        rw [← data_at s k hlt, hin, data_at s k hlt] at cI
        clear hnext hin
        go_wp2_with (go_at_call 82; refine (cI _).mono ?_; rintro e w' ⟨rfl, rfl⟩)
        go_round
        case rel => exact ⟨k + 1, by omega, by go_num, hnext'.out⟩
        case measure => simp [RowKit.intOf]; omega
    · have hR := Lib.hid (hyes'.out fun j hj => hall'.out j (by omega))
      by_cases h1 : 1 ≤ s.size
      · by_cases h2 : s.size ≤ 64
        · have hR2 := hR.out
          rw [decide_eq_true h1, decide_eq_true h2] at hR2
          have hR3 := Lib.hid hR2
          have d2 : decide ((s.size : Int) ≤ 64) = true := decide_eq_true (by omega)
          clear hR2
          go_wp2
          go_ret
          exact ⟨ret_bool hR3.out.symm, rfl⟩
        · have hR2 := hR.out
          rw [decide_eq_true h1, decide_eq_false h2] at hR2
          have hR3 := Lib.hid hR2
          have h2' : 64 < s.size := by omega
          have d2 : decide ((s.size : Int) ≤ 64) = false := decide_eq_false (by omega)
          clear hR2 h2
          go_wp2
          go_ret
          exact ⟨ret_bool hR3.out.symm, rfl⟩
      · have hR2 := hR.out
        rw [decide_eq_false h1] at hR2
        have hR3 := Lib.hid hR2
        have d1 : decide ((1 : Int) ≤ (s.size : Int)) = false := decide_eq_false (by omega)
        clear hR2
        go_wp2
        go_ret
        exact ⟨ret_bool hR3.out.symm, rfl⟩

/-! ### prefixes of one byte -/
theorem pre_one (l : Row) (c : UInt8) : Lib.hasPrefix l [c] = decide (l.head? = some c) := by
  unfold Lib.hasPrefix
  cases l with
  | nil => rfl
  | cons x t => rw [Bool.eq_iff_iff]; simp; exact eq_comm
theorem hasPre_any (s : ByteArray) (c : UInt8) (w : World) :
    Calls Tryz.prog 105 #[.string s, .string ⟨#[c]⟩] w fun e w' => e = .returned (.bool (decide (s.data.toList.head? = some c))) ∧ w = w' :=
  (Tryz.strings_HasPrefix s ⟨#[c]⟩ w).mono fun e w' ⟨h1, h2⟩ => ⟨by
    rw [h1]
    refine ret_bool ?_
    exact pre_one _ c, h2.symm⟩
/-- .. with its answer known -/
theorem hasPre_is (s : ByteArray) (c : UInt8) (v : Bool) (w : World) (h : decide (s.data.toList.head? = some c) = v) :
    Calls Tryz.prog 105 #[.string s, .string ⟨#[c]⟩] w fun e w' => e = .returned (.bool v) ∧ w = w' := by
  have := hasPre_any s c w
  rwa [h] at this
def CutPreP (c : UInt8) (s : ByteArray) (e : Ending) : Prop :=
  (s.data.toList.head? ≠ some c ∧ e = .returned (.tuple #[.string s, .bool false])) ∨
  (s.data.toList.head? = some c ∧ ∃ r : ByteArray, r.data.toList = s.data.toList.tail ∧ e = .returned (.tuple #[.string r, .bool true]))
theorem cutPre_any (s : ByteArray) (c : UInt8) (w : World) :
    Calls Tryz.prog 77 #[.string s, .string ⟨#[c]⟩] w fun e w' => CutPreP c s e ∧ w = w' :=
  (Tryz.strings_CutPrefix s ⟨#[c]⟩ w).mono fun e w' ⟨h1, h2⟩ => ⟨by
    have e1 : (⟨#[c]⟩ : ByteArray).data.toList = [c] := rfl
    rw [h1, e1]
    unfold Lib.trimPrefix
    rw [pre_one]
    by_cases h : s.data.toList.head? = some c
    · rw [decide_eq_true h, if_pos rfl]
      exact .inr ⟨h, _, by simp, rfl⟩
    · rw [decide_eq_false h, if_neg (by decide), Lib.mk_data]
      exact .inl ⟨h, rfl⟩, h2.symm⟩
end Go.Proofs.YthnnpnlapjlnoaaGreatDoor.Li

/-
  WALKS OF strings.IndexRune at whatever two bytes or more below 128 are looked for (at most 64).
-/
set_option linter.unusedVariables false
namespace Go.Proofs.YthnnpnlapjlnoaaGreatDoor.An
open Go.Lib Go.RowKit

theorem drewN_below {a w : World} (n : Nat) (h : Below a.heap.size a w) : Below a.heap.size a (w.drewN n) := ⟨h.os, h.tape, h.output, h.size, h.block⟩
theorem quiet_again {P : Program} {f : FuncId} {args : Array Value} {w : World} {a n : Nat} {v : Value}
    (h : Calls P f args (w.drewN (a + n)) fun e w' => e = .returned v ∧ w' = w.drewN (a + n)) :
    Calls P f args (w.drewN (a + n)) fun e w'' => e = .returned v ∧ ∃ m, w'' = w.drewN (a + m) :=
  h.mono fun _ _ ⟨he, hm⟩ => ⟨he, n, hm⟩
theorem valid_of (r : Int) (h : Lib.validRune r = true) : Utf8.valid r = true := by
  unfold Lib.validRune at h
  unfold Utf8.valid
  have h := of_decide_eq_true h
  simp
  omega
/-- bytes below 128 -/
def Asc (cs : ByteArray) : Prop := ∀ (j : Nat) b, cs.data.toList[j]? = some b → b.toNat < 128
theorem Asc.at {cs : ByteArray} (h : Asc cs) (i : Nat) (hi : i < cs.size) : (cs[i]'hi).toNat < 128 := h i _ (Lib.data_getElem? cs i hi)
theorem Asc.cut {cs : ByteArray} (h : Asc cs) (k : Nat) : Asc (cs.extract k cs.size) := fun j b hb => by
  rw [Lib.extract_to_end, List.getElem?_drop] at hb
  exact h _ _ hb
theorem Asc.none {cs : ByteArray} (h : Asc cs) (c : Int) (h1 : 128 ≤ c) (h2 : c < 256) : Lib.indexByte cs.data.toList c.toNat.toUInt8 = -1 := by
  have hge := Lib.indexByte_ge cs.data.toList c.toNat.toUInt8
  by_cases hn : Lib.indexByte cs.data.toList c.toNat.toUInt8 = -1
  · exact hn
  · obtain ⟨k, hk⟩ : ∃ k : Nat, Lib.indexByte cs.data.toList c.toNat.toUInt8 = k := ⟨(Lib.indexByte cs.data.toList c.toNat.toUInt8).toNat, by omega⟩
    have := h k _ (Lib.indexByte_some hk).1
    have e : c.toNat.toUInt8.toNat = c.toNat := by simp [UInt8.toNat_ofNat']; omega
    rw [e] at this
    omega


set_option maxHeartbeats 2000000 in
set_option maxRecDepth 1000000 in
theorem indexRune_far2 (cs : ByteArray) (c : Nat) (rs : ByteArray) (w : World) (h1 : 128 ≤ c) (d2 : ((c : Int) == 65533) = false) (hrs : Utf8.encode (c : Int) = rs) (h2 : rs.size = 2) (hcs : cs.size ≤ 1)
    (cV : ∀ W, Calls Tryz.prog 151 #[.int .i32 (c : Int)] W fun e w' => e = .returned (.bool true) ∧ w' = W) :
    Calls Tryz.prog 138 #[.string cs, .int .i32 (c : Int)] w fun e w' => e = .returned (.int .i64 (-1)) ∧ Below w.heap.size w w' := by
  go_enter Tryz.func138, Tryz.ntmps138
  go_wp2_with (go_at_call 151; refine (cV _).mono ?_; rintro e w' ⟨rfl, rfl⟩)
  go_step3
  go_wp2
  refine wp_loop_rounds 1 ?_
  rw [rounds_succ]
  go_wp2
  rw [Exit.noGoto_ret]
  go_ret
  exact ⟨rfl, Below.refl _ _⟩

set_option maxHeartbeats 2000000 in
set_option maxRecDepth 1000000 in
theorem indexRune_near2 (cs : ByteArray) (ha : Asc cs) (c : Nat) (rs : ByteArray) (w : World) (h1 : 128 ≤ c) (d2 : ((c : Int) == 65533) = false) (hrs : Utf8.encode (c : Int) = rs) (h2 : rs.size = 2) (hl : 1 < rs.size) (hb : 128 ≤ (rs[1]'hl).toNat) (hcs : 1 < cs.size) (hbig : cs.size ≤ 64)
    (cV : ∀ W, Calls Tryz.prog 151 #[.int .i32 (c : Int)] W fun e w' => e = .returned (.bool true) ∧ w' = W) :
    Calls Tryz.prog 138 #[.string cs, .int .i32 (c : Int)] w fun e w' => e = .returned (.int .i64 (-1)) ∧ Below w.heap.size w w' := by
  have e10 := ha.at 1 hcs
  have dne : ((((cs[1]'hcs)).toNat : Int) != ((rs[1]'hl).toNat : Int)) = true := by rw [bne_iff_ne]; omega
  have hlt := (rs[1]'hl).toNat_lt
  have cB := fun W => Tryz.strings_IndexByte (cs.extract 2 cs.size) ((rs[1]'hl).toNat : Int) W
  rw [(ha.cut 2).none ((rs[1]'hl).toNat : Int) (by omega) (by omega)] at cB
  clear e10
  go_enter Tryz.func138, Tryz.ntmps138
  go_wp2_with (go_at_call 151; refine (cV _).mono ?_; rintro e w' ⟨rfl, rfl⟩)
  go_step3
  go_wp2
  refine wp_loop_rounds 1 ?_
  rw [rounds_succ]
  go_wp2
  go_step3
  go_wp2
  go_quiet (fail)
  go_wp2
  have w2 : IntKind.i64.wrap 2 = 2 := by decide
  go_quiet ((go_at_call 150; exact quiet_again (cB _)))
  go_wp2
  rw [Exit.noGoto_ret]
  go_simp
  go_ret
  exact ⟨rfl, drewN_below _ (Below.refl _ _)⟩


set_option maxHeartbeats 2000000 in
set_option maxRecDepth 1000000 in
theorem indexRune_far3 (cs : ByteArray) (c : Nat) (rs : ByteArray) (w : World) (h1 : 128 ≤ c) (d2 : ((c : Int) == 65533) = false) (hrs : Utf8.encode (c : Int) = rs) (h2 : rs.size = 3) (hcs : cs.size ≤ 2)
    (cV : ∀ W, Calls Tryz.prog 151 #[.int .i32 (c : Int)] W fun e w' => e = .returned (.bool true) ∧ w' = W) :
    Calls Tryz.prog 138 #[.string cs, .int .i32 (c : Int)] w fun e w' => e = .returned (.int .i64 (-1)) ∧ Below w.heap.size w w' := by
  go_enter Tryz.func138, Tryz.ntmps138
  go_wp2_with (go_at_call 151; refine (cV _).mono ?_; rintro e w' ⟨rfl, rfl⟩)
  go_step3
  go_wp2
  refine wp_loop_rounds 1 ?_
  rw [rounds_succ]
  go_wp2
  rw [Exit.noGoto_ret]
  go_ret
  exact ⟨rfl, Below.refl _ _⟩

set_option maxHeartbeats 2000000 in
set_option maxRecDepth 1000000 in
theorem indexRune_near3 (cs : ByteArray) (ha : Asc cs) (c : Nat) (rs : ByteArray) (w : World) (h1 : 128 ≤ c) (d2 : ((c : Int) == 65533) = false) (hrs : Utf8.encode (c : Int) = rs) (h2 : rs.size = 3) (hl : 2 < rs.size) (hb : 128 ≤ (rs[2]'hl).toNat) (hcs : 2 < cs.size) (hbig : cs.size ≤ 64)
    (cV : ∀ W, Calls Tryz.prog 151 #[.int .i32 (c : Int)] W fun e w' => e = .returned (.bool true) ∧ w' = W) :
    Calls Tryz.prog 138 #[.string cs, .int .i32 (c : Int)] w fun e w' => e = .returned (.int .i64 (-1)) ∧ Below w.heap.size w w' := by
  have e10 := ha.at 2 hcs
  have dne : ((((cs[2]'hcs)).toNat : Int) != ((rs[2]'hl).toNat : Int)) = true := by rw [bne_iff_ne]; omega
  have hlt := (rs[2]'hl).toNat_lt
  have cB := fun W => Tryz.strings_IndexByte (cs.extract 3 cs.size) ((rs[2]'hl).toNat : Int) W
  rw [(ha.cut 3).none ((rs[2]'hl).toNat : Int) (by omega) (by omega)] at cB
  clear e10
  go_enter Tryz.func138, Tryz.ntmps138
  go_wp2_with (go_at_call 151; refine (cV _).mono ?_; rintro e w' ⟨rfl, rfl⟩)
  go_step3
  go_wp2
  refine wp_loop_rounds 1 ?_
  rw [rounds_succ]
  go_wp2
  go_step3
  go_wp2
  go_quiet (fail)
  go_wp2
  have w2 : IntKind.i64.wrap 3 = 3 := by decide
  go_quiet ((go_at_call 150; exact quiet_again (cB _)))
  go_wp2
  rw [Exit.noGoto_ret]
  go_simp
  go_ret
  exact ⟨rfl, drewN_below _ (Below.refl _ _)⟩


set_option maxHeartbeats 2000000 in
set_option maxRecDepth 1000000 in
theorem indexRune_far4 (cs : ByteArray) (c : Nat) (rs : ByteArray) (w : World) (h1 : 128 ≤ c) (d2 : ((c : Int) == 65533) = false) (hrs : Utf8.encode (c : Int) = rs) (h2 : rs.size = 4) (hcs : cs.size ≤ 3)
    (cV : ∀ W, Calls Tryz.prog 151 #[.int .i32 (c : Int)] W fun e w' => e = .returned (.bool true) ∧ w' = W) :
    Calls Tryz.prog 138 #[.string cs, .int .i32 (c : Int)] w fun e w' => e = .returned (.int .i64 (-1)) ∧ Below w.heap.size w w' := by
  go_enter Tryz.func138, Tryz.ntmps138
  go_wp2_with (go_at_call 151; refine (cV _).mono ?_; rintro e w' ⟨rfl, rfl⟩)
  go_step3
  go_wp2
  refine wp_loop_rounds 1 ?_
  rw [rounds_succ]
  go_wp2
  rw [Exit.noGoto_ret]
  go_ret
  exact ⟨rfl, Below.refl _ _⟩

set_option maxHeartbeats 2000000 in
set_option maxRecDepth 1000000 in
theorem indexRune_near4 (cs : ByteArray) (ha : Asc cs) (c : Nat) (rs : ByteArray) (w : World) (h1 : 128 ≤ c) (d2 : ((c : Int) == 65533) = false) (hrs : Utf8.encode (c : Int) = rs) (h2 : rs.size = 4) (hl : 3 < rs.size) (hb : 128 ≤ (rs[3]'hl).toNat) (hcs : 3 < cs.size) (hbig : cs.size ≤ 64)
    (cV : ∀ W, Calls Tryz.prog 151 #[.int .i32 (c : Int)] W fun e w' => e = .returned (.bool true) ∧ w' = W) :
    Calls Tryz.prog 138 #[.string cs, .int .i32 (c : Int)] w fun e w' => e = .returned (.int .i64 (-1)) ∧ Below w.heap.size w w' := by
  have e10 := ha.at 3 hcs
  have dne : ((((cs[3]'hcs)).toNat : Int) != ((rs[3]'hl).toNat : Int)) = true := by rw [bne_iff_ne]; omega
  have hlt := (rs[3]'hl).toNat_lt
  have cB := fun W => Tryz.strings_IndexByte (cs.extract 4 cs.size) ((rs[3]'hl).toNat : Int) W
  rw [(ha.cut 4).none ((rs[3]'hl).toNat : Int) (by omega) (by omega)] at cB
  clear e10
  go_enter Tryz.func138, Tryz.ntmps138
  go_wp2_with (go_at_call 151; refine (cV _).mono ?_; rintro e w' ⟨rfl, rfl⟩)
  go_step3
  go_wp2
  refine wp_loop_rounds 1 ?_
  rw [rounds_succ]
  go_wp2
  go_step3
  go_wp2
  go_quiet (fail)
  go_wp2
  have w2 : IntKind.i64.wrap 4 = 4 := by decide
  go_quiet ((go_at_call 150; exact quiet_again (cB _)))
  go_wp2
  rw [Exit.noGoto_ret]
  go_simp
  go_ret
  exact ⟨rfl, drewN_below _ (Below.refl _ _)⟩


set_option maxHeartbeats 2000000 in
set_option maxRecDepth 1000000 in
theorem indexRune_big (cs : ByteArray) (ha : Asc cs) (hbig : cs.size ≤ 64) (c : Nat) (w : World) (h1 : 128 ≤ c) (h3 : c ≠ 65533) :
    Calls Tryz.prog 138 #[.string cs, .int .i32 (c : Int)] w fun e w' => e = .returned (.int .i64 (-1)) ∧ Below w.heap.size w w' := by
  have d2 : ((c : Int) == 65533) = false := beq_eq_false_iff_ne.2 (by omega)
  cases hv : Lib.validRune (c : Int)
  · have cV := fun W => Tryz.utf8_ValidRune (c : Int) W
    rw [hv] at cV
    clear hv
    go_enter Tryz.func138, Tryz.ntmps138
    go_wp2_with (go_at_call 151; refine (cV _).mono ?_; rintro e w' ⟨rfl, rfl⟩)
    go_ret
    exact ⟨rfl, Below.refl _ _⟩
  · have cV := fun W => Tryz.utf8_ValidRune (c : Int) W
    rw [hv] at cV
    obtain ⟨hz, hz4, hl⟩ := encode_facts (c : Int) (valid_of _ hv) (by omega)
    clear hv
    obtain ⟨rs, hrs⟩ : ∃ rs, Utf8.encode (c : Int) = rs := ⟨_, rfl⟩
    rw [hrs] at hz hz4
    have hl2 : ∀ h : rs.size - 1 < rs.size, 128 ≤ (rs[rs.size - 1]'h).toNat := by subst hrs; exact hl
    have hsz : rs.size = 2 ∨ rs.size = 3 ∨ rs.size = 4 := by omega
    rcases hsz with h2 | h2 | h2

    · have hb := hl2 (by omega)
      rcases Nat.lt_or_ge 1 cs.size with h | h
      · exact indexRune_near2 cs ha c rs w h1 d2 hrs h2 (by omega) (by simpa only [h2] using hb) h hbig cV
      · exact indexRune_far2 cs c rs w h1 d2 hrs h2 h cV

    · have hb := hl2 (by omega)
      rcases Nat.lt_or_ge 2 cs.size with h | h
      · exact indexRune_near3 cs ha c rs w h1 d2 hrs h2 (by omega) (by simpa only [h2] using hb) h hbig cV
      · exact indexRune_far3 cs c rs w h1 d2 hrs h2 h cV

    · have hb := hl2 (by omega)
      rcases Nat.lt_or_ge 3 cs.size with h | h
      · exact indexRune_near4 cs ha c rs w h1 d2 hrs h2 (by omega) (by simpa only [h2] using hb) h hbig cV
      · exact indexRune_far4 cs c rs w h1 d2 hrs h2 h cV


set_option maxHeartbeats 2000000 in
set_option maxRecDepth 1000000 in
/-- the rune that stands for a broken byte -/
theorem indexRune_err (cs : ByteArray) (ha : Asc cs) (hbig : cs.size ≤ 64) (w : World) : Calls Tryz.prog 138 #[.string cs, .int .i32 65533] w fun e w' => e = .returned (.int .i64 (-1)) ∧ Below w.heap.size w w' := by
  go_enter Tryz.func138, Tryz.ntmps138
  go_wp2
  go_loopg [5, 6] cs.size (fun g _ _ wx => ∃ i : Nat, i + g = cs.size ∧ wx = w.iter cs i)
  case atStart => exact ⟨0, by omega, rfl⟩
  case round =>
    obtain ⟨i, hig, rfl⟩ := hrel
    by_cases hlt : i < cs.size
    · have hai := ha.at i hlt
      have hnx := fun ty => run_next_ascii (P := Tryz.prog) w cs i ty hlt hai
      have d1 : (((cs[i]'hlt).toNat : Int) == 65533) = false := beq_eq_false_iff_ne.2 (by omega)
      obtain ⟨g, rfl⟩ : ∃ g, gk = g + 1 := ⟨gk - 1, by omega⟩
      clear hai
      go_wp2
      go_roundg g
      case measure => omega
      case rel => exact ⟨i + 1, by omega, rfl⟩
    · have hnx := fun ty => run_next_end (P := Tryz.prog) w cs i ty hlt
      go_wp2
      go_ret
      exact ⟨rfl, (Below.refl _ _).alloc (Nat.le_refl _) _⟩

/-- a rune at the front: a byte below 128, or bytes none of which is below -/
theorem dec_facts (l : List UInt8) (hne : l ≠ []) :
    1 ≤ (decodeL l).2 ∧ (decodeL l).2 ≤ l.length ∧ (((decodeL l).1 < 128 ∧ (decodeL l).2 = 1 ∧ (l.getD 0 0).toNat = (decodeL l).1) ∨ (128 ≤ (decodeL l).1 ∧ ∀ j, j < (decodeL l).2 → 128 ≤ (l.getD j 0).toNat)) := by
  have hp := Ch.pos_of_ne hne
  have hw := decodeL_width l
  have hr : Ch.rune l = if decodeL l = (65533, 1) then (0, 0) else decodeL l := by
    rw [Ch.rune_eq l hne, decodeL_N]
    rfl
  by_cases h0 : (l.getD 0 0).toNat < 128
  · have e := Ch.runeN_one l.length (l.getD 0 0).toNat (l.getD 1 0).toNat (l.getD 2 0).toNat (l.getD 3 0).toNat h0
    rw [← Ch.rune_eq l hne, hr] at e
    by_cases hd : decodeL l = (65533, 1)
    · rw [if_pos hd] at e
      have := congrArg Prod.snd e
      simp at this
    · rw [if_neg hd] at e
      rw [e]
      exact ⟨Nat.le_refl _, hp, .inl ⟨h0, rfl, rfl⟩⟩
  · by_cases hd : decodeL l = (65533, 1)
    · rw [hd]
      refine ⟨Nat.le_refl _, hp, .inr ⟨by decide, fun j hj => ?_⟩⟩
      obtain rfl : j = 0 := by simpa using hj
      omega
    · rw [if_neg hd] at hr
      have hk : (Ch.rune l).2 ≠ 0 := by rw [hr]; omega
      obtain ⟨t1, t2, t3, t4⟩ := Ch.rune_tells hne hk
      rw [hr] at t1 t2 t3 t4
      rcases t4 with ⟨t4, _⟩ | ⟨t4, t5⟩
      · omega
      · refine ⟨hw, t1, .inr ⟨t3 t5, fun j hj => ?_⟩⟩
        rcases Nat.eq_zero_or_pos j with rfl | hj0
        · omega
        · exact (t2 j hj0 hj).1


/-- no byte of some in the first k -/
theorem NoAny.more {l cs : List UInt8} {pos n : Nat} (h : Lib.NoAny l cs pos) (ha : ∀ (j : Nat) b, cs[j]? = some b → b.toNat < 128) (hb : ∀ j, j < n → 128 ≤ ((l.drop pos).getD j 0).toNat) : Lib.NoAny l cs (pos + n) := by
  intro j b hj hjb
  by_cases hlt : j < pos
  · exact h j b hlt hjb
  · have := hb (j - pos) (by omega)
    rw [List.getD_eq_getElem?_getD, List.getElem?_drop, show pos + (j - pos) = j by omega, hjb] at this
    rw [Bool.eq_false_iff]
    intro hm
    obtain ⟨k, hk⟩ := List.mem_iff_getElem?.1 (by simpa using hm)
    have := ha k b hk
    simp at *
    omega
theorem NoAny.one {l cs : List UInt8} {pos : Nat} {x : UInt8} (h : Lib.NoAny l cs pos) (hx : l[pos]? = some x) (hn : cs.contains x = false) : Lib.NoAny l cs (pos + 1) := by
  intro j b hj hjb
  by_cases hlt : j < pos
  · exact h j b hlt hjb
  · obtain rfl : j = pos := by omega
    rw [hx] at hjb
    obtain rfl := Option.some.inj hjb
    exact hn
theorem in_index (l : List UInt8) (c : UInt8) : l.contains c = decide (0 ≤ Lib.indexByte l c) := by
  have hge := Lib.indexByte_ge l c
  by_cases hn : Lib.indexByte l c = -1
  · rw [hn]
    have : c ∉ l := fun hm => by
      obtain ⟨k, hk⟩ := List.mem_iff_getElem?.1 hm
      exact Lib.indexByte_none hn k hk
    simpa using this
  · obtain ⟨k, hk⟩ : ∃ k : Nat, Lib.indexByte l c = k := ⟨(Lib.indexByte l c).toNat, by omega⟩
    have := List.mem_iff_getElem?.2 ⟨k, (Lib.indexByte_some hk).1⟩
    rw [hk, decide_eq_true (by omega)]
    simpa using this

/-- IndexRune at whatever rune: found or not -/
theorem indexRune_at (cs : ByteArray) (ha : Asc cs) (hbig : cs.size ≤ 64) (c : Nat) (w : World) : Calls Tryz.prog 138 #[.string cs, .int .i32 (c : Int)] w fun e w' => (∃ i : Int, e = .returned (.int .i64 i) ∧ (if c < 128 then cs.data.toList.contains (UInt8.ofNat c) else false) = decide (0 ≤ i)) ∧ Below w.heap.size w w' := by
  by_cases h1 : c < 128
  · refine (Tryz.strings_IndexRune_ascii cs (c : Int) w (by omega) (by omega)).mono ?_
    rintro e w' ⟨rfl, rfl⟩
    refine ⟨⟨_, rfl, ?_⟩, Below.refl _ _⟩
    rw [if_pos h1, in_index]
    rfl
  · rw [if_neg h1]
    have hno : ∀ e w', (e = Ending.returned (.int .i64 (-1)) ∧ Below w.heap.size w w') → (∃ i : Int, e = .returned (.int .i64 i) ∧ false = decide (0 ≤ i)) ∧ Below w.heap.size w w' := fun e w' ⟨h, hb⟩ => ⟨⟨-1, h, rfl⟩, hb⟩
    by_cases h3 : c = 65533
    · subst h3; exact (indexRune_err cs ha hbig w).mono hno
    · exact (indexRune_big cs ha hbig c w (by omega) h3).mono hno

end Go.Proofs.YthnnpnlapjlnoaaGreatDoor.An
