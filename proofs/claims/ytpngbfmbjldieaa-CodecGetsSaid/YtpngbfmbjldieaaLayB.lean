/-
  BYTES OF THE CALL's OWN THAT ARE WRITTEN ON ('Wr'): one more, a string more; lay.Number, lay.Text, lay.Flag.
-/
import Derived.Test.YtpngbfmbjldieaaProg
import Derived.Test.YtpngbfmbjldieaaLayP
import Derived.Lib.AppendStr
import Derived.Deep.AppendLies
import Derived.KernelRfl
import Derived.IntWalk
set_option linter.unusedVariables false
namespace Go.Proofs.Ytpngbfmbjldieaa.Ly
open Go.Lib Go.RowKit
open Bo (Kp Row ownsRow_heap)

theorem infoU8 : (Try.prog.info? 5).map (fun i => (i.zero, i.size, i.bytes)) = some (some (.int .u8 0), 1, 1) := by kernel_rfl
theorem info_parts {t : TypeId} {z : Value} {n m : Nat} (h : (Try.prog.info? t).map (fun i => (i.zero, i.size, i.bytes)) = some (some z, n, m)) : ∃ i0, Try.prog.info? t = some i0 ∧ i0.zero = some z ∧ i0.size = n ∧ i0.bytes = m := by
  obtain ⟨i, h1, h2⟩ := Option.map_eq_some_iff.1 h
  simp only [Prod.mk.injEq] at h2
  exact ⟨i, h1, h2.1, h2.2.1, h2.2.2⟩
def bc (l : Row) : List Value := l.map fun b => .int .u8 (b.toNat : Int)
theorem bc_app (a b : Row) : bc (a ++ b) = bc a ++ bc b := List.map_append
def BOwn (B : Nat) (v : Value) (l : Row) (w : World) : Prop := w.ownsRow B 5 1 v l.length (bc l)
theorem BOwn.nil (B : Nat) (w : World) : BOwn B (.slice none 0 0) [] w := World.ownsRow_nil w B _ 1
theorem BOwn.heap {w w' : World} {B : Nat} {v : Value} {l : Row} (h : BOwn B v l w) (hk : ∀ g, v.ownBlock = some g → w'.heap[g]? = w.heap[g]?) : BOwn B v l w' := ownsRow_heap h hk
theorem BOwn.kept {w w' : World} {B : Nat} {v : Value} {l : Row} (h : BOwn B v l w) (hb : Below w.heap.size w w') : BOwn B v l w' := h.heap fun g hg => hb.block g (World.ownsRow.lt h g hg).2
theorem BOwn.form {w : World} {B : Nat} {v : Value} {l : Row} (h : BOwn B v l w) : ∃ a c, v = .slice a l.length c := by
  rcases h.2 with ⟨hv, hn⟩ | ⟨g, cap, cur, e1, _⟩
  · exact ⟨none, 0, by rw [hv, hn]⟩
  · exact ⟨_, _, e1⟩
/-- v' is v written on: it holds l; nothing but v's block and new ones has turned -/
structure Wr (B : Nat) (w w' : World) (v v' : Value) (l : Row) : Prop where
  own : BOwn B v' l w'
  kp : Kp v.ownBlock.toList w w'
  new : ∀ k, v'.ownBlock = some k → v.ownBlock = some k ∨ w.heap.size ≤ k
theorem Wr.refl {B : Nat} {w : World} {v : Value} {l : Row} (h : BOwn B v l w) : Wr B w w v v l := ⟨h, Kp.refl _ _, fun k hk => .inl hk⟩
theorem Wr.then {B : Nat} {w w1 w2 : World} {v v1 v2 : Value} {l1 l2 : Row} (h : Wr B w w1 v v1 l1) (k : Wr B w1 w2 v1 v2 l2) : Wr B w w2 v v2 l2 :=
  ⟨k.own, h.kp.then k.kp fun x hx => by
    rcases h.new x (by simpa using hx) with e | e
    · exact .inl (by simp [e])
    · exact .inr e, fun x hx => by
    rcases k.new x hx with e | e
    · exact h.new x e
    · exact .inr (Nat.le_trans h.kp.size e)⟩
theorem Wr.below {B : Nat} {A w w' : World} {v v' : Value} {l l' : Row} (h : Wr B w w' v v' l') (ho : BOwn B v l w) (hA : Below B A w) (hB : B ≤ w.heap.size) : Below B A w' :=
  h.kp.below hA (fun k hk => (World.ownsRow.lt ho k (by simpa using hk)).1) hB
/-- first something else is made, then v is written on -/
theorem Wr.after {B : Nat} {w0 w w' : World} {v v' : Value} {l : Row} (hb : Below w0.heap.size w0 w) (h : Wr B w w' v v' l) : Wr B w0 w' v v' l :=
  ⟨h.own, (Kp.of_below hb).then h.kp fun x hx => .inl hx, fun x hx => (h.new x hx).imp id fun e => Nat.le_trans hb.size e⟩
theorem Wr.then_below {B : Nat} {w w1 w2 : World} {v v1 : Value} {l : Row} (h : Wr B w w1 v v1 l) (hb : Below w1.heap.size w1 w2) : Wr B w w2 v v1 l :=
  ⟨h.own.kept hb, h.kp.belowThen hb, h.new⟩
/-- a block that is not v's own stays -/
theorem Wr.block {B : Nat} {w w' : World} {v v' : Value} {l : Row} (h : Wr B w w' v v' l) {i : Nat} (hi : i < w.heap.size) (hn : v.ownBlock ≠ some i) : w'.heap[i]? = w.heap[i]? := h.kp.block i hi (by simpa using hn)

theorem append_byte {w0 : World} {ops : Array Oper} {rest : List Oper} {o : Oper} {a : Act} {Q : Exit → Act → World → Prop} (x : UInt8) (z : Int) (hz : (x.toNat : Int) = z) (hgd : o.guard = none) (s xo : Operand)
    (ho : o.op = .call { callee := .builtin .append, args := #[s, xo], argTypes := #[22, 22] }) (base : Nat) (v : Value) (l : Row) (g : Nat) (hgz : g = w0.heap.size) (hs : a.eval s = v) (hx : a.eval xo = .slice (some ⟨g, 0, none⟩) 1 1)
    (hown : BOwn base v l w0) (hl : l.length + 1 ≤ 140737488355328) (hbase : base ≤ w0.heap.size)
    (h : ∀ g cap w', Wr base w0 w' v (.slice (some ⟨g, 0, none⟩) (l.length + 1) cap) (l ++ [x]) → wpList Try.prog ops Q rest (a.put o.dst (.slice (some ⟨g, 0, none⟩) (l.length + 1) cap)) w') :
    wpList Try.prog ops Q (o :: rest) a (w0.alloc (.cells #[.int .u8 z] 5)) := by
  obtain ⟨i0, hi, hz0, hz1, hz2⟩ := info_parts infoU8
  subst hz
  subst hgz
  have hal : Below w0.heap.size w0 (w0.alloc (.cells #[.int .u8 (x.toNat : Int)] 5)) := (Below.refl _ _).alloc (Nat.le_refl _) _
  refine wpList_append_lies _ hgd s xo 22 ho base 5 i0 (.int .u8 0) 1 1 Try.underlying22 hi hz0 hz1 hz2 rfl (by decide) v l.length (bc l) hs (World.ownsRow.alloc hown _) ⟨w0.heap.size, 0, none⟩ 1 1 [.int .u8 (x.toNat : Int)] hx rfl (fun j u hj => ?_) (fun u hu => ?_) (by decide) (by unfold maxLen; omega) (by omega) (by simp; omega) _ rfl (fun g cap w' h5 h6 h7 h8 => h g cap w' ?_)
  · match j, hj with
    | 0, hj => simp at hj; subst hj; simp [Addr.add]
  · simp at hu
    rcases hu with rfl
    rfl
  · refine Wr.after hal ⟨?_, (Kp.refl _ _).grown h6 fun k hk => .inl (by simp [hk]), fun k hk => ?_⟩
    · unfold BOwn
      rw [bc_app, List.length_append]
      exact h5
    · simp [Value.ownBlock] at hk
      subst hk
      rcases h7 with e | e
      · exact .inl e
      · exact .inr (by omega)
/-- where the bytes lie behind a string that was appended -/
theorem run_append_text {w : World} (base : Nat) (ty : TypeId) (v : Value) (l : Row) (hown : BOwn base v l w) (s : ByteArray) (hl : l.length + s.size ≤ 140737488355328) (hbase : base ≤ w.heap.size) :
    ∃ v' w', (Builtin.append_ #[22, 9] ty #[v, .string s]).run Try.prog w = .ok v' w' ∧ Wr base w w' v v' (l ++ s.data.toList) := by
  obtain ⟨i0, hi, hz0, hz1, hz2⟩ := info_parts infoU8
  have law := fun B hB hb => Lib.run_append_own_string (P := Try.prog) w B 22 9 ty 5 i0 Try.underlying22 Try.underlying9 hi hz0 hz1 hz2 v l.length (bc l) hB s (by unfold maxLen; omega) hl hb
  have hfin : ∀ B v' w', w'.ownsRow B 5 1 v' (l.length + s.size) (bc l ++ strCells s) → BOwn B v' (l ++ s.data.toList) w' := fun B v' w' h => by
    unfold BOwn
    rw [bc_app, List.length_append, ← Lib.size_eq]
    exact h
  obtain ⟨v', w', hr, h1, h2, _⟩ := law base hown hbase
  refine ⟨v', w', hr, hfin _ _ _ h1, (Kp.refl _ _).grown h2 fun k hk => .inl (by simp [hk]), fun k hk => ?_⟩
  rcases hown.2 with ⟨hv, hn⟩ | ⟨g, cap, cur, hv, hbg, hg, hnc, hcm, hcs, htake⟩
  · obtain ⟨v2, w2, hr2, h3, _⟩ := law w.heap.size ⟨hown.1, .inl ⟨hv, hn⟩⟩ (Nat.le_refl _)
    rw [hr] at hr2
    injection hr2 with e1 e2
    subst e1 e2
    exact .inr (World.ownsRow.lt h3 k hk).1
  · by_cases hroom : l.length + s.size ≤ cap
    · have hr2 := Lib.run_append_room_string (P := Try.prog) w 22 9 ty 5 i0 Try.underlying22 Try.underlying9 hi hz1 g l.length cap cur hg s hroom (by omega)
      rw [← hv, hr] at hr2
      injection hr2 with e1 e2
      rw [e1] at hk
      rw [hv]
      exact .inl hk
    · have hcs' : cur.size = cap := by simpa using hcs
      have holds : ∀ j u, (bc l)[j]? = some u → w.cell? ((⟨g, 0, none⟩ : Addr).add j) = some u := (hv ▸ hown : w.ownsRow base 5 1 (.slice (some ⟨g, 0, none⟩) l.length cap) l.length (bc l)).cells (g := g) rfl
      have hr2 := Lib.run_append_grow_string (P := Try.prog) w 22 9 ty 5 i0 (.int .u8 0) Try.underlying22 Try.underlying9 hi hz0 ⟨g, 0, none⟩ l.length cap (bc l) (by rw [hz1]; simpa using hown.1) holds s (by omega) (by omega) (by rw [hz2]; exact growslice_fits (by omega) (by omega))
      rw [← hv, hr] at hr2
      injection hr2 with e1 e2
      rw [e1] at hk
      simp [Value.ownBlock] at hk
      exact .inr (by omega)
theorem append_text {w0 : World} {ops : Array Oper} {rest : List Oper} {o : Oper} {a : Act} {Q : Exit → Act → World → Prop} (x : ByteArray) (hgd : o.guard = none) (s xo : Operand)
    (ho : o.op = .call { callee := .builtin .append, args := #[s, xo], argTypes := #[22, 9] }) (base : Nat) (v : Value) (l : Row) (hs : a.eval s = v) (hx : a.eval xo = .string x)
    (hown : BOwn base v l w0) (hl : l.length + x.size ≤ 140737488355328) (hbase : base ≤ w0.heap.size)
    (h : ∀ v' w', Wr base w0 w' v v' (l ++ x.data.toList) → wpList Try.prog ops Q rest (a.put o.dst v') w') :
    wpList Try.prog ops Q (o :: rest) a w0 := by
  refine wpList_plain hgd fun K hK => ?_
  obtain ⟨v', w', hr, h2⟩ := run_append_text base o.type v l hown x hl hbase
  unfold Oper.wp execOp
  simp only [ho, resolve, invoke, builtin, Sem.run_bind, Sem.run_pure, Result.andThen_ok, List.map_toArray, List.map_cons, List.map_nil, hs, hx, hr]
  exact hK _ _ (h v' w' h2)
end Go.Proofs.Ytpngbfmbjldieaa.Ly
