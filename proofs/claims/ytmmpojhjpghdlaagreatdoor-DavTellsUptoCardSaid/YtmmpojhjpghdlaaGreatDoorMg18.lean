import Derived.Test.YtmmpojhjpghdlaaGreatDoorMg17
import Derived.Deep.AppendLies
import Derived.Maps.OwnSet
import Derived.Maps.Views
import Derived.Deep.LoopGhost

/-
  WALKS OF THE PROGRAM's READER OF LAYER xml: its builder read and emptied; isBlank, closing, put.
-/
set_option linter.unusedVariables false
namespace Go.Proofs.YtmmpojhjpghdlaaGreatDoor.Xm
open Go.Lib Go.RowKit

/-! ### what is left where a piece is laid -/
/-- a block that the reader's calls write, where pieces are laid too -/
def weak (o : Obj) : Prop := ∃ cs t fr, o = .cells cs t fr ∧ (t = 5 ∨ t = 75 ∨ t = 96)
def KeptM (w w' : World) : Prop := ∀ (k : Nat) (o : Obj), w.heap[k]? = some o → ¬ weak o → w'.heap[k]? = some o
theorem frail_weak {o : Obj} (h : frail o) : weak o := by
  obtain ⟨cs, t, fr, e, h⟩ := h
  exact ⟨cs, t, fr, e, h.elim .inl (fun x => .inr (.inr x))⟩
theorem KeptR.old {w w' : World} (h : KeptR w w') : KeptM w w' := fun k o hk hf => h.2 k o hk (fun x => hf (frail_weak x))
/-- all is left but the row q of pieces, which goes over into q' -/
structure KeptW (q : Value) (w : World) (q' : Value) (w' : World) : Prop where
  blocks : ∀ (k : Nat) (o : Obj), w.heap[k]? = some o → ¬ frail o → q.ownBlock ≠ some k → w'.heap[k]? = some o
  row : ∀ g, q'.ownBlock = some g → q.ownBlock = some g ∨ w.heap.size ≤ g
  size : w.heap.size ≤ w'.heap.size
theorem KeptW.refl (q : Value) (w : World) : KeptW q w q w := ⟨fun _ _ h _ _ => h, fun _ h => .inl h, Nat.le_refl _⟩
theorem KeptW.trans {q q1 q2 : Value} {w w1 w2 : World} (h : KeptW q w q1 w1) (k : KeptW q1 w1 q2 w2) : KeptW q w q2 w2 := by
  refine ⟨fun i o hi hf hq => k.blocks i o (h.blocks i o hi hf hq) hf (fun e => ?_), fun g hg => ?_, Nat.le_trans h.size k.size⟩
  · have hlt := (Array.getElem?_eq_some_iff.1 hi).1
    rcases h.row i e with e | e
    · exact hq e
    · omega
  · rcases k.row g hg with e | e
    · exact h.row g e
    · exact .inr (Nat.le_trans h.size e)
theorem KeptR.W {q : Value} {w w' : World} (h : KeptR w w') : KeptW q w q w' := ⟨fun k o hk hf _ => h.2 k o hk hf, fun _ h => .inl h, h.1⟩
theorem KeptW.old {q q' : Value} {w w' : World} {B : Nat} {ps : List Pc} (h : KeptW q w q' w') (hq : PsOwn B q ps w) : KeptM w w' := fun k o hk hf => h.blocks k o hk (fun x => hf (frail_weak x)) (fun e => by
  obtain ⟨cs, fr, hx⟩ := rowP_type hq e
  rw [hk] at hx
  injection hx with hx
  exact hf ⟨cs, _, fr, hx, .inr (.inl rfl)⟩)
/-! ### the characters read -/
theorem RdV.froze {B b g cap : Nat} {r : ByteArray} {p q : Value} {l : Row} {ps : List Pc} {w : World} (h : RdV B b r p (.slice (some ⟨g, 0, none⟩) l.length cap) l q ps w) : RdV B b r p (.slice (some ⟨g, 0, none⟩) l.length cap) l q ps (w.freeze ⟨g, 0, none⟩ l.length) := by
  have hown := h.row
  have hgt := rowB_type hown (i := g) rfl
  have hgb : g ≠ b := fun e => by
    subst e
    obtain ⟨cs, fr, hx⟩ := hgt
    exact types_ne.2.1 (cells_type hx h.at0)
  have hgq : ∀ i, q.ownBlock = some i → g ≠ i := fun i hi e => by
    subst e
    obtain ⟨cs, fr, hx⟩ := hgt
    obtain ⟨cs', fr', hy⟩ := rowP_type h.pcs hi
    exact types_ne.1 (cells_type hx hy)
  unfold World.freeze
  split
  · exact h
  · rename_i hn0
    refine ⟨h.hB, ?_, h.ptr, ⟨hown.1, ?_⟩, h.nil, psOwn_kept h.pcs (fun i o hi ho => ?_)⟩
    · simp only [Array.getElem?_modify]
      rw [if_neg hgb]
      exact h.at0
    · rcases hown.2 with ⟨hv, _⟩ | ⟨g', cap', cur, fz, hv, hbg, hg, hfz, rest⟩
      · cases hv
      · injection hv with ha _ hcap
        injection ha with ha
        injection ha with hgg _ _
        subst hgg
        subst hcap
        obtain ⟨lo, hi⟩ := fz
        refine .inr ⟨g, _, cur, (if lo == hi then (0, 0 + l.length) else (min lo 0, max hi (0 + l.length))), rfl, hbg, ?_, ?_, rest⟩
        · simp [Array.getElem?_modify, hg]
        · simp only at hfz
          split <;> simp <;> omega
    · simp only [Array.getElem?_modify]
      rw [if_neg (hgq i ho)]
      exact hi
set_option maxHeartbeats 2000000 in
set_option maxRecDepth 100000 in
theorem rdString_any {B b : Nat} {r : ByteArray} {p v q : Value} {l : Row} {ps : List Pc} {w : World} (h : RdV B b r p v l q ps w) :
    Calls Tryz.prog 87 #[.pointer (some ⟨b, 1, none⟩)] w fun e w' => e = .returned (.string ⟨l.toArray⟩) ∧ RdV B b r p v l q ps w' ∧ Below B w w' ∧ KeptR w w' := by
  by_cases h0 : l = []
  · subst h0
    have hv := h.nil rfl
    subst hv
    have hD := h.kept (Below.drew (Below.refl _ _))
    have c1 : w.drew.cell? ⟨b, 2, none⟩ = some (.slice none 0 0) := hD.cell.2.2.1
    have hSD : (Builtin.unsafeSliceData_ #[88] 164 #[.slice none 0 0]).run Tryz.prog w.drew = .ok (.pointer none) w.drew := rfl
    have hUS : (Builtin.unsafeString_ #[164, 3] 9 #[.pointer none, .int .i64 0]).run Tryz.prog w.drew = .ok (.string .empty) w.drew := Lib.run_unsafeString_none w.drew _ _ _ none
    have hfin := Lib.hid (show RdV B b r p (.slice none 0 0) [] q ps w.drew ∧ Below B w w.drew ∧ KeptR w w.drew from ⟨hD, Below.drew (Below.refl _ _), KeptR.of_below (Below.drew (Below.refl _ _))⟩)
    clear h hD
    go_enter Tryz.func87, Tryz.ntmps87
    go_wp2
    go_region
    all_goals (go_wp2; go_ret; exact ⟨rfl, hfin.out⟩)
  · have hown := h.row
    have hl0 : l.length ≠ 0 := by simpa using h0
    obtain ⟨g, cap, cur, fz, rfl, hbg, hg, hfz, hnc, hcm, hcs, htake⟩ : ∃ g cap cur fz, v = .slice (some ⟨g, 0, none⟩) l.length cap ∧ B ≤ g ∧ w.heap[g]? = some (.cells cur 5 fz) ∧ fz.2 ≤ l.length * 1 ∧ l.length ≤ cap ∧ cap ≤ maxLen ∧ cur.size = cap * 1 ∧ cur.toList.take (l.length * 1) = Lib.byteCells l := by
      rcases hown.2 with ⟨_, hz⟩ | ⟨g, cap, cur, fz, hv, r⟩
      · exact absurd hz hl0
      · exact ⟨g, cap, cur, fz, hv, r⟩
    have hD := h.kept (Below.drew (Below.refl _ _))
    have c1 : w.drew.cell? ⟨b, 2, none⟩ = some (.slice (some ⟨g, 0, none⟩) l.length cap) := hD.cell.2.2.1
    have hSD : (Builtin.unsafeSliceData_ #[88] 164 #[.slice (some ⟨g, 0, none⟩) l.length cap]).run Tryz.prog w.drew = .ok (.pointer (some ⟨g, 0, none⟩)) w.drew :=
      Lib.run_unsafeSliceData_row _ _ _ _ _ _ (by omega)
    have hUS : (Builtin.unsafeString_ #[164, 3] 9 #[.pointer (some ⟨g, 0, none⟩), .int .i64 l.length]).run Tryz.prog w.drew = .ok (.string ⟨l.toArray⟩) (w.drew.freeze ⟨g, 0, none⟩ l.length) := by
      refine Lib.run_unsafeString_row w.drew 164 3 9 5 Tryz.underlying164 cells8 g cur.size (by have hg' : w.drew.heap[g]? = some (.cells cur 5 fz) := hg; simp [World.shape?, hg']) l h0 (by omega) (by unfold maxLen at hcm; omega) ?_
      intro j x hx
      have := hown.cells (g := g) rfl j (.int .u8 x.toNat) (by simp [Lib.byteCells, hx])
      exact this
    have hfin := Lib.hid (show RdV B b r p (.slice (some ⟨g, 0, none⟩) l.length cap) l q ps (w.drew.freeze ⟨g, 0, none⟩ l.length) ∧ Below B w (w.drew.freeze ⟨g, 0, none⟩ l.length) ∧ KeptR w (w.drew.freeze ⟨g, 0, none⟩ l.length) from
      ⟨hD.froze, Lib.below_freeze (Below.drew (Below.refl B w)) (p := ⟨g, 0, none⟩) hbg _, (KeptR.of_below (Below.drew (Below.refl _ _))).trans (KeptR.freeze (w := w.drew) hg _)⟩)
    clear h hD hown hg hfz hcs htake
    go_enter Tryz.func87, Tryz.ntmps87
    go_wp2
    go_region
    all_goals (go_wp2; go_ret; exact ⟨rfl, hfin.out⟩)
set_option maxHeartbeats 2000000 in
set_option maxRecDepth 100000 in
theorem rdReset_any {B b : Nat} {r : ByteArray} {p v q : Value} {l : Row} {ps : List Pc} {w : World} (h : RdV B b r p v l q ps w) :
    Calls Tryz.prog 119 #[.pointer (some ⟨b, 1, none⟩)] w fun e w' => e = .returned (.tuple #[]) ∧ RdV B b r (.pointer none) (.slice none 0 0) [] q ps w' ∧ Below B w w' ∧ KeptR w w' := by
  obtain ⟨c0, c1, c2, c3⟩ := h.cell
  have f1 := h.free 1
  have h1 : RdV B b r (.pointer none) v l q ps (w.setCell ⟨b, 1, none⟩ (.pointer none)) := RdV.set 1 h.at0 h.hB rfl (.inl rfl) h.row h.nil h.pcs
  have h2 : RdV B b r (.pointer none) (.slice none 0 0) [] q ps ((w.setCell ⟨b, 1, none⟩ (.pointer none)).setCell ⟨b, 2, none⟩ (.slice none 0 0)) := RdV.set 2 h1.at0 h1.hB rfl (.inl rfl) (World.ownsRowF_nil _ _ _ _) (fun _ => rfl) h1.pcs
  have k1 := KeptR.setCell h.at0 1 (.pointer none)
  have k2 := KeptR.setCell h1.at0 2 (.slice none 0 0)
  have b1 : Below B w (w.setCell ⟨b, 1, none⟩ (.pointer none)) := (Below.refl B w).setCell (p := ⟨b, 1, none⟩) h.hB _
  have b2 := b1.setCell (p := ⟨b, 2, none⟩) h.hB (.slice none 0 0)
  have d2 := h1.cell.2.2.1
  have g2 := h1.free 2
  have hfin := Lib.hid (show _ ∧ _ ∧ _ from ⟨h2, b2, k1.trans k2⟩)
  clear h h1 h2 k1 k2 b1 b2
  go_enter Tryz.func119, Tryz.ntmps119
  go_wp2
  go_end0
  exact ⟨rfl, hfin.out⟩

/-! ### blanks alone -/
set_option maxHeartbeats 2000000 in
set_option maxRecDepth 100000 in
theorem isBlank_any (s : ByteArray) (w : World) (hs : s.size ≤ 9223372036854775807) : Calls Tryz.prog 120 #[.string s] w fun e w' => e = .returned (.bool (blanks s.data.toList)) ∧ Below w.heap.size w w' := by
  have cT := trim_any s w hs
  obtain ⟨K, hK⟩ : ∃ K, blanks s.data.toList = K := ⟨_, rfl⟩
  rw [hK] at cT ⊢
  clear hK
  go_enter Tryz.func120, Tryz.ntmps120
  go_wp2_with fail
  go_at_call 137
  with_reducible refine cT.mono ?_
  rintro e w3 ⟨⟨x, rfl, hx⟩, hb3⟩
  have hb3' := Lib.hid hb3
  clear cT hb3
  cases K with
  | true =>
    have h0 : x.data.toList = [] := hx.2 rfl
    have hl : x.toList = [] := by rw [Lib.toList_data, h0]
    have he : x.toList.isEmpty = true := by rw [hl]; rfl
    clear hx h0
    go_wp2
    go_ret
    first
      | exact ⟨rfl, hb3'.out⟩
      | exact ⟨ret_bool he, hb3'.out⟩
  | false =>
    have h0 : ¬ x.data.toList = [] := fun e => by have := hx.1 e; cases this
    have hl : ¬ x.toList = [] := by rw [Lib.toList_data]; exact h0
    have he : x.toList.isEmpty = false := by
      cases hv : x.toList with
      | nil => exact absurd hv hl
      | cons y t => rfl
    clear hx h0
    go_wp2
    go_ret
    first
      | exact ⟨rfl, hb3'.out⟩
      | exact ⟨ret_bool he, hb3'.out⟩
set_option maxHeartbeats 2000000 in
set_option maxRecDepth 100000 in
theorem closing_any (k sp : Int) (n t : ByteArray) (w : World) : Calls Tryz.prog 105 #[.agg #[.int .i64 k, .int .i64 sp, .string n, .string t]] w fun e w' => e = .returned (.agg #[.int .i64 2, .int .i64 sp, .string n, .string ⟨#[]⟩]) ∧ Below w.heap.size w w' := by
  go_enter Tryz.func105, Tryz.ntmps105
  go_wp2
  exact bodyPost_ret (v := .agg #[.int .i64 2, .int .i64 sp, .string n, .string ⟨#[]⟩]) (by simp [results, Tryz.results105, go_sem]) rfl ⟨rfl, ((Below.refl _ _).alloc (Nat.le_refl _) _).alloc (by simp) _⟩
end Go.Proofs.YtmmpojhjpghdlaaGreatDoor.Xm

/-
  WALKS OF THE PROGRAM's READER OF LAYER xml: put.
-/
set_option linter.unusedVariables false
namespace Go.Proofs.YtmmpojhjpghdlaaGreatDoor.Xm
open Go.Lib Go.RowKit

/-- one piece more, and where the row then lies -/
theorem append_piece_at {w0 : World} {ops : Array Oper} {rest : List Oper} {o : Oper} {a : Act} {Q : Exit → Act → World → Prop} (p : Pc) (a1 a2 : ByteArray) (k1 k2 : Int) (h1 : sv p.name = .string a1) (h2 : sv p.text = .string a2) (hk1 : p.kind = k1) (hk2 : p.space = k2)
    (hgd : o.guard = none) (s xo : Operand) (ho : o.op = .call { callee := .builtin .append, args := #[s, xo], argTypes := #[42, 42] }) (base : Nat) (v : Value) (ps : List Pc) (g : Nat) (hgz : g = w0.heap.size) (hs : a.eval s = v) (hx : a.eval xo = .slice (some ⟨g, 0, none⟩) 1 1)
    (hown : PsOwn base v ps w0) (hl : ps.length ≤ 1099511627776) (hbase : base ≤ w0.heap.size)
    (h : ∀ g' cap w', PsOwn base (.slice (some ⟨g', 0, none⟩) (ps.length + 1) cap) (ps ++ [p]) w' → (w0.alloc (.cells #[.int .i64 k1, .int .i64 k2, .string a1, .string a2] 75)).grownBy w' v.ownBlock → (v.ownBlock = some g' ∨ g' = w0.heap.size + 1) → wpList Tryz.prog ops Q rest (a.put o.dst (.slice (some ⟨g', 0, none⟩) (ps.length + 1) cap)) w') :
    wpList Tryz.prog ops Q (o :: rest) a (w0.alloc (.cells #[.int .i64 k1, .int .i64 k2, .string a1, .string a2] 75)) := by
  obtain ⟨i0, hi, hz0, hz1, hz2⟩ := info_parts infoPc
  subst hgz
  subst hk1
  subst hk2
  have hrow : w0.ownsRow base 75 4 v ps.length (pcells ps) := hown
  refine wpList_append_lies _ hgd s xo 42 ho base 75 i0 zeroPc 4 48 Tryz.underlying42 hi hz0 hz1 hz2 rfl (by decide) v ps.length (pcells ps) hs (World.ownsRow.alloc hrow _) ⟨w0.heap.size, 0, none⟩ 1 1 [.int .i64 p.kind, .int .i64 p.space, .string a1, .string a2] hx rfl (fun j u hj => ?_) (fun u hu => ?_) (by decide) (by unfold maxLen; omega) (by omega) (by simp; omega) (w0.heap.size + 1) (by simp)
    (fun g' cap w' h5 h6 h7 _ => h g' cap w' ?_ h6 h7)
  · match j, hj with
    | 0, hj => simp at hj; subst hj; simp [Addr.add]
    | 1, hj => simp at hj; subst hj; simp [Addr.add]
    | 2, hj => simp at hj; subst hj; simp [Addr.add]
    | 3, hj => simp at hj; subst hj; simp [Addr.add]
  · simp at hu
    rcases hu with rfl | rfl | rfl | rfl <;> rfl
  · unfold PsOwn
    rw [pcells_snoc, List.length_append, h1, h2]
    exact h5
/-- the same, as a step of a region that draws its order -/
theorem step_piece {w0 : World} {ops : Array Oper} {o : Oper} {a : Act} {K : Act → World → Prop} {Q : Exit → Act → World → Prop} {E : Prop} (p : Pc) (a1 a2 : ByteArray) (k1 k2 : Int) (h1 : sv p.name = .string a1) (h2 : sv p.text = .string a2) (hk1 : p.kind = k1) (hk2 : p.space = k2)
    (hgd : o.guard = none) (s xo : Operand) (ho : o.op = .call { callee := .builtin .append, args := #[s, xo], argTypes := #[42, 42] }) (base : Nat) (v : Value) (ps : List Pc) (N : Nat) (hN : ps.length = N) (hs : a.eval s = v) (hx : a.eval xo = .slice (some ⟨w0.heap.size, 0, none⟩) 1 1)
    (hown : PsOwn base v ps w0) (hl : N ≤ 1099511627776) (hbase : base ≤ w0.heap.size)
    (h : ∀ g' cap w', PsOwn base (.slice (some ⟨g', 0, none⟩) (N + 1) cap) (ps ++ [p]) w' → (w0.alloc (.cells #[.int .i64 k1, .int .i64 k2, .string a1, .string a2] 75)).grownBy w' v.ownBlock → (v.ownBlock = some g' ∨ g' = w0.heap.size + 1) → K (a.put o.dst (.slice (some ⟨g', 0, none⟩) (N + 1) cap)) w') :
    if Region.wanted o (yielded ops a.tmps) = true then Oper.wp Tryz.prog o a (w0.alloc (.cells #[.int .i64 k1, .int .i64 k2, .string a1, .string a2] 75)) K Q else E := by
  obtain ⟨i0, hi, hz0, hz1, hz2⟩ := info_parts infoPc
  subst hk1
  subst hk2
  subst hN
  have hrow : w0.ownsRow base 75 4 v ps.length (pcells ps) := hown
  refine step_append_lies (ops := ops) (E := E) _ hgd s xo 42 ho base 75 i0 zeroPc 4 48 Tryz.underlying42 hi hz0 hz1 hz2 rfl (by decide) v ps.length (pcells ps) hs (World.ownsRow.alloc hrow _) ⟨w0.heap.size, 0, none⟩ 1 1 [.int .i64 p.kind, .int .i64 p.space, .string a1, .string a2] hx rfl (fun j u hj => ?_) (fun u hu => ?_) (by decide) (by unfold maxLen; omega) (by omega) (by simp; omega) (w0.heap.size + 1) (by simp)
    (fun g' cap w' h5 h6 h7 _ => h g' cap w' ?_ h6 h7)
  · match j, hj with
    | 0, hj => simp at hj; subst hj; simp [Addr.add]
    | 1, hj => simp at hj; subst hj; simp [Addr.add]
    | 2, hj => simp at hj; subst hj; simp [Addr.add]
    | 3, hj => simp at hj; subst hj; simp [Addr.add]
  · simp at hu
    rcases hu with rfl | rfl | rfl | rfl <;> rfl
  · unfold PsOwn
    rw [pcells_snoc, List.length_append, h1, h2]
    exact h5
/-- the reader where its pieces grew -/
theorem put_tail {B b : Nat} {r : ByteArray} {q q' : Value} {ps ps' : List Pc} {w5 w6 : World} {cs : Array Value} (h : RdV B b r (.pointer none) (.slice none 0 0) [] q ps w5) (hB5 : B ≤ w5.heap.size) (hg : (w5.alloc (.cells cs 75)).grownBy w6 q.ownBlock) (hp : PsOwn B q' ps' w6) (hl : ∀ g, q'.ownBlock = some g → q.ownBlock = some g ∨ w5.heap.size ≤ g) :
    RdV B b r (.pointer none) (.slice none 0 0) [] q' ps' (w6.setCell ⟨b, 3, none⟩ q') ∧ Below B w5 (w6.setCell ⟨b, 3, none⟩ q') ∧ KeptW q w5 q' (w6.setCell ⟨b, 3, none⟩ q') ∧ (∀ (i : Nat) (o : Obj), w5.heap[i]? = some o → q.ownBlock ≠ some i → i ≠ b → (w6.setCell ⟨b, 3, none⟩ q').heap[i]? = some o) ∧ w6.cell? ⟨b, 3, none⟩ = some q ∧ w6.frozen? ⟨b, 3, none⟩ = false := by
  have hk : ∀ (i : Nat) (o : Obj), w5.heap[i]? = some o → q.ownBlock ≠ some i → w6.heap[i]? = some o := fun i o hi hne => by
    have hlt := (Array.getElem?_eq_some_iff.1 hi).1
    rw [hg.block i (by simp; omega) (fun e => hne e.symm)]
    exact (((Below.refl w5.heap.size w5).alloc (Nat.le_refl _) _).block i hlt).trans hi
  have hqb : q.ownBlock ≠ some b := fun e => by
    obtain ⟨cs', fr, hx⟩ := rowP_type h.pcs e
    exact types_ne.2.2 (cells_type hx h.at0)
  have hb6 := hk b _ h.at0 hqb
  have hbel : Below B w5 w6 := ((Below.refl B w5).alloc hB5 _).grown hg (by simp; omega) (fun g hq => (World.ownsRow.lt h.pcs g hq).1)
  have h4 : ∀ (i : Nat) (o : Obj), w5.heap[i]? = some o → q.ownBlock ≠ some i → i ≠ b → (w6.setCell ⟨b, 3, none⟩ q').heap[i]? = some o := fun i o hi hne hib => by
    rw [Below.heap_setCell w6 ⟨b, 3, none⟩ q' i hib]
    exact hk i o hi hne
  have hbel2 := hbel.setCell (p := ⟨b, 3, none⟩) h.hB q'
  refine ⟨RdV.set 3 hb6 h.hB rfl (.inl rfl) (World.ownsRowF_nil _ _ _ _) (fun _ => rfl) hp, hbel2, ⟨fun i o hi hf hne => h4 i o hi hne (fun e => ?_), hl, ?_⟩, h4, by rw [Lib.cell_of_heap hb6]; rfl, Lib.frozen_of_heap hb6 3⟩
  · subst e
    rw [h.at0] at hi
    injection hi with hi
    exact hf ⟨_, _, _, hi.symm, .inr rfl⟩
  · have h1 := hg.size
    have h2 : (w6.setCell ⟨b, 3, none⟩ q').heap.size = w6.heap.size := by simp [World.setCell]
    rw [h2]
    simp at h1
    omega

set_option maxHeartbeats 2000000 in
set_option maxRecDepth 100000 in
theorem put_any {w0 w : World} {b : Nat} {r : ByteArray} {l : Row} {ps : List Pc} {q : Value} (h : Bef w0 b r l (ps, q) w) (hl : l.length ≤ 1048576) (hps : ps.length ≤ 1048576) (k sp : Int) (n t : ByteArray) :
    Calls Tryz.prog 103 #[.pointer (some ⟨b, 0, none⟩), .agg #[.int .i64 k, .int .i64 sp, .string n, .string t]] w fun e w' => e = .returned (.tuple #[]) ∧ ∃ q', Bef w0 b r [] (flushed ps l ++ [⟨k, sp, n.data.toList, t.data.toList⟩], q') w' ∧ KeptW q w q' w' := by
  obtain ⟨F, hF⟩ : ∃ F, flushed ps l ++ [⟨k, sp, n.data.toList, t.data.toList⟩] = F := ⟨_, rfl⟩
  rw [hF]
  unfold flushed at hF
  obtain ⟨Z, hZ⟩ : ∃ Z, w.heap.size = Z := ⟨_, rfl⟩
  have hb := h.bel
  obtain ⟨p, v, hv⟩ := h.rd
  have hv : RdV w0.heap.size b r p v l q ps w := hv
  have hal : Below w.heap.size w (w.alloc (.cells #[.int .i64 k, .int .i64 sp, .string n, .string t] 75)) := (Below.refl _ _).alloc (Nat.le_refl _) _
  have hv1 := hv.kept hal
  have hb1 : Below w0.heap.size w0 (w.alloc (.cells #[.int .i64 k, .int .i64 sp, .string n, .string t] 75)) := hb.alloc hb.size _
  have hk1 := KeptR.of_below hal
  have hz1 : (w.alloc (.cells #[.int .i64 k, .int .i64 sp, .string n, .string t] 75)).heap[Z]? = some (.cells #[.int .i64 k, .int .i64 sp, .string n, .string t] 75 (0, 0)) := by rw [← hZ]; exact heap_alloc_new w _
  have hql : ∀ g, q.ownBlock = some g → g < Z := fun g hg => by rw [← hZ]; exact (World.ownsRow.lt hv.pcs g hg).2
  have cS := rdString_any hv1
  obtain ⟨w1, hw1⟩ : ∃ w1, w.alloc (.cells #[.int .i64 k, .int .i64 sp, .string n, .string t] 75) = w1 := ⟨_, rfl⟩
  rw [hw1] at cS hz1 hk1 hb1
  clear hal hv1 hv
  go_enter Tryz.func103, Tryz.ntmps103
  go_wp2_with fail
  go_at_call 87
  refine cS.mono ?_
  rintro e w3 ⟨rfl, hv3, hb3, hk3⟩
  have cR := rdReset_any hv3
  go_wp2_with fail
  go_at_call 119
  refine cR.mono ?_
  rintro e w4 ⟨rfl, hv4, hb4, hk4⟩
  have hz4 := hk4.2 _ _ (hk3.2 _ _ hz1 (by rintro ⟨cs, ty, fr, e, he⟩; injection e with _ e2 _; subst e2; revert he; decide)) (by rintro ⟨cs, ty, fr, e, he⟩; injection e with _ e2 _; subst e2; revert he; decide)
  have hb4' : Below w0.heap.size w0 w4 := (hb1.trans hb3).trans hb4
  have hk4' : KeptR w w4 := hk1.trans (hk3.trans hk4)
  clear hb4 hk4 hb3 hk3 hv3 hb1 hk1 hz1 hw1 cS cR
  have hZ4 : Z < w4.heap.size := (Array.getElem?_eq_some_iff.1 hz4).1
  have hls : (⟨l.toArray⟩ : ByteArray).data.toList = l := by simp
  have cI := isBlank_any ⟨l.toArray⟩ w4 (by rw [Lib.size_eq, hls]; omega)
  rw [hls] at cI
  obtain ⟨K, hK⟩ : ∃ K, blanks l = K := ⟨_, rfl⟩
  rw [hK] at cI hF
  cases K with
  | true =>
    rw [if_pos rfl] at hF
    have hF' := Lib.hid hF
    clear hF
    go_wp2_with fail
    go_at_call 120
    refine cI.mono ?_
    rintro e w5 ⟨rfl, hb5⟩
    have hz5 := (hb5.block Z hZ4).trans hz4
    have hv5 := hv4.kept hb5
    have hb5' : Below w0.heap.size w0 w5 := hb4'.trans (hb5.mono hb4'.size)
    have hk5' : KeptW q w q w5 := (hk4'.trans (KeptR.of_below hb5)).W
    have hnz : q.ownBlock ≠ some Z := fun e => Nat.lt_irrefl _ (hql Z e)
    have hvd := hv5.kept (Below.drew (Below.refl _ _))
    have hzd : w5.drew.heap[Z]? = some (.cells #[.int .i64 k, .int .i64 sp, .string n, .string t] 75 (0, 0)) := hz5
    have hbd : Below w0.heap.size w0 w5.drew := hb5'.trans ((Below.drew (Below.refl _ _)).mono hb5'.size)
    have hkd0 : KeptR w5 w5.drew := KeptR.of_below (Below.drew (Below.refl _ _))
    obtain ⟨A, c, hqf⟩ := hvd.form.2
    obtain ⟨N, hN⟩ : ∃ N, (ps).length = N := ⟨_, rfl⟩
    rw [hN] at hqf
    have hqf : q = .slice A N c := hqf
    subst hqf
    have hkd : KeptW (Value.slice A N c) w (.slice A N c) w5.drew := hk5'.trans hkd0.W
    have hSall : Hid (∀ V, Below w5.drew.heap.size w5.drew V → V.cell? ⟨b, 3, none⟩ = some (.slice A N c) ∧ V.cell? ⟨Z, 0, none⟩ = some (.int .i64 k) ∧ V.cell? ⟨Z, 1, none⟩ = some (.int .i64 sp) ∧ V.cell? ⟨Z, 2, none⟩ = some (.string n) ∧ V.cell? ⟨Z, 3, none⟩ = some (.string t)) := Lib.hid fun V hV => by
      have x := (hvd.kept hV).cell.2.2.2
      have y := (hV.block Z (Array.getElem?_eq_some_iff.1 hzd).1).trans hzd
      refine ⟨x, ?_, ?_, ?_, ?_⟩ <;> (rw [Lib.cell_of_heap y]; rfl)
    have hS6 : Hid (∀ g cap w6, PsOwn w0.heap.size (.slice (some ⟨g, 0, none⟩) (N + 1) cap) (ps ++ [⟨k, sp, n.data.toList, t.data.toList⟩]) w6 → (w5.drew.alloc (.cells #[.int .i64 k, .int .i64 sp, .string n, .string t] 75)).grownBy w6 (Value.slice A N c).ownBlock → ((Value.slice A N c).ownBlock = some g ∨ g = w5.drew.heap.size + 1) →
        (w6.cell? ⟨b, 3, none⟩ = some (.slice A N c) ∧ w6.cell? ⟨Z, 0, none⟩ = some (.int .i64 k) ∧ w6.cell? ⟨Z, 1, none⟩ = some (.int .i64 sp) ∧ w6.cell? ⟨Z, 2, none⟩ = some (.string n) ∧ w6.cell? ⟨Z, 3, none⟩ = some (.string t)) ∧ w6.frozen? ⟨b, 3, none⟩ = false ∧
        Bef w0 b r [] (F, .slice (some ⟨g, 0, none⟩) (N + 1) cap) (w6.setCell ⟨b, 3, none⟩ (.slice (some ⟨g, 0, none⟩) (N + 1) cap)) ∧ KeptW (Value.slice A N c) w (.slice (some ⟨g, 0, none⟩) (N + 1) cap) (w6.setCell ⟨b, 3, none⟩ (.slice (some ⟨g, 0, none⟩) (N + 1) cap))) := Lib.hid fun g cap w6 hp hg hlies => by
      obtain ⟨t1, t2, t3, _, t5, t6⟩ := put_tail hvd hbd.size hg hp (fun g2 he => by
        have he : g = g2 := by simpa [Value.ownBlock] using he
        subst he
        exact hlies.imp id (fun x => by omega))
      rw [hF'.out] at t1
      have y : w6.heap[Z]? = some (.cells #[.int .i64 k, .int .i64 sp, .string n, .string t] 75 (0, 0)) := by
        rw [hg.block Z (by have hlt : Z < w5.heap.size := (Array.getElem?_eq_some_iff.1 hz5).1; simp; omega) (fun e => hnz e.symm)]
        exact (((Below.refl w5.drew.heap.size w5.drew).alloc (Nat.le_refl _) _).block Z (Array.getElem?_eq_some_iff.1 hzd).1).trans hzd
      refine ⟨⟨t5, ?_, ?_, ?_, ?_⟩, t6, ⟨hbd.trans t2, _, _, t1⟩, hkd.trans t3⟩ <;> (rw [Lib.cell_of_heap y]; rfl)
    have hpo : Hid (PsOwn w0.heap.size (.slice A N c) (ps) w5.drew) := Lib.hid hvd.pcs
    have hBd := hbd.size
    have hn' : sv n.data.toList = .string n := sv_data n
    have ht' : sv t.data.toList = .string t := sv_data t
    have hNl : N ≤ 1099511627776 := by rw [← hN]; first | omega | (simp; omega)
    have hcells := hSall.out w5.drew (Below.refl _ _)
    obtain ⟨x0, x1, x2, x3, x4⟩ := hcells
    clear hvd hzd hbd hkd hv5 hz5 hb5' hk5' hb5 hz4 hv4 hb4' hk4' hb h hnz hql hF'
    go_wp2_with fail
    have hcellsA := hSall.out (w5.drew.alloc (.cells #[.int .i64 k, .int .i64 sp, .string n, .string t] 75)) ((Below.refl _ _).alloc (Nat.le_refl _) _)
    have hcellsB : (w5.alloc (.cells #[.int .i64 k, .int .i64 sp, .string n, .string t] 75)).cell? ⟨b, 3, none⟩ = some (.slice A N c) ∧ (w5.alloc (.cells #[.int .i64 k, .int .i64 sp, .string n, .string t] 75)).cell? ⟨Z, 0, none⟩ = some (.int .i64 k) ∧ (w5.alloc (.cells #[.int .i64 k, .int .i64 sp, .string n, .string t] 75)).cell? ⟨Z, 1, none⟩ = some (.int .i64 sp) ∧ (w5.alloc (.cells #[.int .i64 k, .int .i64 sp, .string n, .string t] 75)).cell? ⟨Z, 2, none⟩ = some (.string n) ∧ (w5.alloc (.cells #[.int .i64 k, .int .i64 sp, .string n, .string t] 75)).cell? ⟨Z, 3, none⟩ = some (.string t) := hcellsA
    obtain ⟨v0, v1, v2, v3, v4⟩ := hcellsB
    go_region_law (first
      | (refine step_piece (w0 := w5.drew) ⟨k, sp, n.data.toList, t.data.toList⟩ n t k sp hn' ht' rfl rfl (by rfl) _ _ (by rfl) w0.heap.size _ (ps) N hN (by rfl) (by rfl) hpo.out hNl hBd ?_; intro g cap w6 h6 hg6 hli6; have hcells6 := hS6.out g cap w6 h6 hg6 hli6; obtain ⟨⟨u0, u1, u2, u3, u4⟩, u5, u6⟩ := hcells6))
    all_goals
      have hz6 := (hS6.out _ _ _ (by assumption) (by assumption) (by assumption)).2.2
      go_wp2
      go_end0
      exact ⟨rfl, _, hz6⟩
  | false =>
    rw [if_neg (by decide)] at hF
    have hF' := Lib.hid hF
    clear hF
    go_wp2_with fail
    go_at_call 120
    refine cI.mono ?_
    rintro e w5 ⟨rfl, hb5⟩
    have hz5 := (hb5.block Z hZ4).trans hz4
    have hv5 := hv4.kept hb5
    have hb5' : Below w0.heap.size w0 w5 := hb4'.trans (hb5.mono hb4'.size)
    have hk5' : KeptW q w q w5 := (hk4'.trans (KeptR.of_below hb5)).W
    have hnz : q.ownBlock ≠ some Z := fun e => Nat.lt_irrefl _ (hql Z e)
    obtain ⟨A0, c0, hqf⟩ := hv5.form.2
    obtain ⟨N0, hN0⟩ : ∃ N0, ps.length = N0 := ⟨_, rfl⟩
    rw [hN0] at hqf
    subst hqf
    have hZ5 : Z < w5.heap.size := (Array.getElem?_eq_some_iff.1 hz5).1
    have hzb : Z ≠ b := fun e => by
      subst e
      exact types_ne.2.2 (cells_type hz5 hv5.at0)
    have e3 := hv5.cell.2.2.2
    have hT : Hid (∀ g cap w6, PsOwn w0.heap.size (.slice (some ⟨g, 0, none⟩) (N0 + 1) cap) (ps ++ [⟨3, 0, [], l⟩]) w6 → (w5.alloc (.cells #[.int .i64 3, .int .i64 0, .string ⟨#[]⟩, .string ⟨l.toArray⟩] 75)).grownBy w6 (Value.slice A0 N0 c0).ownBlock → ((Value.slice A0 N0 c0).ownBlock = some g ∨ g = w5.heap.size + 1) →
        (w6.cell? ⟨b, 3, none⟩ = some (.slice A0 N0 c0) ∧ w6.frozen? ⟨b, 3, none⟩ = false) ∧ RdV w0.heap.size b r (.pointer none) (.slice none 0 0) [] (.slice (some ⟨g, 0, none⟩) (N0 + 1) cap) (ps ++ [⟨3, 0, [], l⟩]) (w6.setCell ⟨b, 3, none⟩ (.slice (some ⟨g, 0, none⟩) (N0 + 1) cap)) ∧
        Below w0.heap.size w0 (w6.setCell ⟨b, 3, none⟩ (.slice (some ⟨g, 0, none⟩) (N0 + 1) cap)) ∧ KeptW (.slice A0 N0 c0) w (.slice (some ⟨g, 0, none⟩) (N0 + 1) cap) (w6.setCell ⟨b, 3, none⟩ (.slice (some ⟨g, 0, none⟩) (N0 + 1) cap)) ∧ (w6.setCell ⟨b, 3, none⟩ (.slice (some ⟨g, 0, none⟩) (N0 + 1) cap)).heap[Z]? = some (.cells #[.int .i64 k, .int .i64 sp, .string n, .string t] 75 (0, 0)) ∧
        (Value.slice (some ⟨g, 0, none⟩) (N0 + 1) cap).ownBlock ≠ some Z) := Lib.hid fun g cap w6 hp hg hlies => by
      obtain ⟨t1, t2, t3, t4, t5, t6⟩ := put_tail hv5 hb5'.size hg hp (fun g2 he => by
        have he : g = g2 := by simpa [Value.ownBlock] using he
        subst he
        exact hlies.imp id (fun x => by omega))
      refine ⟨⟨t5, t6⟩, t1, hb5'.trans t2, hk5'.trans t3, t4 Z _ hz5 hnz hzb, fun e => ?_⟩
      have e : g = Z := by simpa [Value.ownBlock] using e
      rcases hlies with h1 | h1
      · exact hnz (by rw [h1, e])
      · omega
    have hpo5 : Hid (PsOwn w0.heap.size (.slice A0 N0 c0) ps w5) := Lib.hid hv5.pcs
    have hB5 := hb5'.size
    have hsv : sv l = .string ⟨l.toArray⟩ := rfl
    clear hb5 hz5 hv5 hb5' hk5' hz4 hv4 hb4' hk4' hb h hnz hql hzb
    go_wp2_with (at_builtin; refine append_piece_at ⟨3, 0, [], l⟩ ⟨#[]⟩ ⟨l.toArray⟩ 3 0 rfl hsv rfl rfl rfl _ _ rfl w0.heap.size _ ps _ rfl rfl rfl hpo5.out (by omega) hB5 ?_)
    intro g cap w6 h6 hg6 hlies
    have hT6 := hT.out g cap w6 h6 hg6 hlies
    obtain ⟨⟨o1, o2⟩, hv7, hb7, hk7, hz7, hnz⟩ := hT6
    obtain ⟨w7, hw7⟩ : ∃ w7, w6.setCell ⟨b, 3, none⟩ (.slice (some ⟨g, 0, none⟩) (N0 + 1) cap) = w7 := ⟨_, rfl⟩
    rw [hw7] at hv7 hb7 hk7 hz7
    clear h6 hg6 hlies hT hpo5
    go_wp2_with fail
    obtain ⟨q7, hq7⟩ : ∃ q7, Value.slice (some ⟨g, 0, none⟩) (N0 + 1) cap = q7 := ⟨_, rfl⟩
    rw [hq7] at hv7 hnz hk7
    clear hq7
    have hvd := hv7.kept (Below.drew (Below.refl _ _))
    have hzd : w7.drew.heap[Z]? = some (.cells #[.int .i64 k, .int .i64 sp, .string n, .string t] 75 (0, 0)) := hz7
    have hbd : Below w0.heap.size w0 w7.drew := hb7.trans ((Below.drew (Below.refl _ _)).mono hb7.size)
    have hkd0 : KeptR w7 w7.drew := KeptR.of_below (Below.drew (Below.refl _ _))
    obtain ⟨A, c, hqf⟩ := hvd.form.2
    obtain ⟨N, hN⟩ : ∃ N, ((ps ++ [(⟨3, 0, [], l⟩ : Pc)])).length = N := ⟨_, rfl⟩
    rw [hN] at hqf
    have hqf : q7 = .slice A N c := hqf
    subst hqf
    have hkd : KeptW (Value.slice A0 N0 c0) w (.slice A N c) w7.drew := hk7.trans hkd0.W
    have hSall : Hid (∀ V, Below w7.drew.heap.size w7.drew V → V.cell? ⟨b, 3, none⟩ = some (.slice A N c) ∧ V.cell? ⟨Z, 0, none⟩ = some (.int .i64 k) ∧ V.cell? ⟨Z, 1, none⟩ = some (.int .i64 sp) ∧ V.cell? ⟨Z, 2, none⟩ = some (.string n) ∧ V.cell? ⟨Z, 3, none⟩ = some (.string t)) := Lib.hid fun V hV => by
      have x := (hvd.kept hV).cell.2.2.2
      have y := (hV.block Z (Array.getElem?_eq_some_iff.1 hzd).1).trans hzd
      refine ⟨x, ?_, ?_, ?_, ?_⟩ <;> (rw [Lib.cell_of_heap y]; rfl)
    have hS6 : Hid (∀ g cap w6, PsOwn w0.heap.size (.slice (some ⟨g, 0, none⟩) (N + 1) cap) ((ps ++ [(⟨3, 0, [], l⟩ : Pc)]) ++ [⟨k, sp, n.data.toList, t.data.toList⟩]) w6 → (w7.drew.alloc (.cells #[.int .i64 k, .int .i64 sp, .string n, .string t] 75)).grownBy w6 (Value.slice A N c).ownBlock → ((Value.slice A N c).ownBlock = some g ∨ g = w7.drew.heap.size + 1) →
        (w6.cell? ⟨b, 3, none⟩ = some (.slice A N c) ∧ w6.cell? ⟨Z, 0, none⟩ = some (.int .i64 k) ∧ w6.cell? ⟨Z, 1, none⟩ = some (.int .i64 sp) ∧ w6.cell? ⟨Z, 2, none⟩ = some (.string n) ∧ w6.cell? ⟨Z, 3, none⟩ = some (.string t)) ∧ w6.frozen? ⟨b, 3, none⟩ = false ∧
        Bef w0 b r [] (F, .slice (some ⟨g, 0, none⟩) (N + 1) cap) (w6.setCell ⟨b, 3, none⟩ (.slice (some ⟨g, 0, none⟩) (N + 1) cap)) ∧ KeptW (Value.slice A0 N0 c0) w (.slice (some ⟨g, 0, none⟩) (N + 1) cap) (w6.setCell ⟨b, 3, none⟩ (.slice (some ⟨g, 0, none⟩) (N + 1) cap))) := Lib.hid fun g cap w6 hp hg hlies => by
      obtain ⟨t1, t2, t3, _, t5, t6⟩ := put_tail hvd hbd.size hg hp (fun g2 he => by
        have he : g = g2 := by simpa [Value.ownBlock] using he
        subst he
        exact hlies.imp id (fun x => by omega))
      rw [hF'.out] at t1
      have y : w6.heap[Z]? = some (.cells #[.int .i64 k, .int .i64 sp, .string n, .string t] 75 (0, 0)) := by
        rw [hg.block Z (by have hlt : Z < w7.heap.size := (Array.getElem?_eq_some_iff.1 hz7).1; simp; omega) (fun e => hnz e.symm)]
        exact (((Below.refl w7.drew.heap.size w7.drew).alloc (Nat.le_refl _) _).block Z (Array.getElem?_eq_some_iff.1 hzd).1).trans hzd
      refine ⟨⟨t5, ?_, ?_, ?_, ?_⟩, t6, ⟨hbd.trans t2, _, _, t1⟩, hkd.trans t3⟩ <;> (rw [Lib.cell_of_heap y]; rfl)
    have hpo : Hid (PsOwn w0.heap.size (.slice A N c) ((ps ++ [(⟨3, 0, [], l⟩ : Pc)])) w7.drew) := Lib.hid hvd.pcs
    have hBd := hbd.size
    have hn' : sv n.data.toList = .string n := sv_data n
    have ht' : sv t.data.toList = .string t := sv_data t
    have hNl : N ≤ 1099511627776 := by rw [← hN]; first | omega | (simp; omega)
    have hcells := hSall.out w7.drew (Below.refl _ _)
    obtain ⟨x0, x1, x2, x3, x4⟩ := hcells
    clear hvd hzd hbd hkd hv7 hz7 hb7 hk7 hnz hF'
    go_wp2_with fail
    have hcellsA := hSall.out (w7.drew.alloc (.cells #[.int .i64 k, .int .i64 sp, .string n, .string t] 75)) ((Below.refl _ _).alloc (Nat.le_refl _) _)
    have hcellsB : (w7.alloc (.cells #[.int .i64 k, .int .i64 sp, .string n, .string t] 75)).cell? ⟨b, 3, none⟩ = some (.slice A N c) ∧ (w7.alloc (.cells #[.int .i64 k, .int .i64 sp, .string n, .string t] 75)).cell? ⟨Z, 0, none⟩ = some (.int .i64 k) ∧ (w7.alloc (.cells #[.int .i64 k, .int .i64 sp, .string n, .string t] 75)).cell? ⟨Z, 1, none⟩ = some (.int .i64 sp) ∧ (w7.alloc (.cells #[.int .i64 k, .int .i64 sp, .string n, .string t] 75)).cell? ⟨Z, 2, none⟩ = some (.string n) ∧ (w7.alloc (.cells #[.int .i64 k, .int .i64 sp, .string n, .string t] 75)).cell? ⟨Z, 3, none⟩ = some (.string t) := hcellsA
    obtain ⟨v0, v1, v2, v3, v4⟩ := hcellsB
    go_region_law (first
      | (refine step_piece (w0 := w7.drew) ⟨k, sp, n.data.toList, t.data.toList⟩ n t k sp hn' ht' rfl rfl (by rfl) _ _ (by rfl) w0.heap.size _ ((ps ++ [(⟨3, 0, [], l⟩ : Pc)])) N hN (by rfl) (by rfl) hpo.out hNl hBd ?_; intro g cap w6 h6 hg6 hli6; have hcells6 := hS6.out g cap w6 h6 hg6 hli6; obtain ⟨⟨u0, u1, u2, u3, u4⟩, u5, u6⟩ := hcells6))
    all_goals
      have hz6 := (hS6.out _ _ _ (by assumption) (by assumption) (by assumption)).2.2
      go_wp2
      go_end0
      exact ⟨rfl, _, hz6⟩
end Go.Proofs.YtmmpojhjpghdlaaGreatDoor.Xm

/-
  THE PROGRAM's SCOPES OF LAYER xml: an element's declarations as a map of the call's own, the elements around it; the walk of space.
-/
set_option linter.unusedVariables false
namespace Go.Proofs.YtmmpojhjpghdlaaGreatDoor.Xm
open Go.Lib Go.RowKit Go.Maps

/-- declarations as a map's datum -/
def DE : Env → DataW Unit
  | [] => .map []
  | d :: e => (DE e).put (.string d.1) (.lit (.int .i64 d.2))
theorem DE_map : ∀ (e : Env), IsMap (DE e)
  | [] => isMap_empty
  | d :: e => (DE_map e).put _ _
theorem DE_has (p : Row) : ∀ (e : Env), has (DE e) (.string p) = (look p e).isSome
  | [] => rfl
  | d :: e => by
    by_cases h : d.1 = p
    · have h1 : look p (d :: e) = some d.2 := if_pos h
      rw [h1, ← h]
      exact has_put_same (DE_map e) (show WideAt.IsKeyLit (.string d.1) from trivial) _
    · have h1 : look p (d :: e) = look p e := if_neg h
      rw [h1, ← DE_has p e]
      exact has_put_other (fun x => h (by injection x with x; exact x.symm)) _
theorem DE_at (p : Row) : ∀ (e : Env), (DE e).atKey (.string p) (.lit (.int .i64 0)) = .lit (.int .i64 ((look p e).getD 0))
  | [] => rfl
  | d :: e => by
    by_cases h : d.1 = p
    · have h1 : look p (d :: e) = some d.2 := if_pos h
      rw [h1, ← h]
      exact atKey_put_same (DE_map e) (show WideAt.IsKeyLit (.string d.1) from trivial) _ _
    · have h1 : look p (d :: e) = look p e := if_neg h
      rw [h1, ← DE_at p e]
      exact atKey_put_other (fun x => h (by injection x with x; exact x.symm)) _ _
/-- a map that holds an element's declarations -/
def MapAt (w : World) (m : Nat) (own : Env) : Prop := w.ownsMap Tryz.prog 9 (plainElem (H := Unit) Tryz.prog 22) m own.length (DE own)
theorem MapAt.keep {w w' : World} {m : Nat} {own : Env} (h : MapAt w m own) (hk : ∀ es cl, w.heap[m]? = some (.map es cl) → w'.heap[m]? = some (.map es cl)) : MapAt w' m own := by
  obtain ⟨es, clock, hb, F, hs, hD⟩ := h
  exact ⟨es, clock, hk _ _ hb, F, hs, hD⟩
theorem not_frail_map (es : Array MapEntry) (cl : Nat) : ¬ weak (.map es cl) := by rintro ⟨cs, t, fr, e, _⟩; cases e
theorem MapAt.kept {w w' : World} {m : Nat} {own : Env} (h : MapAt w m own) (hk : KeptR w w') : MapAt w' m own := h.keep fun es cl he => hk.old _ _ he (not_frail_map es cl)
/-- an element's declarations and those of the elements around it -/
def Chain (w : World) : Value → List Env → Prop
  | v, [] => v = .pointer none
  | v, own :: E => ∃ (s m : Nat) (v' : Value), v = .pointer (some ⟨s, 0, none⟩) ∧ w.heap[s]? = some (.cells #[.map (some m), v'] 158 (0, 0)) ∧ MapAt w m own ∧ Chain w v' E
theorem scope_ne : (158 : TypeId) ≠ 5 ∧ (158 : TypeId) ≠ 75 ∧ (158 : TypeId) ≠ 96 := by decide
theorem not_frail_scope (cs : Array Value) (fr : Nat × Nat) : ¬ weak (.cells cs 158 fr) := by
  rintro ⟨cs', t, fr', e, h⟩
  injection e with _ e _
  rcases h with h | h | h
  · exact scope_ne.1 (e.trans h)
  · exact scope_ne.2.1 (e.trans h)
  · exact scope_ne.2.2 (e.trans h)
theorem MapAt.keptM {w w' : World} {m : Nat} {own : Env} (h : MapAt w m own) (hk : KeptM w w') : MapAt w' m own := h.keep fun es cl he => hk _ _ he (not_frail_map es cl)
theorem Chain.kept {w w' : World} (hk : KeptM w w') : ∀ (E : List Env) (v : Value), Chain w v E → Chain w' v E
  | [], v, h => h
  | own :: E, v, ⟨s, m, v', h1, h2, h3, h4⟩ => ⟨s, m, v', h1, hk _ _ h2 (not_frail_scope _ _), h3.keptM hk, Chain.kept hk E v' h4⟩
theorem look_flat (p : Row) (own : Env) (E : List Env) : look p (own :: E).flatten = match look p own with
  | some s => some s
  | none => look p E.flatten := by
  rw [List.flatten_cons, look_append]
  cases look p own <;> rfl
theorem spOf_of (p : Row) (e : Env) : spOf p e = match look p e with
  | some s => some s
  | none => if p = [] then some 0 else none := by
  unfold spOf
  cases look p e with
  | none => by_cases h : p = [] <;> simp [h]
  | some s => by_cases h : p = [] <;> simp [h]
theorem str_keyed : Keyed Tryz.prog 9 := string_keyed Tryz.underlying9

/-- a name's space, or none -/
def SpP (p : Row) (env : Env) (e : Ending) : Prop := (∃ sp, spOf p env = some sp ∧ e = .returned (.int .i64 sp)) ∨ (spOf p env = none ∧ e = gone)
theorem SpP.found {p : Row} {env own : Env} {E : List Env} {c : Int} (h1 : look p env = look p (own :: E).flatten) (h2 : (look p own).isSome = true) (h3 : c = (look p own).getD 0) : SpP p env (.returned (.int .i64 c)) := by
  refine .inl ⟨c, ?_, rfl⟩
  obtain ⟨x, hx⟩ := Option.isSome_iff_exists.1 h2
  rw [spOf_of, h1, look_flat, hx, h3, hx]; rfl
theorem SpP.empty {p : Row} {env : Env} (h1 : look p env = none) (h2 : p = []) : SpP p env (.returned (.int .i64 0)) := by
  refine .inl ⟨0, ?_, rfl⟩
  rw [spOf_of, h1, if_pos h2]
theorem SpP.none {p : Row} {env : Env} (h1 : look p env = none) (h2 : p ≠ []) : SpP p env gone := by
  refine .inr ⟨?_, rfl⟩
  rw [spOf_of, h1, if_neg h2]
set_option maxHeartbeats 2000000 in
set_option maxRecDepth 100000 in
theorem space_any (p : ByteArray) (hp : p.size ≤ 65536) (E : List Env) (v : Value) (w : World) (h : Chain w v E) :
    Calls Tryz.prog 102 #[v, .string p] w fun e w' => SpP p.data.toList E.flatten e ∧ Below w.heap.size w w' := by
  have hz : ∀ W, (zeroValue 22).run Tryz.prog W = .ok (.int .i64 0) W := fun W => rfl
  have hkey : keyOf Tryz.prog 9 (.string p) = some (.string p.data.toList) := WideMaps.keyOf_string_mk Tryz.underlying9 (by unfold maxLen; omega)
  obtain ⟨env, henv⟩ : ∃ env, E.flatten = env := ⟨_, rfl⟩
  rw [henv]
  have henv' := Lib.hid henv
  have h' := Lib.hid h
  clear h henv
  go_enter Tryz.func102, Tryz.ntmps102
  go_wp2
  go_loopg [0] E.length (fun g s0 wr => ∃ (E' : List Env) (u0 : Value), s0 = u0 ∧ Chain w u0 E' ∧ Hid (look p.data.toList env = look p.data.toList E'.flatten) ∧ g = E'.length ∧ wr = w)
  case atStart => exact ⟨E, _, rfl, h'.out, Lib.hid (by rw [henv'.out]), rfl, rfl⟩
  case round =>
    obtain ⟨E', u0, rfl, hc, hl, hg, rfl⟩ := hrel
    clear h' henv'
    cases E' with
    | nil =>
      have hc0 : u0 = .pointer none := hc
      subst hc0
      have hl0 : look p.data.toList env = none := hl.out
      by_cases hpe : p.data.toList = []
      · have e1 : p.toList = [] := by rw [Lib.toList_data, hpe]
        have e2 : p.toList.isEmpty = true := by rw [e1]; rfl
        have hfin := Lib.hid (SpP.empty hl0 hpe)
        clear hl0 hpe hl
        go_wp2
        go_ret
        exact ⟨hfin.out, Below.refl _ _⟩
      · have e1 : ¬ p.toList = [] := by rw [Lib.toList_data]; exact hpe
        have e2 : p.toList.isEmpty = false := by
          cases hv : p.toList with
          | nil => exact absurd hv e1
          | cons y t => rfl
        have hfin := Lib.hid (SpP.none hl0 hpe)
        have cG := giveUp_any wr
        unfold gone at hfin cG
        clear hl0 hpe hl
        go_wp2_with fail
        go_at_call 72
        with_reducible refine cG.mono ?_
        rintro e w5 ⟨rfl, rfl⟩
        go_wp2
        exact ⟨rfl, hfin.out, Below.refl _ _⟩
    | cons own E2 =>
      obtain ⟨s, m, v', rfl, h2, h3, h4⟩ := hc
      have x0 : wr.cell? ⟨s, 0, none⟩ = some (.map (some m)) := by rw [Lib.cell_of_heap h2]; rfl
      have x1 : wr.cell? ⟨s, 1, none⟩ = some v' := by rw [Lib.cell_of_heap h2]; rfl
      obtain ⟨D, hD⟩ : ∃ D, DE own = D := ⟨_, rfl⟩
      have hown : wr.ownsMap Tryz.prog 9 (plainElem (H := Unit) Tryz.prog 22) m own.length D := hD ▸ h3
      have hat0 : D.atKey (.string p.data.toList) (.lit (.int .i64 0)) = .lit (.int .i64 ((look p.data.toList own).getD 0)) := by rw [← hD]; exact DE_at _ _
      have hhas : has D (.string p.data.toList) = (look p.data.toList own).isSome := by rw [← hD]; exact DE_has _ _
      obtain ⟨K, hK⟩ : ∃ K, (look p.data.toList own).isSome = K := ⟨_, rfl⟩
      rw [hK] at hhas
      have hK' := Lib.hid hK
      have hat0' := Lib.hid hat0
      have h4' := Lib.hid h4
      clear hK hat0 hD h2 h3 h4
      cases K with
      | true =>
        go_wp2_with (at_lookup; refine wpList_lookup_own_ok_int _ rfl _ _ 155 rfl 9 22 .i64 str_keyed Tryz.underlying155 Tryz.underlying22 (hz _) m _ D rfl hown _ _ rfl hkey ?_)
        intro c hat hwc
        rw [hat0'.out] at hat
        have hc : c = (look p.data.toList own).getD 0 := by
          injection hat with hat
          injection hat with _ hat
          exact hat.symm
        have hfin := Lib.hid (SpP.found hl.out hK'.out hc)
        clear hat hc hat0' hK' hwc
        go_wp2
        go_ret
        exact ⟨hfin.out, Below.refl _ _⟩
      | false =>
        have hnone : look p.data.toList own = none := by
          have := hK'.out
          cases hx : look p.data.toList own with
          | none => rfl
          | some y => rw [hx] at this; cases this
        have hl2 : Hid (look p.data.toList env = look p.data.toList E2.flatten) := Lib.hid (by rw [hl.out, look_flat, hnone])
        clear hnone hat0' hK' hl
        go_wp2_with (at_lookup; refine wpList_lookup_own_ok_int _ rfl _ _ 155 rfl 9 22 .i64 str_keyed Tryz.underlying155 Tryz.underlying22 (hz _) m _ D rfl hown _ _ rfl hkey ?_)
        intro c hat hwc
        clear hat hwc
        go_wp2
        go_roundg E2.length
        case measure => rw [hg, List.length_cons]; omega
        case rel => exact ⟨E2, _, rfl, h4'.out, hl2, rfl, rfl⟩
end Go.Proofs.YtmmpojhjpghdlaaGreatDoor.Xm

/-
  WALKS OF THE PROGRAM's READER OF LAYER xml: declarations. (wip/tools/genxmli.py)
-/
set_option linter.unusedVariables false
namespace Go.Proofs.YtmmpojhjpghdlaaGreatDoor.Xm
open Go.Lib Go.RowKit Go.Maps

theorem KeptR.map_grown {w w1 w2 : World} {m : Nat} (h : KeptR w w1) (hg : w1.grownBy w2 (some m)) (hm : w.heap.size ≤ m) : KeptR w w2 := ⟨Nat.le_trans h.1 hg.size, fun k o hk hf => by
  have h1 := h.2 k o hk hf
  have hlt := (Array.getElem?_eq_some_iff.1 hk).1
  rw [hg.block k (Array.getElem?_eq_some_iff.1 h1).1 (fun e => by injection e with e; omega)]
  exact h1⟩
/-- the reader beside a map that grows -/
theorem Bef.map_grown {w0 w1 w2 : World} {b : Nat} {r : ByteArray} {l : Row} {ps : Pq} {m : Nat} (h : Bef w0 b r l ps w1) (hg : w1.grownBy w2 (some m)) (hm : w0.heap.size ≤ m) (hmap : ∃ es cl, w1.heap[m]? = some (.map es cl)) : Bef w0 b r l ps w2 := by
  obtain ⟨hb, p, v, hv⟩ := h
  obtain ⟨es, cl, hmap⟩ := hmap
  have hk : ∀ (i : Nat) (cs : Array Value) (t : TypeId) (fr : Nat × Nat), w1.heap[i]? = some (.cells cs t fr) → w2.heap[i]? = some (.cells cs t fr) := fun i cs t fr hi => by
    rw [hg.block i (Array.getElem?_eq_some_iff.1 hi).1 (fun e => by injection e with e; subst e; rw [hi] at hmap; cases hmap)]
    exact hi
  refine ⟨hb.grown hg hb.size (fun k hk => by injection hk with hk; omega), p, v, hv.hB, hk _ _ _ _ hv.at0, hv.ptr, ?_, hv.nil, ?_⟩
  · refine ownsRowF_kept hv.row (fun i o hi ho => ?_)
    obtain ⟨cs, fr, hx⟩ := rowB_type hv.row ho
    rw [hx] at hi; injection hi with hi; subst hi
    exact hk _ _ _ _ hx
  · refine psOwn_kept hv.pcs (fun i o hi ho => ?_)
    obtain ⟨cs, fr, hx⟩ := rowP_type hv.pcs ho
    rw [hx] at hi; injection hi with hi; subst hi
    exact hk _ _ _ _ hx
theorem MapAt.isMap {w : World} {m : Nat} {own : Env} (h : MapAt w m own) : ∃ es cl, w.heap[m]? = some (.map es cl) := by
  obtain ⟨es, cl, hb, _⟩ := h; exact ⟨es, cl, hb⟩
theorem MapAt.new (w : World) : MapAt (w.alloc (.map #[] 0)) w.heap.size [] := World.ownsMap_made w _ _ _

/-- an element's declarations -/
def DecP (w0 : World) (b : Nat) (r : ByteArray) (l : Row) (ps : Pq) (e : Ending) (w' : World) : Prop :=
  (∃ (m : Nat) (own : Env) (r' : ByteArray), Bef w0 b r' l ps w' ∧ MapAt w' m own ∧ e = .returned (.map (some m)) ∧ r'.size ≤ r.size ∧
    (declsA r.data.toList [] = some (r'.data.toList, own) ∨ (declsA r.data.toList [] = none ∧ r'.data.toList.head? ≠ some 47 ∧ r'.data.toList.head? ≠ some 62))) ∨
  (declsA r.data.toList [] = none ∧ e = gone ∧ Below w0.heap.size w0 w')
/-- one declaration read: what is left of it -/
theorem dec_here {R x : Row} {own : Env} {x1 : Row} (h : R = x1) : R = x1 := h
theorem dec_twice {X P : Row} {own : Env} {D : Option (Row × Int × Row)} {A : Option (Row × Env)} (hA : A = D.bind fun d => if (look d.1 own).isSome = true then none else declsA d.2.2 ((d.1, d.2.1) :: own)) (hd : D = (quoted X).map fun p => (P, spaceOf p.1, p.2)) (hl : (look P own).isSome = true) : A = none := by
  rw [hA, hd]
  cases quoted X with
  | none => rfl
  | some p => show (if (look P own).isSome = true then none else _) = none; rw [if_pos hl]
theorem dec_noval {X P : Row} {own : Env} {D : Option (Row × Int × Row)} {A : Option (Row × Env)} (hA : A = D.bind fun d => if (look d.1 own).isSome = true then none else declsA d.2.2 ((d.1, d.2.1) :: own)) (hd : D = (quoted X).map fun p => (P, spaceOf p.1, p.2)) (hq : quoted X = none) : A = none := by
  rw [hA, hd, hq]; rfl
theorem dec_one {X P v r : Row} {own : Env} {D : Option (Row × Int × Row)} {A : Option (Row × Env)} (hA : A = D.bind fun d => if (look d.1 own).isSome = true then none else declsA d.2.2 ((d.1, d.2.1) :: own)) (hd : D = (quoted X).map fun p => (P, spaceOf p.1, p.2)) (hl : (look P own).isSome = false) (hq : quoted X = some (v, r)) : A = declsA r ((P, spaceOf v) :: own) := by
  rw [hA, hd, hq]
  show (if (look P own).isSome = true then none else _) = _
  rw [if_neg (by rw [hl]; decide)]
theorem dec_noname {own : Env} {D : Option (Row × Int × Row)} {A : Option (Row × Env)} (hA : A = D.bind fun d => if (look d.1 own).isSome = true then none else declsA d.2.2 ((d.1, d.2.1) :: own)) (hd : D = none) : A = none := by
  rw [hA, hd]; rfl
theorem spaceOf_wf (v : Row) : (Lit.int .i64 (spaceOf v)).wf = true := by
  unfold spaceOf
  repeat' split
  all_goals decide
theorem head_not {c : UInt8} {t : Row} (h : ([c] : Row).isPrefixOf t = false) : t.head? ≠ some c := by
  intro e
  cases t with
  | nil => cases e
  | cons x r =>
    simp at e
    subst e
    simp at h
theorem quoted_size {r v r' : ByteArray} (h : quoted (61 :: r.data.toList) = some (v.data.toList, r'.data.toList)) : r'.size ≤ r.size := by
  have := quoted_len h
  rw [List.length_cons, ← Lib.size_eq, ← Lib.size_eq] at this
  omega

set_option maxHeartbeats 4000000 in
set_option maxRecDepth 100000 in
theorem declarations_any {w0 w : World} (hG : Gw w0) {b : Nat} {r : ByteArray} {l : Row} {ps : Pq} (h : Bef w0 b r l ps w) (hr : r.size ≤ 65536) :
    Calls Tryz.prog 101 #[.pointer (some ⟨b, 0, none⟩)] w fun e w' => DecP w0 b r l ps e w' ∧ KeptR w w' := by
  have hz : ∀ W, (zeroValue 22).run Tryz.prog W = .ok (.int .i64 0) W := fun W => rfl
  have hmk : (Instr.makeMap 155 none).run Tryz.prog w = .ok (.map (some w.heap.size)) (w.alloc (.map #[] 0)) := rfl
  obtain ⟨m, hm⟩ : ∃ m, w.heap.size = m := ⟨_, rfl⟩
  have hal : Below w.heap.size w (w.alloc (.map #[] 0)) := (Below.refl _ _).alloc (Nat.le_refl _) _
  have h1 := Lib.hid (h.kept hal)
  have hk1 := Lib.hid (KeptR.of_below hal)
  have hmap1 : Hid (MapAt (w.alloc (.map #[] 0)) m []) := Lib.hid (hm ▸ MapAt.new w)
  have hmw : w.heap.size ≤ m := by omega
  have hmw0 : w0.heap.size ≤ m := by have := h.bel.size; omega
  clear h hal
  go_enter Tryz.func101, Tryz.ntmps101
  go_wp2
  go_loopw [] (fun wr => ∃ (x : ByteArray) (own : Env), Bef w0 b x l ps wr ∧ MapAt wr m own ∧ KeptR w wr ∧ Hid (declsA r.data.toList [] = declsA x.data.toList own) ∧ own.length + x.size ≤ r.size) (fun wr => restSize b wr)
  case atStart => exact ⟨r, [], h1.out, hmap1.out, hk1.out, Lib.hid rfl, by simp⟩
  case round =>
    obtain ⟨x, own, hB, hmp, hk, hA, hsz⟩ := hrel
    have hrs := hB.size
    have cB := blanks_any hB
    have hk' := Lib.hid hk
    have hmp' := Lib.hid hmp
    clear hk hmp h1 hk1 hmap1 hB
    go_wp2_with fail
    go_at_call 97
    with_reducible refine cB.mono ?_
    rintro e w3 ⟨⟨x1, hx1, rfl, h3⟩, hk3⟩
    clear cB
    have hmp3 := Lib.hid (hmp'.out.kept hk3)
    have hk3' := Lib.hid (hk'.out.trans hk3)
    clear hk3 hk' hmp'
    by_cases hd : x1.size < x.size
    · have hd' : decide (x1.size < x.size) = true := decide_eq_true hd
      rw [hd']
      have hne : Hid (x.data.toList.dropWhile blk ≠ x.data.toList) := Lib.hid fun e => by
        rw [e] at hx1
        have := congrArg List.length hx1
        rw [← Lib.size_eq, ← Lib.size_eq] at this
        omega
      have hx1' := Lib.hid hx1
      have cT := take_any h3 ⟨#[120, 109, 108, 110, 115]⟩
      clear hx1 h3 hd'
      go_wp2_with fail
      go_at_call 68
      with_reducible refine cT.mono ?_
      rintro e w4 ⟨hq, hk4⟩
      clear cT
      have hmp4 := Lib.hid (hmp3.out.kept hk4)
      have hk4' := Lib.hid (hk3'.out.trans hk4)
      clear hk4 hk3' hmp3
      rcases hq with ⟨x2, hy, rfl, h4⟩ | ⟨hn, rfl, h4⟩
      · have hsz2 := pre_size hy
        have hsz2' : x1.size = 5 + x2.size := hsz2
        have hAD : Hid (declsA r.data.toList [] = (decl (xmlnsS ++ x2.data.toList)).bind fun d => if (look d.1 own).isSome = true then none else declsA d.2.2 ((d.1, d.2.1) :: own)) := Lib.hid (by
          rw [hA.out]
          exact declsA_here hne.out (by rw [← hx1'.out]; exact hy))
        have cT2 := take_any h4 ⟨#[58]⟩
        clear hy h4 hne hx1' hsz2 hA
        go_wp2_with fail
        go_at_call 68
        with_reducible refine cT2.mono ?_
        rintro e w5 ⟨hq, hk5⟩
        clear cT2
        have hmp5 := Lib.hid (hmp4.out.kept hk5)
        have hk5' := Lib.hid (hk4'.out.trans hk5)
        clear hk5 hk4' hmp4
        rcases hq with ⟨x3, hy, rfl, h5⟩ | ⟨hn, rfl, h5⟩
        · have hsz3 := pre_size hy
          have hsz3' : x2.size = 1 + x3.size := hsz3
          have hy2 : Hid (x2.data.toList = 58 :: x3.data.toList) := Lib.hid hy
          have cN := name_any h5 (by omega)
          clear hy h5 hsz3
          go_wp2_with fail
          go_at_call 116
          with_reducible refine cN.mono ?_
          rintro e w6 ⟨hq, hk6⟩
          clear cN
          have hmp6 := Lib.hid (hmp5.out.kept hk6)
          have hk6' := Lib.hid (hk5'.out.trans hk6)
          clear hk6 hk5' hmp5
          rcases hq with ⟨n, X, hn, rfl, h6⟩ | ⟨hn, rfl, h6⟩
          · have hXs := nameC_size hn
            have hns : n.size ≤ 65536 := by
              have e1 := (nameC_some hn).1
              have := congrArg List.length e1
              rw [List.length_append, ← Lib.size_eq, ← Lib.size_eq, ← Lib.size_eq] at this
              omega
            have hdec : Hid (decl (xmlnsS ++ x2.data.toList) = (quoted X.data.toList).map fun p => (n.data.toList, spaceOf p.1, p.2)) := Lib.hid (by
              rw [hy2.out, (nameC_some hn).1]
              exact decl_named (nameC_some hn).2 (nameC_head hn))
            clear hn hy2
            have hkey : keyOf Tryz.prog 9 (.string n) = some (.string n.data.toList) := WideMaps.keyOf_string_mk Tryz.underlying9 (by first | decide | (unfold maxLen; omega))
            obtain ⟨D, hD⟩ : ∃ D, DE own = D := ⟨_, rfl⟩
            have hown : w6.ownsMap Tryz.prog 9 (plainElem (H := Unit) Tryz.prog 22) m own.length D := hD ▸ hmp6.out
            have hhas : has D (.string n.data.toList) = (look n.data.toList own).isSome := by rw [← hD]; exact DE_has _ _
            obtain ⟨K, hK⟩ : ∃ K, (look n.data.toList own).isSome = K := ⟨_, rfl⟩
            rw [hK] at hhas
            have hK' := Lib.hid hK
            have hD' := Lib.hid hD
            clear hK hD
            cases K with
            | true =>
              have hfin := Lib.hid (show DecP w0 b r l ps gone w6 from .inr ⟨dec_twice hAD.out hdec.out hK'.out, rfl, h6.bel⟩)
              have cG := giveUp_any w6
              unfold gone at hfin cG
              clear hAD hdec hK' h6 hD' hmp6
              go_wp2_with (at_lookup; refine wpList_lookup_own_ok_int _ rfl _ _ 155 rfl 9 22 .i64 str_keyed Tryz.underlying155 Tryz.underlying22 (hz _) m _ D rfl hown _ _ rfl hkey ?_)
              intro c hat hwc
              clear hat hwc hown
              go_wp2_with fail
              go_at_call 72
              with_reducible refine cG.mono ?_
              rintro e w7 ⟨rfl, rfl⟩
              go_wp2
              exact ⟨rfl, hfin.out, hk6'.out⟩
            | false =>
              have cN := need_any h6 ⟨#[61]⟩
              clear h6
              go_wp2_with (at_lookup; refine wpList_lookup_own_ok_int _ rfl _ _ 155 rfl 9 22 .i64 str_keyed Tryz.underlying155 Tryz.underlying22 (hz _) m _ D rfl hown _ _ rfl hkey ?_)
              intro c hat hwc
              clear hat hwc hown
              go_wp2_with fail
              go_at_call 99
              with_reducible refine cN.mono ?_
              rintro e w7 ⟨hq, hk7⟩
              clear cN
              have hmp7 := Lib.hid (hmp6.out.kept hk7)
              have hk7' := Lib.hid (hk6'.out.trans hk7)
              clear hk7 hk6' hmp6
              rcases hq with ⟨X2, hy, rfl, h7⟩ | ⟨hn, rfl, h7⟩
              · have hsX := pre_size hy
                have hsX' : X.size = 1 + X2.size := hsX
                have hyX : Hid (X.data.toList = 61 :: X2.data.toList) := Lib.hid hy
                have cQ := quoted_any hG h7 (by omega)
                clear hy h7 hsX
                go_wp2_with fail
                go_at_call 118
                with_reducible refine cQ.mono ?_
                rintro e w8 ⟨hq, hk8⟩
                clear cQ
                have hmp8 := Lib.hid (hmp7.out.kept hk8)
                have hk8' := Lib.hid (hk7'.out.trans hk8)
                clear hk8 hk7' hmp7
                rcases hq with ⟨v, X3, hqv, rfl, h8⟩ | ⟨hqn, rfl, h8⟩
                · have hq3 := quoted_size hqv
                  have hA9 : Hid (declsA r.data.toList [] = declsA X3.data.toList ((n.data.toList, spaceOf v.data.toList) :: own)) := Lib.hid (dec_one hAD.out hdec.out hK'.out (by rw [hyX.out]; exact hqv))
                  have cS := spaceOf_any v w8
                  have hwf := spaceOf_wf v.data.toList
                  have hDp : Hid (D.put (.string n.data.toList) (.lit (.int .i64 (spaceOf v.data.toList))) = DE ((n.data.toList, spaceOf v.data.toList) :: own)) := Lib.hid (by rw [← hD'.out]; rfl)
                  have hown8 : w8.ownsMap Tryz.prog 9 (plainElem (H := Unit) Tryz.prog 22) m own.length D := hD'.out ▸ hmp8.out
                  have h8' := Lib.hid (fun (W : World) (hg : w8.grownBy W (some m)) => h8.map_grown hg hmw0 hmp8.out.isMap)
                  obtain ⟨sp, hsp⟩ : ∃ sp, spaceOf v.data.toList = sp := ⟨_, rfl⟩
                  rw [hsp] at cS hwf hDp hA9
                  clear hqv h8 hAD hdec hK' hD' hyX hsp
                  go_wp2_with fail
                  go_at_call 117
                  with_reducible refine cS.mono ?_
                  rintro e w9 ⟨rfl, rfl⟩
                  clear cS
                  have hval : plainElem (H := Unit) Tryz.prog 22 (.int .i64 sp) = some (.lit (.int .i64 sp), []) := plainElem_int Tryz.underlying22 hwf
                  go_wp2_with (at_mapUpdate; refine wpList_mapUpdate_own _ rfl _ _ _ 155 rfl 9 22 str_keyed Tryz.underlying155 _ m own.length D rfl hown8 (by unfold maxLen; omega) _ _ (.string n.data.toList) rfl rfl hkey (.lit (.int .i64 sp)) [] hval ?_)
                  intro w10 hown10 hg10
                  have h10 := h8'.out w10 hg10
                  have hrel2 := Lib.hid (show ∃ (x : ByteArray) (own : Env), Bef w0 b x l ps w10 ∧ MapAt w10 m own ∧ KeptR w w10 ∧ Hid (declsA r.data.toList [] = declsA x.data.toList own) ∧ own.length + x.size ≤ r.size from
                    ⟨X3, (n.data.toList, sp) :: own, h10, by rw [hDp.out] at hown10; exact hown10, hk8'.out.map_grown hg10 hmw, hA9, by rw [List.length_cons]; omega⟩)
                  have hms := Lib.hid (show restSize b w10 < restSize b wr by rw [h10.size, hrs]; omega)
                  clear hown10 hg10 h10 h8' hown8 hmp8 hk8' hA9 hDp
                  go_wp2
                  go_roundw
                  case rel => exact hrel2.out
                  case measure => exact hms.out
                · have hfin := Lib.hid (show DecP w0 b r l ps gone w8 from .inr ⟨dec_noval hAD.out hdec.out (by rw [hyX.out]; exact hqn), rfl, h8⟩)
                  clear hqn h8 hAD hdec hK' hmp8 hD' hyX
                  unfold gone at hfin ⊢
                  go_wp2
                  exact ⟨rfl, hfin.out, hk8'.out⟩
              · have hfin := Lib.hid (show DecP w0 b r l ps gone w7 from .inr ⟨dec_noval hAD.out hdec.out (quoted_no (head_not hn)), rfl, h7⟩)
                clear hn h7 hAD hdec hK' hmp7
                unfold gone at hfin ⊢
                go_wp2
                exact ⟨rfl, hfin.out, hk7'.out⟩
          · have hfin := Lib.hid (show DecP w0 b r l ps gone w6 from .inr ⟨dec_noname hAD.out (by rw [hy2.out]; exact decl_noname hn), rfl, h6⟩)
            clear hn h6 hAD hy2
            unfold gone at hfin ⊢
            go_wp2
            exact ⟨rfl, hfin.out, hk6'.out⟩
        · have hdec : Hid (decl (xmlnsS ++ x2.data.toList) = (quoted x2.data.toList).map fun p => (([] : Row), spaceOf p.1, p.2)) := Lib.hid (decl_plain (head_not hn))
          clear hn
          have h6 := h5
          have hmp6 := hmp5
          have hk6' := hk5'
          clear h5 hmp5 hk5'
          have hkey : keyOf Tryz.prog 9 (.string ⟨#[]⟩) = some (.string []) := WideMaps.keyOf_string_mk Tryz.underlying9 (by first | decide | (unfold maxLen; omega))
          obtain ⟨D, hD⟩ : ∃ D, DE own = D := ⟨_, rfl⟩
          have hown : w5.ownsMap Tryz.prog 9 (plainElem (H := Unit) Tryz.prog 22) m own.length D := hD ▸ hmp6.out
          have hhas : has D (.string []) = (look [] own).isSome := by rw [← hD]; exact DE_has _ _
          obtain ⟨K, hK⟩ : ∃ K, (look [] own).isSome = K := ⟨_, rfl⟩
          rw [hK] at hhas
          have hK' := Lib.hid hK
          have hD' := Lib.hid hD
          clear hK hD
          cases K with
          | true =>
            have hfin := Lib.hid (show DecP w0 b r l ps gone w5 from .inr ⟨dec_twice hAD.out hdec.out hK'.out, rfl, h6.bel⟩)
            have cG := giveUp_any w5
            unfold gone at hfin cG
            clear hAD hdec hK' h6 hD' hmp6
            go_wp2_with (at_lookup; refine wpList_lookup_own_ok_int _ rfl _ _ 155 rfl 9 22 .i64 str_keyed Tryz.underlying155 Tryz.underlying22 (hz _) m _ D rfl hown _ _ rfl hkey ?_)
            intro c hat hwc
            clear hat hwc hown
            go_wp2_with fail
            go_at_call 72
            with_reducible refine cG.mono ?_
            rintro e w7 ⟨rfl, rfl⟩
            go_wp2
            exact ⟨rfl, hfin.out, hk6'.out⟩
          | false =>
            have cN := need_any h6 ⟨#[61]⟩
            clear h6
            go_wp2_with (at_lookup; refine wpList_lookup_own_ok_int _ rfl _ _ 155 rfl 9 22 .i64 str_keyed Tryz.underlying155 Tryz.underlying22 (hz _) m _ D rfl hown _ _ rfl hkey ?_)
            intro c hat hwc
            clear hat hwc hown
            go_wp2_with fail
            go_at_call 99
            with_reducible refine cN.mono ?_
            rintro e w7 ⟨hq, hk7⟩
            clear cN
            have hmp7 := Lib.hid (hmp6.out.kept hk7)
            have hk7' := Lib.hid (hk6'.out.trans hk7)
            clear hk7 hk6' hmp6
            rcases hq with ⟨X2, hy, rfl, h7⟩ | ⟨hn, rfl, h7⟩
            · have hsX := pre_size hy
              have hsX' : x2.size = 1 + X2.size := hsX
              have hyX : Hid (x2.data.toList = 61 :: X2.data.toList) := Lib.hid hy
              have cQ := quoted_any hG h7 (by omega)
              clear hy h7 hsX
              go_wp2_with fail
              go_at_call 118
              with_reducible refine cQ.mono ?_
              rintro e w8 ⟨hq, hk8⟩
              clear cQ
              have hmp8 := Lib.hid (hmp7.out.kept hk8)
              have hk8' := Lib.hid (hk7'.out.trans hk8)
              clear hk8 hk7' hmp7
              rcases hq with ⟨v, X3, hqv, rfl, h8⟩ | ⟨hqn, rfl, h8⟩
              · have hq3 := quoted_size hqv
                have hA9 : Hid (declsA r.data.toList [] = declsA X3.data.toList (([], spaceOf v.data.toList) :: own)) := Lib.hid (dec_one hAD.out hdec.out hK'.out (by rw [hyX.out]; exact hqv))
                have cS := spaceOf_any v w8
                have hwf := spaceOf_wf v.data.toList
                have hDp : Hid (D.put (.string []) (.lit (.int .i64 (spaceOf v.data.toList))) = DE (([], spaceOf v.data.toList) :: own)) := Lib.hid (by rw [← hD'.out]; rfl)
                have hown8 : w8.ownsMap Tryz.prog 9 (plainElem (H := Unit) Tryz.prog 22) m own.length D := hD'.out ▸ hmp8.out
                have h8' := Lib.hid (fun (W : World) (hg : w8.grownBy W (some m)) => h8.map_grown hg hmw0 hmp8.out.isMap)
                obtain ⟨sp, hsp⟩ : ∃ sp, spaceOf v.data.toList = sp := ⟨_, rfl⟩
                rw [hsp] at cS hwf hDp hA9
                clear hqv h8 hAD hdec hK' hD' hyX hsp
                go_wp2_with fail
                go_at_call 117
                with_reducible refine cS.mono ?_
                rintro e w9 ⟨rfl, rfl⟩
                clear cS
                have hval : plainElem (H := Unit) Tryz.prog 22 (.int .i64 sp) = some (.lit (.int .i64 sp), []) := plainElem_int Tryz.underlying22 hwf
                go_wp2_with (at_mapUpdate; refine wpList_mapUpdate_own _ rfl _ _ _ 155 rfl 9 22 str_keyed Tryz.underlying155 _ m own.length D rfl hown8 (by unfold maxLen; omega) _ _ (.string []) rfl rfl hkey (.lit (.int .i64 sp)) [] hval ?_)
                intro w10 hown10 hg10
                have h10 := h8'.out w10 hg10
                have hrel2 := Lib.hid (show ∃ (x : ByteArray) (own : Env), Bef w0 b x l ps w10 ∧ MapAt w10 m own ∧ KeptR w w10 ∧ Hid (declsA r.data.toList [] = declsA x.data.toList own) ∧ own.length + x.size ≤ r.size from
                  ⟨X3, ([], sp) :: own, h10, by rw [hDp.out] at hown10; exact hown10, hk8'.out.map_grown hg10 hmw, hA9, by rw [List.length_cons]; omega⟩)
                have hms := Lib.hid (show restSize b w10 < restSize b wr by rw [h10.size, hrs]; omega)
                clear hown10 hg10 h10 h8' hown8 hmp8 hk8' hA9 hDp
                go_wp2
                go_roundw
                case rel => exact hrel2.out
                case measure => exact hms.out
              · have hfin := Lib.hid (show DecP w0 b r l ps gone w8 from .inr ⟨dec_noval hAD.out hdec.out (by rw [hyX.out]; exact hqn), rfl, h8⟩)
                clear hqn h8 hAD hdec hK' hmp8 hD' hyX
                unfold gone at hfin ⊢
                go_wp2
                exact ⟨rfl, hfin.out, hk8'.out⟩
            · have hfin := Lib.hid (show DecP w0 b r l ps gone w7 from .inr ⟨dec_noval hAD.out hdec.out (quoted_no (head_not hn)), rfl, h7⟩)
              clear hn h7 hAD hdec hK' hmp7
              unfold gone at hfin ⊢
              go_wp2
              exact ⟨rfl, hfin.out, hk7'.out⟩
      · have hfin := Lib.hid (show DecP w0 b r l ps (.returned (.map (some m))) w4 from .inl ⟨m, own, x1, h4, hmp4.out, rfl, by omega, by
          rw [hA.out, hx1'.out]
          have hn' : xmlnsS.isPrefixOf x1.data.toList = false := hn
          rw [hx1'.out] at hn'
          exact declsA_other hn'⟩)
        clear hn h4 hA hmp4
        go_wp2
        go_ret
        exact ⟨hfin.out, hk4'.out⟩
    · have hd' : decide (x1.size < x.size) = false := decide_eq_false hd
      rw [hd']
      obtain ⟨e1, e2⟩ := dw_same hx1 hd
      subst e1
      have hfin := Lib.hid (show DecP w0 b r l ps (.returned (.map (some m))) w3 from .inl ⟨m, own, x1, h3, hmp3.out, rfl, by omega, .inl (by rw [hA.out, declsA_stop e2])⟩)
      clear hx1 h3 e2 hd' hd hA hmp3
      go_wp2
      go_ret
      exact ⟨hfin.out, hk3'.out⟩
end Go.Proofs.YtmmpojhjpghdlaaGreatDoor.Xm
