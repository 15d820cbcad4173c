import Derived.Test.YtjeagjleolmibaaGreatDoorMg10
import Derived.Deep.AppendLies
import Derived.Maps.OwnSet
import Derived.Maps.Views
import Derived.Deep.LoopGhost

/-
  WALKS OF THE PROGRAM's READER OF LAYER xml: put.
-/
set_option linter.unusedVariables false
namespace Go.Proofs.YtjeagjleolmibaaGreatDoor.Xm
open Go.Lib Go.RowKit

/-- one piece more, and where the row then lies -/
theorem append_piece_at {w0 : World} {ops : Array Oper} {rest : List Oper} {o : Oper} {a : Act} {Q : Exit → Act → World → Prop} (p : Pc) (a1 a2 : ByteArray) (k1 k2 : Int) (h1 : sv p.name = .string a1) (h2 : sv p.text = .string a2) (hk1 : p.kind = k1) (hk2 : p.space = k2)
    (hgd : o.guard = none) (s xo : Operand) (ho : o.op = .call { callee := .builtin .append, args := #[s, xo], argTypes := #[22, 22] }) (base : Nat) (v : Value) (ps : List Pc) (g : Nat) (hgz : g = w0.heap.size) (hs : a.eval s = v) (hx : a.eval xo = .slice (some ⟨g, 0, none⟩) 1 1)
    (hown : PsOwn base v ps w0) (hl : ps.length ≤ 1099511627776) (hbase : base ≤ w0.heap.size)
    (h : ∀ g' cap w', PsOwn base (.slice (some ⟨g', 0, none⟩) (ps.length + 1) cap) (ps ++ [p]) w' → (w0.alloc (.cells #[.int .i64 k1, .int .i64 k2, .string a1, .string a2] 37)).grownBy w' v.ownBlock → (v.ownBlock = some g' ∨ g' = w0.heap.size + 1) → wpList Tryz.prog ops Q rest (a.put o.dst (.slice (some ⟨g', 0, none⟩) (ps.length + 1) cap)) w') :
    wpList Tryz.prog ops Q (o :: rest) a (w0.alloc (.cells #[.int .i64 k1, .int .i64 k2, .string a1, .string a2] 37)) := by
  obtain ⟨i0, hi, hz0, hz1, hz2⟩ := info_parts infoPc
  subst hgz
  subst hk1
  subst hk2
  have hrow : w0.ownsRow base 37 4 v ps.length (pcells ps) := hown
  refine wpList_append_lies _ hgd s xo 22 ho base 37 i0 zeroPc 4 48 Tryz.underlying22 hi hz0 hz1 hz2 rfl (by decide) v ps.length (pcells ps) hs (World.ownsRow.alloc hrow _) ⟨w0.heap.size, 0, none⟩ 1 1 [.int .i64 p.kind, .int .i64 p.space, .string a1, .string a2] hx rfl (fun j u hj => ?_) (fun u hu => ?_) (by decide) (by unfold maxLen; omega) (by omega) (by simp; omega) (w0.heap.size + 1) (by simp)
    (fun g' cap w' h5 h6 h7 _ => h g' cap w' ?_ h6 h7)
  · match j, hj with
    | 0, hj => simp at hj; subst hj; simp [Addr.add]
    | 1, hj => simp at hj; subst hj; simp [Addr.add]
    | 2, hj => simp at hj; subst hj; simp [Addr.add]
    | 3, hj => simp at hj; subst hj; simp [Addr.add]
  · simp at hu
    rcases hu with rfl | rfl | rfl | rfl <;> rfl
  · unfold PsOwn
    rw [pcells_snoc, List.length_append, h1, h2]
    exact h5
/-- the same, as a step of a region that draws its order -/
theorem step_piece {w0 : World} {ops : Array Oper} {o : Oper} {a : Act} {K : Act → World → Prop} {Q : Exit → Act → World → Prop} {E : Prop} (p : Pc) (a1 a2 : ByteArray) (k1 k2 : Int) (h1 : sv p.name = .string a1) (h2 : sv p.text = .string a2) (hk1 : p.kind = k1) (hk2 : p.space = k2)
    (hgd : o.guard = none) (s xo : Operand) (ho : o.op = .call { callee := .builtin .append, args := #[s, xo], argTypes := #[22, 22] }) (base : Nat) (v : Value) (ps : List Pc) (N : Nat) (hN : ps.length = N) (hs : a.eval s = v) (hx : a.eval xo = .slice (some ⟨w0.heap.size, 0, none⟩) 1 1)
    (hown : PsOwn base v ps w0) (hl : N ≤ 1099511627776) (hbase : base ≤ w0.heap.size)
    (h : ∀ g' cap w', PsOwn base (.slice (some ⟨g', 0, none⟩) (N + 1) cap) (ps ++ [p]) w' → (w0.alloc (.cells #[.int .i64 k1, .int .i64 k2, .string a1, .string a2] 37)).grownBy w' v.ownBlock → (v.ownBlock = some g' ∨ g' = w0.heap.size + 1) → K (a.put o.dst (.slice (some ⟨g', 0, none⟩) (N + 1) cap)) w') :
    if Region.wanted o (yielded ops a.tmps) = true then Oper.wp Tryz.prog o a (w0.alloc (.cells #[.int .i64 k1, .int .i64 k2, .string a1, .string a2] 37)) K Q else E := by
  obtain ⟨i0, hi, hz0, hz1, hz2⟩ := info_parts infoPc
  subst hk1
  subst hk2
  subst hN
  have hrow : w0.ownsRow base 37 4 v ps.length (pcells ps) := hown
  refine step_append_lies (ops := ops) (E := E) _ hgd s xo 22 ho base 37 i0 zeroPc 4 48 Tryz.underlying22 hi hz0 hz1 hz2 rfl (by decide) v ps.length (pcells ps) hs (World.ownsRow.alloc hrow _) ⟨w0.heap.size, 0, none⟩ 1 1 [.int .i64 p.kind, .int .i64 p.space, .string a1, .string a2] hx rfl (fun j u hj => ?_) (fun u hu => ?_) (by decide) (by unfold maxLen; omega) (by omega) (by simp; omega) (w0.heap.size + 1) (by simp)
    (fun g' cap w' h5 h6 h7 _ => h g' cap w' ?_ h6 h7)
  · match j, hj with
    | 0, hj => simp at hj; subst hj; simp [Addr.add]
    | 1, hj => simp at hj; subst hj; simp [Addr.add]
    | 2, hj => simp at hj; subst hj; simp [Addr.add]
    | 3, hj => simp at hj; subst hj; simp [Addr.add]
  · simp at hu
    rcases hu with rfl | rfl | rfl | rfl <;> rfl
  · unfold PsOwn
    rw [pcells_snoc, List.length_append, h1, h2]
    exact h5
/-- the reader where its pieces grew -/
theorem put_tail {B b : Nat} {r : ByteArray} {q q' : Value} {ps ps' : List Pc} {w5 w6 : World} {cs : Array Value} (h : RdV B b r (.pointer none) (.slice none 0 0) [] q ps w5) (hB5 : B ≤ w5.heap.size) (hg : (w5.alloc (.cells cs 37)).grownBy w6 q.ownBlock) (hp : PsOwn B q' ps' w6) (hl : ∀ g, q'.ownBlock = some g → q.ownBlock = some g ∨ w5.heap.size ≤ g) :
    RdV B b r (.pointer none) (.slice none 0 0) [] q' ps' (w6.setCell ⟨b, 3, none⟩ q') ∧ Below B w5 (w6.setCell ⟨b, 3, none⟩ q') ∧ KeptW q w5 q' (w6.setCell ⟨b, 3, none⟩ q') ∧ (∀ (i : Nat) (o : Obj), w5.heap[i]? = some o → q.ownBlock ≠ some i → i ≠ b → (w6.setCell ⟨b, 3, none⟩ q').heap[i]? = some o) ∧ w6.cell? ⟨b, 3, none⟩ = some q ∧ w6.frozen? ⟨b, 3, none⟩ = false := by
  have hk : ∀ (i : Nat) (o : Obj), w5.heap[i]? = some o → q.ownBlock ≠ some i → w6.heap[i]? = some o := fun i o hi hne => by
    have hlt := (Array.getElem?_eq_some_iff.1 hi).1
    rw [hg.block i (by simp; omega) (fun e => hne e.symm)]
    exact (((Below.refl w5.heap.size w5).alloc (Nat.le_refl _) _).block i hlt).trans hi
  have hqb : q.ownBlock ≠ some b := fun e => by
    obtain ⟨cs', fr, hx⟩ := rowP_type h.pcs e
    exact types_ne.2.2 (cells_type hx h.at0)
  have hb6 := hk b _ h.at0 hqb
  have hbel : Below B w5 w6 := ((Below.refl B w5).alloc hB5 _).grown hg (by simp; omega) (fun g hq => (World.ownsRow.lt h.pcs g hq).1)
  have h4 : ∀ (i : Nat) (o : Obj), w5.heap[i]? = some o → q.ownBlock ≠ some i → i ≠ b → (w6.setCell ⟨b, 3, none⟩ q').heap[i]? = some o := fun i o hi hne hib => by
    rw [Below.heap_setCell w6 ⟨b, 3, none⟩ q' i hib]
    exact hk i o hi hne
  have hbel2 := hbel.setCell (p := ⟨b, 3, none⟩) h.hB q'
  refine ⟨RdV.set 3 hb6 h.hB rfl (.inl rfl) (World.ownsRowF_nil _ _ _ _) (fun _ => rfl) hp, hbel2, ⟨fun i o hi hf hne => h4 i o hi hne (fun e => ?_), hl, ?_⟩, h4, by rw [Lib.cell_of_heap hb6]; rfl, Lib.frozen_of_heap hb6 3⟩
  · subst e
    rw [h.at0] at hi
    injection hi with hi
    exact hf ⟨_, _, _, hi.symm, .inr rfl⟩
  · have h1 := hg.size
    have h2 : (w6.setCell ⟨b, 3, none⟩ q').heap.size = w6.heap.size := by simp [World.setCell]
    rw [h2]
    simp at h1
    omega

set_option maxHeartbeats 2000000 in
set_option maxRecDepth 100000 in
theorem put_any {w0 w : World} {b : Nat} {r : ByteArray} {l : Row} {ps : List Pc} {q : Value} (h : Bef w0 b r l (ps, q) w) (hl : l.length ≤ 1048576) (hps : ps.length ≤ 1048576) (k sp : Int) (n t : ByteArray) :
    Calls Tryz.prog 61 #[.pointer (some ⟨b, 0, none⟩), .agg #[.int .i64 k, .int .i64 sp, .string n, .string t]] w fun e w' => e = .returned (.tuple #[]) ∧ ∃ q', Bef w0 b r [] (flushed ps l ++ [⟨k, sp, n.data.toList, t.data.toList⟩], q') w' ∧ KeptW q w q' w' := by
  obtain ⟨F, hF⟩ : ∃ F, flushed ps l ++ [⟨k, sp, n.data.toList, t.data.toList⟩] = F := ⟨_, rfl⟩
  rw [hF]
  unfold flushed at hF
  obtain ⟨Z, hZ⟩ : ∃ Z, w.heap.size = Z := ⟨_, rfl⟩
  have hb := h.bel
  obtain ⟨p, v, hv⟩ := h.rd
  have hv : RdV w0.heap.size b r p v l q ps w := hv
  have hal : Below w.heap.size w (w.alloc (.cells #[.int .i64 k, .int .i64 sp, .string n, .string t] 37)) := (Below.refl _ _).alloc (Nat.le_refl _) _
  have hv1 := hv.kept hal
  have hb1 : Below w0.heap.size w0 (w.alloc (.cells #[.int .i64 k, .int .i64 sp, .string n, .string t] 37)) := hb.alloc hb.size _
  have hk1 := KeptR.of_below hal
  have hz1 : (w.alloc (.cells #[.int .i64 k, .int .i64 sp, .string n, .string t] 37)).heap[Z]? = some (.cells #[.int .i64 k, .int .i64 sp, .string n, .string t] 37 (0, 0)) := by rw [← hZ]; exact heap_alloc_new w _
  have hql : ∀ g, q.ownBlock = some g → g < Z := fun g hg => by rw [← hZ]; exact (World.ownsRow.lt hv.pcs g hg).2
  have cS := rdString_any hv1
  obtain ⟨w1, hw1⟩ : ∃ w1, w.alloc (.cells #[.int .i64 k, .int .i64 sp, .string n, .string t] 37) = w1 := ⟨_, rfl⟩
  rw [hw1] at cS hz1 hk1 hb1
  clear hal hv1 hv
  go_enter Tryz.func61, Tryz.ntmps61
  go_wp2_with fail
  go_at_call 25
  refine cS.mono ?_
  rintro e w3 ⟨rfl, hv3, hb3, hk3⟩
  have cR := rdReset_any hv3
  go_wp2_with fail
  go_at_call 80
  refine cR.mono ?_
  rintro e w4 ⟨rfl, hv4, hb4, hk4⟩
  have hz4 := hk4.2 _ _ (hk3.2 _ _ hz1 (by rintro ⟨cs, ty, fr, e, he⟩; injection e with _ e2 _; subst e2; revert he; decide)) (by rintro ⟨cs, ty, fr, e, he⟩; injection e with _ e2 _; subst e2; revert he; decide)
  have hb4' : Below w0.heap.size w0 w4 := (hb1.trans hb3).trans hb4
  have hk4' : KeptR w w4 := hk1.trans (hk3.trans hk4)
  clear hb4 hk4 hb3 hk3 hv3 hb1 hk1 hz1 hw1 cS cR
  have hZ4 : Z < w4.heap.size := (Array.getElem?_eq_some_iff.1 hz4).1
  have hls : (⟨l.toArray⟩ : ByteArray).data.toList = l := by simp
  have cI := isBlank_any ⟨l.toArray⟩ w4 (by rw [Lib.size_eq, hls]; omega)
  rw [hls] at cI
  obtain ⟨K, hK⟩ : ∃ K, blanks l = K := ⟨_, rfl⟩
  rw [hK] at cI hF
  cases K with
  | true =>
    rw [if_pos rfl] at hF
    have hF' := Lib.hid hF
    clear hF
    go_wp2_with fail
    go_at_call 33
    refine cI.mono ?_
    rintro e w5 ⟨rfl, hb5⟩
    have hz5 := (hb5.block Z hZ4).trans hz4
    have hv5 := hv4.kept hb5
    have hb5' : Below w0.heap.size w0 w5 := hb4'.trans (hb5.mono hb4'.size)
    have hk5' : KeptW q w q w5 := (hk4'.trans (KeptR.of_below hb5)).W
    have hnz : q.ownBlock ≠ some Z := fun e => Nat.lt_irrefl _ (hql Z e)
    have hvd := hv5.kept (Below.drew (Below.refl _ _))
    have hzd : w5.drew.heap[Z]? = some (.cells #[.int .i64 k, .int .i64 sp, .string n, .string t] 37 (0, 0)) := hz5
    have hbd : Below w0.heap.size w0 w5.drew := hb5'.trans ((Below.drew (Below.refl _ _)).mono hb5'.size)
    have hkd0 : KeptR w5 w5.drew := KeptR.of_below (Below.drew (Below.refl _ _))
    obtain ⟨A, c, hqf⟩ := hvd.form.2
    obtain ⟨N, hN⟩ : ∃ N, (ps).length = N := ⟨_, rfl⟩
    rw [hN] at hqf
    have hqf : q = .slice A N c := hqf
    subst hqf
    have hkd : KeptW (Value.slice A N c) w (.slice A N c) w5.drew := hk5'.trans hkd0.W
    have hSall : Hid (∀ V, Below w5.drew.heap.size w5.drew V → V.cell? ⟨b, 3, none⟩ = some (.slice A N c) ∧ V.cell? ⟨Z, 0, none⟩ = some (.int .i64 k) ∧ V.cell? ⟨Z, 1, none⟩ = some (.int .i64 sp) ∧ V.cell? ⟨Z, 2, none⟩ = some (.string n) ∧ V.cell? ⟨Z, 3, none⟩ = some (.string t)) := Lib.hid fun V hV => by
      have x := (hvd.kept hV).cell.2.2.2
      have y := (hV.block Z (Array.getElem?_eq_some_iff.1 hzd).1).trans hzd
      refine ⟨x, ?_, ?_, ?_, ?_⟩ <;> (rw [Lib.cell_of_heap y]; rfl)
    have hS6 : Hid (∀ g cap w6, PsOwn w0.heap.size (.slice (some ⟨g, 0, none⟩) (N + 1) cap) (ps ++ [⟨k, sp, n.data.toList, t.data.toList⟩]) w6 → (w5.drew.alloc (.cells #[.int .i64 k, .int .i64 sp, .string n, .string t] 37)).grownBy w6 (Value.slice A N c).ownBlock → ((Value.slice A N c).ownBlock = some g ∨ g = w5.drew.heap.size + 1) →
        (w6.cell? ⟨b, 3, none⟩ = some (.slice A N c) ∧ w6.cell? ⟨Z, 0, none⟩ = some (.int .i64 k) ∧ w6.cell? ⟨Z, 1, none⟩ = some (.int .i64 sp) ∧ w6.cell? ⟨Z, 2, none⟩ = some (.string n) ∧ w6.cell? ⟨Z, 3, none⟩ = some (.string t)) ∧ w6.frozen? ⟨b, 3, none⟩ = false ∧
        Bef w0 b r [] (F, .slice (some ⟨g, 0, none⟩) (N + 1) cap) (w6.setCell ⟨b, 3, none⟩ (.slice (some ⟨g, 0, none⟩) (N + 1) cap)) ∧ KeptW (Value.slice A N c) w (.slice (some ⟨g, 0, none⟩) (N + 1) cap) (w6.setCell ⟨b, 3, none⟩ (.slice (some ⟨g, 0, none⟩) (N + 1) cap))) := Lib.hid fun g cap w6 hp hg hlies => by
      obtain ⟨t1, t2, t3, _, t5, t6⟩ := put_tail hvd hbd.size hg hp (fun g2 he => by
        have he : g = g2 := by simpa [Value.ownBlock] using he
        subst he
        exact hlies.imp id (fun x => by omega))
      rw [hF'.out] at t1
      have y : w6.heap[Z]? = some (.cells #[.int .i64 k, .int .i64 sp, .string n, .string t] 37 (0, 0)) := by
        rw [hg.block Z (by have hlt : Z < w5.heap.size := (Array.getElem?_eq_some_iff.1 hz5).1; simp; omega) (fun e => hnz e.symm)]
        exact (((Below.refl w5.drew.heap.size w5.drew).alloc (Nat.le_refl _) _).block Z (Array.getElem?_eq_some_iff.1 hzd).1).trans hzd
      refine ⟨⟨t5, ?_, ?_, ?_, ?_⟩, t6, ⟨hbd.trans t2, _, _, t1⟩, hkd.trans t3⟩ <;> (rw [Lib.cell_of_heap y]; rfl)
    have hpo : Hid (PsOwn w0.heap.size (.slice A N c) (ps) w5.drew) := Lib.hid hvd.pcs
    have hBd := hbd.size
    have hn' : sv n.data.toList = .string n := sv_data n
    have ht' : sv t.data.toList = .string t := sv_data t
    have hNl : N ≤ 1099511627776 := by rw [← hN]; first | omega | (simp; omega)
    have hcells := hSall.out w5.drew (Below.refl _ _)
    obtain ⟨x0, x1, x2, x3, x4⟩ := hcells
    clear hvd hzd hbd hkd hv5 hz5 hb5' hk5' hb5 hz4 hv4 hb4' hk4' hb h hnz hql hF'
    go_wp2_with fail
    have hcellsA := hSall.out (w5.drew.alloc (.cells #[.int .i64 k, .int .i64 sp, .string n, .string t] 37)) ((Below.refl _ _).alloc (Nat.le_refl _) _)
    have hcellsB : (w5.alloc (.cells #[.int .i64 k, .int .i64 sp, .string n, .string t] 37)).cell? ⟨b, 3, none⟩ = some (.slice A N c) ∧ (w5.alloc (.cells #[.int .i64 k, .int .i64 sp, .string n, .string t] 37)).cell? ⟨Z, 0, none⟩ = some (.int .i64 k) ∧ (w5.alloc (.cells #[.int .i64 k, .int .i64 sp, .string n, .string t] 37)).cell? ⟨Z, 1, none⟩ = some (.int .i64 sp) ∧ (w5.alloc (.cells #[.int .i64 k, .int .i64 sp, .string n, .string t] 37)).cell? ⟨Z, 2, none⟩ = some (.string n) ∧ (w5.alloc (.cells #[.int .i64 k, .int .i64 sp, .string n, .string t] 37)).cell? ⟨Z, 3, none⟩ = some (.string t) := hcellsA
    obtain ⟨v0, v1, v2, v3, v4⟩ := hcellsB
    go_region_law (first
      | (refine step_piece (w0 := w5.drew) ⟨k, sp, n.data.toList, t.data.toList⟩ n t k sp hn' ht' rfl rfl (by rfl) _ _ (by rfl) w0.heap.size _ (ps) N hN (by rfl) (by rfl) hpo.out hNl hBd ?_; intro g cap w6 h6 hg6 hli6; have hcells6 := hS6.out g cap w6 h6 hg6 hli6; obtain ⟨⟨u0, u1, u2, u3, u4⟩, u5, u6⟩ := hcells6))
    all_goals
      have hz6 := (hS6.out _ _ _ (by assumption) (by assumption) (by assumption)).2.2
      go_wp2
      go_end0
      exact ⟨rfl, _, hz6⟩
  | false =>
    rw [if_neg (by decide)] at hF
    have hF' := Lib.hid hF
    clear hF
    go_wp2_with fail
    go_at_call 33
    refine cI.mono ?_
    rintro e w5 ⟨rfl, hb5⟩
    have hz5 := (hb5.block Z hZ4).trans hz4
    have hv5 := hv4.kept hb5
    have hb5' : Below w0.heap.size w0 w5 := hb4'.trans (hb5.mono hb4'.size)
    have hk5' : KeptW q w q w5 := (hk4'.trans (KeptR.of_below hb5)).W
    have hnz : q.ownBlock ≠ some Z := fun e => Nat.lt_irrefl _ (hql Z e)
    obtain ⟨A0, c0, hqf⟩ := hv5.form.2
    obtain ⟨N0, hN0⟩ : ∃ N0, ps.length = N0 := ⟨_, rfl⟩
    rw [hN0] at hqf
    subst hqf
    have hZ5 : Z < w5.heap.size := (Array.getElem?_eq_some_iff.1 hz5).1
    have hzb : Z ≠ b := fun e => by
      subst e
      exact types_ne.2.2 (cells_type hz5 hv5.at0)
    have e3 := hv5.cell.2.2.2
    have hT : Hid (∀ g cap w6, PsOwn w0.heap.size (.slice (some ⟨g, 0, none⟩) (N0 + 1) cap) (ps ++ [⟨3, 0, [], l⟩]) w6 → (w5.alloc (.cells #[.int .i64 3, .int .i64 0, .string ⟨#[]⟩, .string ⟨l.toArray⟩] 37)).grownBy w6 (Value.slice A0 N0 c0).ownBlock → ((Value.slice A0 N0 c0).ownBlock = some g ∨ g = w5.heap.size + 1) →
        (w6.cell? ⟨b, 3, none⟩ = some (.slice A0 N0 c0) ∧ w6.frozen? ⟨b, 3, none⟩ = false) ∧ RdV w0.heap.size b r (.pointer none) (.slice none 0 0) [] (.slice (some ⟨g, 0, none⟩) (N0 + 1) cap) (ps ++ [⟨3, 0, [], l⟩]) (w6.setCell ⟨b, 3, none⟩ (.slice (some ⟨g, 0, none⟩) (N0 + 1) cap)) ∧
        Below w0.heap.size w0 (w6.setCell ⟨b, 3, none⟩ (.slice (some ⟨g, 0, none⟩) (N0 + 1) cap)) ∧ KeptW (.slice A0 N0 c0) w (.slice (some ⟨g, 0, none⟩) (N0 + 1) cap) (w6.setCell ⟨b, 3, none⟩ (.slice (some ⟨g, 0, none⟩) (N0 + 1) cap)) ∧ (w6.setCell ⟨b, 3, none⟩ (.slice (some ⟨g, 0, none⟩) (N0 + 1) cap)).heap[Z]? = some (.cells #[.int .i64 k, .int .i64 sp, .string n, .string t] 37 (0, 0)) ∧
        (Value.slice (some ⟨g, 0, none⟩) (N0 + 1) cap).ownBlock ≠ some Z) := Lib.hid fun g cap w6 hp hg hlies => by
      obtain ⟨t1, t2, t3, t4, t5, t6⟩ := put_tail hv5 hb5'.size hg hp (fun g2 he => by
        have he : g = g2 := by simpa [Value.ownBlock] using he
        subst he
        exact hlies.imp id (fun x => by omega))
      refine ⟨⟨t5, t6⟩, t1, hb5'.trans t2, hk5'.trans t3, t4 Z _ hz5 hnz hzb, fun e => ?_⟩
      have e : g = Z := by simpa [Value.ownBlock] using e
      rcases hlies with h1 | h1
      · exact hnz (by rw [h1, e])
      · omega
    have hpo5 : Hid (PsOwn w0.heap.size (.slice A0 N0 c0) ps w5) := Lib.hid hv5.pcs
    have hB5 := hb5'.size
    have hsv : sv l = .string ⟨l.toArray⟩ := rfl
    clear hb5 hz5 hv5 hb5' hk5' hz4 hv4 hb4' hk4' hb h hnz hql hzb
    go_wp2_with (at_builtin; refine append_piece_at ⟨3, 0, [], l⟩ ⟨#[]⟩ ⟨l.toArray⟩ 3 0 rfl hsv rfl rfl rfl _ _ rfl w0.heap.size _ ps _ rfl rfl rfl hpo5.out (by omega) hB5 ?_)
    intro g cap w6 h6 hg6 hlies
    have hT6 := hT.out g cap w6 h6 hg6 hlies
    obtain ⟨⟨o1, o2⟩, hv7, hb7, hk7, hz7, hnz⟩ := hT6
    obtain ⟨w7, hw7⟩ : ∃ w7, w6.setCell ⟨b, 3, none⟩ (.slice (some ⟨g, 0, none⟩) (N0 + 1) cap) = w7 := ⟨_, rfl⟩
    rw [hw7] at hv7 hb7 hk7 hz7
    clear h6 hg6 hlies hT hpo5
    go_wp2_with fail
    obtain ⟨q7, hq7⟩ : ∃ q7, Value.slice (some ⟨g, 0, none⟩) (N0 + 1) cap = q7 := ⟨_, rfl⟩
    rw [hq7] at hv7 hnz hk7
    clear hq7
    have hvd := hv7.kept (Below.drew (Below.refl _ _))
    have hzd : w7.drew.heap[Z]? = some (.cells #[.int .i64 k, .int .i64 sp, .string n, .string t] 37 (0, 0)) := hz7
    have hbd : Below w0.heap.size w0 w7.drew := hb7.trans ((Below.drew (Below.refl _ _)).mono hb7.size)
    have hkd0 : KeptR w7 w7.drew := KeptR.of_below (Below.drew (Below.refl _ _))
    obtain ⟨A, c, hqf⟩ := hvd.form.2
    obtain ⟨N, hN⟩ : ∃ N, ((ps ++ [(⟨3, 0, [], l⟩ : Pc)])).length = N := ⟨_, rfl⟩
    rw [hN] at hqf
    have hqf : q7 = .slice A N c := hqf
    subst hqf
    have hkd : KeptW (Value.slice A0 N0 c0) w (.slice A N c) w7.drew := hk7.trans hkd0.W
    have hSall : Hid (∀ V, Below w7.drew.heap.size w7.drew V → V.cell? ⟨b, 3, none⟩ = some (.slice A N c) ∧ V.cell? ⟨Z, 0, none⟩ = some (.int .i64 k) ∧ V.cell? ⟨Z, 1, none⟩ = some (.int .i64 sp) ∧ V.cell? ⟨Z, 2, none⟩ = some (.string n) ∧ V.cell? ⟨Z, 3, none⟩ = some (.string t)) := Lib.hid fun V hV => by
      have x := (hvd.kept hV).cell.2.2.2
      have y := (hV.block Z (Array.getElem?_eq_some_iff.1 hzd).1).trans hzd
      refine ⟨x, ?_, ?_, ?_, ?_⟩ <;> (rw [Lib.cell_of_heap y]; rfl)
    have hS6 : Hid (∀ g cap w6, PsOwn w0.heap.size (.slice (some ⟨g, 0, none⟩) (N + 1) cap) ((ps ++ [(⟨3, 0, [], l⟩ : Pc)]) ++ [⟨k, sp, n.data.toList, t.data.toList⟩]) w6 → (w7.drew.alloc (.cells #[.int .i64 k, .int .i64 sp, .string n, .string t] 37)).grownBy w6 (Value.slice A N c).ownBlock → ((Value.slice A N c).ownBlock = some g ∨ g = w7.drew.heap.size + 1) →
        (w6.cell? ⟨b, 3, none⟩ = some (.slice A N c) ∧ w6.cell? ⟨Z, 0, none⟩ = some (.int .i64 k) ∧ w6.cell? ⟨Z, 1, none⟩ = some (.int .i64 sp) ∧ w6.cell? ⟨Z, 2, none⟩ = some (.string n) ∧ w6.cell? ⟨Z, 3, none⟩ = some (.string t)) ∧ w6.frozen? ⟨b, 3, none⟩ = false ∧
        Bef w0 b r [] (F, .slice (some ⟨g, 0, none⟩) (N + 1) cap) (w6.setCell ⟨b, 3, none⟩ (.slice (some ⟨g, 0, none⟩) (N + 1) cap)) ∧ KeptW (Value.slice A0 N0 c0) w (.slice (some ⟨g, 0, none⟩) (N + 1) cap) (w6.setCell ⟨b, 3, none⟩ (.slice (some ⟨g, 0, none⟩) (N + 1) cap))) := Lib.hid fun g cap w6 hp hg hlies => by
      obtain ⟨t1, t2, t3, _, t5, t6⟩ := put_tail hvd hbd.size hg hp (fun g2 he => by
        have he : g = g2 := by simpa [Value.ownBlock] using he
        subst he
        exact hlies.imp id (fun x => by omega))
      rw [hF'.out] at t1
      have y : w6.heap[Z]? = some (.cells #[.int .i64 k, .int .i64 sp, .string n, .string t] 37 (0, 0)) := by
        rw [hg.block Z (by have hlt : Z < w7.heap.size := (Array.getElem?_eq_some_iff.1 hz7).1; simp; omega) (fun e => hnz e.symm)]
        exact (((Below.refl w7.drew.heap.size w7.drew).alloc (Nat.le_refl _) _).block Z (Array.getElem?_eq_some_iff.1 hzd).1).trans hzd
      refine ⟨⟨t5, ?_, ?_, ?_, ?_⟩, t6, ⟨hbd.trans t2, _, _, t1⟩, hkd.trans t3⟩ <;> (rw [Lib.cell_of_heap y]; rfl)
    have hpo : Hid (PsOwn w0.heap.size (.slice A N c) ((ps ++ [(⟨3, 0, [], l⟩ : Pc)])) w7.drew) := Lib.hid hvd.pcs
    have hBd := hbd.size
    have hn' : sv n.data.toList = .string n := sv_data n
    have ht' : sv t.data.toList = .string t := sv_data t
    have hNl : N ≤ 1099511627776 := by rw [← hN]; first | omega | (simp; omega)
    have hcells := hSall.out w7.drew (Below.refl _ _)
    obtain ⟨x0, x1, x2, x3, x4⟩ := hcells
    clear hvd hzd hbd hkd hv7 hz7 hb7 hk7 hnz hF'
    go_wp2_with fail
    have hcellsA := hSall.out (w7.drew.alloc (.cells #[.int .i64 k, .int .i64 sp, .string n, .string t] 37)) ((Below.refl _ _).alloc (Nat.le_refl _) _)
    have hcellsB : (w7.alloc (.cells #[.int .i64 k, .int .i64 sp, .string n, .string t] 37)).cell? ⟨b, 3, none⟩ = some (.slice A N c) ∧ (w7.alloc (.cells #[.int .i64 k, .int .i64 sp, .string n, .string t] 37)).cell? ⟨Z, 0, none⟩ = some (.int .i64 k) ∧ (w7.alloc (.cells #[.int .i64 k, .int .i64 sp, .string n, .string t] 37)).cell? ⟨Z, 1, none⟩ = some (.int .i64 sp) ∧ (w7.alloc (.cells #[.int .i64 k, .int .i64 sp, .string n, .string t] 37)).cell? ⟨Z, 2, none⟩ = some (.string n) ∧ (w7.alloc (.cells #[.int .i64 k, .int .i64 sp, .string n, .string t] 37)).cell? ⟨Z, 3, none⟩ = some (.string t) := hcellsA
    obtain ⟨v0, v1, v2, v3, v4⟩ := hcellsB
    go_region_law (first
      | (refine step_piece (w0 := w7.drew) ⟨k, sp, n.data.toList, t.data.toList⟩ n t k sp hn' ht' rfl rfl (by rfl) _ _ (by rfl) w0.heap.size _ ((ps ++ [(⟨3, 0, [], l⟩ : Pc)])) N hN (by rfl) (by rfl) hpo.out hNl hBd ?_; intro g cap w6 h6 hg6 hli6; have hcells6 := hS6.out g cap w6 h6 hg6 hli6; obtain ⟨⟨u0, u1, u2, u3, u4⟩, u5, u6⟩ := hcells6))
    all_goals
      have hz6 := (hS6.out _ _ _ (by assumption) (by assumption) (by assumption)).2.2
      go_wp2
      go_end0
      exact ⟨rfl, _, hz6⟩
end Go.Proofs.YtjeagjleolmibaaGreatDoor.Xm

/-
  THE PROGRAM's SCOPES OF LAYER xml: an element's declarations as a map of the call's own, the elements around it; the walk of space.
-/
set_option linter.unusedVariables false
namespace Go.Proofs.YtjeagjleolmibaaGreatDoor.Xm
open Go.Lib Go.RowKit Go.Maps

/-- declarations as a map's datum -/
def DE : Env → DataW Unit
  | [] => .map []
  | d :: e => (DE e).put (.string d.1) (.lit (.int .i64 d.2))
theorem DE_map : ∀ (e : Env), IsMap (DE e)
  | [] => isMap_empty
  | d :: e => (DE_map e).put _ _
theorem DE_has (p : Row) : ∀ (e : Env), has (DE e) (.string p) = (look p e).isSome
  | [] => rfl
  | d :: e => by
    by_cases h : d.1 = p
    · have h1 : look p (d :: e) = some d.2 := if_pos h
      rw [h1, ← h]
      exact has_put_same (DE_map e) (show WideAt.IsKeyLit (.string d.1) from trivial) _
    · have h1 : look p (d :: e) = look p e := if_neg h
      rw [h1, ← DE_has p e]
      exact has_put_other (fun x => h (by injection x with x; exact x.symm)) _
theorem DE_at (p : Row) : ∀ (e : Env), (DE e).atKey (.string p) (.lit (.int .i64 0)) = .lit (.int .i64 ((look p e).getD 0))
  | [] => rfl
  | d :: e => by
    by_cases h : d.1 = p
    · have h1 : look p (d :: e) = some d.2 := if_pos h
      rw [h1, ← h]
      exact atKey_put_same (DE_map e) (show WideAt.IsKeyLit (.string d.1) from trivial) _ _
    · have h1 : look p (d :: e) = look p e := if_neg h
      rw [h1, ← DE_at p e]
      exact atKey_put_other (fun x => h (by injection x with x; exact x.symm)) _ _
/-- a map that holds an element's declarations -/
def MapAt (w : World) (m : Nat) (own : Env) : Prop := w.ownsMap Tryz.prog 9 (plainElem (H := Unit) Tryz.prog 35) m own.length (DE own)
theorem MapAt.keep {w w' : World} {m : Nat} {own : Env} (h : MapAt w m own) (hk : ∀ es cl, w.heap[m]? = some (.map es cl) → w'.heap[m]? = some (.map es cl)) : MapAt w' m own := by
  obtain ⟨es, clock, hb, F, hs, hD⟩ := h
  exact ⟨es, clock, hk _ _ hb, F, hs, hD⟩
theorem not_frail_map (es : Array MapEntry) (cl : Nat) : ¬ weak (.map es cl) := by rintro ⟨cs, t, fr, e, _⟩; cases e
theorem MapAt.kept {w w' : World} {m : Nat} {own : Env} (h : MapAt w m own) (hk : KeptR w w') : MapAt w' m own := h.keep fun es cl he => hk.old _ _ he (not_frail_map es cl)
/-- an element's declarations and those of the elements around it -/
def Chain (w : World) : Value → List Env → Prop
  | v, [] => v = .pointer none
  | v, own :: E => ∃ (s m : Nat) (v' : Value), v = .pointer (some ⟨s, 0, none⟩) ∧ w.heap[s]? = some (.cells #[.map (some m), v'] 94 (0, 0)) ∧ MapAt w m own ∧ Chain w v' E
theorem scope_ne : (94 : TypeId) ≠ 5 ∧ (94 : TypeId) ≠ 37 ∧ (94 : TypeId) ≠ 61 := by decide
theorem not_frail_scope (cs : Array Value) (fr : Nat × Nat) : ¬ weak (.cells cs 94 fr) := by
  rintro ⟨cs', t, fr', e, h⟩
  injection e with _ e _
  rcases h with h | h | h
  · exact scope_ne.1 (e.trans h)
  · exact scope_ne.2.1 (e.trans h)
  · exact scope_ne.2.2 (e.trans h)
theorem MapAt.keptM {w w' : World} {m : Nat} {own : Env} (h : MapAt w m own) (hk : KeptM w w') : MapAt w' m own := h.keep fun es cl he => hk _ _ he (not_frail_map es cl)
theorem Chain.kept {w w' : World} (hk : KeptM w w') : ∀ (E : List Env) (v : Value), Chain w v E → Chain w' v E
  | [], v, h => h
  | own :: E, v, ⟨s, m, v', h1, h2, h3, h4⟩ => ⟨s, m, v', h1, hk _ _ h2 (not_frail_scope _ _), h3.keptM hk, Chain.kept hk E v' h4⟩
theorem look_flat (p : Row) (own : Env) (E : List Env) : look p (own :: E).flatten = match look p own with
  | some s => some s
  | none => look p E.flatten := by
  rw [List.flatten_cons, look_append]
  cases look p own <;> rfl
theorem spOf_of (p : Row) (e : Env) : spOf p e = match look p e with
  | some s => some s
  | none => if p = [] then some 0 else none := by
  unfold spOf
  cases look p e with
  | none => by_cases h : p = [] <;> simp [h]
  | some s => by_cases h : p = [] <;> simp [h]
theorem str_keyed : Keyed Tryz.prog 9 := string_keyed Tryz.underlying9

/-- a name's space, or none -/
def SpP (p : Row) (env : Env) (e : Ending) : Prop := (∃ sp, spOf p env = some sp ∧ e = .returned (.int .i64 sp)) ∨ (spOf p env = none ∧ e = gone)
theorem SpP.found {p : Row} {env own : Env} {E : List Env} {c : Int} (h1 : look p env = look p (own :: E).flatten) (h2 : (look p own).isSome = true) (h3 : c = (look p own).getD 0) : SpP p env (.returned (.int .i64 c)) := by
  refine .inl ⟨c, ?_, rfl⟩
  obtain ⟨x, hx⟩ := Option.isSome_iff_exists.1 h2
  rw [spOf_of, h1, look_flat, hx, h3, hx]; rfl
theorem SpP.empty {p : Row} {env : Env} (h1 : look p env = none) (h2 : p = []) : SpP p env (.returned (.int .i64 0)) := by
  refine .inl ⟨0, ?_, rfl⟩
  rw [spOf_of, h1, if_pos h2]
theorem SpP.none {p : Row} {env : Env} (h1 : look p env = none) (h2 : p ≠ []) : SpP p env gone := by
  refine .inr ⟨?_, rfl⟩
  rw [spOf_of, h1, if_neg h2]
set_option maxHeartbeats 2000000 in
set_option maxRecDepth 100000 in
theorem space_any (p : ByteArray) (hp : p.size ≤ 65536) (E : List Env) (v : Value) (w : World) (h : Chain w v E) :
    Calls Tryz.prog 60 #[v, .string p] w fun e w' => SpP p.data.toList E.flatten e ∧ Below w.heap.size w w' := by
  have hz : ∀ W, (zeroValue 35).run Tryz.prog W = .ok (.int .i64 0) W := fun W => rfl
  have hkey : keyOf Tryz.prog 9 (.string p) = some (.string p.data.toList) := WideMaps.keyOf_string_mk Tryz.underlying9 (by unfold maxLen; omega)
  obtain ⟨env, henv⟩ : ∃ env, E.flatten = env := ⟨_, rfl⟩
  rw [henv]
  have henv' := Lib.hid henv
  have h' := Lib.hid h
  clear h henv
  go_enter Tryz.func60, Tryz.ntmps60
  go_wp2
  go_loopg [0] E.length (fun g s0 wr => ∃ (E' : List Env) (u0 : Value), s0 = u0 ∧ Chain w u0 E' ∧ Hid (look p.data.toList env = look p.data.toList E'.flatten) ∧ g = E'.length ∧ wr = w)
  case atStart => exact ⟨E, _, rfl, h'.out, Lib.hid (by rw [henv'.out]), rfl, rfl⟩
  case round =>
    obtain ⟨E', u0, rfl, hc, hl, hg, rfl⟩ := hrel
    clear h' henv'
    cases E' with
    | nil =>
      have hc0 : u0 = .pointer none := hc
      subst hc0
      have hl0 : look p.data.toList env = none := hl.out
      by_cases hpe : p.data.toList = []
      · have e1 : p.toList = [] := by rw [Lib.toList_data, hpe]
        have e2 : p.toList.isEmpty = true := by rw [e1]; rfl
        have hfin := Lib.hid (SpP.empty hl0 hpe)
        clear hl0 hpe hl
        go_wp2
        go_ret
        exact ⟨hfin.out, Below.refl _ _⟩
      · have e1 : ¬ p.toList = [] := by rw [Lib.toList_data]; exact hpe
        have e2 : p.toList.isEmpty = false := by
          cases hv : p.toList with
          | nil => exact absurd hv e1
          | cons y t => rfl
        have hfin := Lib.hid (SpP.none hl0 hpe)
        have cG := giveUp_any wr
        unfold gone at hfin cG
        clear hl0 hpe hl
        go_wp2_with fail
        go_at_call 45
        with_reducible refine cG.mono ?_
        rintro e w5 ⟨rfl, rfl⟩
        go_wp2
        exact ⟨rfl, hfin.out, Below.refl _ _⟩
    | cons own E2 =>
      obtain ⟨s, m, v', rfl, h2, h3, h4⟩ := hc
      have x0 : wr.cell? ⟨s, 0, none⟩ = some (.map (some m)) := by rw [Lib.cell_of_heap h2]; rfl
      have x1 : wr.cell? ⟨s, 1, none⟩ = some v' := by rw [Lib.cell_of_heap h2]; rfl
      obtain ⟨D, hD⟩ : ∃ D, DE own = D := ⟨_, rfl⟩
      have hown : wr.ownsMap Tryz.prog 9 (plainElem (H := Unit) Tryz.prog 35) m own.length D := hD ▸ h3
      have hat0 : D.atKey (.string p.data.toList) (.lit (.int .i64 0)) = .lit (.int .i64 ((look p.data.toList own).getD 0)) := by rw [← hD]; exact DE_at _ _
      have hhas : has D (.string p.data.toList) = (look p.data.toList own).isSome := by rw [← hD]; exact DE_has _ _
      obtain ⟨K, hK⟩ : ∃ K, (look p.data.toList own).isSome = K := ⟨_, rfl⟩
      rw [hK] at hhas
      have hK' := Lib.hid hK
      have hat0' := Lib.hid hat0
      have h4' := Lib.hid h4
      clear hK hat0 hD h2 h3 h4
      cases K with
      | true =>
        go_wp2_with (at_lookup; refine wpList_lookup_own_ok_int _ rfl _ _ 91 rfl 9 35 .i64 str_keyed Tryz.underlying91 Tryz.underlying35 (hz _) m _ D rfl hown _ _ rfl hkey ?_)
        intro c hat hwc
        rw [hat0'.out] at hat
        have hc : c = (look p.data.toList own).getD 0 := by
          injection hat with hat
          injection hat with _ hat
          exact hat.symm
        have hfin := Lib.hid (SpP.found hl.out hK'.out hc)
        clear hat hc hat0' hK' hwc
        go_wp2
        go_ret
        exact ⟨hfin.out, Below.refl _ _⟩
      | false =>
        have hnone : look p.data.toList own = none := by
          have := hK'.out
          cases hx : look p.data.toList own with
          | none => rfl
          | some y => rw [hx] at this; cases this
        have hl2 : Hid (look p.data.toList env = look p.data.toList E2.flatten) := Lib.hid (by rw [hl.out, look_flat, hnone])
        clear hnone hat0' hK' hl
        go_wp2_with (at_lookup; refine wpList_lookup_own_ok_int _ rfl _ _ 91 rfl 9 35 .i64 str_keyed Tryz.underlying91 Tryz.underlying35 (hz _) m _ D rfl hown _ _ rfl hkey ?_)
        intro c hat hwc
        clear hat hwc
        go_wp2
        go_roundg E2.length
        case measure => rw [hg, List.length_cons]; omega
        case rel => exact ⟨E2, _, rfl, h4'.out, hl2, rfl, rfl⟩
end Go.Proofs.YtjeagjleolmibaaGreatDoor.Xm
