import Derived.Test.YtmmpojhjpghdlaaGreatDoorMg23
/-
  THE LAW's first, OF LAYER dav: what ParseAsk answers at three texts.
-/
set_option linter.unusedVariables false
namespace Go.Proofs.YtmmpojhjpghdlaaGreatDoor.Dv
open Go.Lib Go.RowKit Rg
open Xm (Row Pc sv PsOwn PcsAt below_then below_drewN sv_some sv_str info_parts ParseC Gw gw_below parseX mostS)

def pfindS : Row := [112, 114, 111, 112, 102, 105, 110, 100]
def askK : El := elE 1 etagS []
def askP : El := elE 1 propS [askK]
def askA : El := elE 1 pfindS [askP]
def askB : El := elE 1 pfindS []
def textA : Row := [60, 68, 58, 112, 114, 111, 112, 102, 105, 110, 100, 32, 120, 109, 108, 110, 115, 58, 68, 61, 34, 68, 65, 86, 58, 34, 62, 60, 68, 58, 112, 114, 111, 112, 62, 60, 68, 58, 103, 101, 116, 101, 116, 97, 103, 47, 62, 60, 47, 68, 58, 112, 114, 111, 112, 62, 60, 47, 68, 58, 112, 114, 111, 112, 102, 105, 110, 100, 62]
def textB : Row := [60, 68, 58, 112, 114, 111, 112, 102, 105, 110, 100, 32, 120, 109, 108, 110, 115, 58, 68, 61, 34, 68, 65, 86, 58, 34, 47, 62]
def pcA : List Pc := [opn 1 pfindS, opn 1 propS, opn 1 etagS, cls 1 etagS, cls 1 propS, cls 1 pfindS]
def pcB : List Pc := [opn 1 pfindS, cls 1 pfindS]
theorem pcE_A : pcE askA = pcA := by
  unfold askA askP askK
  rw [pcE_el, pcEs, pcEs, pcE_el, pcEs, pcEs, pcE_el, pcEs]
  rfl
theorem pcE_B : pcE askB = pcB := by
  unfold askB
  rw [pcE_el, pcEs]
  rfl
theorem parse_A : parseX textA = (pcA, 0) := by decide +kernel
theorem parse_B : parseX textB = (pcB, 0) := by decide +kernel
def zeroPr : Value := .agg #[.int .i64 0, .string ⟨#[]⟩]
theorem infoPr : (Tryz.prog.info? 24).map (fun i => (i.zero, i.size, i.bytes)) = some (some zeroPr, 2, 24) := by kernel_rfl
/-- a row of one name -/
def OneN (v : Value) (s : Int) (n : ByteArray) (w : World) : Prop := ∃ g c, v = .slice (some ⟨g, 0, none⟩) 1 c ∧ w.cell? ⟨g, 0, none⟩ = some (.int .i64 s) ∧ w.cell? ⟨g, 1, none⟩ = some (.string n) ∧ g < w.heap.size
theorem OneN.kept {w w' : World} {v : Value} {s : Int} {n : ByteArray} (h : OneN v s n w) (hb : Below w.heap.size w w') : OneN v s n w' := by
  obtain ⟨g, c, h1, h2, h3, h4⟩ := h
  exact ⟨g, c, h1, by rw [hb.cell (p := ⟨g, 0, none⟩) h4]; exact h2, by rw [hb.cell (p := ⟨g, 1, none⟩) h4]; exact h3, Nat.lt_of_lt_of_le h4 hb.size⟩
theorem append_one {w : World} {ops : Array Oper} {rest : List Oper} {o : Oper} {a : Act} {Q : Exit → Act → World → Prop} (sp : Int) (n : ByteArray) (hgd : o.guard = none) (s xo : Operand) (ho : o.op = .call { callee := .builtin .append, args := #[s, xo], argTypes := #[27, 27] }) (g : Nat) (hs : a.eval s = .slice none 0 0) (hx : a.eval xo = .slice (some ⟨g, 0, none⟩) 1 1)
    (hc0 : w.cell? ⟨g, 0, none⟩ = some (.int .i64 sp)) (hc1 : w.cell? ⟨g, 1, none⟩ = some (.string n))
    (h : ∀ v' w', OneN v' sp n w' → Below w.heap.size w w' → wpList Tryz.prog ops Q rest (a.put o.dst v') w') : wpList Tryz.prog ops Q (o :: rest) a w := by
  obtain ⟨i0, hi, hz0, hz1, hz2⟩ := info_parts infoPr
  refine wpList_plain hgd fun K hK => ?_
  refine wp_append_lies _ s xo 27 ho w.heap.size 24 i0 zeroPr 2 24 Tryz.underlying27 hi hz0 hz1 hz2 rfl (by decide) (.slice none 0 0) 0 [] hs (World.ownsRow_nil w _ _ _) ⟨g, 0, none⟩ 1 1 [.int .i64 sp, .string n] hx rfl (fun j u hj => ?_) (fun u hu => ?_) (by decide) (by unfold maxLen; omega) (by omega) (Nat.le_refl _) w.heap.size rfl (fun g' cap w' h5 h6 h7 h8 => hK _ _ (h _ w' ?_ ?_))
  · match j, hj with
    | 0, hj => simp at hj; subst hj; simpa [Addr.add] using hc0
    | 1, hj => simp at hj; subst hj; simpa [Addr.add] using hc1
  · simp at hu
    rcases hu with rfl | rfl <;> rfl
  · have hcl := h5.cells (g := g') rfl
    have k0 := hcl 0 (.int .i64 sp) rfl
    have k1 := hcl 1 (.string n) rfl
    exact ⟨g', cap, rfl, by simpa [Addr.add] using k0, by simpa [Addr.add] using k1, h8⟩
  · exact ⟨h6.os, h6.tape, h6.output, h6.size, fun k hk => h6.block k hk (by simp [Value.ownBlock])⟩
/-- the kid of an element that has one, in its row -/
theorem one_kid {w0 : World} {x y : El} {nb tb : ByteArray} {A : Option Addr} {n c : Nat} (h : ElB w0 x nb tb A n c) (hk : x.ks = [y]) :
    ∃ b off nb' tb' A' n' c', A = some ⟨b, off, none⟩ ∧ n = 1 ∧ b < w0.heap.size ∧ ElB w0 y nb' tb' A' n' c' ∧ w0.cell? ⟨b, off, none⟩ = some (.int .i64 y.s) ∧ w0.cell? ⟨b, off + 1, none⟩ = some (.string nb') ∧ w0.cell? ⟨b, off + 2, none⟩ = some (.string tb') ∧ w0.cell? ⟨b, off + 3, none⟩ = some (.slice A' n' c') := by
  have hsm := h.sm.kid (y := y) (by rw [hk]; simp)
  have hks := h.kids
  rw [hk] at hks
  obtain ⟨L, h1, h2, h3⟩ := hks.pairs
  obtain ⟨e, rfl⟩ := List.length_eq_one_iff.1 (show L.length = 1 by rw [h2]; rfl)
  obtain ⟨p1, p2⟩ := h3 0 e y rfl rfl
  obtain ⟨nb', tb', A', n', c', q1, q2⟩ := elB_of p1 p2 hsm
  obtain ⟨v1, v2, v3, v4⟩ := ev_parts q2
  obtain ⟨A0, b, off, c0, g1, g2, g3, g4, g5⟩ := h1
  obtain ⟨g6, _, g7⟩ := g4 (by simp)
  injection g1 with g1 g8 g9
  obtain ⟨r0, r1, r2, r3⟩ := g5 0 e rfl
  rw [Nat.zero_mul, Nat.add_zero] at r0 r1 r2 r3
  rw [v1] at r0
  rw [v2] at r1
  rw [v3] at r2
  rw [v4] at r3
  exact ⟨b, off, nb', tb', A', n', c', by rw [g1, g6], g8, g7, q1, r0, r1, r2, r3⟩
theorem tb_nil {w0 : World} {x : El} {nb tb : ByteArray} {A : Option Addr} {n c : Nat} (h : ElB w0 x nb tb A n c) (ht : x.t = []) : tb = ⟨#[]⟩ := by
  have := h.tx
  rw [ht] at this
  injection this with this
  exact this.symm
theorem nb_is {w0 : World} {x : El} {nb tb : ByteArray} {A : Option Addr} {n c : Nat} (h : ElB w0 x nb tb A n c) {l : Row} (hn : x.n = l) : nb = ⟨l.toArray⟩ := by
  have := h.nm
  rw [hn] at this
  injection this with this
  exact this.symm
theorem kn_nil {w0 : World} {x : El} {nb tb : ByteArray} {A : Option Addr} {n c : Nat} (h : ElB w0 x nb tb A n c) (hk : x.ks = []) : n = 0 := by
  obtain ⟨A', k, e⟩ := h.kids.form
  injection e with _ e _
  rw [e, hk]; rfl

set_option maxHeartbeats 8000000 in
set_option maxRecDepth 100000 in
theorem propsOf_at {w0 : World} {nb tb : ByteArray} {A : Option Addr} {n c : Nat} (hE : ElB w0 askP nb tb A n c) (w : World) (hW : Below w0.heap.size w0 w) :
    Calls Tryz.prog 73 #[.agg #[.int .i64 1, .string nb, .string tb, .slice A n c]] w fun e w' => (∃ v, e = .returned (.tuple #[v, .bool true]) ∧ OneN v 1 ⟨#[103, 101, 116, 101, 116, 97, 103]⟩ w') ∧ Below w.heap.size w w' := by
  obtain rfl := tb_nil hE rfl
  obtain ⟨b, off, nb', tb', A', n', c', rfl, rfl, hb, hE', r0, r1, r2, r3⟩ := one_kid hE rfl
  obtain rfl := tb_nil hE' rfl
  obtain rfl := nb_is hE' rfl
  obtain rfl := kn_nil hE' rfl
  have hq := Lib.hid (fun wr (h : Below w.heap.size w wr) => show wr.cell? ⟨b, off, none⟩ = some (.int .i64 1) ∧ wr.cell? ⟨b, off + 1, none⟩ = some (.string ⟨#[103, 101, 116, 101, 116, 97, 103]⟩) ∧ wr.cell? ⟨b, off + 2, none⟩ = some (.string ⟨#[]⟩) ∧ wr.cell? ⟨b, off + 3, none⟩ = some (.slice A' 0 c') ∧ b < wr.heap.size from by
    have hh : Below w0.heap.size w0 wr := hW.trans (h.mono hW.size)
    exact ⟨by rw [hh.cell (p := ⟨b, off, none⟩) hb]; exact r0, by rw [hh.cell (p := ⟨b, off + 1, none⟩) hb]; exact r1, by rw [hh.cell (p := ⟨b, off + 2, none⟩) hb]; exact r2, by rw [hh.cell (p := ⟨b, off + 3, none⟩) hb]; exact r3, Nat.lt_of_lt_of_le hb hh.size⟩)
  clear r0 r1 r2 r3 hE hE' hW hb
  obtain ⟨wB, hwB⟩ : ∃ wB, w.alloc (.cells #[.int .i64 1, .string nb, .string ⟨#[]⟩, .slice (some ⟨b, off, none⟩) 1 c] 59) = wB := ⟨_, rfl⟩
  have hbB : Below w.heap.size w wB := by rw [← hwB]; exact (Below.refl _ _).alloc (Nat.le_refl _) _
  have hkB : wB.heap[w.heap.size]? = some (elB 1 nb ⟨#[]⟩ (.slice (some ⟨b, off, none⟩) 1 c)) := by rw [← hwB]; exact heap_alloc_new w _
  obtain ⟨x0, x1, x2, x3, _, _, _, _, xz⟩ := cellsE hkB
  have hbB' := Lib.hid hbB
  clear hbB hkB
  go_enter Tryz.func73, Tryz.ntmps73
  go_wp2
  go_loopw [4, 13] (fun s4 s13 wr => ∃ k : Nat, s13 = .int .i64 (k : Int) ∧ k ≤ 1 ∧ Hid ((k = 0 ∧ s4 = .slice none 0 0) ∨ (k = 1 ∧ OneN s4 1 ⟨#[103, 101, 116, 101, 116, 97, 103]⟩ wr)) ∧ Hid (Below w.heap.size w wr)) (fun s4 s13 wr => 1 - (RowKit.intOf s13).toNat)
  case atStart => exact ⟨0, rfl, Nat.zero_le _, Lib.hid (.inl ⟨rfl, rfl⟩), hbB'⟩
  case round =>
    clear hbB' hwB x0 x1 x2 x3 xz
    obtain ⟨k, rfl, hk, hor, hbr⟩ := hrel
    obtain ⟨q0, q1, q2, q3, qz⟩ := hq.out wr hbr.out
    by_cases hlt : k < 1
    · obtain rfl : k = 0 := by omega
      rcases hor.out with ⟨_, rfl⟩ | ⟨h, _⟩
      · obtain ⟨wb, hwb⟩ : ∃ wb, wr.alloc (.cells #[.int .i64 1, .string ⟨#[103, 101, 116, 101, 116, 97, 103]⟩, .string ⟨#[]⟩, .slice A' 0 c'] 59) = wb := ⟨_, rfl⟩
        have hbb : Below wr.heap.size wr wb := by rw [← hwb]; exact (Below.refl _ _).alloc (Nat.le_refl _) _
        have hkb : wb.heap[wr.heap.size]? = some (elB 1 ⟨#[103, 101, 116, 101, 116, 97, 103]⟩ ⟨#[]⟩ (.slice A' 0 c')) := by rw [← hwb]; exact heap_alloc_new wr _
        obtain ⟨y0, y1, y2, y3, _, _, _, _, yz⟩ := cellsE hkb
        obtain ⟨wc, hwc⟩ : ∃ wc, wb.alloc (.cells #[.int .i64 1, .string ⟨#[103, 101, 116, 101, 116, 97, 103]⟩] 24) = wc := ⟨_, rfl⟩
        have hbc : Below wb.heap.size wb wc := by rw [← hwc]; exact (Below.refl _ _).alloc (Nat.le_refl _) _
        have hkc : wc.heap[wb.heap.size]? = some (.cells #[.int .i64 1, .string ⟨#[103, 101, 116, 101, 116, 97, 103]⟩] 24 (0, 0)) := by rw [← hwc]; exact heap_alloc_new wb _
        have z0 : wc.cell? ⟨wb.heap.size, 0, none⟩ = some (.int .i64 1) := (Lib.cell_of_heap hkc 0).trans rfl
        have z1 : wc.cell? ⟨wb.heap.size, 1, none⟩ = some (.string ⟨#[103, 101, 116, 101, 116, 97, 103]⟩) := (Lib.cell_of_heap hkc 1).trans rfl
        have hbrc := Lib.hid (below_then hbr.out (below_then hbb hbc))
        have zz := Lib.hid (And.intro z0 z1)
        clear hbb hkb hbc hkc hor
        go_wp2_with (at_builtin; refine append_one 1 ⟨#[103, 101, 116, 101, 116, 97, 103]⟩ rfl _ _ rfl wb.heap.size rfl rfl zz.out.1 zz.out.2 ?_)
        intro v9 w9 hn9 hb9
        have hn9' := Lib.hid hn9
        have hb9' := Lib.hid (below_then hbrc.out hb9)
        obtain ⟨g9, c9, e9, _⟩ := hn9
        subst e9
        clear hb9
        go_wp2
        go_roundw
        case rel => exact ⟨1, by go_num, Nat.le_refl _, Lib.hid (.inr ⟨rfl, hn9'.out⟩), hb9'⟩
        case measure => simp [RowKit.intOf]
      · omega
    · obtain rfl : k = 1 := by omega
      rcases hor.out with ⟨h, _⟩ | ⟨_, h⟩
      · omega
      · have hn := Lib.hid h
        obtain ⟨g9, c9, e9, _⟩ := h
        subst e9
        clear hor
        go_wp2
        go_ret2
        exact ⟨⟨_, rfl, hn.out⟩, hbr.out⟩
end Go.Proofs.YtmmpojhjpghdlaaGreatDoor.Dv

/-
  THE LAW's first, OF LAYER dav, GO ON (written by tools/genask.py): propfind, askOf, ParseAsk, first.
-/
set_option linter.unusedVariables false
namespace Go.Proofs.YtmmpojhjpghdlaaGreatDoor.Dv
open Go.Lib Go.RowKit Rg
open Xm (Row Pc sv PsOwn PcsAt below_then below_drewN sv_some sv_str ParseC Gw gw_below parseX mostS)

theorem cells4 {W : World} {g : Nat} {v0 v1 v2 v3 : Value} {t : TypeId} (h : W.heap[g]? = some (.cells #[v0, v1, v2, v3] t (0, 0))) :
    W.cell? ⟨g, 0, none⟩ = some v0 ∧ W.cell? ⟨g, 1, none⟩ = some v1 ∧ W.cell? ⟨g, 2, none⟩ = some v2 ∧ W.cell? ⟨g, 3, none⟩ = some v3 ∧
    W.frozen? ⟨g, 0, none⟩ = false ∧ W.frozen? ⟨g, 1, none⟩ = false ∧ W.frozen? ⟨g, 2, none⟩ = false ∧ W.frozen? ⟨g, 3, none⟩ = false ∧ g < W.heap.size :=
  ⟨(Lib.cell_of_heap h 0).trans rfl, (Lib.cell_of_heap h 1).trans rfl, (Lib.cell_of_heap h 2).trans rfl, (Lib.cell_of_heap h 3).trans rfl,
   Lib.frozen_of_heap h 0, Lib.frozen_of_heap h 1, Lib.frozen_of_heap h 2, Lib.frozen_of_heap h 3, (Array.getElem?_eq_some_iff.1 h).1⟩
theorem set4 {W : World} {g : Nat} {u0 u1 u2 u3 : Value} {t : TypeId} (h : W.heap[g]? = some (.cells #[u0, u1, u2, u3] t (0, 0))) (v0 v1 v2 v3 : Value) :
    ((((W.setCell ⟨g, 0, none⟩ v0).setCell ⟨g, 1, none⟩ v1).setCell ⟨g, 2, none⟩ v2).setCell ⟨g, 3, none⟩ v3).heap[g]? = some (.cells #[v0, v1, v2, v3] t (0, 0)) := by
  simp [World.setCell, Array.getElem?_modify, h]
theorem bel4 {B : Nat} {w0 W : World} {g : Nat} (h : Below B w0 W) (hg : B ≤ g) (v0 v1 v2 v3 : Value) : Below B w0 ((((W.setCell ⟨g, 0, none⟩ v0).setCell ⟨g, 1, none⟩ v1).setCell ⟨g, 2, none⟩ v2).setCell ⟨g, 3, none⟩ v3) :=
  (((h.setCell (p := ⟨g, 0, none⟩) hg _).setCell (p := ⟨g, 1, none⟩) hg _).setCell (p := ⟨g, 2, none⟩) hg _).setCell (p := ⟨g, 3, none⟩) hg _
theorem oth4 (W : World) {g k : Nat} (h : k ≠ g) (v0 v1 v2 v3 : Value) : ((((W.setCell ⟨g, 0, none⟩ v0).setCell ⟨g, 1, none⟩ v1).setCell ⟨g, 2, none⟩ v2).setCell ⟨g, 3, none⟩ v3).heap[k]? = W.heap[k]? := by
  rw [Below.heap_setCell _ _ _ _ h, Below.heap_setCell _ _ _ _ h, Below.heap_setCell _ _ _ _ h, Below.heap_setCell _ _ _ _ h]
theorem OneN.same {w w' : World} {v : Value} {s : Int} {n : ByteArray} (h : OneN v s n w) (hz : w.heap.size ≤ w'.heap.size) {g0 : Nat} (ht : ∃ cs t, w.heap[g0]? = some (.cells cs t (0, 0)) ∧ t ≠ 24) (hb : ∀ k, k ≠ g0 → w'.heap[k]? = w.heap[k]?) (hg : ∀ g c, v = .slice (some ⟨g, 0, none⟩) 1 c → g ≠ g0) : OneN v s n w' := by
  obtain ⟨g, c, h1, h2, h3, h4⟩ := h
  have e := hb g (hg g c h1)
  exact ⟨g, c, h1, by rw [World.cell?_of_block (w := w) (a := ⟨g, 0, none⟩) e]; exact h2, by rw [World.cell?_of_block (w := w) (a := ⟨g, 1, none⟩) e]; exact h3, Nat.lt_of_lt_of_le h4 hz⟩
theorem neN {n1 n2 : ByteArray} (h : n1.data.toList ≠ n2.data.toList) (W : World) : (Op.equalIn 10000 24 (.agg #[.int .i64 1, .string n1]) (.agg #[.int .i64 1, .string n2])).run Tryz.prog W = .ok false W := by
  rw [eq_pr, Lib.toList_data, Lib.toList_data]
  have : (n1.data.toList == n2.data.toList) = false := by rw [beq_eq_false_iff_ne]; exact h
  rw [this]; rfl
theorem eqN1 (n1 : ByteArray) (W : World) : (Op.equalIn 10000 24 (.agg #[.int .i64 1, .string n1]) (.agg #[.int .i64 1, .string n1])).run Tryz.prog W = .ok true W := by
  rw [eq_pr]; simp
theorem onlyA : onlyP (([((1 : Int), (⟨#[97, 108, 108, 112, 114, 111, 112]⟩ : ByteArray)), ((1 : Int), (⟨#[112, 114, 111, 112, 110, 97, 109, 101]⟩ : ByteArray)), ((1 : Int), (⟨#[112, 114, 111, 112]⟩ : ByteArray))] : List NB).map nmR) askA.ks = (askP, true) := rfl
theorem onlyB : onlyP (([((1 : Int), (⟨#[97, 108, 108, 112, 114, 111, 112]⟩ : ByteArray)), ((1 : Int), (⟨#[112, 114, 111, 112, 110, 97, 109, 101]⟩ : ByteArray)), ((1 : Int), (⟨#[112, 114, 111, 112]⟩ : ByteArray))] : List NB).map nmR) askB.ks = (El.zero, false) := rfl
set_option maxHeartbeats 16000000 in
set_option maxRecDepth 100000 in
theorem propfind_A {w0 : World} {nb tb : ByteArray} {A : Option Addr} {n c : Nat} (hE : ElB w0 askA nb tb A n c) (w : World) (hW : Below w0.heap.size w0 w) :
    Calls Tryz.prog 41 #[.agg #[.int .i64 1, .string nb, .string tb, .slice A n c]] w fun e w' => (∃ v, e = .returned (.tuple #[.agg #[.int .i64 3, v, .string ⟨#[]⟩, .slice none 0 0], .bool true]) ∧ OneN v 1 ⟨#[103, 101, 116, 101, 116, 97, 103]⟩ w') ∧ Below w.heap.size w w' := by
  obtain ⟨nb1, tb1, A1, n1, c1, hE1, cO1⟩ := only_el hE ([((1 : Int), (⟨#[97, 108, 108, 112, 114, 111, 112]⟩ : ByteArray)), ((1 : Int), (⟨#[112, 114, 111, 112, 110, 97, 109, 101]⟩ : ByteArray)), ((1 : Int), (⟨#[112, 114, 111, 112]⟩ : ByteArray))] : List NB)
  rw [onlyA] at hE1 cO1
  simp only at hE1 cO1
  obtain ⟨x, hx⟩ : ∃ x, askA = x := ⟨_, rfl⟩
  obtain ⟨x1, hx1⟩ : ∃ x1, askP = x1 := ⟨_, rfl⟩
  have hs1 : x.s = 1 := by rw [← hx]; rfl
  rw [hx] at hE cO1
  rw [hx1] at hE1 cO1
  rw [← hs1]
  obtain ⟨bR, hbR⟩ : ∃ b : Bool, true = b := ⟨_, rfl⟩
  rw [hbR] at cO1
  have cO1 := Lib.hid cO1
  obtain ⟨b1, hb1⟩ : ∃ b1, b1 = bR := ⟨_, rfl⟩
  rw [← hb1] at cO1
  obtain ⟨Z, hZ⟩ : ∃ Z, w.heap.size = Z := ⟨_, rfl⟩
  obtain ⟨wB, hwB⟩ : ∃ wB, (w.alloc (.cells #[.int .i64 x.s, .string nb, .string tb, .slice A n c] 59)).alloc (.cells #[.int .i64 0, .slice none 0 0, .string ⟨#[]⟩, .slice none 0 0] 30) = wB := ⟨_, rfl⟩
  have hbB : Below Z w wB := by rw [← hwB, ← hZ]; exact ((Below.refl _ _).alloc (Nat.le_refl _) _).alloc (by simp) _
  have hpB := Lib.hid (show wB.heap[Z]? = some (elB x.s nb tb (.slice A n c)) by rw [← hwB, ← hZ]; exact heap_alloc2_old w _ _)
  have hrB := Lib.hid (show wB.heap[Z + 1]? = some (.cells #[.int .i64 0, .slice none 0 0, .string ⟨#[]⟩, .slice none 0 0] 30 (0, 0)) by rw [← hwB, ← hZ]; exact heap_alloc2_new w _ _)
  have hbe_wB := Lib.hid (hW.trans (hbB.mono (by rw [← hZ]; exact hW.size)))
  have hbw_wB := Lib.hid hbB
  have hZ' := Lib.hid hZ
  have hE1' := Lib.hid hE1
  have hxx := Lib.hid (And.intro hx1 (And.intro hbR hb1))
  have hs1' := Lib.hid hs1
  clear hbB hW hE hE1 hx hx1 hs1 hbR hb1
  go_enter Tryz.func41, Tryz.ntmps41
  go_wp2
  go_upto_region 1 with fail
  go_cut [4, 5] from 7 to 15 (fun sp sq wx => ∃ g, sp = .pointer (some ⟨g, 0, none⟩) ∧ sq = .bool b1 ∧ Hid (wB.heap.size ≤ g) ∧ Hid (wx.heap[g]? = some (elB x1.s nb1 tb1 (.slice A1 n1 c1))) ∧ Hid (Below wB.heap.size wB wx))
  case first =>
    rename_i J K' hJ hK'
    refine Rg.region_inv (by kernel_rfl) P1.sl (by decide) (by kernel_rfl) (P1.I wB x.s x1.s nb tb nb1 tb1 A A1 n c n1 c1 b1) ?_ ?_ ?_
    · exact P1.N.start (Below.drew (Below.refl _ _))
    · exact ⟨P1.st0 rfl rfl rfl _ rfl (fun W hW => blk_at hpB.out hW), P1.st1 rfl rfl rfl, P1.st2 rfl rfl rfl, P1.st3 rfl rfl rfl, P1.stB rfl rfl rfl (by show 37 ≤ 37; omega) (by decide) (by decide) (by decide), P1.stC rfl rfl rfl (by show 37 ≤ 37; omega) (by decide) (by decide) (fun W v hW hn => cO1.out W v (hbe_wB.out.trans (hW.mono hbe_wB.out.size)) hn), P1.stM rfl rfl rfl (by show 37 ≤ 37; omega) (by decide), P1.stX rfl rfl rfl (by show 37 ≤ 37; omega) (by decide), P1.stY rfl rfl rfl (by show 37 ≤ 37; omega) (by decide), P1.stP rfl rfl rfl, P1.stS rfl rfl rfl (by show 37 ≤ 37; omega) (by decide) (by decide), P1.stQ rfl rfl rfl (by show 37 ≤ 37; omega) (by decide), trivial⟩
    · rintro d u W ⟨g, h⟩ hall
      obtain ⟨r1, r2, r3⟩ := h.fP (hall 9 (by decide))
      rw [hall 10 (by decide)] at r3
      have r4 := h.fQ (hall 11 (by decide))
      have r5 := h.bel
      clear h hall
      show K' _ _
      refine hK' _ _ (Met.intro (hJ _ _ ?_))
      unfold Rg.puts P1.sl
      simp only [List.foldl_cons, List.foldl_nil, Act.put, List.setIfInBounds_toArray, List.set_cons_succ, List.set_cons_zero]
      repeat apply Exists.intro
      refine ⟨?relP1, rfl⟩
      exact ⟨g, r1, r4, Lib.hid r2, Lib.hid r3, Lib.hid r5⟩
  case rest =>
    obtain ⟨g1, rfl, rfl, hg1, hx1, hbc⟩ := hcut
    obtain ⟨w1, rfl⟩ : ∃ q, q = wc := ⟨_, rfl⟩
    have hbe1 := Lib.hid (hbe_wB.out.trans (hbc.out.mono hbe_wB.out.size))
    have hbw1 := Lib.hid (hbw_wB.out.trans (hbc.out.mono (by have := hbw_wB.out.size; rw [hZ'.out] at this; exact this)))
    have hr1 := Lib.hid (blk_at hrB.out hbc.out)
    have hxb := hx1.out
    obtain ⟨ea, eb, ec⟩ := hxx.out
    rw [ec, ← eb]
    rw [← ea] at hxb
    have hEp : ElB w0 askP nb1 tb1 A1 n1 c1 := by rw [ea]; exact hE1'.out
    have hnb : nb1 = ⟨#[112, 114, 111, 112]⟩ := nb_is hEp (l := propS) rfl
    subst hnb
    have hxb : w1.heap[g1]? = some (elB 1 ⟨#[112, 114, 111, 112]⟩ tb1 (.slice A1 n1 c1)) := hxb
    have hq1 := neN (n1 := ⟨#[112, 114, 111, 112]⟩) (n2 := ⟨#[97, 108, 108, 112, 114, 111, 112]⟩) (by decide)
    have hq2 := neN (n1 := ⟨#[112, 114, 111, 112]⟩) (n2 := ⟨#[112, 114, 111, 112, 110, 97, 109, 101]⟩) (by decide)
    obtain ⟨z0, z1, z2, z3, _, _, _, _, zz⟩ := cellsE hxb
    have cD1 := dav_any ⟨#[97, 108, 108, 112, 114, 111, 112]⟩ w1
    have cD2 := Lib.hid (fun W => dav_any ⟨#[112, 114, 111, 112, 110, 97, 109, 101]⟩ W)
    have hxb' := Lib.hid hxb
    have cP := Lib.hid (fun W (h : Below w0.heap.size w0 W) => propsOf_at hEp W h)
    clear hxb ea eb ec hEp
    go_wp2_with fail
    go_at_call 40
    with_reducible refine cD1.mono ?_
    rintro e w2 ⟨rfl, hb2⟩
    have hxb2 := blk_at hxb'.out hb2
    have hr2 := Lib.hid (blk_at hr1.out hb2)
    have hbe2 := Lib.hid (hbe1.out.trans (hb2.mono hbe1.out.size))
    have hbw2 := Lib.hid (hbw1.out.trans (hb2.mono (by have := hbw1.out.size; rw [hZ'.out] at this; exact this)))
    have cD2' := cD2.out w2
    have hxb2' := Lib.hid hxb2
    clear cD1 cD2 hb2 z0 z1 z2 z3 zz hxb'
    go_wp2_with fail
    go_at_call 40
    with_reducible refine cD2'.mono ?_
    rintro e w3 ⟨rfl, hb3⟩
    have hxb3 := blk_at hxb2'.out hb3
    obtain ⟨z0, z1, z2, z3, _, _, _, _, zz⟩ := cellsE hxb3
    have hr3 := Lib.hid (blk_at hr2.out hb3)
    have hbe3 := Lib.hid (hbe2.out.trans (hb3.mono hbe2.out.size))
    have hbw3 := Lib.hid (hbw2.out.trans (hb3.mono (by have := hbw2.out.size; rw [hZ'.out] at this; exact this)))
    have cP' := cP.out w3 hbe3.out
    clear cD2' hb3 hxb2 hxb3 hxb2' cP
    go_wp2_with fail
    go_at_call 73
    with_reducible refine cP'.mono ?_
    rintro e w4 ⟨⟨v, rfl, hn⟩, hb4⟩
    have hr4 := blk_at hr3.out hb4
    have hbw4 := hbw3.out.trans (hb4.mono (by have := hbw3.out.size; rw [hZ'.out] at this; exact this))
    obtain ⟨gv, cv, ev, hn0, hn1, hnz⟩ := hn
    subst ev
    have hgv : gv ≠ Z + 1 := fun e => by
      subst e
      have := (Lib.cell_of_heap hr4 0).trans rfl
      rw [hn0] at this
      simp at this
    obtain ⟨z0, z1, z2, z3, f0, f1, f2, f3, fz⟩ := cells4 hr4
    obtain ⟨y0, y1, y2, y3, _⟩ := cells4 (set4 hr4 (.int .i64 3) (.slice (some ⟨gv, 0, none⟩) 1 cv) (.string ⟨#[]⟩) (.slice none 0 0))
    have hfin := Lib.hid (bel4 hbw4 (show Z ≤ Z + 1 by omega) (.int .i64 3) (.slice (some ⟨gv, 0, none⟩) 1 cv) (.string ⟨#[]⟩) (.slice none 0 0))
    have hoo := oth4 w4 hgv (.int .i64 3) (.slice (some ⟨gv, 0, none⟩) 1 cv) (.string ⟨#[]⟩) (.slice none 0 0)
    have hnf := Lib.hid (show OneN (.slice (some ⟨gv, 0, none⟩) 1 cv) 1 ⟨#[103, 101, 116, 101, 116, 97, 103]⟩ ((((w4.setCell ⟨Z + 1, 0, none⟩ (.int .i64 3)).setCell ⟨Z + 1, 1, none⟩ (.slice (some ⟨gv, 0, none⟩) 1 cv)).setCell ⟨Z + 1, 2, none⟩ (.string ⟨#[]⟩)).setCell ⟨Z + 1, 3, none⟩ (.slice none 0 0)) from
      ⟨gv, cv, rfl, by rw [World.cell?_of_block (w := w4) (a := ⟨gv, 0, none⟩) hoo]; exact hn0, by rw [World.cell?_of_block (w := w4) (a := ⟨gv, 1, none⟩) hoo]; exact hn1, by simpa [World.setCell] using hnz⟩)
    clear cP' hb4 hr4 hbw4 hn0 hn1 hnz hoo
    go_wp2
    exact bodyPost_ret (v := .tuple #[.agg #[.int .i64 3, .slice (some ⟨gv, 0, none⟩) 1 cv, .string ⟨#[]⟩, .slice none 0 0], .bool true]) (by simp [results, Tryz.results41, go_sem, y0, y1, y2, y3]) rfl ⟨⟨_, rfl, by rw [hs1'.out]; exact hnf.out⟩, by rw [hZ'.out]; exact hfin.out⟩
set_option maxHeartbeats 16000000 in
set_option maxRecDepth 100000 in
theorem propfind_B {w0 : World} {nb tb : ByteArray} {A : Option Addr} {n c : Nat} (hE : ElB w0 askB nb tb A n c) (w : World) (hW : Below w0.heap.size w0 w) :
    Calls Tryz.prog 41 #[.agg #[.int .i64 1, .string nb, .string tb, .slice A n c]] w fun e w' => e = .returned (.tuple #[.agg #[.int .i64 0, .slice none 0 0, .string ⟨#[]⟩, .slice none 0 0], .bool false]) ∧ Below w.heap.size w w' := by
  obtain ⟨nb1, tb1, A1, n1, c1, hE1, cO1⟩ := only_el hE ([((1 : Int), (⟨#[97, 108, 108, 112, 114, 111, 112]⟩ : ByteArray)), ((1 : Int), (⟨#[112, 114, 111, 112, 110, 97, 109, 101]⟩ : ByteArray)), ((1 : Int), (⟨#[112, 114, 111, 112]⟩ : ByteArray))] : List NB)
  rw [onlyB] at hE1 cO1
  simp only at hE1 cO1
  obtain ⟨x, hx⟩ : ∃ x, askB = x := ⟨_, rfl⟩
  obtain ⟨x1, hx1⟩ : ∃ x1, El.zero = x1 := ⟨_, rfl⟩
  have hs1 : x.s = 1 := by rw [← hx]; rfl
  rw [hx] at hE cO1
  rw [hx1] at hE1 cO1
  rw [← hs1]
  obtain ⟨bR, hbR⟩ : ∃ b : Bool, false = b := ⟨_, rfl⟩
  rw [hbR] at cO1
  have cO1 := Lib.hid cO1
  obtain ⟨b1, hb1⟩ : ∃ b1, b1 = bR := ⟨_, rfl⟩
  rw [← hb1] at cO1
  obtain ⟨Z, hZ⟩ : ∃ Z, w.heap.size = Z := ⟨_, rfl⟩
  obtain ⟨wB, hwB⟩ : ∃ wB, (w.alloc (.cells #[.int .i64 x.s, .string nb, .string tb, .slice A n c] 59)).alloc (.cells #[.int .i64 0, .slice none 0 0, .string ⟨#[]⟩, .slice none 0 0] 30) = wB := ⟨_, rfl⟩
  have hbB : Below Z w wB := by rw [← hwB, ← hZ]; exact ((Below.refl _ _).alloc (Nat.le_refl _) _).alloc (by simp) _
  have hpB := Lib.hid (show wB.heap[Z]? = some (elB x.s nb tb (.slice A n c)) by rw [← hwB, ← hZ]; exact heap_alloc2_old w _ _)
  have hrB := Lib.hid (show wB.heap[Z + 1]? = some (.cells #[.int .i64 0, .slice none 0 0, .string ⟨#[]⟩, .slice none 0 0] 30 (0, 0)) by rw [← hwB, ← hZ]; exact heap_alloc2_new w _ _)
  have hbe_wB := Lib.hid (hW.trans (hbB.mono (by rw [← hZ]; exact hW.size)))
  have hbw_wB := Lib.hid hbB
  have hZ' := Lib.hid hZ
  have hE1' := Lib.hid hE1
  have hxx := Lib.hid (And.intro hx1 (And.intro hbR hb1))
  have hs1' := Lib.hid hs1
  clear hbB hW hE hE1 hx hx1 hs1 hbR hb1
  go_enter Tryz.func41, Tryz.ntmps41
  go_wp2
  go_upto_region 1 with fail
  go_cut [4, 5] from 7 to 15 (fun sp sq wx => ∃ g, sp = .pointer (some ⟨g, 0, none⟩) ∧ sq = .bool b1 ∧ Hid (wB.heap.size ≤ g) ∧ Hid (wx.heap[g]? = some (elB x1.s nb1 tb1 (.slice A1 n1 c1))) ∧ Hid (Below wB.heap.size wB wx))
  case first =>
    rename_i J K' hJ hK'
    refine Rg.region_inv (by kernel_rfl) P1.sl (by decide) (by kernel_rfl) (P1.I wB x.s x1.s nb tb nb1 tb1 A A1 n c n1 c1 b1) ?_ ?_ ?_
    · exact P1.N.start (Below.drew (Below.refl _ _))
    · exact ⟨P1.st0 rfl rfl rfl _ rfl (fun W hW => blk_at hpB.out hW), P1.st1 rfl rfl rfl, P1.st2 rfl rfl rfl, P1.st3 rfl rfl rfl, P1.stB rfl rfl rfl (by show 37 ≤ 37; omega) (by decide) (by decide) (by decide), P1.stC rfl rfl rfl (by show 37 ≤ 37; omega) (by decide) (by decide) (fun W v hW hn => cO1.out W v (hbe_wB.out.trans (hW.mono hbe_wB.out.size)) hn), P1.stM rfl rfl rfl (by show 37 ≤ 37; omega) (by decide), P1.stX rfl rfl rfl (by show 37 ≤ 37; omega) (by decide), P1.stY rfl rfl rfl (by show 37 ≤ 37; omega) (by decide), P1.stP rfl rfl rfl, P1.stS rfl rfl rfl (by show 37 ≤ 37; omega) (by decide) (by decide), P1.stQ rfl rfl rfl (by show 37 ≤ 37; omega) (by decide), trivial⟩
    · rintro d u W ⟨g, h⟩ hall
      obtain ⟨r1, r2, r3⟩ := h.fP (hall 9 (by decide))
      rw [hall 10 (by decide)] at r3
      have r4 := h.fQ (hall 11 (by decide))
      have r5 := h.bel
      clear h hall
      show K' _ _
      refine hK' _ _ (Met.intro (hJ _ _ ?_))
      unfold Rg.puts P1.sl
      simp only [List.foldl_cons, List.foldl_nil, Act.put, List.setIfInBounds_toArray, List.set_cons_succ, List.set_cons_zero]
      repeat apply Exists.intro
      refine ⟨?relP1, rfl⟩
      exact ⟨g, r1, r4, Lib.hid r2, Lib.hid r3, Lib.hid r5⟩
  case rest =>
    obtain ⟨g1, rfl, rfl, hg1, hx1, hbc⟩ := hcut
    obtain ⟨w1, rfl⟩ : ∃ q, q = wc := ⟨_, rfl⟩
    have hbe1 := Lib.hid (hbe_wB.out.trans (hbc.out.mono hbe_wB.out.size))
    have hbw1 := Lib.hid (hbw_wB.out.trans (hbc.out.mono (by have := hbw_wB.out.size; rw [hZ'.out] at this; exact this)))
    have hr1 := Lib.hid (blk_at hrB.out hbc.out)
    have hxb := hx1.out
    obtain ⟨ea, eb, ec⟩ := hxx.out
    rw [ec, ← eb]
    obtain ⟨z0, z1, z2, z3, f0, f1, f2, f3, fz⟩ := cells4 hr1.out
    obtain ⟨y0, y1, y2, y3, _⟩ := cells4 (set4 hr1.out (.int .i64 0) (.slice none 0 0) (.string ⟨#[]⟩) (.slice none 0 0))
    have hfin := Lib.hid (bel4 hbw1.out (show Z ≤ Z + 1 by omega) (.int .i64 0) (.slice none 0 0) (.string ⟨#[]⟩) (.slice none 0 0))
    clear hxb ea eb ec
    go_wp2
    exact bodyPost_ret (v := .tuple #[.agg #[.int .i64 0, .slice none 0 0, .string ⟨#[]⟩, .slice none 0 0], .bool false]) (by simp [results, Tryz.results41, go_sem, y0, y1, y2, y3]) rfl ⟨rfl, by rw [hZ'.out]; exact hfin.out⟩
end Go.Proofs.YtmmpojhjpghdlaaGreatDoor.Dv

/-
  THE LAW's first, OF LAYER dav, GO ON (written by tools/genask.py): askOf.
-/
set_option linter.unusedVariables false
namespace Go.Proofs.YtmmpojhjpghdlaaGreatDoor.Dv
open Go.Lib Go.RowKit Rg
open Xm (Row Pc sv PsOwn PcsAt below_then below_drewN sv_some sv_str ParseC Gw gw_below parseX mostS)

set_option maxHeartbeats 8000000 in
set_option maxRecDepth 100000 in
theorem askOf_A {w0 : World} {nb tb : ByteArray} {A : Option Addr} {n c : Nat} (hE : ElB w0 askA nb tb A n c) (w : World) (hW : Below w0.heap.size w0 w) :
    Calls Tryz.prog 19 #[.agg #[.int .i64 1, .string nb, .string tb, .slice A n c]] w fun e w' => (∃ v, e = .returned (.tuple #[.agg #[.int .i64 3, v, .string ⟨#[]⟩, .slice none 0 0], .bool true]) ∧ OneN v 1 ⟨#[103, 101, 116, 101, 116, 97, 103]⟩ w') ∧ Below w.heap.size w w' := by
  have hnb : nb = ⟨#[112, 114, 111, 112, 102, 105, 110, 100]⟩ := nb_is hE (l := pfindS) rfl
  have htb : tb = ⟨#[]⟩ := tb_nil hE rfl
  subst hnb
  subst htb
  have hq := eqN1 ⟨#[112, 114, 111, 112, 102, 105, 110, 100]⟩
  obtain ⟨Z, hZ⟩ : ∃ Z, w.heap.size = Z := ⟨_, rfl⟩
  obtain ⟨wB, hwB⟩ : ∃ wB, (w.alloc (.cells #[.int .i64 1, .string ⟨#[112, 114, 111, 112, 102, 105, 110, 100]⟩, .string ⟨#[]⟩, .slice A n c] 59)).alloc (.cells #[.int .i64 0, .slice none 0 0, .string ⟨#[]⟩, .slice none 0 0] 30) = wB := ⟨_, rfl⟩
  have hbB : Below Z w wB := by rw [← hwB, ← hZ]; exact ((Below.refl _ _).alloc (Nat.le_refl _) _).alloc (by simp) _
  have hpB : wB.heap[Z]? = some (elB 1 ⟨#[112, 114, 111, 112, 102, 105, 110, 100]⟩ ⟨#[]⟩ (.slice A n c)) := by rw [← hwB, ← hZ]; exact heap_alloc2_old w _ _
  have hrB := Lib.hid (show wB.heap[Z + 1]? = some (.cells #[.int .i64 0, .slice none 0 0, .string ⟨#[]⟩, .slice none 0 0] 30 (0, 0)) by rw [← hwB, ← hZ]; exact heap_alloc2_new w _ _)
  have hbe := Lib.hid (hW.trans (hbB.mono (by rw [← hZ]; exact hW.size)))
  have hbw := Lib.hid hbB
  have hZ' := Lib.hid hZ
  have hZl : Z ≤ wB.heap.size := by rw [← hZ]; exact hbB.size
  have cD := dav_any ⟨#[112, 114, 111, 112, 102, 105, 110, 100]⟩ wB
  have cP := Lib.hid (fun W (h : Below w0.heap.size w0 W) => propfind_A hE W h)
  obtain ⟨z0, z1, z2, z3, _, _, _, _, zz⟩ := cellsE hpB
  have hpB' := Lib.hid hpB
  clear hbB hW hE hpB
  go_enter Tryz.func19, Tryz.ntmps19
  go_wp2_with fail
  go_at_call 40
  with_reducible refine cD.mono ?_
  rintro e w2 ⟨rfl, hb2⟩
  obtain ⟨z0, z1, z2, z3, _, _, _, _, zz⟩ := cellsE (blk_at hpB'.out hb2)
  have hr2 := Lib.hid (blk_at hrB.out hb2)
  have hbe2 := Lib.hid (hbe.out.trans (hb2.mono hbe.out.size))
  have hbw2 := Lib.hid (hbw.out.trans (hb2.mono hZl))
  have hZ2 : Z ≤ w2.heap.size := Nat.le_trans hZl hb2.size
  have cP' := cP.out w2 hbe2.out
  clear cD cP hb2
  go_wp2_with fail
  go_at_call 41
  with_reducible refine cP'.mono ?_
  rintro e w3 ⟨⟨v, rfl, hn⟩, hb3⟩
  have hr3 := blk_at hr2.out hb3
  have hbw3 := hbw2.out.trans (hb3.mono hZ2)
  obtain ⟨gv, cv, ev, hn0, hn1, hnz⟩ := hn
  subst ev
  have hgv : gv ≠ Z + 1 := fun e => by
    subst e
    have := (Lib.cell_of_heap hr3 0).trans rfl
    rw [hn0] at this
    simp at this
  obtain ⟨z0, z1, z2, z3, f0, f1, f2, f3, fz⟩ := cells4 hr3
  obtain ⟨y0, y1, y2, y3, _⟩ := cells4 (set4 hr3 (.int .i64 3) (.slice (some ⟨gv, 0, none⟩) 1 cv) (.string ⟨#[]⟩) (.slice none 0 0))
  have hfin := Lib.hid (bel4 hbw3 (show Z ≤ Z + 1 by omega) (.int .i64 3) (.slice (some ⟨gv, 0, none⟩) 1 cv) (.string ⟨#[]⟩) (.slice none 0 0))
  have hoo := oth4 w3 hgv (.int .i64 3) (.slice (some ⟨gv, 0, none⟩) 1 cv) (.string ⟨#[]⟩) (.slice none 0 0)
  have hnf := Lib.hid (show OneN (.slice (some ⟨gv, 0, none⟩) 1 cv) 1 ⟨#[103, 101, 116, 101, 116, 97, 103]⟩ ((((w3.setCell ⟨Z + 1, 0, none⟩ (.int .i64 3)).setCell ⟨Z + 1, 1, none⟩ (.slice (some ⟨gv, 0, none⟩) 1 cv)).setCell ⟨Z + 1, 2, none⟩ (.string ⟨#[]⟩)).setCell ⟨Z + 1, 3, none⟩ (.slice none 0 0)) from
    ⟨gv, cv, rfl, by rw [World.cell?_of_block (w := w3) (a := ⟨gv, 0, none⟩) hoo]; exact hn0, by rw [World.cell?_of_block (w := w3) (a := ⟨gv, 1, none⟩) hoo]; exact hn1, by simpa [World.setCell] using hnz⟩)
  clear hn0 hn1 hnz hoo
  clear cP' hb3 hr3 hbw3
  go_wp2
  exact bodyPost_ret (v := .tuple #[.agg #[.int .i64 3, (.slice (some ⟨gv, 0, none⟩) 1 cv), .string ⟨#[]⟩, .slice none 0 0], .bool true]) (by simp [results, Tryz.results19, go_sem, y0, y1, y2, y3]) rfl ⟨⟨_, rfl, hnf.out⟩, by rw [hZ'.out]; exact hfin.out⟩
set_option maxHeartbeats 8000000 in
set_option maxRecDepth 100000 in
theorem askOf_B {w0 : World} {nb tb : ByteArray} {A : Option Addr} {n c : Nat} (hE : ElB w0 askB nb tb A n c) (w : World) (hW : Below w0.heap.size w0 w) :
    Calls Tryz.prog 19 #[.agg #[.int .i64 1, .string nb, .string tb, .slice A n c]] w fun e w' => e = .returned (.tuple #[.agg #[.int .i64 0, .slice none 0 0, .string ⟨#[]⟩, .slice none 0 0], .bool false]) ∧ Below w.heap.size w w' := by
  have hnb : nb = ⟨#[112, 114, 111, 112, 102, 105, 110, 100]⟩ := nb_is hE (l := pfindS) rfl
  have htb : tb = ⟨#[]⟩ := tb_nil hE rfl
  subst hnb
  subst htb
  have hq := eqN1 ⟨#[112, 114, 111, 112, 102, 105, 110, 100]⟩
  obtain ⟨Z, hZ⟩ : ∃ Z, w.heap.size = Z := ⟨_, rfl⟩
  obtain ⟨wB, hwB⟩ : ∃ wB, (w.alloc (.cells #[.int .i64 1, .string ⟨#[112, 114, 111, 112, 102, 105, 110, 100]⟩, .string ⟨#[]⟩, .slice A n c] 59)).alloc (.cells #[.int .i64 0, .slice none 0 0, .string ⟨#[]⟩, .slice none 0 0] 30) = wB := ⟨_, rfl⟩
  have hbB : Below Z w wB := by rw [← hwB, ← hZ]; exact ((Below.refl _ _).alloc (Nat.le_refl _) _).alloc (by simp) _
  have hpB : wB.heap[Z]? = some (elB 1 ⟨#[112, 114, 111, 112, 102, 105, 110, 100]⟩ ⟨#[]⟩ (.slice A n c)) := by rw [← hwB, ← hZ]; exact heap_alloc2_old w _ _
  have hrB := Lib.hid (show wB.heap[Z + 1]? = some (.cells #[.int .i64 0, .slice none 0 0, .string ⟨#[]⟩, .slice none 0 0] 30 (0, 0)) by rw [← hwB, ← hZ]; exact heap_alloc2_new w _ _)
  have hbe := Lib.hid (hW.trans (hbB.mono (by rw [← hZ]; exact hW.size)))
  have hbw := Lib.hid hbB
  have hZ' := Lib.hid hZ
  have hZl : Z ≤ wB.heap.size := by rw [← hZ]; exact hbB.size
  have cD := dav_any ⟨#[112, 114, 111, 112, 102, 105, 110, 100]⟩ wB
  have cP := Lib.hid (fun W (h : Below w0.heap.size w0 W) => propfind_B hE W h)
  obtain ⟨z0, z1, z2, z3, _, _, _, _, zz⟩ := cellsE hpB
  have hpB' := Lib.hid hpB
  clear hbB hW hE hpB
  go_enter Tryz.func19, Tryz.ntmps19
  go_wp2_with fail
  go_at_call 40
  with_reducible refine cD.mono ?_
  rintro e w2 ⟨rfl, hb2⟩
  obtain ⟨z0, z1, z2, z3, _, _, _, _, zz⟩ := cellsE (blk_at hpB'.out hb2)
  have hr2 := Lib.hid (blk_at hrB.out hb2)
  have hbe2 := Lib.hid (hbe.out.trans (hb2.mono hbe.out.size))
  have hbw2 := Lib.hid (hbw.out.trans (hb2.mono hZl))
  have hZ2 : Z ≤ w2.heap.size := Nat.le_trans hZl hb2.size
  have cP' := cP.out w2 hbe2.out
  clear cD cP hb2
  go_wp2_with fail
  go_at_call 41
  with_reducible refine cP'.mono ?_
  rintro e w3 ⟨rfl, hb3⟩
  have hr3 := blk_at hr2.out hb3
  have hbw3 := hbw2.out.trans (hb3.mono hZ2)
  obtain ⟨z0, z1, z2, z3, f0, f1, f2, f3, fz⟩ := cells4 hr3
  obtain ⟨y0, y1, y2, y3, _⟩ := cells4 (set4 hr3 (.int .i64 0) (.slice none 0 0) (.string ⟨#[]⟩) (.slice none 0 0))
  have hfin := Lib.hid (bel4 hbw3 (show Z ≤ Z + 1 by omega) (.int .i64 0) (.slice none 0 0) (.string ⟨#[]⟩) (.slice none 0 0))
  clear cP' hb3 hr3 hbw3
  go_wp2
  exact bodyPost_ret (v := .tuple #[.agg #[.int .i64 0, (.slice none 0 0), .string ⟨#[]⟩, .slice none 0 0], .bool false]) (by simp [results, Tryz.results19, go_sem, y0, y1, y2, y3]) rfl ⟨rfl, by rw [hZ'.out]; exact hfin.out⟩
end Go.Proofs.YtmmpojhjpghdlaaGreatDoor.Dv

/-
  THE LAW's first, OF LAYER dav, GO ON (written by tools/genask.py): ParseAsk.
-/
set_option linter.unusedVariables false
namespace Go.Proofs.YtmmpojhjpghdlaaGreatDoor.Dv
open Go.Lib Go.RowKit Rg
open Xm (Row Pc sv PsOwn PcsAt below_then below_drewN sv_some sv_str ParseC Gw gw_below parseX mostS)

set_option maxHeartbeats 8000000 in
set_option maxRecDepth 100000 in
theorem parseAsk_A (cP : ParseC) (w : World) (hT : Gw w) :
    Calls Tryz.prog 7 #[.string ⟨textA.toArray⟩] w fun e w' => (∃ v, e = .returned (.tuple #[.agg #[.int .i64 3, v, .string ⟨#[]⟩, .slice none 0 0], .int .i64 0]) ∧ OneN v 1 ⟨#[103, 101, 116, 101, 116, 97, 103]⟩ w') ∧ Below w.heap.size w w' := by
  obtain ⟨s, hs⟩ : ∃ s : ByteArray, (⟨textA.toArray⟩ : ByteArray) = s := ⟨_, rfl⟩
  have hsd : s.data.toList = textA := by rw [← hs]
  rw [hs]
  have hne : (s.toList == ([] : List UInt8)) = false := by rw [Lib.toList_data, hsd]; rfl
  have hne2 : s.toList.isEmpty = false := by rw [Lib.toList_data, hsd]; rfl
  have hne3 : ¬ s.toList = [] := by rw [Lib.toList_data, hsd]; decide
  obtain ⟨Z, hZ⟩ : ∃ Z, w.heap.size = Z := ⟨_, rfl⟩
  obtain ⟨wB, hwB⟩ : ∃ wB, w.alloc (.cells #[.int .i64 0, .slice none 0 0, .string ⟨#[]⟩, .slice none 0 0] 30) = wB := ⟨_, rfl⟩
  have hbB : Below w.heap.size w wB := by rw [← hwB]; exact (Below.refl _ _).alloc (Nat.le_refl _) _
  have hrB := Lib.hid (show wB.heap[Z]? = some (.cells #[.int .i64 0, .slice none 0 0, .string ⟨#[]⟩, .slice none 0 0] 30 (0, 0)) by rw [← hwB, ← hZ]; exact heap_alloc_new w _)
  have c1 := cP s wB (by rw [Lib.size_eq, hsd]; decide) (gw_below hT hbB)
  rw [hsd, parse_A] at c1
  have hbB' := Lib.hid hbB
  have hZ' := Lib.hid hZ
  clear hs hsd hT hbB
  go_enter Tryz.func7, Tryz.ntmps7
  go_wp2_with fail
  go_at_call 17
  with_reducible refine c1.mono ?_
  rintro e w1 ⟨⟨v, rfl, hv⟩, hb1⟩
  have hv0 : PcsAt w1 v (pcE askA ++ []) := by rw [List.append_nil, pcE_A]; exact hv
  obtain ⟨A, c, ev⟩ := hv.form
  have ev : v = .slice A 6 c := ev
  subst ev
  have c2 := tree_any _ askA (Nat.le_refl _) (.slice A 6 c) [] w1 w1 hv0 (by rw [List.append_nil, pcE_A]; decide) (Below.refl _ _)
  have hb1' := Lib.hid (below_then hbB'.out hb1)
  have hr1 := Lib.hid (blk_at hrB.out hb1)
  clear c1 hb1 hv hv0 hrB hbB' hwB
  go_wp2_with fail
  go_at_call 18
  with_reducible refine c2.mono ?_
  rintro e w2 ⟨⟨xv, v', rfl, ⟨kv, rfl, hkv⟩, hv2⟩, hb2⟩
  obtain ⟨nb, e1, _⟩ := sv_some askA.n
  obtain ⟨tb, e2, _⟩ := sv_some askA.t
  obtain ⟨kA, kc, ek⟩ := hkv.form
  obtain ⟨kn, hkn⟩ : ∃ kn, askA.ks.length = kn := ⟨_, rfl⟩
  rw [hkn] at ek
  subst ek
  have hE : ElB w2 askA nb tb kA kn kc := ⟨e1, e2, hkv.mono (fun _ _ _ => trivial), by unfold Sm; rw [pcE_A]; decide⟩
  obtain ⟨A2, c2', ev2⟩ := hv2.form
  subst ev2
  rw [e1, e2]
  have hxs : askA.s = 1 := rfl
  rw [hxs]
  obtain ⟨w3, hw3⟩ : ∃ w3, w2.alloc (.cells #[.int .i64 1, .string nb, .string tb, .slice kA kn kc] 59) = w3 := ⟨_, rfl⟩
  have hb3 : Below w2.heap.size w2 w3 := by rw [← hw3]; exact (Below.refl _ _).alloc (Nat.le_refl _) _
  have hk3 : w3.heap[w2.heap.size]? = some (elB 1 nb tb (.slice kA kn kc)) := by rw [← hw3]; exact heap_alloc_new w2 _
  have c4 := askOf_A hE w3 hb3
  obtain ⟨x0, x1, x2, x3, _, _, _, _, xz⟩ := cellsE hk3
  have hb13 := below_then hb2 hb3
  have hr3 := Lib.hid (blk_at hr1.out hb13)
  have hb3' := Lib.hid (below_then hb1'.out hb13)
  clear c2 hb2 hkv hv2 e1 e2 hkn hE hxs hb3 hk3 hb13 hr1 hb1'
  go_wp2_with fail
  go_at_call 19
  with_reducible refine c4.mono ?_
  rintro e w4 ⟨⟨v, rfl, hn⟩, hb4⟩
  obtain ⟨gv, cv, ev, hn0, hn1, hnz⟩ := hn
  subst ev
  go_upto_if 33 with fail
  obtain ⟨w5, hw5⟩ : ∃ w5, w4.alloc (.cells #[.int .i64 3, (.slice (some ⟨gv, 0, none⟩) 1 cv), .string ⟨#[]⟩, .slice none 0 0] 30) = w5 := ⟨_, rfl⟩
  rw [hw5]
  have hb5 : Below w4.heap.size w4 w5 := by rw [← hw5]; exact (Below.refl _ _).alloc (Nat.le_refl _) _
  have hk5 : w5.heap[w4.heap.size]? = some (.cells #[.int .i64 3, (.slice (some ⟨gv, 0, none⟩) 1 cv), .string ⟨#[]⟩, .slice none 0 0] 30 (0, 0)) := by rw [← hw5]; exact heap_alloc_new w4 _
  obtain ⟨u0, u1, u2, u3, _, _, _, _, uz⟩ := cells4 hk5
  have hb45 := below_then hb4 hb5
  have hr5 := blk_at hr3.out hb45
  have hb5' := below_then hb3'.out hb45
  obtain ⟨z0, z1, z2, z3, f0, f1, f2, f3, fz⟩ := cells4 hr5
  obtain ⟨y0, y1, y2, y3, _⟩ := cells4 (set4 hr5 (.int .i64 3) (.slice (some ⟨gv, 0, none⟩) 1 cv) (.string ⟨#[]⟩) (.slice none 0 0))
  have hfin := Lib.hid (bel4 hb5' (show w.heap.size ≤ Z by rw [hZ'.out]; exact Nat.le_refl _) (.int .i64 3) (.slice (some ⟨gv, 0, none⟩) 1 cv) (.string ⟨#[]⟩) (.slice none 0 0))
  have hgv : gv ≠ Z := fun e => by
    subst e
    have h0 := (Lib.cell_of_heap (blk_at hr3.out hb4) 0).trans rfl
    rw [hn0] at h0
    simp at h0
  have hoo := oth4 w5 hgv (.int .i64 3) (.slice (some ⟨gv, 0, none⟩) 1 cv) (.string ⟨#[]⟩) (.slice none 0 0)
  have hnf := Lib.hid (show OneN (.slice (some ⟨gv, 0, none⟩) 1 cv) 1 ⟨#[103, 101, 116, 101, 116, 97, 103]⟩ ((((w5.setCell ⟨Z, 0, none⟩ (.int .i64 3)).setCell ⟨Z, 1, none⟩ (.slice (some ⟨gv, 0, none⟩) 1 cv)).setCell ⟨Z, 2, none⟩ (.string ⟨#[]⟩)).setCell ⟨Z, 3, none⟩ (.slice none 0 0)) from
    ⟨gv, cv, rfl, by rw [World.cell?_of_block (w := w5) (a := ⟨gv, 0, none⟩) hoo, hb5.cell (p := ⟨gv, 0, none⟩) hnz]; exact hn0, by rw [World.cell?_of_block (w := w5) (a := ⟨gv, 1, none⟩) hoo, hb5.cell (p := ⟨gv, 1, none⟩) hnz]; exact hn1, by have := hb5.size; simp [World.setCell]; omega⟩)
  clear hn0 hn1 hnz hoo
  clear c4 hb4 hb5 hk5 hb45 hr5 hb5' hr3 hb3' x0 x1 x2 x3 xz hw3 hne hne2 hne3 hgv
  clear uz hZ hw5
  go_wp2
  exact bodyPost_ret (v := .tuple #[.agg #[.int .i64 3, (.slice (some ⟨gv, 0, none⟩) 1 cv), .string ⟨#[]⟩, .slice none 0 0], .int .i64 0]) (by simp [results, Tryz.results7, go_sem, y0, y1, y2, y3]) rfl ⟨⟨_, rfl, hnf.out⟩, hfin.out⟩
set_option maxHeartbeats 8000000 in
set_option maxRecDepth 100000 in
theorem parseAsk_B (cP : ParseC) (w : World) (hT : Gw w) :
    Calls Tryz.prog 7 #[.string ⟨textB.toArray⟩] w fun e w' => e = .returned (.tuple #[.agg #[.int .i64 0, .slice none 0 0, .string ⟨#[]⟩, .slice none 0 0], .int .i64 90]) ∧ Below w.heap.size w w' := by
  obtain ⟨s, hs⟩ : ∃ s : ByteArray, (⟨textB.toArray⟩ : ByteArray) = s := ⟨_, rfl⟩
  have hsd : s.data.toList = textB := by rw [← hs]
  rw [hs]
  have hne : (s.toList == ([] : List UInt8)) = false := by rw [Lib.toList_data, hsd]; rfl
  have hne2 : s.toList.isEmpty = false := by rw [Lib.toList_data, hsd]; rfl
  have hne3 : ¬ s.toList = [] := by rw [Lib.toList_data, hsd]; decide
  obtain ⟨Z, hZ⟩ : ∃ Z, w.heap.size = Z := ⟨_, rfl⟩
  obtain ⟨wB, hwB⟩ : ∃ wB, w.alloc (.cells #[.int .i64 0, .slice none 0 0, .string ⟨#[]⟩, .slice none 0 0] 30) = wB := ⟨_, rfl⟩
  have hbB : Below w.heap.size w wB := by rw [← hwB]; exact (Below.refl _ _).alloc (Nat.le_refl _) _
  have hrB := Lib.hid (show wB.heap[Z]? = some (.cells #[.int .i64 0, .slice none 0 0, .string ⟨#[]⟩, .slice none 0 0] 30 (0, 0)) by rw [← hwB, ← hZ]; exact heap_alloc_new w _)
  have c1 := cP s wB (by rw [Lib.size_eq, hsd]; decide) (gw_below hT hbB)
  rw [hsd, parse_B] at c1
  have hbB' := Lib.hid hbB
  have hZ' := Lib.hid hZ
  clear hs hsd hT hbB
  go_enter Tryz.func7, Tryz.ntmps7
  go_wp2_with fail
  go_at_call 17
  with_reducible refine c1.mono ?_
  rintro e w1 ⟨⟨v, rfl, hv⟩, hb1⟩
  have hv0 : PcsAt w1 v (pcE askB ++ []) := by rw [List.append_nil, pcE_B]; exact hv
  obtain ⟨A, c, ev⟩ := hv.form
  have ev : v = .slice A 2 c := ev
  subst ev
  have c2 := tree_any _ askB (Nat.le_refl _) (.slice A 2 c) [] w1 w1 hv0 (by rw [List.append_nil, pcE_B]; decide) (Below.refl _ _)
  have hb1' := Lib.hid (below_then hbB'.out hb1)
  have hr1 := Lib.hid (blk_at hrB.out hb1)
  clear c1 hb1 hv hv0 hrB hbB' hwB
  go_wp2_with fail
  go_at_call 18
  with_reducible refine c2.mono ?_
  rintro e w2 ⟨⟨xv, v', rfl, ⟨kv, rfl, hkv⟩, hv2⟩, hb2⟩
  obtain ⟨nb, e1, _⟩ := sv_some askB.n
  obtain ⟨tb, e2, _⟩ := sv_some askB.t
  obtain ⟨kA, kc, ek⟩ := hkv.form
  obtain ⟨kn, hkn⟩ : ∃ kn, askB.ks.length = kn := ⟨_, rfl⟩
  rw [hkn] at ek
  subst ek
  have hE : ElB w2 askB nb tb kA kn kc := ⟨e1, e2, hkv.mono (fun _ _ _ => trivial), by unfold Sm; rw [pcE_B]; decide⟩
  obtain ⟨A2, c2', ev2⟩ := hv2.form
  subst ev2
  rw [e1, e2]
  have hxs : askB.s = 1 := rfl
  rw [hxs]
  obtain ⟨w3, hw3⟩ : ∃ w3, w2.alloc (.cells #[.int .i64 1, .string nb, .string tb, .slice kA kn kc] 59) = w3 := ⟨_, rfl⟩
  have hb3 : Below w2.heap.size w2 w3 := by rw [← hw3]; exact (Below.refl _ _).alloc (Nat.le_refl _) _
  have hk3 : w3.heap[w2.heap.size]? = some (elB 1 nb tb (.slice kA kn kc)) := by rw [← hw3]; exact heap_alloc_new w2 _
  have c4 := askOf_B hE w3 hb3
  obtain ⟨x0, x1, x2, x3, _, _, _, _, xz⟩ := cellsE hk3
  have hb13 := below_then hb2 hb3
  have hr3 := Lib.hid (blk_at hr1.out hb13)
  have hb3' := Lib.hid (below_then hb1'.out hb13)
  clear c2 hb2 hkv hv2 e1 e2 hkn hE hxs hb3 hk3 hb13 hr1 hb1'
  go_wp2_with fail
  go_at_call 19
  with_reducible refine c4.mono ?_
  rintro e w4 ⟨rfl, hb4⟩
  go_upto_if 33 with fail
  obtain ⟨w5, hw5⟩ : ∃ w5, w4.alloc (.cells #[.int .i64 0, (.slice none 0 0), .string ⟨#[]⟩, .slice none 0 0] 30) = w5 := ⟨_, rfl⟩
  rw [hw5]
  have hb5 : Below w4.heap.size w4 w5 := by rw [← hw5]; exact (Below.refl _ _).alloc (Nat.le_refl _) _
  have hk5 : w5.heap[w4.heap.size]? = some (.cells #[.int .i64 0, (.slice none 0 0), .string ⟨#[]⟩, .slice none 0 0] 30 (0, 0)) := by rw [← hw5]; exact heap_alloc_new w4 _
  obtain ⟨u0, u1, u2, u3, _, _, _, _, uz⟩ := cells4 hk5
  have hb45 := below_then hb4 hb5
  have hr5 := blk_at hr3.out hb45
  have hb5' := below_then hb3'.out hb45
  obtain ⟨z0, z1, z2, z3, f0, f1, f2, f3, fz⟩ := cells4 hr5
  obtain ⟨y0, y1, y2, y3, _⟩ := cells4 (set4 hr5 (.int .i64 0) (.slice none 0 0) (.string ⟨#[]⟩) (.slice none 0 0))
  have hfin := Lib.hid (bel4 hb5' (show w.heap.size ≤ Z by rw [hZ'.out]; exact Nat.le_refl _) (.int .i64 0) (.slice none 0 0) (.string ⟨#[]⟩) (.slice none 0 0))
  clear c4 hb4 hb5 hk5 hb45 hr5 hb5' hr3 hb3' x0 x1 x2 x3 xz hw3 hne hne2 hne3
  clear uz hZ hw5
  go_wp2
  exact bodyPost_ret (v := .tuple #[.agg #[.int .i64 0, (.slice none 0 0), .string ⟨#[]⟩, .slice none 0 0], .int .i64 90]) (by simp [results, Tryz.results7, go_sem, y0, y1, y2, y3]) rfl ⟨rfl, hfin.out⟩
end Go.Proofs.YtmmpojhjpghdlaaGreatDoor.Dv

/-
  THE LAW's first, OF LAYER dav, GO ON (written by tools/genask.py): ParseAsk of nothing.
-/
set_option linter.unusedVariables false
namespace Go.Proofs.YtmmpojhjpghdlaaGreatDoor.Dv
open Go.Lib Go.RowKit Rg
open Xm (Row Pc sv PsOwn PcsAt below_then below_drewN sv_some sv_str ParseC Gw gw_below parseX mostS)

set_option maxHeartbeats 8000000 in
set_option maxRecDepth 100000 in
theorem parseAsk_0 (w : World) :
    Calls Tryz.prog 7 #[.string ⟨#[]⟩] w fun e w' => e = .returned (.tuple #[.agg #[.int .i64 1, .slice none 0 0, .string ⟨#[]⟩, .slice none 0 0], .int .i64 0]) ∧ Below w.heap.size w w' := by
  have hr := heap_alloc_new w (.cells #[.int .i64 0, .slice none 0 0, .string ⟨#[]⟩, .slice none 0 0] 30)
  obtain ⟨wB, hwB⟩ : ∃ wB, w.alloc (.cells #[.int .i64 0, .slice none 0 0, .string ⟨#[]⟩, .slice none 0 0] 30) = wB := ⟨_, rfl⟩
  have hbB : Below w.heap.size w wB := by rw [← hwB]; exact (Below.refl _ _).alloc (Nat.le_refl _) _
  rw [hwB] at hr
  obtain ⟨z0, z1, z2, z3, f0, f1, f2, f3, fz⟩ := cells4 hr
  obtain ⟨y0, y1, y2, y3, _⟩ := cells4 (set4 hr (.int .i64 1) (.slice none 0 0) (.string ⟨#[]⟩) (.slice none 0 0))
  have hfin := Lib.hid (bel4 hbB (Nat.le_refl w.heap.size) (.int .i64 1) (.slice none 0 0) (.string ⟨#[]⟩) (.slice none 0 0))
  clear hr hbB
  go_enter Tryz.func7, Tryz.ntmps7
  go_wp2
  exact bodyPost_ret (v := .tuple #[.agg #[.int .i64 1, .slice none 0 0, .string ⟨#[]⟩, .slice none 0 0], .int .i64 0]) (by simp [results, Tryz.results7, go_sem, y0, y1, y2, y3]) rfl ⟨rfl, hfin.out⟩
end Go.Proofs.YtmmpojhjpghdlaaGreatDoor.Dv

/-
  THE LAW's first, OF LAYER dav: it answers true.
-/
set_option linter.unusedVariables false
namespace Go.Proofs.YtmmpojhjpghdlaaGreatDoor.Dv
open Go.Lib Go.RowKit Rg
open Xm (Row Pc sv PsOwn PcsAt below_then below_drewN sv_some sv_str ParseC Gw gw_below parseX mostS)

theorem box_below {w W : World} (h : Below w.heap.size w W) (b : Obj) : Below w.heap.size w (W.alloc b) := below_then h ((Below.refl _ _).alloc (Nat.le_refl _) _)
theorem box_one {W : World} (b : Obj) : Below W.heap.size W (W.alloc b) := (Below.refl _ _).alloc (Nat.le_refl _) _

set_option maxHeartbeats 8000000 in
set_option maxRecDepth 100000 in
theorem first_any (cP : ParseC) (w : World) (hT : Gw w) :
    Calls Tryz.prog 6 #[] w fun e w' => e = .returned (.bool true) ∧ Below w.heap.size w w' := by
  have c1 := parseAsk_A cP w hT
  have hT' := Lib.hid hT
  clear hT
  go_enter Tryz.func6, Tryz.ntmps6
  go_wp2_with fail
  go_at_call 7
  refine c1.mono ?_
  rintro e w1 ⟨⟨v, rfl, hn⟩, hb1⟩
  have hb1' := Lib.hid hb1
  have hn' := Lib.hid hn
  obtain ⟨gv, cv, ev, _, _, _⟩ := hn
  subst ev
  clear c1 hb1
  go_wp2_with fail
  go_at_call 7
  obtain ⟨q1, hq1⟩ : ∃ q1, w1.alloc (.cells #[.int .i64 3, .slice (some ⟨gv, 0, none⟩) 1 cv, .string ⟨#[]⟩, .slice none 0 0] 30) = q1 := ⟨_, rfl⟩
  rw [hq1]
  have hbq1 : Below w.heap.size w q1 := by rw [← hq1]; exact box_below hb1'.out _
  have hb11 : Below w1.heap.size w1 q1 := by rw [← hq1]; exact box_one _
  have hk1 : q1.heap[w1.heap.size]? = some (.cells #[.int .i64 3, .slice (some ⟨gv, 0, none⟩) 1 cv, .string ⟨#[]⟩, .slice none 0 0] 30 (0, 0)) := by rw [← hq1]; exact heap_alloc_new w1 _
  have hnq := Lib.hid (hn'.out.kept hb11)
  clear hb11 hq1
  refine (parseAsk_B cP q1 (gw_below hT'.out hbq1)).mono ?_
  rintro e w2 ⟨rfl, hb2⟩
  have hb2' := Lib.hid (below_then hbq1 hb2)
  have hk2 := Lib.hid (blk_at hk1 hb2)
  have hn2 := Lib.hid (hnq.out.kept hb2)
  clear hb2 hbq1 hk1 hnq hn'
  go_wp2_with fail
  go_at_call 7
  obtain ⟨q2, hq2⟩ : ∃ q2, w2.alloc (.cells #[.int .i64 0, .slice none 0 0, .string ⟨#[]⟩, .slice none 0 0] 30) = q2 := ⟨_, rfl⟩
  rw [hq2]
  have hb22 : Below w2.heap.size w2 q2 := by rw [← hq2]; exact box_one _
  clear hq2
  refine (parseAsk_0 q2).mono ?_
  rintro e w3 ⟨rfl, hb3⟩
  have hb23 := below_then hb22 hb3
  have hb3' := Lib.hid (below_then hb2'.out hb23)
  have hk3 := Lib.hid (blk_at hk2.out hb23)
  have hn3 := Lib.hid (hn2.out.kept hb23)
  clear hb3 hb22 hb23 hb2' hk2 hn2 hb1'
  go_upto_region 4 with fail
  obtain ⟨q3, hq3⟩ : ∃ q3, w3.alloc (.cells #[.int .i64 1, .slice none 0 0, .string ⟨#[]⟩, .slice none 0 0] 30) = q3 := ⟨_, rfl⟩
  rw [hq3]
  have hb33 : Below w3.heap.size w3 q3 := by rw [← hq3]; exact box_one _
  have hk33 : q3.heap[w3.heap.size]? = some (.cells #[.int .i64 1, .slice none 0 0, .string ⟨#[]⟩, .slice none 0 0] 30 (0, 0)) := by rw [← hq3]; exact heap_alloc_new w3 _
  have hfin := Lib.hid (below_then hb3'.out hb33)
  have hn4 := hn3.out.kept hb33
  obtain ⟨g4, c4, ev, hn0, hn1, hnz⟩ := hn4
  obtain ⟨rfl, rfl⟩ : gv = g4 ∧ cv = c4 := by
    simp only [Value.slice.injEq, Option.some.injEq, Addr.mk.injEq, true_and, and_true] at ev
    exact ev
  clear ev
  obtain ⟨z0, z1, z2, z3, _, _, _, _, zz⟩ := cells4 (blk_at hk3.out hb33)
  obtain ⟨u0, u1, u2, u3, _, _, _, _, uu⟩ := cells4 hk33
  clear hq3 hb33 hk33 hn3 hk3 hb3'
  go_wp2
  exact bodyPost_ret (v := .bool true) (by simp [results, Tryz.results6, go_sem]) rfl ⟨rfl, hfin.out⟩
end Go.Proofs.YtmmpojhjpghdlaaGreatDoor.Dv

/-
  THE WALK OF THE LAW DavTells.
-/
set_option linter.unusedVariables false
namespace Go.Proofs.YtmmpojhjpghdlaaGreatDoor.Dv
open Go.Lib Go.RowKit Rg
open T5 (tdB)
open Xm (refPrint_any)
open Xm (Row Pc sv PsOwn PcsAt below_then below_drewN sv_some sv_str ParseC PrintC Gw gw_below parseX mostS mostP szs szP prX right szs_len prX_len)

/-! ### how long what is told is -/
theorem szsA (a b : List Pc) : szs (a ++ b) = szs a + szs b := by simp [szs]
theorem szsE (s : Int) (n : Row) (w : List Pc) : szs (el s n w) = 2 * n.length + 2 + szs w := by
  simp [el, opn, cls, szs, szP]; omega
theorem szsF (s : Int) (n t : Row) : szs (full s n t) = 2 * n.length + 3 + t.length := by
  rw [full, szsE]; simp [szs, szP]; omega
theorem szsO (s : Int) (n t : Row) : szs (opt s n t) ≤ 2 * n.length + 3 + t.length := by
  unfold opt
  split
  · simp [szs]
  · rw [szsF]; omega
theorem szsI (i : It) : szs (pcI i) ≤ 300 + La.szI i := by
  have hk : szs (bookP i.book) ≤ 80 := by cases i.book <;> decide
  have h1 := szsO 1 etagS i.tag
  have h2 := szsO 2 addrS i.data
  have l1 : etagS.length = 7 := rfl
  have l2 : addrS.length = 12 := rfl
  have l3 : respS.length = 8 := rfl
  have l4 : hrefS.length = 4 := rfl
  have l5 : statusS.length = 6 := rfl
  have l6 : pstatS.length = 8 := rfl
  have l7 : propS.length = 4 := rfl
  have l8 : s404.length = 22 := rfl
  have l9 : s200.length = 15 := rfl
  unfold pcI La.szI
  rw [szsE, szsA, szsF]
  unfold pcS
  split
  · rw [szsF]; omega
  · rw [szsE, szsA, szsE, szsF]
    unfold pcP
    rw [szsA, szsA]
    omega
theorem szsP (is : List It) : szs (pcs is) ≤ 300 * is.length + La.szIs is := by
  induction is with
  | nil => simp [pcs, szs]
  | cons i r ih =>
    have h1 := szsI i
    have h2 : szs (pcs (i :: r)) = szs (pcI i) + szs (pcs r) := by rw [← szsA]; simp [pcs]
    have h3 : La.szIs (i :: r) = La.szI i + La.szIs r := by simp [La.szIs]
    rw [h2, h3, List.length_cons]; omega
theorem szsT (t : Td) : szs (pcT t) ≤ 100 + 300 * t.items.length + La.szIs t.items + t.token.length := by
  have h1 := szsP t.items
  have h2 := szsO 1 stokS t.token
  have l1 : stokS.length = 10 := rfl
  have l2 : mstatS.length = 11 := rfl
  unfold pcT
  rw [szsE, szsA]; omega
theorem szI_mem {is : List It} {i : It} (h : i ∈ is) : La.szI i ≤ La.szIs is := by
  induction is with
  | nil => cases h
  | cons q r ih =>
    have h3 : La.szIs (q :: r) = La.szI q + La.szIs r := by simp [La.szIs]
    rcases List.mem_cons.1 h with rfl | h
    · omega
    · have := ih h; omega

/-! ### the walk -/
theorem str_nil : sv ([] : Row) = .string ⟨#[]⟩ := rfl
set_option maxHeartbeats 16000000 in
set_option maxRecDepth 100000 in
theorem tells_walk (cP : ParseC) (cR : PrintC) (v : Value) (t : Td) (w : World) (ht : ToldAt w.heap.size w v t) (hsz : La.szIs t.items + t.token.length ≤ 1048576) (hT : Gw w) :
    Calls Tryz.prog 4 #[v] w fun e w' => e = .returned (.bool true) ∧ Below w.heap.size w w' := by
  have ht0 := ht
  obtain ⟨iv, rfl, hi⟩ := ht
  obtain ⟨x, ex, dx⟩ := sv_some t.token
  rw [ex] at ht0 ⊢
  obtain ⟨A, k, ei⟩ := hi.form
  obtain ⟨n, hn⟩ : ∃ n, t.items.length = n := ⟨_, rfl⟩
  rw [hn] at ei
  subst ei
  obtain ⟨Z, hZ⟩ : ∃ Z, w.heap.size = Z := ⟨_, rfl⟩
  obtain ⟨wB, hwB⟩ : ∃ wB, w.alloc (.cells #[.slice A n k, .string x] 41) = wB := ⟨_, rfl⟩
  have hbB : Below w.heap.size w wB := by rw [← hwB]; exact (Below.refl _ _).alloc (Nat.le_refl _) _
  have hzB : wB.heap[Z]? = some (tdB (.slice A n k) x) := by rw [← hwB, ← hZ]; exact heap_alloc_new w _
  have htB := toldKeep ht0 hbB
  have c1 := first_any cP wB (gw_below hT hbB)
  have hF := Lib.hid (fun wr (h : Below wB.heap.size wB wr) => And.intro (blk_at hzB h) (And.intro (toldKeep htB h) (And.intro (below_then hbB h) (gw_below hT (below_then hbB h)))))
  have hZ' := Lib.hid hZ
  obtain ⟨big, hb1⟩ : ∃ big, decide (100 < n) = big := ⟨_, rfl⟩
  have hb2 : decide ((100 : Int) < (n : Int)) = big := by rw [← hb1]; congr 1; exact propext ⟨fun h => by omega, fun h => by omega⟩
  have hn' := Lib.hid hn
  clear hbB hzB htB ht0 hi hT ex dx hn
  go_enter Tryz.func4, Tryz.ntmps4
  go_wp2_with fail
  go_at_call 6
  with_reducible refine c1.mono ?_
  rintro e w1 ⟨rfl, hw1⟩
  have hw1' := Lib.hid hw1
  obtain ⟨hz1, ht1, hf1, hT1⟩ := hF.out w1 hw1
  obtain ⟨y0, y1, yf0, yf1, yz⟩ := toldC hz1
  have hf1' := Lib.hid hf1
  have hnl : n ≤ 9223372036854775807 := by
    obtain ⟨_, _, ⟨_, _, _, _, q1, q2, q3, _⟩⟩ := ht1
    have := hn'.out
    unfold maxLen at q3
    omega
  clear hwB c1 hw1 hz1 hf1
  cases big with
  | true =>
    go_wp2
    exact bodyPost_ret (v := .bool true) (by simp [results, Tryz.results4, go_sem]) rfl ⟨rfl, hf1'.out⟩
  | false =>
    have hn100 : n ≤ 100 := by have := of_decide_eq_false hb1; omega
    have hsT := szsT t
    have hnn := hn'.out
    have hpl := prX_len (pcT t)
    have hll := szs_len (pcT t)
    have c2 := refPieces_any _ t w1 (show ToldAt w1.heap.size w1 _ t from by
      obtain ⟨iv, h1, h2⟩ := ht1
      exact ⟨iv, h1, h2.less (by have := hf1'.out.size; exact this)⟩) (by omega) (fun i hi => by
        have := szI_mem hi
        unfold La.szI at this
        unfold SzI mostN
        omega) (by unfold mostN; omega)
    have h1 := Lib.hid (show szs (pcT t) ≤ mostP by unfold mostP; omega)
    have h2 := Lib.hid (show (prX (pcT t)).length ≤ 1099511627776 by omega)
    have h3 := Lib.hid (show (pcT t).length ≤ 1099511627776 by omega)
    clear hsT hnn hpl hll ht1 hT1
    obtain ⟨g, hg⟩ : ∃ g, goodT t = g := ⟨_, rfl⟩
    rw [hg] at c2
    have hg' := Lib.hid hg
    clear hg
    go_wp2_with fail
    go_at_call 11
    with_reducible refine c2.mono ?_
    rintro e w2 ⟨⟨pv, rfl, hpv⟩, hw2⟩
    have hw2' := Lib.hid (below_then hw1'.out hw2)
    have hpv' := Lib.hid hpv
    obtain ⟨hz2, ht2, hf2, hT2⟩ := hF.out w2 hw2'.out
    obtain ⟨u0, u1, uf0, uf1, uz⟩ := toldC hz2
    have c3 := printTold_any cR _ t w2 ht2 hf2.size h1.out hT2
    clear c2 hw2 hpv hz2 ht2 hf2 hT2 y0 y1 yf0 yf1 yz hw1' hf1'
    cases g with
    | false =>
      have hP : printT t = ([], 90) := by unfold printT; rw [hg'.out]; rfl
      rw [hP] at c3
      simp only [str_nil] at c3
      go_wp2_with fail
      go_at_call 12
      with_reducible refine c3.mono ?_
      rintro e w3 ⟨rfl, hw3⟩
      have hf3 := Lib.hid (hF.out w3 (below_then hw2'.out hw3)).2.2.1
      clear c3 hw3 u0 u1 uf0 uf1 uz hP
      go_wp2
      exact bodyPost_ret (v := .bool true) (by simp [results, Tryz.results4, go_sem]) rfl ⟨rfl, hf3.out⟩
    | true =>
      obtain ⟨rb, hrb, drb⟩ := sv_some (printT t).1
      obtain ⟨rc, hrc⟩ : ∃ rc, (printT t).2 = rc := ⟨_, rfl⟩
      rw [hrb, hrc] at c3
      obtain ⟨lg, hl⟩ : ∃ lg, decide (65536 < (prX (pcT t)).length) = lg := ⟨_, rfl⟩
      have hR : printT t = if lg = true then ([], 11) else (prX (pcT t), 0) := by
        unfold printT
        rw [hg'.out, ← hl]
        simp only [decide_eq_true_eq]
        rfl
      have hR' := Lib.hid (And.intro hrb (And.intro hrc hR))
      clear hrb hrc hR drb
      obtain ⟨T, hTe⟩ : ∃ T, (⟨(prX (pcT t)).toArray⟩ : ByteArray) = T := ⟨_, rfl⟩
      have hTs : T.size = (prX (pcT t)).length := by rw [← hTe]; simp [ByteArray.size]
      have hTd : T.data.toList = prX (pcT t) := by rw [← hTe]
      have hl1 : decide (65536 < T.size) = lg := by rw [hTs]; exact hl
      have hl2 : decide ((65536 : Int) < (T.size : Int)) = lg := by rw [← hl1]; congr 1; exact propext ⟨fun h => by omega, fun h => by omega⟩
      have hT' := Lib.hid (And.intro hTe (And.intro hTs (And.intro hTd hl)))
      clear hTs hTd hl hTe
      go_wp2_with fail
      go_at_call 12
      with_reducible refine c3.mono ?_
      rintro e w3 ⟨rfl, hw3⟩
      have hw3' := Lib.hid (below_then hw2'.out hw3)
      have c4 := refPrint_any pv (pcT t) w3 (hpv'.out.kept hw3) (right_told hg'.out) h2.out
      rw [hT'.out.1] at c4
      clear c3 hw3 u0 u1 uf0 uf1 uz hw2' hpv'
      go_wp2_with fail
      go_at_call 13
      with_reducible refine c4.mono ?_
      rintro e w4 ⟨rfl, hw4⟩
      have hw4' := Lib.hid (below_then hw3'.out hw4)
      have hf4 := Lib.hid (hF.out w4 hw4'.out).2.2.1
      clear c4 hw4 hw3'
      cases lg with
      | true =>
        obtain ⟨e1, e2, e3⟩ := hR'.out
        rw [e3, if_pos rfl] at e1 e2
        simp only [str_nil] at e1 e2
        obtain rfl := Value.string.inj e1
        subst e2
        clear e1 e3 hR'
        go_wp2
        exact bodyPost_ret (v := .bool true) (by simp [results, Tryz.results4, go_sem]) rfl ⟨rfl, hf4.out⟩
      | false =>
        obtain ⟨e1, e2, e3⟩ := hR'.out
        rw [e3, if_neg (by decide)] at e1 e2
        simp only at e1 e2
        obtain rfl := (Value.string.inj e1).symm.trans hT'.out.1
        subst e2
        obtain ⟨_, hTs, hTd, hl⟩ := hT'.out
        have hlen := of_decide_eq_false hl
        have c5 := parseTold_at cP rb t w4 (by rw [hTd]; exact parse_told hg'.out (by omega)) hg'.out h3.out (by rw [hTs]; unfold mostS; omega) (hF.out w4 hw4'.out).2.2.2
        clear e1 e3 hR' hTs hTd hl hlen
        go_wp2_with fail
        go_at_call 14
        with_reducible refine c5.mono ?_
        rintro e w5 ⟨⟨v5, rfl, ht5⟩, hw5⟩
        obtain ⟨A5, n5, k5, tk5, rfl⟩ := toldV ht5
        have hw5' := Lib.hid (below_then hw4'.out hw5)
        have ht5' := Lib.hid ht5
        clear c5 hw5 ht5 hw4'
        go_upto_region 13 with fail
        obtain ⟨q, hq⟩ : ∃ q, w5.alloc (.cells #[.slice A5 n5 k5, .string tk5] 41) = q := ⟨_, rfl⟩
        rw [hq]
        have hbq : Below w5.heap.size w5 q := by rw [← hq]; exact box_one _
        have hkq : q.heap[w5.heap.size]? = some (tdB (.slice A5 n5 k5) tk5) := by rw [← hq]; exact heap_alloc_new w5 _
        have htq := toldKeep ht5'.out hbq
        obtain ⟨hzq, htq2, hfq, _⟩ := hF.out q (below_then hw5'.out hbq)
        obtain ⟨z0, z1, _, _, zz⟩ := toldC hkq
        obtain ⟨y0, y1, _, _, yz⟩ := toldC hzq
        have c6 := sameTold_any _ _ _ _ t q htq htq2
        have hs : (rb.toList == rb.toList) = true := beq_self_eq_true _
        have hfq' := Lib.hid hfq
        clear hq hbq hkq htq hzq htq2 hfq hw5' ht5'
        go_wp2_with fail
        go_at_call 15
        with_reducible refine c6.mono ?_
        rintro e w6 ⟨rfl, hw6⟩
        have hfin := Lib.hid (below_then hfq'.out hw6)
        clear c6 hw6 z0 z1 zz y0 y1 yz
        go_wp2
        exact bodyPost_ret (v := .bool true) (by simp [results, Tryz.results4, go_sem]) rfl ⟨rfl, hfin.out⟩
end Go.Proofs.YtmmpojhjpghdlaaGreatDoor.Dv

/-
  THE LAW DavTells, tied: whatever Told of a bulk of at most 2^20, it answers true; its argument reads as it did.
-/
set_option linter.unusedVariables false
namespace Go.Proofs.YtmmpojhjpghdlaaGreatDoor.lawDavTells
open Go.Lib Go.RowKit Go.Shelf Go.ChangeShapes Go.WideShapes Go.ChangeAt Dv
open Go.ChangeMaps (open_string shut_string)

theorem laid_tabs {W : World} (hL : laidMetH Tryz.prog Rows.davTellsUptoRow.laid W) (hsh : W.ShapedOpen Tryz.prog) : Xm.Gw W :=
  Xm.gw_of (La.first_eq ▸ Lib.laidMet.reads hL (.tail _ (.tail _ (.tail _ (.tail _ (.tail _ (.tail _ (.head _)))))))) (La.accept_eq ▸ Lib.laidMet.reads hL (.tail _ (.tail _ (.tail _ (.head _)))))
    (Lib.laidMet.reads hL (.tail _ (.tail _ (.tail _ (.tail _ (.tail _ (.head _))))))) (Lib.laidMet.reads hL (.tail _ (.tail _ (.tail _ (.tail _ (.head _)))))) hsh
theorem laid_met (os : Os) (args : Array Value) : laidMet Tryz.prog Rows.davTellsUptoRow.laid ((Xm.laidWorld os).forCall (fun _ _ => 0) ⟨#[], args, []⟩).memory := Xm.laid_met os args

theorem witness_row (os : Os) {H : Type} (enc : TypeId × Value → H) :
    (Rows.OpenSpec.upto Rows.davTellsSpec).preRow enc Tryz.prog Tryz.f4 Rows.davTellsUptoRow.domain false Rows.davTellsUptoRow.laid ((Xm.laidWorld os).forCall (fun _ _ => 0) ⟨#[], #[.agg #[.slice none 0 0, .string ⟨#[]⟩]], []⟩).memory #[.agg #[.slice none 0 0, .string ⟨#[]⟩]] := by
  have hw : (DataW.whole enc Tryz.prog ((Xm.laidWorld os).forCall (fun _ _ => 0) ⟨#[], #[.agg #[.slice none 0 0, .string ⟨#[]⟩]], []⟩).memory Tryz.f4.params.toList Rows.davTellsSpec.vars false (#[Value.agg #[.slice none 0 0, .string ⟨#[]⟩]] : Array Value).toList 8).map (fun x => (x.1, x.2.1)) =
      some ([.agg [.nil, .lit (.string [])]], []) := by kernel_rfl
  obtain ⟨⟨x1, x2, x3⟩, hx, hx1⟩ := Option.map_eq_some_iff.1 hw
  simp only [Prod.mk.injEq] at hx1
  obtain ⟨rfl, rfl⟩ := hx1
  exact OpenSpec.preRow_of_cond 8 hx (by kernel_rfl) (fun k hk => by cases hk; kernel_rfl) (by kernel_rfl) (laid_met os _)

set_option maxRecDepth 100000 in
set_option maxHeartbeats 2000000 in
theorem lifted (os : Os) (started : os.Started) (H : Type) (enc : TypeId × Value → H) (F : Stop.Interp) :
    ReturnsInHanded {} Tryz.checked os 4 .any ((Rows.OpenSpec.upto Rows.davTellsSpec).preRow enc Tryz.prog Tryz.f4 Rows.davTellsUptoRow.domain false Rows.davTellsUptoRow.laid) (((Rows.OpenSpec.upto Rows.davTellsSpec).at F).post enc Tryz.prog Tryz.f4 false true false false) := by
  refine returnsInHanded_of_row (C := Tryz.checked) (s := (Rows.OpenSpec.upto Rows.davTellsSpec)) La.own started (by kernel_rfl) Tryz.func4
    (witness_row_atRef (enc := enc) (C := Tryz.checked) false (Xm.laidWorld os) #[.agg #[.slice none 0 0, .string ⟨#[]⟩]] rfl (by kernel_rfl) (by kernel_rfl) (by kernel_rfl) (witness_row os enc)) ?_
  intro W base args ds gs before hval0 hW _ hcond hsz hL hsh _
  have hval : ∀ (j : Nat) t v, Tryz.f4.params[j]? = some t → args[j]? = some v → Value.okWide Tryz.prog W .any base t v := hval0
  have hW' := hW
  obtain ⟨p, q, hA0, hV0, rfl, _, _⟩ := hW
  have hA : DataW.TrodAll enc Tryz.prog W 0 (fun _ => true) true Tryz.f4.params.toList args.toList ds p := hA0
  rw [Tryz.params4] at hA hval
  obtain ⟨v0, d0, rfl, rfl, h0⟩ := trodAll_one hA
  obtain ⟨rfl, rfl⟩ := trodVars_none hV0
  have hWlt := hW'.lt
  obtain ⟨T0, lv0, lb0⟩ := La.told_open (hval 0 41 v0 rfl rfl) h0
  have hbulk := La.bulk_all (hcond _ rfl)
  have u0 : La.szIs T0.items + T0.token.length ≤ 1048576 := by have h := Nat.le_trans (La.bulk_le (d := d0) (by simp)) hbulk; omega
  clear hA0 hV0 hval0 hsz
  refine (tells_walk Xm.parse_any Xm.print_any v0 T0 W lv0 u0 (laid_tabs hL hsh)).mono ?_
  rintro e W' ⟨rfl, bel⟩
  have e1 : ((Rows.OpenSpec.upto Rows.davTellsSpec).at F).fn H ([d0] ++ []) = { results := [.lit (.bool true)], args := [d0] } := rfl
  refine ⟨_, rfl, La.post_left (pa := p) (pv := []) hW' ?_ ?_ ?_ (by simp) bel rfl⟩
  · intro b sp hd; rw [e1]; exact trodAll_mk1 (shut_bool Tryz.underlying4 _)
  · rw [e1]; exact trodAll_mk1 (Below.trod La.laidOut (by kernel_rfl) (of_decide_eq_true (by kernel_rfl)) h0 bel (fun q hq => hWlt q (by simp [hq])))
  · rw [e1]; rfl

theorem said : Rows.DavTellsUptoSaid :=
  OpenClaim.holds_of_cond 4 Tryz.f4 rfl rfl rfl rfl rfl rfl rfl ⟨rfl, rfl, rfl, rfl, rfl⟩ rfl rfl rfl rfl rfl (by kernel_rfl) Tryz.func4 (by kernel_rfl)
    (of_decide_eq_true (by kernel_rfl)) (by unfold Func.isWrapper; rw [if_neg (of_decide_eq_false (by kernel_rfl))]; exact ⟨rfl, rfl⟩)
    (fun os started H enc _ F => by rw [OpenClaim.pre_eq_preRow]; exact lifted os started H enc F)

/-- No parameter wants a stand-in; the program's own looks are on. -/
theorem plain (f : FuncId) (fn : Func) (hf : Tryz.pinned.checked.prog.funcNamed Rows.davTellsUptoRow.func = some f) (hfn : Tryz.pinned.checked.prog.funcs[f]? = some fn) :
    true = Tryz.pinned.checked.prog.looks [] ∧ ∀ (j : Nat) t, fn.params[j]? = some t → Tryz.pinned.checked.prog.wantsStandIn t = false := by
  obtain rfl : f = 4 := Option.some.inj ((show Tryz.prog.funcNamed Rows.davTellsUptoRow.func = some 4 by kernel_rfl).symm.trans hf) |>.symm
  obtain rfl : fn = Tryz.f4 := (Option.some.inj (Tryz.func4.symm.trans hfn)).symm
  refine ⟨by kernel_rfl, fun j t ht => ?_⟩
  rw [Tryz.params4] at ht
  obtain rfl : t = 41 := by simpa using Array.mem_of_getElem? ht
  exact (show Tryz.prog.wantsStandIn 41 = false by kernel_rfl)

theorem card : Rows.DavTellsUptoCardSaid :=
  Claim7.holds_tied_plain_at .later [] _ _ _ _ said (fun _ h => by cases h) (by kernel_rfl) (fun _ h => by cases h) davTellsUpto_row_tie rfl ⟨rfl, rfl⟩ (by kernel_rfl) rfl plain (by kernel_rfl)
end Go.Proofs.YtmmpojhjpghdlaaGreatDoor.lawDavTells
