/-
  THE WALK OF THE REFERENCE's Text: a segment read.
-/
import Derived.Test.YtolnlhpaaomplaaDoorPathRefSeg
import Derived.Laws.OwnMore
import Derived.Laws.BytesArg
import Derived.Laws.IdiomStrings
import Derived.Deep.RegionHeld3
import Derived.Deep.AppendLies
set_option linter.unusedVariables false
namespace Go.Proofs.YtolnlhpaaomplaaDoor.Pa
open Go.Lib Go.RowKit

theorem info_parts {P : Program} {T : TypeId} {z : Value} {n by' : Nat} (h : (P.info? T).map (fun i => (i.zero, i.size, i.bytes)) = some (some z, n, by')) : ∃ i, P.info? T = some i ∧ i.zero = some z ∧ i.size = n ∧ i.bytes = by' := by
  cases hi : P.info? T with
  | none => rw [hi] at h; cases h
  | some i =>
    rw [hi] at h
    simp only [Option.map_some, Option.some.injEq, Prod.mk.injEq] at h
    exact ⟨i, rfl, h.1, h.2.1, h.2.2⟩
theorem infoU8 : (Tryd.prog.info? 5).map (fun i => (i.zero, i.size, i.bytes)) = some (some (.int .u8 0), 1, 1) := by kernel_rfl

/-- bytes of the call's own -/
def BOwn (B : Nat) (v : Value) (l : Row) (w : World) : Prop := w.ownsRow B 5 1 v l.length (byteCells l)
theorem conv_own {B : Nat} {v : Value} {l : Row} {w : World} (h : BOwn B v l w) : (convert 44 9 v).run Tryd.prog w = .ok (.string ⟨l.toArray⟩) w := by
  obtain ⟨h1, h2 | ⟨g, cap, cur, e1, e2, e3, e4, e5, e6, e7⟩⟩ := h
  · obtain rfl : l = [] := List.eq_nil_of_length_eq_zero h2.2
    rw [h2.1]
    exact run_convert_bytes_nil w 44 5 Tryd.underlying44 Tryd.underlying5 0 0 9 Tryd.underlying9
  · rw [e1]
    refine run_convert_bytes_back w 44 9 5 ⟨g, 0, none⟩ cap l Tryd.underlying44 Tryd.underlying5 Tryd.underlying9 fun j hj => ?_
    have hp : (⟨g, 0, none⟩ : Addr).add j = ⟨g, j, none⟩ := by unfold Addr.add; split <;> simp_all
    rw [hp, Lib.cell_of_heap e3]
    have : (cur.toList.take (l.length * 1))[j]? = (byteCells l)[j]? := by rw [e7]
    rw [List.getElem?_take, if_pos (by omega)] at this
    rw [← Array.getElem?_toList, this]
    unfold byteCells
    rw [List.getElem?_map, List.getElem?_eq_getElem hj]; rfl
/-- one byte more -/
theorem append_byte {w0 : World} {ops : Array Oper} {rest : List Oper} {o : Oper} {a : Act} {Q : Exit → Act → World → Prop} (x : UInt8) (z : Int) (hz : (x.toNat : Int) = z) (hgd : o.guard = none) (s xo : Operand)
    (ho : o.op = .call { callee := .builtin .append, args := #[s, xo], argTypes := #[44, 44] }) (base : Nat) (v : Value) (l : Row) (g : Nat) (hgz : g = w0.heap.size) (hs : a.eval s = v) (hx : a.eval xo = .slice (some ⟨g, 0, none⟩) 1 1)
    (hown : BOwn base v l w0) (hl : l.length + 1 ≤ 140737488355328) (hbase : base ≤ w0.heap.size)
    (h : ∀ v' w', BOwn base v' (l ++ [x]) w' → (w0.alloc (.cells #[.int .u8 z] 5)).grownBy w' v.ownBlock → wpList Tryd.prog ops Q rest (a.put o.dst v') w') :
    wpList Tryd.prog ops Q (o :: rest) a (w0.alloc (.cells #[.int .u8 z] 5)) := by
  obtain ⟨i0, hi, hz0, hz1, hz2⟩ := info_parts infoU8
  subst hz
  subst hgz
  refine wpList_append_own _ hgd s xo 44 ho base 5 i0 (.int .u8 0) 1 1 Tryd.underlying44 hi hz0 hz1 hz2 rfl (by decide) v l.length (byteCells l) hs (World.ownsRow.alloc hown _) ⟨w0.heap.size, 0, none⟩ 1 1 [.int .u8 (x.toNat : Int)] hx rfl (fun j u hj => ?_) (fun u hu => ?_) (by unfold maxLen; omega) (by omega) (by simp; omega) (fun v' w' h5 h6 _ => h v' w' ?_ h6)
  · match j, hj with
    | 0, hj => simp at hj; subst hj; simp [Addr.add]
  · simp at hu
    rcases hu with rfl
    rfl
  · unfold BOwn
    rw [byteCells_append, List.length_append]
    exact h5
/-- the same, as a step of a region that draws its order -/
theorem step_byte {w0 : World} {ops : Array Oper} {o : Oper} {a : Act} {K : Act → World → Prop} {Q : Exit → Act → World → Prop} {E : Prop} (x : UInt8) (z : Int) (hz : (x.toNat : Int) = z) (hgd : o.guard = none) (s xo : Operand)
    (ho : o.op = .call { callee := .builtin .append, args := #[s, xo], argTypes := #[44, 44] }) (base : Nat) (v : Value) (l : Row) (hs : a.eval s = v) (hx : a.eval xo = .slice (some ⟨w0.heap.size, 0, none⟩) 1 1)
    (hown : BOwn base v l w0) (hl : l.length + 1 ≤ 140737488355328) (hbase : base ≤ w0.heap.size)
    (h : ∀ v' w', BOwn base v' (l ++ [x]) w' → (w0.alloc (.cells #[.int .u8 z] 5)).grownBy w' v.ownBlock → K (a.put o.dst v') w') :
    if Region.wanted o (yielded ops a.tmps) = true then Oper.wp Tryd.prog o a (w0.alloc (.cells #[.int .u8 z] 5)) K Q else E := by
  obtain ⟨i0, hi, hz0, hz1, hz2⟩ := info_parts infoU8
  subst hz
  refine step_append_lies (ops := ops) (E := E) _ hgd s xo 44 ho base 5 i0 (.int .u8 0) 1 1 Tryd.underlying44 hi hz0 hz1 hz2 rfl (by decide) v l.length (byteCells l) hs (World.ownsRow.alloc hown _) ⟨w0.heap.size, 0, none⟩ 1 1 [.int .u8 (x.toNat : Int)] hx rfl (fun j u hj => ?_) (fun u hu => ?_) (by omega) (by unfold maxLen; omega) (by omega) (by simp; omega) _ rfl (fun g cap w' h5 h6 _ _ => h _ w' ?_ h6)
  · match j, hj with
    | 0, hj => simp at hj; subst hj; simp [Addr.add]
  · simp at hu
    rcases hu with rfl
    rfl
  · unfold BOwn
    rw [byteCells_append, List.length_append]
    exact h5
theorem below_app {a w0 w' : World} {B B' : Nat} {e : TypeId} {size n : Nat} {v : Value} {xs : List Value} {o : Obj} (hb : Below B a w0) (hB : B ≤ w0.heap.size) (hown : w0.ownsRow B' e size v n xs) (hBB : B ≤ B') (hg : (w0.alloc o).grownBy w' v.ownBlock) : Below B a w' :=
  (hb.alloc hB o).grown hg (by simp; omega) (fun k hk => Nat.le_trans hBB (hown.lt k hk).1)
theorem data_toArray (l : Row) : (⟨l.toArray⟩ : ByteArray).data.toList = l := by simp

theorem tn {x m : UInt8} {k : Int} (hm : (m.toNat : Int) = k) (h : x ≠ m) : ((x.toNat : Int) == k) = false := by subst hm; exact beq_eq_false_iff_ne.2 (fun e => h (UInt8.toNat_inj.1 (by omega)))
theorem ty {x m : UInt8} {k : Int} (hm : (m.toNat : Int) = k) (h : x = m) : ((x.toNat : Int) == k) = true := by subst hm; subst h; simp
/-- what Text answers -/
def TextP (t : Row) (e : Ending) : Prop := ∃ (x : ByteArray) (ok : Bool), e = .returned (.tuple #[.string x, .bool ok]) ∧ (ok = false → textS t = none) ∧ (ok = true → textS t = some x.data.toList)
theorem textP_none {t : Row} (h : rdS t = none) : TextP t (.returned (.tuple #[.string ⟨#[]⟩, .bool false])) := ⟨_, _, rfl, fun _ => by unfold textS; rw [h]; rfl, fun h => by cases h⟩
theorem textP_some {t l : Row} (h : rdS t = some l) : TextP t (.returned (.tuple #[.string ⟨l.toArray⟩, .bool (fits l)])) :=
  ⟨_, _, rfl, fun hf => by unfold textS; rw [h]; simp [hf], fun hf => by unfold textS; rw [h]; simp [hf]⟩
/-- how far it has been read: l of the first i bytes -/
def At (S : Row) (i : Nat) (l : Row) : Prop := rdS S = (rdS (S.drop i)).map (l ++ ·)
theorem At.own {s : ByteArray} {i : Nat} {l : Row} (h : At s.data.toList i l) (hi : i < s.size) (hb : bare (s[i]'hi) = true) : At s.data.toList (i + 1) (l ++ [s[i]'hi]) := by
  unfold At at h ⊢
  rw [h, drop_head s i hi, rdS_bare _ _ hb, Option.map_map]
  congr 1
  funext y
  simp
theorem At.no {s : ByteArray} {i : Nat} {l : Row} (h : At s.data.toList i l) (hi : i < s.size) (hb : bare (s[i]'hi) = false) (hc : s[i]'hi ≠ 37) : rdS s.data.toList = none := by
  unfold At at h
  rw [h, drop_head s i hi, rdS_no _ _ hb hc]; rfl
theorem At.short {s : ByteArray} {i : Nat} {l : Row} (h : At s.data.toList i l) (hi : i < s.size) (hc : s[i]'hi = 37) (h2 : s.size ≤ i + 2) : rdS s.data.toList = none := by
  unfold At at h
  rw [h, drop_head s i hi, hc, rdS_short _ (by rw [List.length_drop, ← Lib.size_eq]; omega)]; rfl
theorem At.bad {s : ByteArray} {i : Nat} {l : Row} (h : At s.data.toList i l) (hi : i < s.size) (hc : s[i]'hi = 37) (h2 : i + 2 < s.size) (hh : ¬ (hexv (s[i + 1]'(by omega)) < 16 ∧ hexv (s[i + 2]'h2) < 16)) : rdS s.data.toList = none := by
  unfold At at h
  rw [h, drop_head s i hi, hc, drop_head s (i + 1) (by omega), drop_head s (i + 2) h2, rdS_bad _ _ _ hh]; rfl
theorem At.esc {s : ByteArray} {i : Nat} {l : Row} (h : At s.data.toList i l) (hi : i < s.size) (hc : s[i]'hi = 37) (h2 : i + 2 < s.size) (h3 : hexv (s[i + 1]'(by omega)) < 16) (h4 : hexv (s[i + 2]'h2) < 16) :
    At s.data.toList (i + 3) (l ++ [UInt8.ofNat (16 * hexv (s[i + 1]'(by omega)) + hexv (s[i + 2]'h2))]) := by
  unfold At at h ⊢
  rw [h, drop_head s i hi, hc, drop_head s (i + 1) (by omega), drop_head s (i + 2) h2, rdS_esc _ _ _ h3 h4, Option.map_map]
  congr 1
  funext y
  simp
theorem At.fin {s : ByteArray} {i : Nat} {l : Row} (h : At s.data.toList i l) (hi : s.size ≤ i) : rdS s.data.toList = some l := by
  unfold At at h
  rw [h, List.drop_eq_nil_of_le (by rw [← Lib.size_eq]; omega)]; simp [rdS]

def TRel (s : ByteArray) (w : World) (s4 s5 : Value) (wr : World) : Prop :=
  ∃ (l : Row) (i : Nat) (v : Value), v = s4 ∧ s5 = .int .i64 (i : Int) ∧ i ≤ s.size ∧ l.length ≤ i ∧ BOwn w.heap.size s4 l wr ∧ Below w.heap.size w wr ∧ At s.data.toList i l

set_option maxHeartbeats 4000000 in
set_option maxRecDepth 100000 in
theorem refText_any (s : ByteArray) (w : World) (hs : s.size ≤ 140737488355328) :
    Calls Tryd.prog 23 #[.string s] w fun e w' => TextP s.data.toList e ∧ Below w.heap.size w w' := by
  go_enter Tryd.func23, Tryd.ntmps23
  go_wp2
  go_loopw [4, 5] (fun s4 s5 wr => TRel s w s4 s5 wr) (fun s4 s5 wr => s.size - (RowKit.intOf s5).toNat)
  case atStart => exact ⟨[], 0, _, rfl, rfl, Nat.zero_le _, Nat.zero_le _, World.ownsRow_nil _ _ _ 1, Below.refl _ _, by unfold At; simp⟩
  case round =>
    obtain ⟨l, i, s4, rfl, rfl, hi, hl, hown, hbw, hR⟩ := hrel
    by_cases hlt : i < s.size
    · obtain ⟨c, hc⟩ : ∃ c, s[i]'hlt = c := ⟨_, rfl⟩
      by_cases c1 : c = 37
      · subst c1
        by_cases h2 : i + 2 < s.size
        · obtain ⟨A, hA⟩ : ∃ A, i + 1 = A := ⟨_, rfl⟩
          obtain ⟨B, hB⟩ : ∃ B, i + 2 = B := ⟨_, rfl⟩
          have hlA : A < s.size := by omega
          have hlB : B < s.size := by omega
          obtain ⟨d, hd⟩ : ∃ d, s[A]'hlA = d := ⟨_, rfl⟩
          obtain ⟨b, hb⟩ : ∃ d, s[B]'hlB = d := ⟨_, rfl⟩
          have k1 : (i : Int) + 1 = (A : Int) := by omega
          have k2 : (i : Int) + 2 = (B : Int) := by omega
          have k3 : (B : Int) < (s.size : Int) := by omega
          have cd := fun W => refHex_any d W
          have cb := fun W => refHex_any b W
          obtain ⟨vd, hvd⟩ : ∃ v, hexv d = v := ⟨_, rfl⟩
          obtain ⟨vb, hvb⟩ : ∃ v, hexv b = v := ⟨_, rfl⟩
          have hE : Hid (vd < 16 → vb < 16 → At s.data.toList (B + 1) (l ++ [UInt8.ofNat (16 * vd + vb)])) := Lib.hid fun q1 q2 => by
            subst hA; subst hB; subst hd; subst hb; subst hvd; subst hvb
            exact hR.esc hlt hc h2 q1 q2
          have hN : Hid (¬ (vd < 16 ∧ vb < 16) → rdS s.data.toList = none) := Lib.hid fun q => by
            subst hA; subst hB; subst hd; subst hb; subst hvd; subst hvb
            exact hR.bad hlt hc h2 q
          rw [hvd] at cd
          rw [hvb] at cb
          have hBi : i < B := by omega
          clear hR hvd hvb hA hB h2
          by_cases q1 : vd < 16
          · by_cases q2 : vb < 16
            · have hn := Lib.hid (hE.out q1 q2)
              obtain ⟨x, hx⟩ : ∃ x, UInt8.ofNat (16 * vd + vb) = x := ⟨_, rfl⟩
              rw [hx] at hn
              have hxv : (16 : Int) * (vd : Int) + (vb : Int) = (x.toNat : Int) := by
                rw [← hx, UInt8.toNat_ofNat']
                omega
              clear hE hN hx
              go_wp2_with (go_at_call 32; first | (with_reducible refine (cd _).mono ?_; rintro e w2 ⟨rfl, rfl⟩) | (with_reducible refine (cb _).mono ?_; rintro e w2 ⟨rfl, rfl⟩))
              have k4 : (A : Int) < (s.size : Int) := by omega
              have k5 : (0 : Int) ≤ (A : Int) := by omega
              have k6 : (0 : Int) ≤ (B : Int) := by omega
              have r1 : IntKind.i64.wrap (A : Int) = (A : Int) := IntWalk.i64_in _ (by omega)
              have r2 : IntKind.i64.wrap (B : Int) = (B : Int) := IntWalk.i64_in _ (by omega)
              have r3 : IntKind.i64.wrap ((16 : Int) * (vd : Int)) = (16 : Int) * (vd : Int) := IntWalk.i64_in _ (by omega)
              have r4 : IntKind.i64.wrap (x.toNat : Int) = (x.toNat : Int) := IntWalk.i64_in _ (by have := x.toNat_lt; omega)
              have r5 : IntKind.u8.wrap (x.toNat : Int) = (x.toNat : Int) := IntWalk.u8_in _ (by have := x.toNat_lt; omega)
              have hS0 : Hid (BOwn w.heap.size s4 l wr.drew ∧ Below w.heap.size w wr.drew) := Lib.hid ⟨hown, hbw.drew⟩
              clear hown hbw
              go_region_held3 (fun W => Below w.heap.size w W) (first | assumption | exact hS0.out.2 | exact hS0.out.2.alloc hS0.out.2.size _ | exact below_app hS0.out.2 hS0.out.2.size hS0.out.1 (Nat.le_refl _) (by assumption))
                (first
                  | (go_at_call 32; with_reducible refine (cd _).mono ?_; rintro e wx ⟨rfl, rfl⟩)
                  | (go_at_call 32; with_reducible refine (cb _).mono ?_; rintro e wx ⟨rfl, rfl⟩)
                  | (refine step_byte (w0 := wr.drew) x _ (by rfl) (by rfl) _ _ (by rfl) w.heap.size s4 l (by rfl) (by rfl) hS0.out.1 (by omega) hS0.out.2.size ?_; intro v' w3 hown3 hg))
              all_goals
                have hbw3 : Below w.heap.size w w3 := below_app hS0.out.2 hS0.out.2.size hS0.out.1 (Nat.le_refl _) hg
                clear hg hS0 r1 r2 r3 r4 r5
                go_wp2
                go_roundw
              all_goals first
                | exact ⟨_, B + 1, _, rfl, by go_num, by omega, by simp; omega, hown3, hbw3, hn.out⟩
                | (simp [RowKit.intOf]; omega)
            · have hf := Lib.hid (textP_none (hN.out (fun h => q2 h.2)))
              have hbw' := Lib.hid hbw
              have q3 : (15 : Int) < (vb : Int) := by omega
              have q4 : ¬ (15 : Int) < (vd : Int) := by omega
              clear hE hN hown hbw hl
              go_wp2_with (go_at_call 32; first | (with_reducible refine (cd _).mono ?_; rintro e w2 ⟨rfl, rfl⟩) | (with_reducible refine (cb _).mono ?_; rintro e w2 ⟨rfl, rfl⟩))
              go_ret2
              exact ⟨hf.out, hbw'.out⟩
          · have hf := Lib.hid (textP_none (hN.out (fun h => q1 h.1)))
            have hbw' := Lib.hid hbw
            have q3 : (15 : Int) < (vd : Int) := by omega
            clear hE hN hown hbw hl
            go_wp2_with (go_at_call 32; first | (with_reducible refine (cd _).mono ?_; rintro e w2 ⟨rfl, rfl⟩) | (with_reducible refine (cb _).mono ?_; rintro e w2 ⟨rfl, rfl⟩))
            go_ret2
            exact ⟨hf.out, hbw'.out⟩
        · have hf := Lib.hid (textP_none (hR.short hlt hc (by omega)))
          have hbw' := Lib.hid hbw
          have hg1 : ((s.size : Int) ≤ (i : Int) + 2) := by omega
          clear hR hown hbw hl
          go_wp2
          go_ret2
          exact ⟨hf.out, hbw'.out⟩
      · have d1 : (((c.toNat : Nat) : Int) == 37) = false := tn (m := 37) rfl c1
        have cB := refBare_any c wr
        by_cases hb : bare c = true
        · have hn := Lib.hid (hR.own hlt (by rw [hc]; exact hb))
          rw [hc] at hn
          rw [hb] at cB
          clear hR hb c1
          go_wp2_with (first | (go_at_call 19; refine cB.mono ?_; rintro e w2 ⟨rfl, rfl⟩) | (at_builtin; refine append_byte (w0 := wr) c _ rfl rfl _ _ rfl w.heap.size _ l wr.heap.size rfl rfl rfl hown ?c1 ?c2 ?_))
          case c1 => omega
          case c2 => exact hbw.size
          intro v' w3 hown3 hg
          have hbw3 := below_app hbw hbw.size hown (Nat.le_refl _) hg
          clear hg hown
          go_wp2
          go_roundw
          case rel => exact ⟨_, i + 1, _, rfl, by go_num, by omega, by simp; omega, hown3, hbw3, hn.out⟩
          case measure => simp [RowKit.intOf]; omega
        · have hbf : bare c = false := by simpa using hb
          have hf := Lib.hid (textP_none (hR.no hlt (by rw [hc]; exact hbf) (by rw [hc]; exact c1)))
          rw [hbf] at cB
          have hbw' := Lib.hid hbw
          clear hR hb hbf c1 hown hbw hl
          go_wp2_with (go_at_call 19; refine cB.mono ?_; rintro e w2 ⟨rfl, rfl⟩)
          go_ret2
          exact ⟨hf.out, hbw'.out⟩
    · have hf := Lib.hid (textP_some (hR.fin (by omega)))
      have hcv : ∀ n, (convert 44 9 s4).run Tryd.prog (wr.drewN n) = .ok (.string ⟨l.toArray⟩) (wr.drewN n) := fun n => conv_own (w := wr.drewN n) hown
      have cF := fun W => refFits_any ⟨l.toArray⟩ W (by rw [Lib.size_eq, data_toArray]; omega)
      have hbw' := Lib.hid hbw
      rw [data_toArray] at cF
      clear hR hown hbw hl
      go_wp2_with fail
      go_quiet ((go_at_call 9; exact Calls.quiet_of_same ((cF _).mono fun e w' h => ⟨h.1, h.2.symm⟩)))
      go_wp2
      go_ret2
      exact ⟨hf.out, below_drewN _ hbw'.out⟩
end Go.Proofs.YtolnlhpaaomplaaDoor.Pa
