/-
  WALKS OF THE REFERENCE's Signs AND Plain.
-/
import Derived.Test.YtjdockjkioomiaaValueFirst
import Derived.Test.YtjdockjkioomiaaValueSigns
import Derived.Laws.BytesArg
import Derived.Laws.IdiomStrings
set_option linter.unusedVariables false
namespace Go.Proofs.Ytjdockjkioomiaa.Va
open Go.Lib Go.RowKit Bu

def SignsP (B : Nat) (t : Row) (e : Ending) (w' : World) : Prop :=
  (signs t = none ∧ e = .returned (.tuple #[.slice none 0 0, .bool false])) ∨ ∃ (v : Value) (l : List Sg), signs t = some l ∧ e = .returned (.tuple #[v, .bool true]) ∧ SOwn B v l w'
/-- one sign more -/
theorem append_sg {w0 : World} {ops : Array Oper} {rest : List Oper} {o : Oper} {a : Act} {Q : Exit → Act → World → Prop} (x : UInt8) (k : Bool) (z : Int) (hz : (x.toNat : Int) = z) (hgd : o.guard = none) (s xo : Operand)
    (ho : o.op = .call { callee := .builtin .append, args := #[s, xo], argTypes := #[23, 23] }) (base : Nat) (v : Value) (l : List Sg) (g : Nat) (hgz : g = w0.heap.size) (hs : a.eval s = v) (hx : a.eval xo = .slice (some ⟨g, 0, none⟩) 1 1)
    (hown : SOwn base v l w0) (hl : l.length ≤ 1099511627776) (hbase : base ≤ w0.heap.size)
    (h : ∀ v' w', SOwn base v' (l ++ [(x, k)]) w' → (w0.alloc (.cells #[.int .u8 z, .bool k] 49)).grownBy w' v.ownBlock → wpList Try.prog ops Q rest (a.put o.dst v') w') :
    wpList Try.prog ops Q (o :: rest) a (w0.alloc (.cells #[.int .u8 z, .bool k] 49)) := by
  obtain ⟨i0, hi, hz0, hz1, hz2⟩ := info_parts infoSg
  subst hz
  subst hgz
  refine wpList_append_own _ hgd s xo 23 ho base 49 i0 (.agg #[.int .u8 0, .bool false]) 2 2 Try.underlying23 hi hz0 hz1 hz2 rfl (by decide) v l.length (sgc l) hs (World.ownsRow.alloc hown _) ⟨w0.heap.size, 0, none⟩ 1 1 [.int .u8 (x.toNat : Int), .bool k] hx rfl (fun j u hj => ?_) (fun u hu => ?_) (by unfold maxLen; omega) (by omega) (by simp; omega) (fun v' w' h5 h6 _ => h v' w' (SOwn.snoc h5) h6)
  · match j, hj with
    | 0, hj => simp at hj; subst hj; simp [Addr.add]
    | 1, hj => simp at hj; subst hj; simp [Addr.add]
  · simp at hu
    rcases hu with rfl | rfl <;> rfl
theorem below_app {a w0 w' : World} {B B' : Nat} {e : TypeId} {size n : Nat} {v : Value} {xs : List Value} {o : Obj} (hb : Below B a w0) (hB : B ≤ w0.heap.size) (hown : w0.ownsRow B' e size v n xs) (hBB : B ≤ B') (hg : (w0.alloc o).grownBy w' v.ownBlock) : Below B a w' :=
  (hb.alloc hB o).grown hg (by simp; omega) (fun k hk => Nat.le_trans hBB (hown.lt k hk).1)

def SgRel (S : Row) (n : Nat) (w : World) (s4 s5 : Value) (wr : World) : Prop :=
  ∃ (l : List Sg) (i : Nat) (v : Value), v = s4 ∧ s5 = .int .i64 (i : Int) ∧ i ≤ n ∧ l.length ≤ i ∧ SOwn w.heap.size s4 l wr ∧ Below w.heap.size w wr ∧ signs S = (signs (S.drop i)).map fun y => l ++ y

set_option maxHeartbeats 8000000 in
set_option maxRecDepth 100000 in
theorem refSigns_any (s : ByteArray) (w : World) (hs : s.size ≤ 1099511627776) :
    Calls Try.prog 9 #[.string s] w fun e w' => SignsP w.heap.size s.data.toList e w' ∧ Below w.heap.size w w' := by
  have hown1 : ∀ (i : Nat) (h : i < s.size) (l : List Sg), s[i]'h ≠ 92 → (signs s.data.toList = (signs (s.data.toList.drop i)).map fun y => l ++ y) → signs s.data.toList = (signs (s.data.toList.drop (i + 1))).map fun y => (l ++ [(s[i]'h, false)]) ++ y := fun i h l hc hR => by
    rw [hR, drop_head s i h, signs_own _ _ hc, Option.map_map]
    congr 1
    funext y
    simp
  have hesc1 : ∀ (i : Nat) (h : i < s.size) (h2 : i + 1 < s.size) (l : List Sg), s[i]'h = 92 → (signs s.data.toList = (signs (s.data.toList.drop i)).map fun y => l ++ y) →
      (∀ d, kep (s[i + 1]'h2) = some d → signs s.data.toList = (signs (s.data.toList.drop (i + 2))).map fun y => (l ++ [(d, true)]) ++ y) ∧ (kep (s[i + 1]'h2) = none → signs s.data.toList = none) := fun i h h2 l hc hR => by
    rw [hR, drop_head s i h, hc, drop_head s (i + 1) h2, signs_esc]
    refine ⟨fun d hd => ?_, fun hd => by rw [hd]; rfl⟩
    rw [hd, Option.bind_some, Option.map_map]
    congr 1
    funext y
    simp
  have hend1 : ∀ (i : Nat) (h : i < s.size) (l : List Sg), ¬ i + 1 < s.size → s[i]'h = 92 → (signs s.data.toList = (signs (s.data.toList.drop i)).map fun y => l ++ y) → signs s.data.toList = none := fun i h l h2 hc hR => by
    rw [hR, drop_head s i h, hc, List.drop_eq_nil_of_le (by rw [← Lib.size_eq]; omega), signs_end]; rfl
  have ho := Lib.hid hown1
  have he := Lib.hid hesc1
  have hd := Lib.hid hend1
  clear hown1 hesc1 hend1
  go_enter Try.func9, Try.ntmps9
  go_wp2
  go_loopw [4, 5] (fun s4 s5 wr => SgRel s.data.toList s.size w s4 s5 wr) (fun s4 s5 wr => s.size - (RowKit.intOf s5).toNat)
  case atStart => exact ⟨[], 0, _, rfl, rfl, Nat.zero_le _, Nat.zero_le _, SOwn.nil _ _, Below.refl _ _, by simp⟩
  case round =>
    obtain ⟨l, i, s4, rfl, rfl, hi, hl, hown, hbw, hR⟩ := hrel
    by_cases hlt : i < s.size
    · by_cases c1 : s[i]'hlt = 92
      · have d1 : ((((s[i]'hlt).toNat : Nat) : Int) == 92) = true := ty (m := 92) rfl c1
        have d1' : ((((s[i]'hlt).toNat : Nat) : Int) != 92) = false := by unfold bne; rw [d1]; rfl
        by_cases hlt2 : i + 1 < s.size
        · obtain ⟨A, hA⟩ : ∃ A, i + 1 = A := ⟨_, rfl⟩
          obtain ⟨g1, g2⟩ := he.out i hlt hlt2 l c1 hR
          have hAI : (i : Int) + 1 = (A : Int) := by omega
          have hltA : A < s.size := by omega
          have hg1 : ∀ d, kep (s[A]'hltA) = some d → signs s.data.toList = (signs (s.data.toList.drop (A + 1))).map fun y => (l ++ [(d, true)]) ++ y := by subst hA; exact g1
          have hg2 : kep (s[A]'hltA) = none → signs s.data.toList = none := by subst hA; exact g2
          have hg1' := Lib.hid hg1
          have hg2' := Lib.hid hg2
          have hA' := Lib.hid hA
          have hiA : i < A := by omega
          clear c1 g1 g2 hg1 hg2 hR hlt2 hA
          by_cases e1 : s[A]'hltA = 110 ∨ s[A]'hltA = 78
          · have hn := Lib.hid (hg1'.out 10 (kep_feed _ e1))
            have hd2 : (((((s[A]'hltA).toNat : Nat) : Int) == 110) = true) ∨ (((((s[A]'hltA).toNat : Nat) : Int) == 110) = false ∧ ((((s[A]'hltA).toNat : Nat) : Int) == 78) = true) := by
              by_cases f1 : s[A]'hltA = 110
              · exact .inl (ty (m := 110) rfl f1)
              · exact .inr ⟨tn (m := 110) rfl f1, ty (m := 78) rfl (by rcases e1 with h | h; exact absurd h f1; exact h)⟩
            clear e1
            rcases hd2 with d2 | ⟨d2, d3⟩
            all_goals
              go_wp2_with (at_builtin; refine append_sg (w0 := wr) 10 true 10 rfl rfl _ _ rfl w.heap.size _ l wr.heap.size rfl rfl rfl hown ?c1 ?c2 ?_)
              case c1 => omega
              case c2 => exact hbw.size
              intro v' w3 hown3 hg
              have hbw3 := below_app hbw hbw.size hown (Nat.le_refl _) hg
              clear hg hown
              go_wp2
              go_roundw
              case rel => exact ⟨_, A + 1, _, rfl, by go_num, by omega, by simp; omega, hown3, hbw3, hn.out⟩
              case measure => simp [RowKit.intOf]; omega
          · have d2 : ((((s[A]'hltA).toNat : Nat) : Int) == 110) = false := tn (m := 110) rfl (fun h => e1 (.inl h))
            have d3 : ((((s[A]'hltA).toNat : Nat) : Int) == 78) = false := tn (m := 78) rfl (fun h => e1 (.inr h))
            by_cases e2 : s[A]'hltA = 92 ∨ s[A]'hltA = 44 ∨ s[A]'hltA = 59
            · have hn := Lib.hid (hg1'.out _ (kep_own _ e2))
              have hd2 : (((((s[A]'hltA).toNat : Nat) : Int) == 92) = true ∨ (((((s[A]'hltA).toNat : Nat) : Int) == 92) = false ∧ ((((s[A]'hltA).toNat : Nat) : Int) == 44) = true) ∨ (((((s[A]'hltA).toNat : Nat) : Int) == 92) = false ∧ ((((s[A]'hltA).toNat : Nat) : Int) == 44) = false ∧ ((((s[A]'hltA).toNat : Nat) : Int) == 59) = true)) := by
                by_cases c1 : s[A]'hltA = 92
                · exact .inl (ty (m := 92) rfl c1)
                · by_cases c2 : s[A]'hltA = 44
                  · exact .inr (.inl ⟨tn (m := 92) rfl c1, ty (m := 44) rfl c2⟩)
                  · refine .inr (.inr ⟨tn (m := 92) rfl c1, tn (m := 44) rfl c2, ty (m := 59) rfl ?_⟩)
                    rcases e2 with h | h | h
                    · exact absurd h c1
                    · exact absurd h c2
                    · exact h
              clear e1 e2
              rcases hd2 with d4 | ⟨d4, d5⟩ | ⟨d4, d5, d6⟩
              all_goals
                go_wp2_with (at_builtin; refine append_sg (w0 := wr) (s[A]'hltA) true _ rfl rfl _ _ rfl w.heap.size _ l wr.heap.size rfl rfl rfl hown ?c1 ?c2 ?_)
                case c1 => omega
                case c2 => exact hbw.size
                intro v' w3 hown3 hg
                have hbw3 := below_app hbw hbw.size hown (Nat.le_refl _) hg
                clear hg hown
                go_wp2
                go_roundw
                case rel => exact ⟨_, A + 1, _, rfl, by go_num, by omega, by simp; omega, hown3, hbw3, hn.out⟩
                case measure => simp [RowKit.intOf]; omega
            · have d4 : ((((s[A]'hltA).toNat : Nat) : Int) == 92) = false := tn (m := 92) rfl (fun h => e2 (.inl h))
              have d5 : ((((s[A]'hltA).toNat : Nat) : Int) == 44) = false := tn (m := 44) rfl (fun h => e2 (.inr (.inl h)))
              have d6 : ((((s[A]'hltA).toNat : Nat) : Int) == 59) = false := tn (m := 59) rfl (fun h => e2 (.inr (.inr h)))
              have hf : SignsP w.heap.size s.data.toList (.returned (.tuple #[.slice none 0 0, .bool false])) wr := .inl ⟨hg2'.out (kep_no _ (fun h => e2 (.inl h)) (fun h => e2 (.inr (.inl h))) (fun h => e2 (.inr (.inr h))) (fun h => e1 (.inl h)) (fun h => e1 (.inr h))), rfl⟩
              have hf' := Lib.hid hf
              clear e1 e2 hf
              go_wp2
              go_ret2
              exact ⟨hf'.out, hbw⟩
        · have hf : SignsP w.heap.size s.data.toList (.returned (.tuple #[.slice none 0 0, .bool false])) wr := .inl ⟨hd.out i hlt l hlt2 c1 hR, rfl⟩
          have hf' := Lib.hid hf
          clear c1 hR hf
          go_wp2
          go_ret2
          exact ⟨hf'.out, hbw⟩
      · have d1 : ((((s[i]'hlt).toNat : Nat) : Int) == 92) = false := tn (m := 92) rfl c1
        have d1' : ((((s[i]'hlt).toNat : Nat) : Int) != 92) = true := by unfold bne; rw [d1]; rfl
        have hn := Lib.hid (ho.out i hlt l c1 hR)
        clear c1 hR
        go_wp2_with (at_builtin; refine append_sg (w0 := wr) (s[i]'hlt) false _ rfl rfl _ _ rfl w.heap.size _ l wr.heap.size rfl rfl rfl hown ?c1 ?c2 ?_)
        case c1 => omega
        case c2 => exact hbw.size
        intro v' w3 hown3 hg
        have hbw3 := below_app hbw hbw.size hown (Nat.le_refl _) hg
        clear hg hown
        go_wp2
        go_roundw
        case rel => exact ⟨_, i + 1, _, rfl, by go_num, by omega, by simp; omega, hown3, hbw3, hn.out⟩
        case measure => simp [RowKit.intOf]; omega
    · have hf : SignsP w.heap.size s.data.toList (.returned (.tuple #[s4, .bool true])) wr := .inr ⟨s4, l, by rw [hR, List.drop_eq_nil_of_le (by rw [← Lib.size_eq]; omega), signs_nil]; simp, rfl, hown⟩
      have hf' := Lib.hid hf
      clear hR hf hown
      go_wp2
      go_ret2
      exact ⟨hf'.out, hbw⟩

/-! ### Plain -/
def BOwn (B : Nat) (v : Value) (l : Row) (w : World) : Prop := w.ownsRow B 5 1 v l.length (byteCells l)
theorem conv_own {B : Nat} {v : Value} {l : Row} {w : World} (h : BOwn B v l w) : (convert 51 9 v).run Try.prog w = .ok (.string ⟨l.toArray⟩) w := by
  obtain ⟨h1, h2 | ⟨g, cap, cur, e1, e2, e3, e4, e5, e6, e7⟩⟩ := h
  · obtain rfl : l = [] := List.eq_nil_of_length_eq_zero h2.2
    rw [h2.1]
    exact run_convert_bytes_nil w 51 5 Try.underlying51 Try.underlying5 0 0 9 Try.underlying9
  · rw [e1]
    refine run_convert_bytes_back w 51 9 5 ⟨g, 0, none⟩ cap l Try.underlying51 Try.underlying5 Try.underlying9 fun j hj => ?_
    have hp : (⟨g, 0, none⟩ : Addr).add j = ⟨g, j, none⟩ := by unfold Addr.add; split <;> simp_all
    rw [hp, Lib.cell_of_heap e3]
    have : (cur.toList.take (l.length * 1))[j]? = (byteCells l)[j]? := by rw [e7]
    rw [List.getElem?_take, if_pos (by omega)] at this
    rw [← Array.getElem?_toList, this]
    unfold byteCells
    rw [List.getElem?_map, List.getElem?_eq_getElem hj]; rfl
theorem plain_take (l : List Sg) (k : Nat) (x : Sg) (h : l[k]? = some x) : plain (l.take (k + 1)) = plain (l.take k) ++ [x.1] := by
  obtain ⟨hl, hv⟩ := List.getElem?_eq_some_iff.1 h
  rw [List.take_succ_eq_append_getElem hl, hv, plain_append]; rfl

set_option maxHeartbeats 4000000 in
set_option maxRecDepth 100000 in
theorem refPlain_any (v : Value) (l : List Sg) (w : World) (h : SgsAt w v l) (hl : l.length ≤ 1099511627776) :
    Calls Try.prog 15 #[v] w fun e w' => (∃ x : ByteArray, x.data.toList = plain l ∧ e = .returned (.string x)) ∧ Below w.heap.size w w' := by
  obtain ⟨i0, hi, hz0, hz1, hz2⟩ := info_parts infoU8
  obtain ⟨A, b, off, c, rfl, h1, h2, h3, h4⟩ := h
  obtain ⟨n, hn⟩ : ∃ n, l.length = n := ⟨_, rfl⟩
  rw [hn] at h1 h3 hl ⊢
  unfold maxLen at h2
  have hn' := Lib.hid hn
  have h3' := Lib.hid h3
  have h4' := Lib.hid h4
  clear hn h3 h4
  go_enter Try.func15, Try.ntmps15
  go_wp2
  go_loopw [3, 8] (fun s3 s8 wr => ∃ (k : Nat) (u : Value), u = s3 ∧ s8 = .int .i64 (k : Int) ∧ k ≤ n ∧ BOwn w.heap.size s3 (plain (l.take k)) wr ∧ Below w.heap.size w wr) (fun s3 s8 wr => n - (RowKit.intOf s8).toNat)
  case atStart => exact ⟨0, _, rfl, rfl, Nat.zero_le _, World.ownsRow_nil _ _ _ 1, Below.refl _ _⟩
  case round =>
    obtain ⟨k, s3, rfl, rfl, hk, hown, hbw⟩ := hrel
    have hpk : (plain (l.take k)).length = k := by rw [plain_len, List.length_take, hn'.out]; omega
    by_cases hlt : k < n
    · have hx : l[k]? = some (l[k]'(by have := hn'.out; omega)) := List.getElem?_eq_getElem _
      obtain ⟨x, hxe⟩ : ∃ x, l[k]'(by have := hn'.out; omega) = x := ⟨_, rfl⟩
      rw [hxe] at hx
      obtain ⟨rfl, hg⟩ := h3'.out (by omega)
      obtain ⟨q1, q2⟩ := h4'.out k x hx
      rw [← hbw.cell (p := ⟨b, off + k * 2, none⟩) hg] at q1
      rw [← hbw.cell (p := ⟨b, off + k * 2 + 1, none⟩) hg] at q2
      have hnx := plain_take l k x hx
      have hnx' := Lib.hid hnx
      obtain ⟨z, hz⟩ : ∃ z : Int, ((x.1.toNat : Nat) : Int) = z := ⟨_, rfl⟩
      rw [hz] at q1
      have hz' := Lib.hid hz
      obtain ⟨kb, hkb⟩ : ∃ kb, x.2 = kb := ⟨_, rfl⟩
      rw [hkb] at q2
      have hown' := hown
      unfold BOwn at hown
      have hpk' := Lib.hid hpk
      rw [hpk] at hown
      clear hxe hx hnx hz hkb hpk
      go_wp2_with (at_builtin; refine wpList_append_own _ rfl _ _ 51 rfl w.heap.size 5 i0 (.int .u8 0) 1 1 Try.underlying51 hi hz0 hz1 hz2 rfl (by decide) _ _ _ rfl ((hown.alloc _).alloc _) ⟨wr.heap.size + 1, 0, none⟩ 1 1 [.int .u8 z] rfl rfl ?c1 ?c2 ?c3 ?c4 ?c5 ?_)
      case c2 => rfl
      case c3 => unfold maxLen; omega
      case c4 => omega
      case c5 => have := hbw.size; simp; omega
      intro v' w3 hown3 hgrow _
      have hown4 : BOwn w.heap.size v' (plain (l.take (k + 1))) w3 := by
        unfold BOwn
        rw [hnx'.out, byteCells_append, List.length_append, hpk'.out]
        have e : byteCells [x.1] = [.int .u8 z] := by unfold byteCells; rw [List.map_singleton, hz'.out]
        rw [e]; exact hown3
      have hbw3 : Below w.heap.size w w3 := ((hbw.alloc hbw.size _).alloc (by have := hbw.size; simp; omega) _).grown hgrow (by have := hbw.size; simp; omega) (fun k hk => (hown.lt k hk).1)
      clear hown3 hgrow hown hown' hbw
      go_wp2
      go_roundw
      case rel => exact ⟨k + 1, _, rfl, by go_num, by omega, hown4, hbw3⟩
      case measure => simp [RowKit.intOf]; omega
    · obtain rfl : k = n := by omega
      rw [List.take_of_length_le (by have := hn'.out; omega)] at hown
      have hcv := conv_own hown
      clear hown hpk
      go_wp2
      go_ret
      exact ⟨⟨_, by simp, rfl⟩, hbw⟩
end Go.Proofs.Ytjdockjkioomiaa.Va
