/-
  WALKS OF value.pieces AT string AND []string, value.List, value.Fields.
-/
import Derived.Test.YtjdockjkioomiaaValueCut
import Derived.Shelf.GgClosure.Gives
set_option linter.unusedVariables false
namespace Go.Proofs.Ytjdockjkioomiaa.Va
open Go.Lib Go.RowKit Bu

/-- what List answers -/
def ListP (B : Nat) (t : Row) (e : Ending) (w' : World) : Prop :=
  (list t = none ∧ e = .returned (.tuple #[.slice none 0 0, .int .i64 31])) ∨ ∃ (v : Value) (ls : List Row), list t = some ls ∧ e = .returned (.tuple #[v, .int .i64 0]) ∧ Own B v ls w'
/-- what Fields answers -/
def FieldsP (B : Nat) (t : Row) (e : Ending) (w' : World) : Prop :=
  (fields t = none ∧ e = .returned (.tuple #[.slice none 0 0, .int .i64 31])) ∨ ∃ (v : Value) (fs : List (List Row)), fields t = some fs ∧ e = .returned (.tuple #[v, .int .i64 0]) ∧ LOwn B v fs w'
theorem list_last {s : Row} (h : cutM 44 s = none) : list s = (text s).map fun x => [x] := pcs_last 44 (by decide) plain s h
theorem list_more {s a r : Row} (h : cutM 44 s = some (a, r)) : list s = (text a).bind fun x => (list r).map fun y => x :: y := pcs_more 44 (by decide) plain s a r h
theorem fields_last {s : Row} (h : cutM 59 s = none) : fields s = (list s).map fun x => [x] := pcs_last 59 (by decide) listS s h
theorem fields_more {s a r : Row} (h : cutM 59 s = some (a, r)) : fields s = (list a).bind fun x => (fields r).map fun y => x :: y := pcs_more 59 (by decide) listS s a r h
theorem cutM_size {m : UInt8} (h92 : m ≠ 92) {t a r : ByteArray} (h : cutM m t.data.toList = some (a.data.toList, r.data.toList)) : a.size + (r.size + 1) = t.size := by
  have := cutM_len m h92 h
  rw [← Lib.size_eq, ← Lib.size_eq, ← Lib.size_eq] at this
  exact this
theorem data_eq {a t : ByteArray} (h : a.data.toList = t.data.toList) : a = t := by rw [← Lib.mk_data a, ← Lib.mk_data t, h]

def PcsRel {α : Type} (rd : Row → Option (List α)) (Ow : Nat → Value → List α → World → Prop) (T : ByteArray) (w : World) (s0 s8 s9 : Value) (wr : World) : Prop :=
  ∃ (t : ByteArray) (out : List α) (m : Bool) (v : Value), s0 = .string t ∧ v = s8 ∧ s9 = .bool m ∧ Ow w.heap.size s8 out wr ∧ Below w.heap.size w wr ∧ t.size ≤ T.size ∧ out.length ≤ T.size + 1 ∧
    (m = true → rd T.data.toList = (rd t.data.toList).map fun y => out ++ y) ∧ (m = false → rd T.data.toList = some out) ∧ (m = true → out.length + t.size ≤ T.size)

set_option maxHeartbeats 4000000 in
set_option maxRecDepth 100000 in
theorem pieces1_any (T : ByteArray) (w : World) (hs : T.size ≤ 1099511627776) :
    Calls Try.prog 27 #[.string T, .int .u8 44, .func (.func 10) #[] #[]] w fun e w' => ListP w.heap.size T.data.toList e w' ∧ Below w.heap.size w w' := by
  obtain ⟨i0, hi, hz0, hz1, hz2⟩ := info_parts infoStr
  have eg : ∀ args w, (callFunc 10 args).run Try.prog w = .ok (.enter 10 args) w := enters_of Try.func10 (by kernel_rfl) rfl
  go_enter Try.func27, Try.ntmps27
  go_wp2
  go_loopw [0, 8, 9] (fun s0 s8 s9 wr => PcsRel list Own T w s0 s8 s9 wr) (fun s0 s8 s9 wr => strLen s0 + bit s9)
  case atStart => exact ⟨T, [], true, _, rfl, rfl, rfl, Own.nil _ _, Below.refl _ _, Nat.le_refl _, by simp, fun _ => by simp, (fun h => by cases h), fun _ => by simp⟩
  case round =>
    obtain ⟨t, out, m, s8, rfl, rfl, rfl, hown, hbw, hT, hO, hm1, hm2, hm3⟩ := hrel
    cases m
    · have hf : ListP w.heap.size T.data.toList (.returned (.tuple #[s8, .int .i64 0])) wr := .inr ⟨s8, out, hm2 rfl, rfl, hown⟩
      have hf' := Lib.hid hf
      clear hf hm1 hm2 hm3 hown
      go_wp2
      go_ret2
      exact ⟨hf'.out, hbw⟩
    · have hR := Lib.hid (hm1 rfl)
      have hL := hm3 rfl
      have cC := cut_any 44 t wr (by decide) (by omega)
      rw [show (((44 : UInt8).toNat : Nat) : Int) = 44 from rfl] at cC
      clear hm1 hm2 hm3
      go_wp2_with fail
      go_at_call 35
      refine cC.mono ?_
      rintro e w1 ⟨hc, hb1⟩
      have hown1 := hown.kept hb1
      have hbw1 := below_then hbw hb1
      clear hown hbw hb1 cC
      have hsplit : ∃ (a r : ByteArray) (g : Bool), e = .returned (.tuple #[.string a, .string r, .bool g]) ∧ a.size ≤ t.size ∧ r.size + bit (.bool g) ≤ t.size ∧
          (text a.data.toList = none → list T.data.toList = none) ∧ (∀ x, text a.data.toList = some x → (g = true → list T.data.toList = (list r.data.toList).map fun y => (out ++ [x]) ++ y) ∧ (g = false → list T.data.toList = some (out ++ [x])) ∧ (g = true → out.length + 1 + r.size ≤ T.size)) := by
        rcases hc with ⟨h1, a, h2, rfl⟩ | ⟨a, r, h1, rfl⟩
        · obtain rfl := data_eq h2
          refine ⟨a, _, false, rfl, Nat.le_refl _, Nat.zero_le _, fun h => ?_, fun x hx => ⟨(fun h => by cases h), fun _ => ?_, (fun h => by cases h)⟩⟩
          · rw [hR.out, list_last h1, h]; rfl
          · rw [hR.out, list_last h1, hx]; rfl
        · have hsz := cutM_size (by decide) h1
          refine ⟨a, r, true, rfl, by omega, by simp only [bit]; omega, fun h => ?_, fun x hx => ⟨fun _ => ?_, (fun h => by cases h), fun _ => by omega⟩⟩
          · rw [hR.out, list_more h1, h]; rfl
          · rw [hR.out, list_more h1, hx, Option.bind_some, Option.map_map]
            congr 1
            funext y
            simp
      obtain ⟨a, r, g, rfl, hsa, hsr, hbad, hgood⟩ := hsplit
      have hbad' := Lib.hid hbad
      have hgood' := Lib.hid hgood
      clear hc hbad hgood hR
      have cT := text_any a w1 (by omega)
      go_wp2_with fail
      go_at_fn 10
      refine cT.mono ?_
      rintro e w2 ⟨ht, hb2⟩
      have hown2 := hown1.kept hb2
      have hbw2 := below_then hbw1 hb2
      clear hown1 hbw1 hb2 cT
      rcases ht with ⟨h1, rfl⟩ | ⟨x, h1, rfl⟩
      · have hf : ListP w.heap.size T.data.toList (.returned (.tuple #[.slice none 0 0, .int .i64 31])) w2 := .inl ⟨hbad'.out h1, rfl⟩
        have hf' := Lib.hid hf
        clear hf h1
        go_wp2
        go_ret2
        exact ⟨hf'.out, hbw2⟩
      · have hg := Lib.hid (hgood'.out _ h1)
        clear h1
        unfold Own at hown2
        go_wp2_with (at_builtin; refine wpList_append_own _ rfl _ _ 29 rfl w.heap.size 9 i0 (.string ⟨#[]⟩) 1 16 Try.underlying29 hi hz0 hz1 hz2 rfl (by decide) _ _ _ rfl (hown2.alloc _) ⟨w2.heap.size, 0, none⟩ 1 1 [.string x] rfl rfl ?c1 ?c2 ?c3 ?c4 ?c5 ?_)
        case c1 =>
          intro j u hj
          match j, hj with
          | 0, hj => simp at hj; subst hj; simp [Addr.add]
        case c2 => intro u hu; simp at hu; subst hu; rfl
        case c3 => unfold maxLen; omega
        case c4 => omega
        case c5 => have := hbw2.size; simp; omega
        intro v' w3 hown' hgrow _
        have hown3 : Own w.heap.size v' (out ++ [x.data.toList]) w3 := Own.snoc hown'
        have hbw3 : Below w.heap.size w w3 := (hbw2.alloc hbw2.size _).grown hgrow (by have := hbw2.size; simp; omega) (fun k hk => (hown2.lt k hk).1)
        clear hown' hgrow hown2 hbw2
        go_wp2
        go_roundw
        case rel => exact ⟨r, _, g, _, rfl, rfl, rfl, hown3, hbw3, by omega, by simp; omega, hg.out.1, hg.out.2.1, fun h => by have := hg.out.2.2 h; simp; omega⟩
        case measure => simp only [strLen, bit] at hsr ⊢; omega

theorem list_any (T : ByteArray) (w : World) (hs : T.size ≤ 1099511627776) :
    Calls Try.prog 11 #[.string T] w fun e w' => ListP w.heap.size T.data.toList e w' ∧ Below w.heap.size w w' := by
  have cP := pieces1_any T w hs
  go_enter Try.func11, Try.ntmps11
  go_wp2_with fail
  go_at_call 27
  refine cP.mono ?_
  rintro e w1 ⟨hP, hb⟩
  have hP' := Lib.hid hP
  rcases hP with ⟨_, rfl⟩ | ⟨v, ls, _, rfl, _⟩
  · go_wp2
    go_ret2
    exact ⟨hP'.out, hb⟩
  · go_wp2
    go_ret2
    exact ⟨hP'.out, hb⟩

set_option maxHeartbeats 4000000 in
set_option maxRecDepth 100000 in
theorem pieces2_any (T : ByteArray) (w : World) (hs : T.size ≤ 1099511627776) :
    Calls Try.prog 28 #[.string T, .int .u8 59, .func (.func 11) #[] #[]] w fun e w' => FieldsP w.heap.size T.data.toList e w' ∧ Below w.heap.size w w' := by
  obtain ⟨i0, hi, hz0, hz1, hz2⟩ := info_parts infoStrs
  have eg : ∀ args w, (callFunc 11 args).run Try.prog w = .ok (.enter 11 args) w := enters_of Try.func11 (by kernel_rfl) rfl
  go_enter Try.func28, Try.ntmps28
  go_wp2
  go_loopw [0, 8, 9] (fun s0 s8 s9 wr => PcsRel fields LOwn T w s0 s8 s9 wr) (fun s0 s8 s9 wr => strLen s0 + bit s9)
  case atStart => exact ⟨T, [], true, _, rfl, rfl, rfl, ROwn.nil _ _ _ _, Below.refl _ _, Nat.le_refl _, by simp, fun _ => by simp, (fun h => by cases h), fun _ => by simp⟩
  case round =>
    obtain ⟨t, out, m, s8, rfl, rfl, rfl, hown, hbw, hT, hO, hm1, hm2, hm3⟩ := hrel
    cases m
    · have hf : FieldsP w.heap.size T.data.toList (.returned (.tuple #[s8, .int .i64 0])) wr := .inr ⟨s8, out, hm2 rfl, rfl, hown⟩
      have hf' := Lib.hid hf
      clear hf hm1 hm2 hm3 hown
      go_wp2
      go_ret2
      exact ⟨hf'.out, hbw⟩
    · have hR := Lib.hid (hm1 rfl)
      have hL := hm3 rfl
      have cC := cut_any 59 t wr (by decide) (by omega)
      rw [show (((59 : UInt8).toNat : Nat) : Int) = 59 from rfl] at cC
      clear hm1 hm2 hm3
      go_wp2_with fail
      go_at_call 35
      refine cC.mono ?_
      rintro e w1 ⟨hc, hb1⟩
      have hown1 := ROwn.kept innerStr hown hb1
      have hbw1 := below_then hbw hb1
      clear hown hbw hb1 cC
      have hsplit : ∃ (a r : ByteArray) (g : Bool), e = .returned (.tuple #[.string a, .string r, .bool g]) ∧ a.size ≤ t.size ∧ r.size + bit (.bool g) ≤ t.size ∧
          (list a.data.toList = none → fields T.data.toList = none) ∧ (∀ x, list a.data.toList = some x → (g = true → fields T.data.toList = (fields r.data.toList).map fun y => (out ++ [x]) ++ y) ∧ (g = false → fields T.data.toList = some (out ++ [x])) ∧ (g = true → out.length + 1 + r.size ≤ T.size)) := by
        rcases hc with ⟨h1, a, h2, rfl⟩ | ⟨a, r, h1, rfl⟩
        · obtain rfl := data_eq h2
          refine ⟨a, _, false, rfl, Nat.le_refl _, Nat.zero_le _, fun h => ?_, fun x hx => ⟨(fun h => by cases h), fun _ => ?_, (fun h => by cases h)⟩⟩
          · rw [hR.out, fields_last h1, h]; rfl
          · rw [hR.out, fields_last h1, hx]; rfl
        · have hsz := cutM_size (by decide) h1
          refine ⟨a, r, true, rfl, by omega, by simp only [bit]; omega, fun h => ?_, fun x hx => ⟨fun _ => ?_, (fun h => by cases h), fun _ => by omega⟩⟩
          · rw [hR.out, fields_more h1, h]; rfl
          · rw [hR.out, fields_more h1, hx, Option.bind_some, Option.map_map]
            congr 1
            funext y
            simp
      obtain ⟨a, r, g, rfl, hsa, hsr, hbad, hgood⟩ := hsplit
      have hbad' := Lib.hid hbad
      have hgood' := Lib.hid hgood
      clear hc hbad hgood hR
      have cT := list_any a w1 (by omega)
      go_wp2_with fail
      go_at_fn 11
      refine cT.mono ?_
      rintro e w2 ⟨ht, hb2⟩
      have hown2 := ROwn.kept innerStr hown1 hb2
      have hbw2 := below_then hbw1 hb2
      have hle : w.heap.size ≤ w1.heap.size := hbw1.size
      clear hown1 hbw1 hb2 cT
      rcases ht with ⟨h1, rfl⟩ | ⟨x, ls, h1, rfl, hx⟩
      · have hf : FieldsP w.heap.size T.data.toList (.returned (.tuple #[.slice none 0 0, .int .i64 31])) w2 := .inl ⟨hbad'.out h1, rfl⟩
        have hf' := Lib.hid hf
        clear hf h1
        go_wp2
        go_ret2
        exact ⟨hf'.out, hbw2⟩
      · have hg := Lib.hid (hgood'.out _ h1)
        obtain ⟨ao, c, rfl⟩ := ownsRow_form hx
        obtain ⟨n, hn⟩ : ∃ n, ls.length = n := ⟨_, rfl⟩
        rw [hn] at hx ⊢
        obtain ⟨us, hus, hrow, hvals⟩ := hown2
        have hx0 : Own w.heap.size (.slice ao n c) ls w2 := hx.less hle
        have hfinal : ∀ (v' : Value) (w' : World), w'.ownsRow w.heap.size 29 1 v' (out.length + 1) (us ++ [.slice ao n c]) →
            (w2.alloc (.cells #[.slice ao n c] 29)).grownBy w' s8.ownBlock → LOwn w.heap.size v' (out ++ [ls]) w' := fun v' w' hw hg => by
          have hal : Below w2.heap.size w2 (w2.alloc (.cells #[.slice ao n c] 29)) := (Below.refl _ _).alloc (Nat.le_refl _) _
          exact ROwn.more innerStr hus (ownsRow_kept hrow hal) (fun j p u hp hu => (hvals j p u hp hu).kept hal) (hx0.kept hal) hw hg
        have hfinal' := Lib.hid hfinal
        clear h1 hx hx0 hfinal hvals hn hus
        go_wp2_with (at_builtin; refine wpList_append_own _ rfl _ _ 32 rfl w.heap.size 29 i0 (.slice none 0 0) 1 24 Try.underlying32 hi hz0 hz1 hz2 rfl (by decide) _ _ _ rfl (hrow.alloc _) ⟨w2.heap.size, 0, none⟩ 1 1 [.slice ao n c] rfl rfl ?c1 ?c2 ?c3 ?c4 ?c5 ?_)
        case c1 =>
          intro j u hj
          match j, hj with
          | 0, hj => simp at hj; subst hj; simp [Addr.add]
        case c2 => intro u hu; simp at hu; subst hu; rfl
        case c3 => unfold maxLen; omega
        case c4 => omega
        case c5 => have := hbw2.size; simp; omega
        intro v' w3 hown' hgrow _
        have hown3 : LOwn w.heap.size v' (out ++ [ls]) w3 := hfinal'.out v' w3 hown' hgrow
        have hbw3 : Below w.heap.size w w3 := (hbw2.alloc hbw2.size _).grown hgrow (by have := hbw2.size; simp; omega) (fun k hk => (hrow.lt k hk).1)
        clear hown' hgrow hrow hbw2 hfinal'
        go_wp2
        go_roundw
        case rel => exact ⟨r, _, g, _, rfl, rfl, rfl, hown3, hbw3, by omega, by simp; omega, hg.out.1, hg.out.2.1, fun h => by have := hg.out.2.2 h; simp; omega⟩
        case measure => simp only [strLen, bit] at hsr ⊢; omega

theorem fields_any (T : ByteArray) (w : World) (hs : T.size ≤ 1099511627776) :
    Calls Try.prog 12 #[.string T] w fun e w' => FieldsP w.heap.size T.data.toList e w' ∧ Below w.heap.size w w' := by
  have cP := pieces2_any T w hs
  go_enter Try.func12, Try.ntmps12
  go_wp2_with fail
  go_at_call 28
  refine cP.mono ?_
  rintro e w1 ⟨hP, hb⟩
  have hP' := Lib.hid hP
  rcases hP with ⟨_, rfl⟩ | ⟨v, ls, _, rfl, _⟩
  · go_wp2
    go_ret2
    exact ⟨hP'.out, hb⟩
  · go_wp2
    go_ret2
    exact ⟨hP'.out, hb⟩
end Go.Proofs.Ytjdockjkioomiaa.Va
