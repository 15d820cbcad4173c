import Derived.Test.YthnnpnlapjlnoaaGreatDoorMg13
import Derived.Shelf.GgClosure.Gives
import Derived.Laws.BytesArg
import Derived.Laws.IdiomStrings

/-
  WALKS OF value.pieces AT string AND []string, value.List, value.Fields.
-/
set_option linter.unusedVariables false
namespace Go.Proofs.YthnnpnlapjlnoaaGreatDoor.Va
open Go.Lib Go.RowKit Bu

/-- what List answers -/
def ListP (B : Nat) (t : Row) (e : Ending) (w' : World) : Prop :=
  (list t = none ∧ e = .returned (.tuple #[.slice none 0 0, .int .i64 31])) ∨ ∃ (v : Value) (ls : List Row), list t = some ls ∧ e = .returned (.tuple #[v, .int .i64 0]) ∧ Own B v ls w'
/-- what Fields answers -/
def FieldsP (B : Nat) (t : Row) (e : Ending) (w' : World) : Prop :=
  (fields t = none ∧ e = .returned (.tuple #[.slice none 0 0, .int .i64 31])) ∨ ∃ (v : Value) (fs : List (List Row)), fields t = some fs ∧ e = .returned (.tuple #[v, .int .i64 0]) ∧ LOwn B v fs w'
theorem list_last {s : Row} (h : cutM 44 s = none) : list s = (text s).map fun x => [x] := pcs_last 44 (by decide) plain s h
theorem list_more {s a r : Row} (h : cutM 44 s = some (a, r)) : list s = (text a).bind fun x => (list r).map fun y => x :: y := pcs_more 44 (by decide) plain s a r h
theorem fields_last {s : Row} (h : cutM 59 s = none) : fields s = (list s).map fun x => [x] := pcs_last 59 (by decide) listS s h
theorem fields_more {s a r : Row} (h : cutM 59 s = some (a, r)) : fields s = (list a).bind fun x => (fields r).map fun y => x :: y := pcs_more 59 (by decide) listS s a r h
theorem cutM_size {m : UInt8} (h92 : m ≠ 92) {t a r : ByteArray} (h : cutM m t.data.toList = some (a.data.toList, r.data.toList)) : a.size + (r.size + 1) = t.size := by
  have := cutM_len m h92 h
  rw [← Lib.size_eq, ← Lib.size_eq, ← Lib.size_eq] at this
  exact this
theorem data_eq {a t : ByteArray} (h : a.data.toList = t.data.toList) : a = t := by rw [← Lib.mk_data a, ← Lib.mk_data t, h]

def PcsRel {α : Type} (rd : Row → Option (List α)) (Ow : Nat → Value → List α → World → Prop) (T : ByteArray) (w : World) (s0 s8 s9 : Value) (wr : World) : Prop :=
  ∃ (t : ByteArray) (out : List α) (m : Bool) (v : Value), s0 = .string t ∧ v = s8 ∧ s9 = .bool m ∧ Ow w.heap.size s8 out wr ∧ Below w.heap.size w wr ∧ t.size ≤ T.size ∧ out.length ≤ T.size + 1 ∧
    (m = true → rd T.data.toList = (rd t.data.toList).map fun y => out ++ y) ∧ (m = false → rd T.data.toList = some out) ∧ (m = true → out.length + t.size ≤ T.size)

set_option maxHeartbeats 4000000 in
set_option maxRecDepth 100000 in
theorem pieces1_any (T : ByteArray) (w : World) (hs : T.size ≤ 1099511627776) :
    Calls Tryz.prog 127 #[.string T, .int .u8 44, .func (.func 80) #[] #[]] w fun e w' => ListP w.heap.size T.data.toList e w' ∧ Below w.heap.size w w' := by
  obtain ⟨i0, hi, hz0, hz1, hz2⟩ := info_parts infoStr
  have eg : ∀ args w, (callFunc 80 args).run Tryz.prog w = .ok (.enter 80 args) w := enters_of Tryz.func80 (by kernel_rfl) rfl
  go_enter Tryz.func127, Tryz.ntmps127
  go_wp2
  go_loopw [0, 8, 9] (fun s0 s8 s9 wr => PcsRel list Own T w s0 s8 s9 wr) (fun s0 s8 s9 wr => strLen s0 + bit s9)
  case atStart => exact ⟨T, [], true, _, rfl, rfl, rfl, Own.nil _ _, Below.refl _ _, Nat.le_refl _, by simp, fun _ => by simp, (fun h => by cases h), fun _ => by simp⟩
  case round =>
    obtain ⟨t, out, m, s8, rfl, rfl, rfl, hown, hbw, hT, hO, hm1, hm2, hm3⟩ := hrel
    cases m
    · have hf : ListP w.heap.size T.data.toList (.returned (.tuple #[s8, .int .i64 0])) wr := .inr ⟨s8, out, hm2 rfl, rfl, hown⟩
      have hf' := Lib.hid hf
      clear hf hm1 hm2 hm3 hown
      go_wp2
      go_ret2
      exact ⟨hf'.out, hbw⟩
    · have hR := Lib.hid (hm1 rfl)
      have hL := hm3 rfl
      have cC := cut_any 44 t wr (by decide) (by omega)
      rw [show (((44 : UInt8).toNat : Nat) : Int) = 44 from rfl] at cC
      clear hm1 hm2 hm3
      go_wp2_with fail
      go_at_call 131
      refine cC.mono ?_
      rintro e w1 ⟨hc, hb1⟩
      have hown1 := hown.kept hb1
      have hbw1 := below_then hbw hb1
      clear hown hbw hb1 cC
      have hsplit : ∃ (a r : ByteArray) (g : Bool), e = .returned (.tuple #[.string a, .string r, .bool g]) ∧ a.size ≤ t.size ∧ r.size + bit (.bool g) ≤ t.size ∧
          (text a.data.toList = none → list T.data.toList = none) ∧ (∀ x, text a.data.toList = some x → (g = true → list T.data.toList = (list r.data.toList).map fun y => (out ++ [x]) ++ y) ∧ (g = false → list T.data.toList = some (out ++ [x])) ∧ (g = true → out.length + 1 + r.size ≤ T.size)) := by
        rcases hc with ⟨h1, a, h2, rfl⟩ | ⟨a, r, h1, rfl⟩
        · obtain rfl := data_eq h2
          refine ⟨a, _, false, rfl, Nat.le_refl _, Nat.zero_le _, fun h => ?_, fun x hx => ⟨(fun h => by cases h), fun _ => ?_, (fun h => by cases h)⟩⟩
          · rw [hR.out, list_last h1, h]; rfl
          · rw [hR.out, list_last h1, hx]; rfl
        · have hsz := cutM_size (by decide) h1
          refine ⟨a, r, true, rfl, by omega, by simp only [bit]; omega, fun h => ?_, fun x hx => ⟨fun _ => ?_, (fun h => by cases h), fun _ => by omega⟩⟩
          · rw [hR.out, list_more h1, h]; rfl
          · rw [hR.out, list_more h1, hx, Option.bind_some, Option.map_map]
            congr 1
            funext y
            simp
      obtain ⟨a, r, g, rfl, hsa, hsr, hbad, hgood⟩ := hsplit
      have hbad' := Lib.hid hbad
      have hgood' := Lib.hid hgood
      clear hc hbad hgood hR
      have cT := text_any a w1 (by omega)
      go_wp2_with fail
      go_at_fn 80
      refine cT.mono ?_
      rintro e w2 ⟨ht, hb2⟩
      have hown2 := hown1.kept hb2
      have hbw2 := below_then hbw1 hb2
      clear hown1 hbw1 hb2 cT
      rcases ht with ⟨h1, rfl⟩ | ⟨x, h1, rfl⟩
      · have hf : ListP w.heap.size T.data.toList (.returned (.tuple #[.slice none 0 0, .int .i64 31])) w2 := .inl ⟨hbad'.out h1, rfl⟩
        have hf' := Lib.hid hf
        clear hf h1
        go_wp2
        go_ret2
        exact ⟨hf'.out, hbw2⟩
      · have hg := Lib.hid (hgood'.out _ h1)
        clear h1
        unfold Own at hown2
        go_wp2_with (at_builtin; refine wpList_append_own _ rfl _ _ 45 rfl w.heap.size 9 i0 (.string ⟨#[]⟩) 1 16 Tryz.underlying45 hi hz0 hz1 hz2 rfl (by decide) _ _ _ rfl (hown2.alloc _) ⟨w2.heap.size, 0, none⟩ 1 1 [.string x] rfl rfl ?c1 ?c2 ?c3 ?c4 ?c5 ?_)
        case c1 =>
          intro j u hj
          match j, hj with
          | 0, hj => simp at hj; subst hj; simp [Addr.add]
        case c2 => intro u hu; simp at hu; subst hu; rfl
        case c3 => unfold maxLen; omega
        case c4 => omega
        case c5 => have := hbw2.size; simp; omega
        intro v' w3 hown' hgrow _
        have hown3 : Own w.heap.size v' (out ++ [x.data.toList]) w3 := Own.snoc hown'
        have hbw3 : Below w.heap.size w w3 := (hbw2.alloc hbw2.size _).grown hgrow (by have := hbw2.size; simp; omega) (fun k hk => (hown2.lt k hk).1)
        clear hown' hgrow hown2 hbw2
        go_wp2
        go_roundw
        case rel => exact ⟨r, _, g, _, rfl, rfl, rfl, hown3, hbw3, by omega, by simp; omega, hg.out.1, hg.out.2.1, fun h => by have := hg.out.2.2 h; simp; omega⟩
        case measure => simp only [strLen, bit] at hsr ⊢; omega

theorem list_any (T : ByteArray) (w : World) (hs : T.size ≤ 1099511627776) :
    Calls Tryz.prog 109 #[.string T] w fun e w' => ListP w.heap.size T.data.toList e w' ∧ Below w.heap.size w w' := by
  have cP := pieces1_any T w hs
  go_enter Tryz.func109, Tryz.ntmps109
  go_wp2_with fail
  go_at_call 127
  refine cP.mono ?_
  rintro e w1 ⟨hP, hb⟩
  have hP' := Lib.hid hP
  rcases hP with ⟨_, rfl⟩ | ⟨v, ls, _, rfl, _⟩
  · go_wp2
    go_ret2
    exact ⟨hP'.out, hb⟩
  · go_wp2
    go_ret2
    exact ⟨hP'.out, hb⟩

set_option maxHeartbeats 4000000 in
set_option maxRecDepth 100000 in
theorem pieces2_any (T : ByteArray) (w : World) (hs : T.size ≤ 1099511627776) :
    Calls Tryz.prog 112 #[.string T, .int .u8 59, .func (.func 109) #[] #[]] w fun e w' => FieldsP w.heap.size T.data.toList e w' ∧ Below w.heap.size w w' := by
  obtain ⟨i0, hi, hz0, hz1, hz2⟩ := info_parts infoStrs
  have eg : ∀ args w, (callFunc 109 args).run Tryz.prog w = .ok (.enter 109 args) w := enters_of Tryz.func109 (by kernel_rfl) rfl
  go_enter Tryz.func112, Tryz.ntmps112
  go_wp2
  go_loopw [0, 8, 9] (fun s0 s8 s9 wr => PcsRel fields LOwn T w s0 s8 s9 wr) (fun s0 s8 s9 wr => strLen s0 + bit s9)
  case atStart => exact ⟨T, [], true, _, rfl, rfl, rfl, ROwn.nil _ _ _ _, Below.refl _ _, Nat.le_refl _, by simp, fun _ => by simp, (fun h => by cases h), fun _ => by simp⟩
  case round =>
    obtain ⟨t, out, m, s8, rfl, rfl, rfl, hown, hbw, hT, hO, hm1, hm2, hm3⟩ := hrel
    cases m
    · have hf : FieldsP w.heap.size T.data.toList (.returned (.tuple #[s8, .int .i64 0])) wr := .inr ⟨s8, out, hm2 rfl, rfl, hown⟩
      have hf' := Lib.hid hf
      clear hf hm1 hm2 hm3 hown
      go_wp2
      go_ret2
      exact ⟨hf'.out, hbw⟩
    · have hR := Lib.hid (hm1 rfl)
      have hL := hm3 rfl
      have cC := cut_any 59 t wr (by decide) (by omega)
      rw [show (((59 : UInt8).toNat : Nat) : Int) = 59 from rfl] at cC
      clear hm1 hm2 hm3
      go_wp2_with fail
      go_at_call 131
      refine cC.mono ?_
      rintro e w1 ⟨hc, hb1⟩
      have hown1 := ROwn.kept innerStr hown hb1
      have hbw1 := below_then hbw hb1
      clear hown hbw hb1 cC
      have hsplit : ∃ (a r : ByteArray) (g : Bool), e = .returned (.tuple #[.string a, .string r, .bool g]) ∧ a.size ≤ t.size ∧ r.size + bit (.bool g) ≤ t.size ∧
          (list a.data.toList = none → fields T.data.toList = none) ∧ (∀ x, list a.data.toList = some x → (g = true → fields T.data.toList = (fields r.data.toList).map fun y => (out ++ [x]) ++ y) ∧ (g = false → fields T.data.toList = some (out ++ [x])) ∧ (g = true → out.length + 1 + r.size ≤ T.size)) := by
        rcases hc with ⟨h1, a, h2, rfl⟩ | ⟨a, r, h1, rfl⟩
        · obtain rfl := data_eq h2
          refine ⟨a, _, false, rfl, Nat.le_refl _, Nat.zero_le _, fun h => ?_, fun x hx => ⟨(fun h => by cases h), fun _ => ?_, (fun h => by cases h)⟩⟩
          · rw [hR.out, fields_last h1, h]; rfl
          · rw [hR.out, fields_last h1, hx]; rfl
        · have hsz := cutM_size (by decide) h1
          refine ⟨a, r, true, rfl, by omega, by simp only [bit]; omega, fun h => ?_, fun x hx => ⟨fun _ => ?_, (fun h => by cases h), fun _ => by omega⟩⟩
          · rw [hR.out, fields_more h1, h]; rfl
          · rw [hR.out, fields_more h1, hx, Option.bind_some, Option.map_map]
            congr 1
            funext y
            simp
      obtain ⟨a, r, g, rfl, hsa, hsr, hbad, hgood⟩ := hsplit
      have hbad' := Lib.hid hbad
      have hgood' := Lib.hid hgood
      clear hc hbad hgood hR
      have cT := list_any a w1 (by omega)
      go_wp2_with fail
      go_at_fn 109
      refine cT.mono ?_
      rintro e w2 ⟨ht, hb2⟩
      have hown2 := ROwn.kept innerStr hown1 hb2
      have hbw2 := below_then hbw1 hb2
      have hle : w.heap.size ≤ w1.heap.size := hbw1.size
      clear hown1 hbw1 hb2 cT
      rcases ht with ⟨h1, rfl⟩ | ⟨x, ls, h1, rfl, hx⟩
      · have hf : FieldsP w.heap.size T.data.toList (.returned (.tuple #[.slice none 0 0, .int .i64 31])) w2 := .inl ⟨hbad'.out h1, rfl⟩
        have hf' := Lib.hid hf
        clear hf h1
        go_wp2
        go_ret2
        exact ⟨hf'.out, hbw2⟩
      · have hg := Lib.hid (hgood'.out _ h1)
        obtain ⟨ao, c, rfl⟩ := ownsRow_form hx
        obtain ⟨n, hn⟩ : ∃ n, ls.length = n := ⟨_, rfl⟩
        rw [hn] at hx ⊢
        obtain ⟨us, hus, hrow, hvals⟩ := hown2
        have hx0 : Own w.heap.size (.slice ao n c) ls w2 := hx.less hle
        have hfinal : ∀ (v' : Value) (w' : World), w'.ownsRow w.heap.size 45 1 v' (out.length + 1) (us ++ [.slice ao n c]) →
            (w2.alloc (.cells #[.slice ao n c] 45)).grownBy w' s8.ownBlock → LOwn w.heap.size v' (out ++ [ls]) w' := fun v' w' hw hg => by
          have hal : Below w2.heap.size w2 (w2.alloc (.cells #[.slice ao n c] 45)) := (Below.refl _ _).alloc (Nat.le_refl _) _
          exact ROwn.more innerStr hus (ownsRow_kept hrow hal) (fun j p u hp hu => (hvals j p u hp hu).kept hal) (hx0.kept hal) hw hg
        have hfinal' := Lib.hid hfinal
        clear h1 hx hx0 hfinal hvals hn hus
        go_wp2_with (at_builtin; refine wpList_append_own _ rfl _ _ 92 rfl w.heap.size 45 i0 (.slice none 0 0) 1 24 Tryz.underlying92 hi hz0 hz1 hz2 rfl (by decide) _ _ _ rfl (hrow.alloc _) ⟨w2.heap.size, 0, none⟩ 1 1 [.slice ao n c] rfl rfl ?c1 ?c2 ?c3 ?c4 ?c5 ?_)
        case c1 =>
          intro j u hj
          match j, hj with
          | 0, hj => simp at hj; subst hj; simp [Addr.add]
        case c2 => intro u hu; simp at hu; subst hu; rfl
        case c3 => unfold maxLen; omega
        case c4 => omega
        case c5 => have := hbw2.size; simp; omega
        intro v' w3 hown' hgrow _
        have hown3 : LOwn w.heap.size v' (out ++ [ls]) w3 := hfinal'.out v' w3 hown' hgrow
        have hbw3 : Below w.heap.size w w3 := (hbw2.alloc hbw2.size _).grown hgrow (by have := hbw2.size; simp; omega) (fun k hk => (hrow.lt k hk).1)
        clear hown' hgrow hrow hbw2 hfinal'
        go_wp2
        go_roundw
        case rel => exact ⟨r, _, g, _, rfl, rfl, rfl, hown3, hbw3, by omega, by simp; omega, hg.out.1, hg.out.2.1, fun h => by have := hg.out.2.2 h; simp; omega⟩
        case measure => simp only [strLen, bit] at hsr ⊢; omega

theorem fields_any (T : ByteArray) (w : World) (hs : T.size ≤ 1099511627776) :
    Calls Tryz.prog 79 #[.string T] w fun e w' => FieldsP w.heap.size T.data.toList e w' ∧ Below w.heap.size w w' := by
  have cP := pieces2_any T w hs
  go_enter Tryz.func79, Tryz.ntmps79
  go_wp2_with fail
  go_at_call 112
  refine cP.mono ?_
  rintro e w1 ⟨hP, hb⟩
  have hP' := Lib.hid hP
  rcases hP with ⟨_, rfl⟩ | ⟨v, ls, _, rfl, _⟩
  · go_wp2
    go_ret2
    exact ⟨hP'.out, hb⟩
  · go_wp2
    go_ret2
    exact ⟨hP'.out, hb⟩
end Go.Proofs.YthnnpnlapjlnoaaGreatDoor.Va

/-
  WALKS OF value.PutText, value.join AT string AND []string, value.PutList, value.PutFields.
-/
set_option linter.unusedVariables false
namespace Go.Proofs.YthnnpnlapjlnoaaGreatDoor.Va
open Go.Lib Go.RowKit Bu

theorem put_snoc (a : Row) (c : UInt8) : put (a ++ [c]) = put a ++ put1 c := by rw [put_append]; simp [put]
theorem put_take (s : ByteArray) (k : Nat) (h : k < s.size) : put (s.data.toList.take (k + 1)) = put (s.data.toList.take k) ++ put1 (s[k]'h) := by rw [take_next s k h, put_snoc]
theorem put_take_le (l : Row) (k : Nat) : (put (l.take k)).length ≤ (put l).length := by
  conv => rhs; rw [← List.take_append_drop k l, put_append, List.length_append]
  omega
theorem put1_pos (c : UInt8) : 1 ≤ (put1 c).length := by unfold put1; split; simp; split <;> simp
theorem put_ge : ∀ (l : Row), l.length ≤ (put l).length
  | [] => by simp
  | c :: l => by have := put_ge l; have := put1_pos c; simp only [put, List.length_append, List.length_cons]; omega

set_option maxHeartbeats 4000000 in
set_option maxRecDepth 100000 in
theorem putText_any (s : ByteArray) (w : World) (hlen : (put s.data.toList).length ≤ 140737488355328) :
    Calls Tryz.prog 108 #[.string s] w fun e w' => (∃ x : ByteArray, x.data.toList = put s.data.toList ∧ e = .returned (.string x)) ∧ Below w.heap.size w w' := by
  have hs : s.size ≤ 140737488355328 := by have := put_ge s.data.toList; rw [← Lib.size_eq] at this; omega
  have hnext : ∀ (k : Nat) (h : k < s.size) (a : Row), put1 (s[k]'h) = a → put (s.data.toList.take k) ++ a = put (s.data.toList.take (k + 1)) ∧ (put (s.data.toList.take k)).length + a.length ≤ 140737488355328 := fun k h a ha => by
    have h1 := put_take s k h
    rw [ha] at h1
    have h2 := put_take_le s.data.toList (k + 1)
    rw [h1, List.length_append] at h2
    exact ⟨h1.symm, by omega⟩
  have hn := Lib.hid hnext
  clear hnext hlen
  go_enter Tryz.func108, Tryz.ntmps108
  go_wp2
  go_loopw [4] (fun s4 wr => ∃ k : Nat, s4 = .int .i64 (k : Int) ∧ k ≤ s.size ∧ Bd w.heap.size w.heap.size (put (s.data.toList.take k)) wr ∧ Below w.heap.size w wr) (fun s4 wr => s.size - (RowKit.intOf s4).toNat)
  case atStart => exact ⟨0, rfl, Nat.zero_le _, fresh w, (Below.refl _ _).alloc (Nat.le_refl _) _⟩
  case round =>
    obtain ⟨k, rfl, hk, hbd, hbw⟩ := hrel
    have hBr := hbw.size
    by_cases hlt : k < s.size
    · have hmore : ∀ (c : UInt8) (b : UInt8), (c = 92 ∨ c = 44 ∨ c = 59) → put1 c = [92, c] := fun c b h => by unfold put1; rw [if_pos h]
      by_cases c0 : (s[k]'hlt = 92 ∨ s[k]'hlt = 44 ∨ s[k]'hlt = 59)
      · obtain ⟨e1, e2⟩ := hn.out k hlt _ (hmore _ 0 c0)
        have cA := byte_any w.heap.size w.heap.size _ 92 wr hbd (by simp only [List.length_cons, List.length_nil] at e2; omega) hBr
        have cB := fun W (hW : Bd w.heap.size w.heap.size (put (s.data.toList.take k) ++ [92]) W) (hB : w.heap.size ≤ W.heap.size) => byte_any w.heap.size w.heap.size _ (s[k]'hlt) W hW (by simp only [List.length_cons, List.length_nil] at e2; rw [List.length_append, List.length_singleton]; omega) hB
        rw [show (((92 : UInt8).toNat : Nat) : Int) = 92 from rfl] at cA
        have e3 : put (s.data.toList.take k) ++ [92] ++ [s[k]'hlt] = put (s.data.toList.take (k + 1)) := by rw [← e1]; simp
        rw [e3] at cB
        have hd : (((((s[k]'hlt).toNat : Nat) : Int) == 92) = true ∨ (((((s[k]'hlt).toNat : Nat) : Int) == 92) = false ∧ ((((s[k]'hlt).toNat : Nat) : Int) == 44) = true) ∨ (((((s[k]'hlt).toNat : Nat) : Int) == 92) = false ∧ ((((s[k]'hlt).toNat : Nat) : Int) == 44) = false ∧ ((((s[k]'hlt).toNat : Nat) : Int) == 59) = true)) := by
          by_cases c1 : s[k]'hlt = 92
          · exact .inl (ty (m := 92) rfl c1)
          · by_cases c2 : s[k]'hlt = 44
            · exact .inr (.inl ⟨tn (m := 92) rfl c1, ty (m := 44) rfl c2⟩)
            · refine .inr (.inr ⟨tn (m := 92) rfl c1, tn (m := 44) rfl c2, ty (m := 59) rfl ?_⟩)
              rcases c0 with h | h | h
              · exact absurd h c1
              · exact absurd h c2
              · exact h
        have cB' := Lib.hid cB
        clear c0 e1 e2 e3 hmore cB
        rcases hd with d1 | ⟨d1, d2⟩ | ⟨d1, d2, d3⟩
        all_goals
          go_wp2_with fail
          go_at_call 67
          refine cA.mono ?_
          rintro e w2 ⟨rfl, hbd2, hb2⟩
          go_wp2_with fail
          have hbw2 := hbw.trans hb2
          go_at_call 67
          refine (cB'.out w2 hbd2 hbw2.size).mono ?_
          rintro e w3 ⟨rfl, hbd3, hb3⟩
          go_wp2
          go_roundw
          case rel => exact ⟨k + 1, by go_num, by omega, hbd3, hbw2.trans hb3⟩
          case measure => simp [RowKit.intOf]; omega
      · have d1 : ((((s[k]'hlt).toNat : Nat) : Int) == 92) = false := tn (m := 92) rfl (fun e => c0 (.inl e))
        have d2 : ((((s[k]'hlt).toNat : Nat) : Int) == 44) = false := tn (m := 44) rfl (fun e => c0 (.inr (.inl e)))
        have d3 : ((((s[k]'hlt).toNat : Nat) : Int) == 59) = false := tn (m := 59) rfl (fun e => c0 (.inr (.inr e)))
        by_cases c1 : s[k]'hlt = 10
        · obtain ⟨e1, e2⟩ := hn.out k hlt [92, 110] (by unfold put1; rw [if_neg c0, if_pos c1])
          have cW := write_any w.heap.size w.heap.size _ ⟨#[92, 110]⟩ wr hbd e2 hBr
          rw [show (⟨#[92, 110]⟩ : ByteArray).data.toList = [92, 110] from rfl, e1] at cW
          have d4 : ((((s[k]'hlt).toNat : Nat) : Int) == 10) = true := ty (m := 10) rfl c1
          clear c0 c1 e1 e2 hmore
          go_wp2_with (go_at_call 66; refine cW.mono ?_; rintro e w2 ⟨rfl, hbd2, hb2⟩)
          go_roundw
          case rel => exact ⟨k + 1, by go_num, by omega, hbd2, hbw.trans hb2⟩
          case measure => simp [RowKit.intOf]; omega
        · obtain ⟨e1, e2⟩ := hn.out k hlt [s[k]'hlt] (by unfold put1; rw [if_neg c0, if_neg c1])
          have cA := byte_any w.heap.size w.heap.size _ (s[k]'hlt) wr hbd e2 hBr
          rw [e1] at cA
          have d4 : ((((s[k]'hlt).toNat : Nat) : Int) == 10) = false := tn (m := 10) rfl c1
          clear c0 c1 e1 e2 hmore
          go_wp2_with (go_at_call 67; refine cA.mono ?_; rintro e w2 ⟨rfl, hbd2, hb2⟩)
          go_roundw
          case rel => exact ⟨k + 1, by go_num, by omega, hbd2, hbw.trans hb2⟩
          case measure => simp [RowKit.intOf]; omega
    · rw [List.take_of_length_le (by rw [← Lib.size_eq]; omega)] at hbd
      go_wp2_with (go_at_call 69; refine (Bu.text_any w.heap.size w.heap.size _ _ hbd hBr).mono ?_; rintro e w2 ⟨rfl, _, hb2⟩)
      go_ret
      exact ⟨⟨_, by simp, rfl⟩, hbw.trans hb2⟩

/-! ### joined -/
theorem tl_len (m : UInt8) : ∀ (xs : List Row), (tl m xs).length = (xs.map fun x => x.length + 1).sum
  | [] => rfl
  | x :: xs => by have := tl_len m xs; simp only [tl, List.length_append, List.length_cons, List.map_cons, List.sum_cons]; omega
theorem jn_append_le (m : UInt8) (a b : List Row) : (jn m a).length ≤ (jn m (a ++ b)).length := by
  cases a with
  | nil => simp [jn]
  | cons x a => simp [jn, tl_append]
theorem jn_take {α : Type} (m : UInt8) (f : α → Row) (xs : List α) (k : Nat) (x : α) (h : xs[k]? = some x) : jn m ((xs.take (k + 1)).map f) = (if k = 0 then [] else jn m ((xs.take k).map f) ++ [m]) ++ f x := by
  obtain ⟨hl, hv⟩ := List.getElem?_eq_some_iff.1 h
  rw [List.take_succ_eq_append_getElem hl, hv, List.map_append, List.map_singleton, jn_snoc]
  by_cases hk : k = 0
  · subst hk; simp
  · have : ¬ (xs.take k).map f = [] := fun e => by
      have := congrArg List.length e
      rw [List.length_map, List.length_take, List.length_nil] at this
      omega
    rw [if_neg this, if_neg hk]
    simp
theorem jn_take_le {α : Type} (m : UInt8) (f : α → Row) (xs : List α) (k : Nat) : (jn m ((xs.take k).map f)).length ≤ (jn m (xs.map f)).length := by
  have := jn_append_le m ((xs.take k).map f) ((xs.drop k).map f)
  rwa [← List.map_append, List.take_append_drop] at this
theorem jn_mem_le {α : Type} (m : UInt8) (f : α → Row) (xs : List α) (k : Nat) (x : α) (h : xs[k]? = some x) : (f x).length ≤ (jn m (xs.map f)).length := by
  have h1 := jn_take m f xs k x h
  have h2 := jn_take_le m f xs (k + 1)
  rw [h1, List.length_append] at h2
  omega
/-- what put makes of what reads as x -/
def PutsF {α : Type} (g : Nat) (f : α → Row) (P : World → Value → α → Prop) (xs : List α) (w : World) : Prop :=
  ∀ (W : World) (x : α) (u : Value), x ∈ xs → P W u x → Below w.heap.size w W → Calls Tryz.prog g #[u] W fun e w' => (∃ s : ByteArray, s.data.toList = f x ∧ e = .returned (.string s)) ∧ Below W.heap.size W w'

set_option maxHeartbeats 4000000 in
set_option maxRecDepth 100000 in
theorem join1_any (m : UInt8) (ls : List Row) (v : Value) (w : World) (h : StrsAt w v ls) (hlen : (jn m (ls.map put)).length ≤ 140737488355328) :
    Calls Tryz.prog 128 #[v, .int .u8 (m.toNat : Int), .func (.func 108) #[] #[]] w fun e w' => (∃ x : ByteArray, x.data.toList = jn m (ls.map put) ∧ e = .returned (.string x)) ∧ Below w.heap.size w w' := by
  have eg : ∀ args w, (callFunc 108 args).run Tryz.prog w = .ok (.enter 108 args) w := enters_of Tryz.func108 (by kernel_rfl) rfl
  obtain ⟨A, b, off, c, rfl, h1, h2, h3, h4⟩ := h
  obtain ⟨n, hn⟩ : ∃ n, ls.length = n := ⟨_, rfl⟩
  have hput : ∀ (k : Nat) (l : Row), ls[k]? = some l → (put l).length ≤ 140737488355328 := fun k l hl => by have := jn_mem_le m put ls k l hl; omega
  have hnext : ∀ (k : Nat) (l : Row), ls[k]? = some l → (if k = 0 then [] else jn m ((ls.take k).map put) ++ [m]) ++ put l = jn m ((ls.take (k + 1)).map put) ∧ (if k = 0 then [] else jn m ((ls.take k).map put) ++ [m]).length + (put l).length ≤ 140737488355328 := fun k l hl => by
    have e1 := jn_take m put ls k l hl
    have e2 := jn_take_le m put ls (k + 1)
    rw [e1, List.length_append] at e2
    exact ⟨e1.symm, by omega⟩
  have hall : jn m ((ls.take n).map put) = jn m (ls.map put) := by rw [List.take_of_length_le (by omega)]
  rw [hn] at h1 h3 ⊢
  unfold maxLen at h2
  have hn' := Lib.hid hn
  have h3' := Lib.hid h3
  have h4' := Lib.hid h4
  have hput' := Lib.hid hput
  have hnext' := Lib.hid hnext
  have hall' := Lib.hid hall
  clear hn h3 h4 hput hnext hall hlen
  go_enter Tryz.func128, Tryz.ntmps128
  go_wp2
  go_loopw [12] (fun s12 wr => ∃ k : Nat, s12 = .int .i64 (k : Int) ∧ k ≤ n ∧ Bd w.heap.size w.heap.size (jn m ((ls.take k).map put)) wr ∧ Below w.heap.size w wr) (fun s12 wr => n - (RowKit.intOf s12).toNat)
  case atStart => exact ⟨0, rfl, Nat.zero_le _, fresh w, (Below.refl _ _).alloc (Nat.le_refl _) _⟩
  case round =>
    obtain ⟨k, rfl, hk, hbd, hbw⟩ := hrel
    have hBr := hbw.size
    by_cases hlt : k < n
    · have hl : ls[k]? = some (ls[k]'(by have := hn'.out; omega)) := List.getElem?_eq_getElem _
      obtain ⟨l, hle⟩ : ∃ l, ls[k]'(by have := hn'.out; omega) = l := ⟨_, rfl⟩
      rw [hle] at hl
      obtain ⟨rfl, hg⟩ := h3'.out (by omega)
      obtain ⟨u, hu, rfl⟩ := h4'.out k l hl
      obtain ⟨x, ex, hx⟩ := sv_some l
      rw [ex, ← hbw.cell (p := ⟨b, off + k, none⟩) hg] at hu
      obtain ⟨e1, e2⟩ := hnext'.out k l hl
      have hpl := hput'.out k l hl
      have cP := fun W => putText_any x W (by rw [hx]; exact hpl)
      rw [hx] at cP
      clear hle hl ex hpl
      by_cases hk0 : k = 0
      · rw [if_pos hk0] at e1 e2
        have hbd0 : Bd w.heap.size w.heap.size [] wr := by rw [hk0] at hbd; exact hbd
        have hk1 : k ≤ 0 := by omega
        have e1' := Lib.hid e1
        clear e1 hbd hk0
        go_wp2_with fail
        go_at_fn 108
        refine (cP _).mono ?_
        rintro e w2 ⟨⟨y, hy, rfl⟩, hb2⟩
        go_wp2_with fail
        have cW := write_any w.heap.size w.heap.size _ y w2 (hbd0.kept hb2) (by rw [Lib.size_eq, hy]; exact e2) (by have := hb2.size; omega)
        rw [hy, e1'.out] at cW
        have hbw2 := below_then hbw hb2
        clear hy hb2
        go_at_call 66
        refine cW.mono ?_
        rintro e w3 ⟨rfl, hbd3, hb3⟩
        go_wp2
        go_roundw
        case rel => exact ⟨k + 1, by go_num, by omega, hbd3, hbw2.trans hb3⟩
        case measure => simp [RowKit.intOf]; omega
      · rw [if_neg hk0] at e1 e2
        have hk1 : 0 < k := by omega
        have cB := byte_any w.heap.size w.heap.size _ m wr hbd (by rw [List.length_append, List.length_singleton] at e2; omega) hBr
        have e1' := Lib.hid e1
        have e2' := Lib.hid e2
        clear e1 e2 hk0 hbd
        go_wp2_with fail
        go_at_call 67
        refine cB.mono ?_
        rintro e w1 ⟨rfl, hbd1, hb1⟩
        go_wp2_with fail
        have hbw1 := hbw.trans hb1
        go_at_fn 108
        refine (cP _).mono ?_
        rintro e w2 ⟨⟨y, hy, rfl⟩, hb2⟩
        have cW := write_any w.heap.size w.heap.size _ y w2 (hbd1.kept hb2) (by rw [Lib.size_eq, hy]; exact e2'.out) (by have := hb2.size; have := hbw1.size; omega)
        rw [hy, e1'.out] at cW
        have hbw2 := below_then hbw1 hb2
        clear hy hb2 hbd1 cB hb1 hbw1
        go_wp2_with fail
        go_at_call 66
        refine cW.mono ?_
        rintro e w3 ⟨rfl, hbd3, hb3⟩
        go_wp2
        go_roundw
        case rel => exact ⟨k + 1, by go_num, by omega, hbd3, hbw2.trans hb3⟩
        case measure => simp [RowKit.intOf]; omega
    · obtain rfl : k = n := by omega
      rw [hall'.out] at hbd
      go_wp2_with (go_at_call 69; refine (Bu.text_any w.heap.size w.heap.size _ _ hbd hBr).mono ?_; rintro e w2 ⟨rfl, _, hb2⟩)
      go_ret
      exact ⟨⟨_, by simp, rfl⟩, hbw.trans hb2⟩

theorem putList_any (ls : List Row) (v : Value) (w : World) (h : StrsAt w v ls) (hlen : (putL ls).length ≤ 140737488355328) :
    Calls Tryz.prog 110 #[v] w fun e w' => (∃ x : ByteArray, x.data.toList = putL ls ∧ e = .returned (.string x)) ∧ Below w.heap.size w w' := by
  have cJ := join1_any 44 ls v w h hlen
  rw [show (((44 : UInt8).toNat : Nat) : Int) = 44 from rfl] at cJ
  have hJ : jn 44 (ls.map put) = putL ls := rfl
  rw [hJ] at cJ
  obtain ⟨A, b, off, c, rfl, _⟩ := h
  generalize putL ls = L at cJ ⊢
  clear hJ hlen
  go_enter Tryz.func110, Tryz.ntmps110
  go_wp2_with (go_at_call 128; refine cJ.mono ?_; rintro e w1 ⟨⟨x, hx, rfl⟩, hb⟩)
  go_ret
  exact ⟨⟨x, hx, rfl⟩, hb⟩
theorem putClos_any (ls : List Row) (v : Value) (w : World) (h : StrsAt w v ls) (hlen : (putL ls).length ≤ 140737488355328) :
    Calls Tryz.prog 130 #[v] w fun e w' => (∃ x : ByteArray, x.data.toList = putL ls ∧ e = .returned (.string x)) ∧ Below w.heap.size w w' := by
  have cJ := putList_any ls v w h hlen
  obtain ⟨A, b, off, c, rfl, _⟩ := h
  generalize putL ls = L at cJ ⊢
  clear hlen
  go_enter Tryz.func130, Tryz.ntmps130
  go_wp2_with (go_at_call 110; refine cJ.mono ?_; rintro e w1 ⟨⟨x, hx, rfl⟩, hb⟩)
  go_ret
  exact ⟨⟨x, hx, rfl⟩, hb⟩

set_option maxHeartbeats 4000000 in
set_option maxRecDepth 100000 in
theorem join2_any (m : UInt8) (fs : List (List Row)) (v : Value) (w : World) (h : ListsAt w v fs) (hlen : (jn m (fs.map putL)).length ≤ 140737488355328) :
    Calls Tryz.prog 129 #[v, .int .u8 (m.toNat : Int), .func (.func 130) #[] #[]] w fun e w' => (∃ x : ByteArray, x.data.toList = jn m (fs.map putL) ∧ e = .returned (.string x)) ∧ Below w.heap.size w w' := by
  have eg : ∀ args w, (callFunc 130 args).run Tryz.prog w = .ok (.enter 130 args) w := enters_of Tryz.func130 (by kernel_rfl) rfl
  obtain ⟨A, b, off, c, rfl, h1, h2, h3, h4⟩ := h
  obtain ⟨n, hn⟩ : ∃ n, fs.length = n := ⟨_, rfl⟩
  have hput : ∀ (k : Nat) (l : List Row), fs[k]? = some l → (putL l).length ≤ 140737488355328 := fun k l hl => by have := jn_mem_le m putL fs k l hl; omega
  have hnext : ∀ (k : Nat) (l : List Row), fs[k]? = some l → (if k = 0 then [] else jn m ((fs.take k).map putL) ++ [m]) ++ putL l = jn m ((fs.take (k + 1)).map putL) ∧ (if k = 0 then [] else jn m ((fs.take k).map putL) ++ [m]).length + (putL l).length ≤ 140737488355328 := fun k l hl => by
    have e1 := jn_take m putL fs k l hl
    have e2 := jn_take_le m putL fs (k + 1)
    rw [e1, List.length_append] at e2
    exact ⟨e1.symm, by omega⟩
  have hall : jn m ((fs.take n).map putL) = jn m (fs.map putL) := by rw [List.take_of_length_le (by omega)]
  rw [hn] at h1 h3 ⊢
  unfold maxLen at h2
  have hn' := Lib.hid hn
  have h3' := Lib.hid h3
  have h4' := Lib.hid h4
  have hput' := Lib.hid hput
  have hnext' := Lib.hid hnext
  have hall' := Lib.hid hall
  clear hn h3 h4 hput hnext hall hlen
  go_enter Tryz.func129, Tryz.ntmps129
  go_wp2
  go_loopw [12] (fun s12 wr => ∃ k : Nat, s12 = .int .i64 (k : Int) ∧ k ≤ n ∧ Bd w.heap.size w.heap.size (jn m ((fs.take k).map putL)) wr ∧ Below w.heap.size w wr) (fun s12 wr => n - (RowKit.intOf s12).toNat)
  case atStart => exact ⟨0, rfl, Nat.zero_le _, fresh w, (Below.refl _ _).alloc (Nat.le_refl _) _⟩
  case round =>
    obtain ⟨k, rfl, hk, hbd, hbw⟩ := hrel
    have hBr := hbw.size
    by_cases hlt : k < n
    · have hl : fs[k]? = some (fs[k]'(by have := hn'.out; omega)) := List.getElem?_eq_getElem _
      obtain ⟨l, hle⟩ : ∃ l, fs[k]'(by have := hn'.out; omega) = l := ⟨_, rfl⟩
      rw [hle] at hl
      obtain ⟨rfl, hg⟩ := h3'.out (by omega)
      obtain ⟨u, hu, hs⟩ := h4'.out k l hl
      rw [← hbw.cell (p := ⟨b, off + k, none⟩) hg] at hu
      obtain ⟨e1, e2⟩ := hnext'.out k l hl
      have hpl := hput'.out k l hl
      have cP := fun W (hW : Below w.heap.size w W) => putClos_any l u W (hs.kept hW) hpl
      obtain ⟨A2, b2, o2, c2, rfl, _⟩ := hs
      generalize l.length = nl at hu cP
      have cP' := Lib.hid cP
      clear hle hl hpl cP
      by_cases hk0 : k = 0
      · rw [if_pos hk0] at e1 e2
        have hbd0 : Bd w.heap.size w.heap.size [] wr := by rw [hk0] at hbd; exact hbd
        have hk1 : k ≤ 0 := by omega
        have e1' := Lib.hid e1
        clear e1 hbd hk0
        go_wp2_with fail
        go_at_fn 130
        refine (cP'.out _ hbw).mono ?_
        rintro e w2 ⟨⟨y, hy, rfl⟩, hb2⟩
        go_wp2_with fail
        have cW := write_any w.heap.size w.heap.size _ y w2 (hbd0.kept hb2) (by rw [Lib.size_eq, hy]; exact e2) (by have := hb2.size; omega)
        rw [hy, e1'.out] at cW
        have hbw2 := below_then hbw hb2
        clear hy hb2
        go_at_call 66
        refine cW.mono ?_
        rintro e w3 ⟨rfl, hbd3, hb3⟩
        go_wp2
        go_roundw
        case rel => exact ⟨k + 1, by go_num, by omega, hbd3, hbw2.trans hb3⟩
        case measure => simp [RowKit.intOf]; omega
      · rw [if_neg hk0] at e1 e2
        have hk1 : 0 < k := by omega
        have cB := byte_any w.heap.size w.heap.size _ m wr hbd (by rw [List.length_append, List.length_singleton] at e2; omega) hBr
        have e1' := Lib.hid e1
        have e2' := Lib.hid e2
        clear e1 e2 hk0 hbd
        go_wp2_with fail
        go_at_call 67
        refine cB.mono ?_
        rintro e w1 ⟨rfl, hbd1, hb1⟩
        go_wp2_with fail
        have hbw1 := hbw.trans hb1
        rw [← hb1.cell (p := ⟨b, off + k, none⟩) hg] at hu
        go_at_fn 130
        refine (cP'.out _ hbw1).mono ?_
        rintro e w2 ⟨⟨y, hy, rfl⟩, hb2⟩
        have cW := write_any w.heap.size w.heap.size _ y w2 (hbd1.kept hb2) (by rw [Lib.size_eq, hy]; exact e2'.out) (by have := hb2.size; have := hbw1.size; omega)
        rw [hy, e1'.out] at cW
        have hbw2 := below_then hbw1 hb2
        clear hy hb2 hbd1 cB hb1 hbw1
        go_wp2_with fail
        go_at_call 66
        refine cW.mono ?_
        rintro e w3 ⟨rfl, hbd3, hb3⟩
        go_wp2
        go_roundw
        case rel => exact ⟨k + 1, by go_num, by omega, hbd3, hbw2.trans hb3⟩
        case measure => simp [RowKit.intOf]; omega
    · obtain rfl : k = n := by omega
      rw [hall'.out] at hbd
      go_wp2_with (go_at_call 69; refine (Bu.text_any w.heap.size w.heap.size _ _ hbd hBr).mono ?_; rintro e w2 ⟨rfl, _, hb2⟩)
      go_ret
      exact ⟨⟨_, by simp, rfl⟩, hbw.trans hb2⟩
theorem putFields_any (fs : List (List Row)) (v : Value) (w : World) (h : ListsAt w v fs) (hlen : (putF fs).length ≤ 140737488355328) :
    Calls Tryz.prog 111 #[v] w fun e w' => (∃ x : ByteArray, x.data.toList = putF fs ∧ e = .returned (.string x)) ∧ Below w.heap.size w w' := by
  have cJ := join2_any 59 fs v w h hlen
  rw [show (((59 : UInt8).toNat : Nat) : Int) = 59 from rfl] at cJ
  have hJ : jn 59 (fs.map putL) = putF fs := rfl
  rw [hJ] at cJ
  obtain ⟨A, b, off, c, rfl, _⟩ := h
  generalize putF fs = L at cJ ⊢
  clear hJ hlen
  go_enter Tryz.func111, Tryz.ntmps111
  go_wp2_with (go_at_call 129; refine cJ.mono ?_; rintro e w1 ⟨⟨x, hx, rfl⟩, hb⟩)
  go_ret
  exact ⟨⟨x, hx, rfl⟩, hb⟩
end Go.Proofs.YthnnpnlapjlnoaaGreatDoor.Va

/-
  THE CONTRACTS OF value's CALLS WHERE THE ANSWER IS KNOWN.
-/
set_option linter.unusedVariables false
namespace Go.Proofs.YthnnpnlapjlnoaaGreatDoor.Va
open Go.Lib Go.RowKit Bu

theorem text_is (T x : ByteArray) (w : World) (hs : T.size ≤ 1099511627776) (h : text T.data.toList = some x.data.toList) :
    Calls Tryz.prog 80 #[.string T] w fun e w' => e = .returned (.tuple #[.string x, .int .i64 0]) ∧ Below w.heap.size w w' :=
  (text_any T w hs).mono fun e w' ⟨h1, h2⟩ => ⟨by
    rcases h1 with ⟨h3, _⟩ | ⟨y, h3, rfl⟩
    · rw [h] at h3; cases h3
    · rw [h] at h3; rw [data_eq (Option.some.inj h3)], h2⟩
theorem text_no (T : ByteArray) (w : World) (hs : T.size ≤ 1099511627776) (h : text T.data.toList = none) :
    Calls Tryz.prog 80 #[.string T] w fun e w' => e = .returned (.tuple #[.string ⟨#[]⟩, .int .i64 31]) ∧ Below w.heap.size w w' :=
  (text_any T w hs).mono fun e w' ⟨h1, h2⟩ => ⟨by
    rcases h1 with ⟨_, h3⟩ | ⟨y, h3, rfl⟩
    · exact h3
    · rw [h] at h3; exact absurd h3 (by simp), h2⟩
theorem list_is (T : ByteArray) (ls : List Row) (w : World) (hs : T.size ≤ 1099511627776) (h : list T.data.toList = some ls) :
    Calls Tryz.prog 109 #[.string T] w fun e w' => (∃ v, e = .returned (.tuple #[v, .int .i64 0]) ∧ Own w.heap.size v ls w') ∧ Below w.heap.size w w' :=
  (list_any T w hs).mono fun e w' ⟨h1, h2⟩ => ⟨by
    rcases h1 with ⟨h3, _⟩ | ⟨v, ms, h3, rfl, h4⟩
    · rw [h] at h3; cases h3
    · rw [h] at h3; obtain rfl := Option.some.inj h3; exact ⟨v, rfl, h4⟩, h2⟩
theorem list_no (T : ByteArray) (w : World) (hs : T.size ≤ 1099511627776) (h : list T.data.toList = none) :
    Calls Tryz.prog 109 #[.string T] w fun e w' => e = .returned (.tuple #[.slice none 0 0, .int .i64 31]) ∧ Below w.heap.size w w' :=
  (list_any T w hs).mono fun e w' ⟨h1, h2⟩ => ⟨by
    rcases h1 with ⟨_, h3⟩ | ⟨v, ms, h3, rfl, h4⟩
    · exact h3
    · rw [h] at h3; exact absurd h3 (by simp), h2⟩
theorem fields_is (T : ByteArray) (fs : List (List Row)) (w : World) (hs : T.size ≤ 1099511627776) (h : fields T.data.toList = some fs) :
    Calls Tryz.prog 79 #[.string T] w fun e w' => (∃ v, e = .returned (.tuple #[v, .int .i64 0]) ∧ LOwn w.heap.size v fs w') ∧ Below w.heap.size w w' :=
  (fields_any T w hs).mono fun e w' ⟨h1, h2⟩ => ⟨by
    rcases h1 with ⟨h3, _⟩ | ⟨v, ms, h3, rfl, h4⟩
    · rw [h] at h3; cases h3
    · rw [h] at h3; obtain rfl := Option.some.inj h3; exact ⟨v, rfl, h4⟩, h2⟩
theorem fields_no (T : ByteArray) (w : World) (hs : T.size ≤ 1099511627776) (h : fields T.data.toList = none) :
    Calls Tryz.prog 79 #[.string T] w fun e w' => e = .returned (.tuple #[.slice none 0 0, .int .i64 31]) ∧ Below w.heap.size w w' :=
  (fields_any T w hs).mono fun e w' ⟨h1, h2⟩ => ⟨by
    rcases h1 with ⟨_, h3⟩ | ⟨v, ms, h3, rfl, h4⟩
    · exact h3
    · rw [h] at h3; exact absurd h3 (by simp), h2⟩
theorem put_is (s x : ByteArray) (w : World) (hx : x.data.toList = put s.data.toList) (hs : x.size ≤ 140737488355328) :
    Calls Tryz.prog 108 #[.string s] w fun e w' => e = .returned (.string x) ∧ Below w.heap.size w w' :=
  (putText_any s w (by rw [← hx, ← Lib.size_eq]; exact hs)).mono fun e w' ⟨⟨y, h1, h2⟩, h3⟩ => ⟨by rw [h2, data_eq (h1.trans hx.symm)], h3⟩
theorem put_made (s : ByteArray) : ∃ x : ByteArray, x.data.toList = put s.data.toList := ⟨⟨(put s.data.toList).toArray⟩, by simp⟩

theorem cat_data (a b c : ByteArray) (h : a ++ b = c) : c.data.toList = a.data.toList ++ b.data.toList := by rw [← h, ByteArray.data_append, Array.toList_append]
theorem cat_size (a b c : ByteArray) (h : a ++ b = c) : c.size = a.size + b.size := by rw [← h, ByteArray.size_append]
theorem put_size {s x : ByteArray} (h : x.data.toList = put s.data.toList) : x.size ≤ 2 * s.size := by
  rw [Lib.size_eq, h, Lib.size_eq]; exact put_len _
/-- one string in a slice -/
theorem str_at {w : World} {v : Value} {a : ByteArray} (h : StrsAt w v [a.data.toList]) : ∃ (b off c : Nat), v = .slice (some ⟨b, off, none⟩) 1 c ∧ 1 ≤ c ∧ c ≤ maxLen ∧ b < w.heap.size ∧ w.cell? ⟨b, off, none⟩ = some (.string a) := by
  obtain ⟨A, b, off, c, h1, h2, h3, h4, h5⟩ := h
  obtain ⟨rfl, hb⟩ := h4 (by simp)
  obtain ⟨u, hu, rfl⟩ := h5 0 _ rfl
  rw [sv_data] at hu
  exact ⟨b, off, c, h1, by simpa using h2, h3, hb, hu⟩
theorem list_at {w : World} {v : Value} {l : List Row} (h : ListsAt w v [l]) : ∃ (b off c : Nat) (u : Value), v = .slice (some ⟨b, off, none⟩) 1 c ∧ 1 ≤ c ∧ c ≤ maxLen ∧ b < w.heap.size ∧ w.cell? ⟨b, off, none⟩ = some u ∧ StrsAt w u l := by
  obtain ⟨A, b, off, c, h1, h2, h3, h4, h5⟩ := h
  obtain ⟨rfl, hb⟩ := h4 (by simp)
  obtain ⟨u, hu, hx⟩ := h5 0 _ rfl
  exact ⟨b, off, c, u, h1, by simpa using h2, h3, hb, hu, hx⟩

end Go.Proofs.YthnnpnlapjlnoaaGreatDoor.Va

/-
  WALKS OF THE REFERENCE's Signs AND Plain.
-/
set_option linter.unusedVariables false
namespace Go.Proofs.YthnnpnlapjlnoaaGreatDoor.Va
open Go.Lib Go.RowKit Bu

def SignsP (B : Nat) (t : Row) (e : Ending) (w' : World) : Prop :=
  (signs t = none ∧ e = .returned (.tuple #[.slice none 0 0, .bool false])) ∨ ∃ (v : Value) (l : List Sg), signs t = some l ∧ e = .returned (.tuple #[v, .bool true]) ∧ SOwn B v l w'
/-- one sign more -/
theorem append_sg {w0 : World} {ops : Array Oper} {rest : List Oper} {o : Oper} {a : Act} {Q : Exit → Act → World → Prop} (x : UInt8) (k : Bool) (z : Int) (hz : (x.toNat : Int) = z) (hgd : o.guard = none) (s xo : Operand)
    (ho : o.op = .call { callee := .builtin .append, args := #[s, xo], argTypes := #[87, 87] }) (base : Nat) (v : Value) (l : List Sg) (g : Nat) (hgz : g = w0.heap.size) (hs : a.eval s = v) (hx : a.eval xo = .slice (some ⟨g, 0, none⟩) 1 1)
    (hown : SOwn base v l w0) (hl : l.length ≤ 1099511627776) (hbase : base ≤ w0.heap.size)
    (h : ∀ v' w', SOwn base v' (l ++ [(x, k)]) w' → (w0.alloc (.cells #[.int .u8 z, .bool k] 122)).grownBy w' v.ownBlock → wpList Tryz.prog ops Q rest (a.put o.dst v') w') :
    wpList Tryz.prog ops Q (o :: rest) a (w0.alloc (.cells #[.int .u8 z, .bool k] 122)) := by
  obtain ⟨i0, hi, hz0, hz1, hz2⟩ := info_parts infoSg
  subst hz
  subst hgz
  refine wpList_append_own _ hgd s xo 87 ho base 122 i0 (.agg #[.int .u8 0, .bool false]) 2 2 Tryz.underlying87 hi hz0 hz1 hz2 rfl (by decide) v l.length (sgc l) hs (World.ownsRow.alloc hown _) ⟨w0.heap.size, 0, none⟩ 1 1 [.int .u8 (x.toNat : Int), .bool k] hx rfl (fun j u hj => ?_) (fun u hu => ?_) (by unfold maxLen; omega) (by omega) (by simp; omega) (fun v' w' h5 h6 _ => h v' w' (SOwn.snoc h5) h6)
  · match j, hj with
    | 0, hj => simp at hj; subst hj; simp [Addr.add]
    | 1, hj => simp at hj; subst hj; simp [Addr.add]
  · simp at hu
    rcases hu with rfl | rfl <;> rfl
theorem below_app {a w0 w' : World} {B B' : Nat} {e : TypeId} {size n : Nat} {v : Value} {xs : List Value} {o : Obj} (hb : Below B a w0) (hB : B ≤ w0.heap.size) (hown : w0.ownsRow B' e size v n xs) (hBB : B ≤ B') (hg : (w0.alloc o).grownBy w' v.ownBlock) : Below B a w' :=
  (hb.alloc hB o).grown hg (by simp; omega) (fun k hk => Nat.le_trans hBB (hown.lt k hk).1)

def SgRel (S : Row) (n : Nat) (w : World) (s4 s5 : Value) (wr : World) : Prop :=
  ∃ (l : List Sg) (i : Nat) (v : Value), v = s4 ∧ s5 = .int .i64 (i : Int) ∧ i ≤ n ∧ l.length ≤ i ∧ SOwn w.heap.size s4 l wr ∧ Below w.heap.size w wr ∧ signs S = (signs (S.drop i)).map fun y => l ++ y

set_option maxHeartbeats 8000000 in
set_option maxRecDepth 100000 in
theorem refSigns_any (s : ByteArray) (w : World) (hs : s.size ≤ 1099511627776) :
    Calls Tryz.prog 56 #[.string s] w fun e w' => SignsP w.heap.size s.data.toList e w' ∧ Below w.heap.size w w' := by
  have hown1 : ∀ (i : Nat) (h : i < s.size) (l : List Sg), s[i]'h ≠ 92 → (signs s.data.toList = (signs (s.data.toList.drop i)).map fun y => l ++ y) → signs s.data.toList = (signs (s.data.toList.drop (i + 1))).map fun y => (l ++ [(s[i]'h, false)]) ++ y := fun i h l hc hR => by
    rw [hR, drop_head s i h, signs_own _ _ hc, Option.map_map]
    congr 1
    funext y
    simp
  have hesc1 : ∀ (i : Nat) (h : i < s.size) (h2 : i + 1 < s.size) (l : List Sg), s[i]'h = 92 → (signs s.data.toList = (signs (s.data.toList.drop i)).map fun y => l ++ y) →
      (∀ d, kep (s[i + 1]'h2) = some d → signs s.data.toList = (signs (s.data.toList.drop (i + 2))).map fun y => (l ++ [(d, true)]) ++ y) ∧ (kep (s[i + 1]'h2) = none → signs s.data.toList = none) := fun i h h2 l hc hR => by
    rw [hR, drop_head s i h, hc, drop_head s (i + 1) h2, signs_esc]
    refine ⟨fun d hd => ?_, fun hd => by rw [hd]; rfl⟩
    rw [hd, Option.bind_some, Option.map_map]
    congr 1
    funext y
    simp
  have hend1 : ∀ (i : Nat) (h : i < s.size) (l : List Sg), ¬ i + 1 < s.size → s[i]'h = 92 → (signs s.data.toList = (signs (s.data.toList.drop i)).map fun y => l ++ y) → signs s.data.toList = none := fun i h l h2 hc hR => by
    rw [hR, drop_head s i h, hc, List.drop_eq_nil_of_le (by rw [← Lib.size_eq]; omega), signs_end]; rfl
  have ho := Lib.hid hown1
  have he := Lib.hid hesc1
  have hd := Lib.hid hend1
  clear hown1 hesc1 hend1
  go_enter Tryz.func56, Tryz.ntmps56
  go_wp2
  go_loopw [4, 5] (fun s4 s5 wr => SgRel s.data.toList s.size w s4 s5 wr) (fun s4 s5 wr => s.size - (RowKit.intOf s5).toNat)
  case atStart => exact ⟨[], 0, _, rfl, rfl, Nat.zero_le _, Nat.zero_le _, SOwn.nil _ _, Below.refl _ _, by simp⟩
  case round =>
    obtain ⟨l, i, s4, rfl, rfl, hi, hl, hown, hbw, hR⟩ := hrel
    by_cases hlt : i < s.size
    · by_cases c1 : s[i]'hlt = 92
      · have d1 : ((((s[i]'hlt).toNat : Nat) : Int) == 92) = true := ty (m := 92) rfl c1
        have d1' : ((((s[i]'hlt).toNat : Nat) : Int) != 92) = false := by unfold bne; rw [d1]; rfl
        by_cases hlt2 : i + 1 < s.size
        · obtain ⟨A, hA⟩ : ∃ A, i + 1 = A := ⟨_, rfl⟩
          obtain ⟨g1, g2⟩ := he.out i hlt hlt2 l c1 hR
          have hAI : (i : Int) + 1 = (A : Int) := by omega
          have hltA : A < s.size := by omega
          have hg1 : ∀ d, kep (s[A]'hltA) = some d → signs s.data.toList = (signs (s.data.toList.drop (A + 1))).map fun y => (l ++ [(d, true)]) ++ y := by subst hA; exact g1
          have hg2 : kep (s[A]'hltA) = none → signs s.data.toList = none := by subst hA; exact g2
          have hg1' := Lib.hid hg1
          have hg2' := Lib.hid hg2
          have hA' := Lib.hid hA
          have hiA : i < A := by omega
          clear c1 g1 g2 hg1 hg2 hR hlt2 hA
          by_cases e1 : s[A]'hltA = 110 ∨ s[A]'hltA = 78
          · have hn := Lib.hid (hg1'.out 10 (kep_feed _ e1))
            have hd2 : (((((s[A]'hltA).toNat : Nat) : Int) == 110) = true) ∨ (((((s[A]'hltA).toNat : Nat) : Int) == 110) = false ∧ ((((s[A]'hltA).toNat : Nat) : Int) == 78) = true) := by
              by_cases f1 : s[A]'hltA = 110
              · exact .inl (ty (m := 110) rfl f1)
              · exact .inr ⟨tn (m := 110) rfl f1, ty (m := 78) rfl (by rcases e1 with h | h; exact absurd h f1; exact h)⟩
            clear e1
            rcases hd2 with d2 | ⟨d2, d3⟩
            all_goals
              go_wp2_with (at_builtin; refine append_sg (w0 := wr) 10 true 10 rfl rfl _ _ rfl w.heap.size _ l wr.heap.size rfl rfl rfl hown ?c1 ?c2 ?_)
              case c1 => omega
              case c2 => exact hbw.size
              intro v' w3 hown3 hg
              have hbw3 := below_app hbw hbw.size hown (Nat.le_refl _) hg
              clear hg hown
              go_wp2
              go_roundw
              case rel => exact ⟨_, A + 1, _, rfl, by go_num, by omega, by simp; omega, hown3, hbw3, hn.out⟩
              case measure => simp [RowKit.intOf]; omega
          · have d2 : ((((s[A]'hltA).toNat : Nat) : Int) == 110) = false := tn (m := 110) rfl (fun h => e1 (.inl h))
            have d3 : ((((s[A]'hltA).toNat : Nat) : Int) == 78) = false := tn (m := 78) rfl (fun h => e1 (.inr h))
            by_cases e2 : s[A]'hltA = 92 ∨ s[A]'hltA = 44 ∨ s[A]'hltA = 59
            · have hn := Lib.hid (hg1'.out _ (kep_own _ e2))
              have hd2 : (((((s[A]'hltA).toNat : Nat) : Int) == 92) = true ∨ (((((s[A]'hltA).toNat : Nat) : Int) == 92) = false ∧ ((((s[A]'hltA).toNat : Nat) : Int) == 44) = true) ∨ (((((s[A]'hltA).toNat : Nat) : Int) == 92) = false ∧ ((((s[A]'hltA).toNat : Nat) : Int) == 44) = false ∧ ((((s[A]'hltA).toNat : Nat) : Int) == 59) = true)) := by
                by_cases c1 : s[A]'hltA = 92
                · exact .inl (ty (m := 92) rfl c1)
                · by_cases c2 : s[A]'hltA = 44
                  · exact .inr (.inl ⟨tn (m := 92) rfl c1, ty (m := 44) rfl c2⟩)
                  · refine .inr (.inr ⟨tn (m := 92) rfl c1, tn (m := 44) rfl c2, ty (m := 59) rfl ?_⟩)
                    rcases e2 with h | h | h
                    · exact absurd h c1
                    · exact absurd h c2
                    · exact h
              clear e1 e2
              rcases hd2 with d4 | ⟨d4, d5⟩ | ⟨d4, d5, d6⟩
              all_goals
                go_wp2_with (at_builtin; refine append_sg (w0 := wr) (s[A]'hltA) true _ rfl rfl _ _ rfl w.heap.size _ l wr.heap.size rfl rfl rfl hown ?c1 ?c2 ?_)
                case c1 => omega
                case c2 => exact hbw.size
                intro v' w3 hown3 hg
                have hbw3 := below_app hbw hbw.size hown (Nat.le_refl _) hg
                clear hg hown
                go_wp2
                go_roundw
                case rel => exact ⟨_, A + 1, _, rfl, by go_num, by omega, by simp; omega, hown3, hbw3, hn.out⟩
                case measure => simp [RowKit.intOf]; omega
            · have d4 : ((((s[A]'hltA).toNat : Nat) : Int) == 92) = false := tn (m := 92) rfl (fun h => e2 (.inl h))
              have d5 : ((((s[A]'hltA).toNat : Nat) : Int) == 44) = false := tn (m := 44) rfl (fun h => e2 (.inr (.inl h)))
              have d6 : ((((s[A]'hltA).toNat : Nat) : Int) == 59) = false := tn (m := 59) rfl (fun h => e2 (.inr (.inr h)))
              have hf : SignsP w.heap.size s.data.toList (.returned (.tuple #[.slice none 0 0, .bool false])) wr := .inl ⟨hg2'.out (kep_no _ (fun h => e2 (.inl h)) (fun h => e2 (.inr (.inl h))) (fun h => e2 (.inr (.inr h))) (fun h => e1 (.inl h)) (fun h => e1 (.inr h))), rfl⟩
              have hf' := Lib.hid hf
              clear e1 e2 hf
              go_wp2
              go_ret2
              exact ⟨hf'.out, hbw⟩
        · have hf : SignsP w.heap.size s.data.toList (.returned (.tuple #[.slice none 0 0, .bool false])) wr := .inl ⟨hd.out i hlt l hlt2 c1 hR, rfl⟩
          have hf' := Lib.hid hf
          clear c1 hR hf
          go_wp2
          go_ret2
          exact ⟨hf'.out, hbw⟩
      · have d1 : ((((s[i]'hlt).toNat : Nat) : Int) == 92) = false := tn (m := 92) rfl c1
        have d1' : ((((s[i]'hlt).toNat : Nat) : Int) != 92) = true := by unfold bne; rw [d1]; rfl
        have hn := Lib.hid (ho.out i hlt l c1 hR)
        clear c1 hR
        go_wp2_with (at_builtin; refine append_sg (w0 := wr) (s[i]'hlt) false _ rfl rfl _ _ rfl w.heap.size _ l wr.heap.size rfl rfl rfl hown ?c1 ?c2 ?_)
        case c1 => omega
        case c2 => exact hbw.size
        intro v' w3 hown3 hg
        have hbw3 := below_app hbw hbw.size hown (Nat.le_refl _) hg
        clear hg hown
        go_wp2
        go_roundw
        case rel => exact ⟨_, i + 1, _, rfl, by go_num, by omega, by simp; omega, hown3, hbw3, hn.out⟩
        case measure => simp [RowKit.intOf]; omega
    · have hf : SignsP w.heap.size s.data.toList (.returned (.tuple #[s4, .bool true])) wr := .inr ⟨s4, l, by rw [hR, List.drop_eq_nil_of_le (by rw [← Lib.size_eq]; omega), signs_nil]; simp, rfl, hown⟩
      have hf' := Lib.hid hf
      clear hR hf hown
      go_wp2
      go_ret2
      exact ⟨hf'.out, hbw⟩

/-! ### Plain -/
def BOwn (B : Nat) (v : Value) (l : Row) (w : World) : Prop := w.ownsRow B 5 1 v l.length (byteCells l)
theorem conv_own {B : Nat} {v : Value} {l : Row} {w : World} (h : BOwn B v l w) : (convert 72 9 v).run Tryz.prog w = .ok (.string ⟨l.toArray⟩) w := by
  obtain ⟨h1, h2 | ⟨g, cap, cur, e1, e2, e3, e4, e5, e6, e7⟩⟩ := h
  · obtain rfl : l = [] := List.eq_nil_of_length_eq_zero h2.2
    rw [h2.1]
    exact run_convert_bytes_nil w 72 5 Tryz.underlying72 Tryz.underlying5 0 0 9 Tryz.underlying9
  · rw [e1]
    refine run_convert_bytes_back w 72 9 5 ⟨g, 0, none⟩ cap l Tryz.underlying72 Tryz.underlying5 Tryz.underlying9 fun j hj => ?_
    have hp : (⟨g, 0, none⟩ : Addr).add j = ⟨g, j, none⟩ := by unfold Addr.add; split <;> simp_all
    rw [hp, Lib.cell_of_heap e3]
    have : (cur.toList.take (l.length * 1))[j]? = (byteCells l)[j]? := by rw [e7]
    rw [List.getElem?_take, if_pos (by omega)] at this
    rw [← Array.getElem?_toList, this]
    unfold byteCells
    rw [List.getElem?_map, List.getElem?_eq_getElem hj]; rfl
theorem plain_take (l : List Sg) (k : Nat) (x : Sg) (h : l[k]? = some x) : plain (l.take (k + 1)) = plain (l.take k) ++ [x.1] := by
  obtain ⟨hl, hv⟩ := List.getElem?_eq_some_iff.1 h
  rw [List.take_succ_eq_append_getElem hl, hv, plain_append]; rfl

set_option maxHeartbeats 4000000 in
set_option maxRecDepth 100000 in
theorem refPlain_any (v : Value) (l : List Sg) (w : World) (h : SgsAt w v l) (hl : l.length ≤ 1099511627776) :
    Calls Tryz.prog 58 #[v] w fun e w' => (∃ x : ByteArray, x.data.toList = plain l ∧ e = .returned (.string x)) ∧ Below w.heap.size w w' := by
  obtain ⟨i0, hi, hz0, hz1, hz2⟩ := info_parts infoU8
  obtain ⟨A, b, off, c, rfl, h1, h2, h3, h4⟩ := h
  obtain ⟨n, hn⟩ : ∃ n, l.length = n := ⟨_, rfl⟩
  rw [hn] at h1 h3 hl ⊢
  unfold maxLen at h2
  have hn' := Lib.hid hn
  have h3' := Lib.hid h3
  have h4' := Lib.hid h4
  clear hn h3 h4
  go_enter Tryz.func58, Tryz.ntmps58
  go_wp2
  go_loopw [3, 8] (fun s3 s8 wr => ∃ (k : Nat) (u : Value), u = s3 ∧ s8 = .int .i64 (k : Int) ∧ k ≤ n ∧ BOwn w.heap.size s3 (plain (l.take k)) wr ∧ Below w.heap.size w wr) (fun s3 s8 wr => n - (RowKit.intOf s8).toNat)
  case atStart => exact ⟨0, _, rfl, rfl, Nat.zero_le _, World.ownsRow_nil _ _ _ 1, Below.refl _ _⟩
  case round =>
    obtain ⟨k, s3, rfl, rfl, hk, hown, hbw⟩ := hrel
    have hpk : (plain (l.take k)).length = k := by rw [plain_len, List.length_take, hn'.out]; omega
    by_cases hlt : k < n
    · have hx : l[k]? = some (l[k]'(by have := hn'.out; omega)) := List.getElem?_eq_getElem _
      obtain ⟨x, hxe⟩ : ∃ x, l[k]'(by have := hn'.out; omega) = x := ⟨_, rfl⟩
      rw [hxe] at hx
      obtain ⟨rfl, hg⟩ := h3'.out (by omega)
      obtain ⟨q1, q2⟩ := h4'.out k x hx
      rw [← hbw.cell (p := ⟨b, off + k * 2, none⟩) hg] at q1
      rw [← hbw.cell (p := ⟨b, off + k * 2 + 1, none⟩) hg] at q2
      have hnx := plain_take l k x hx
      have hnx' := Lib.hid hnx
      obtain ⟨z, hz⟩ : ∃ z : Int, ((x.1.toNat : Nat) : Int) = z := ⟨_, rfl⟩
      rw [hz] at q1
      have hz' := Lib.hid hz
      obtain ⟨kb, hkb⟩ : ∃ kb, x.2 = kb := ⟨_, rfl⟩
      rw [hkb] at q2
      have hown' := hown
      unfold BOwn at hown
      have hpk' := Lib.hid hpk
      rw [hpk] at hown
      clear hxe hx hnx hz hkb hpk
      go_wp2_with (at_builtin; refine wpList_append_own _ rfl _ _ 72 rfl w.heap.size 5 i0 (.int .u8 0) 1 1 Tryz.underlying72 hi hz0 hz1 hz2 rfl (by decide) _ _ _ rfl ((hown.alloc _).alloc _) ⟨wr.heap.size + 1, 0, none⟩ 1 1 [.int .u8 z] rfl rfl ?c1 ?c2 ?c3 ?c4 ?c5 ?_)
      case c2 => rfl
      case c3 => unfold maxLen; omega
      case c4 => omega
      case c5 => have := hbw.size; simp; omega
      intro v' w3 hown3 hgrow _
      have hown4 : BOwn w.heap.size v' (plain (l.take (k + 1))) w3 := by
        unfold BOwn
        rw [hnx'.out, byteCells_append, List.length_append, hpk'.out]
        have e : byteCells [x.1] = [.int .u8 z] := by unfold byteCells; rw [List.map_singleton, hz'.out]
        rw [e]; exact hown3
      have hbw3 : Below w.heap.size w w3 := ((hbw.alloc hbw.size _).alloc (by have := hbw.size; simp; omega) _).grown hgrow (by have := hbw.size; simp; omega) (fun k hk => (hown.lt k hk).1)
      clear hown3 hgrow hown hown' hbw
      go_wp2
      go_roundw
      case rel => exact ⟨k + 1, _, rfl, by go_num, by omega, hown4, hbw3⟩
      case measure => simp [RowKit.intOf]; omega
    · obtain rfl : k = n := by omega
      rw [List.take_of_length_le (by have := hn'.out; omega)] at hown
      have hcv := conv_own hown
      clear hown hpk
      go_wp2
      go_ret
      exact ⟨⟨_, by simp, rfl⟩, hbw⟩
end Go.Proofs.YthnnpnlapjlnoaaGreatDoor.Va

/-
  WALKS OF THE REFERENCE's Parts, List, Fields.
-/
set_option linter.unusedVariables false
namespace Go.Proofs.YthnnpnlapjlnoaaGreatDoor.Va
open Go.Lib Go.RowKit Bu

/-- what is left where a row of the call's own is written -/
def Left (w0 : World) (base : Nat) (w' : World) : Prop := ∀ (B : Nat) (A : World), Below B A w0 → B ≤ base → B ≤ w0.heap.size → Below B A w'
theorem left_of {w0 w' : World} {base : Nat} {e : TypeId} {size n : Nat} {v : Value} {xs : List Value} {o : Obj} (hown : w0.ownsRow base e size v n xs) (hg : (w0.alloc o).grownBy w' v.ownBlock) : Left w0 base w' :=
  fun B A hb h1 h2 => (hb.alloc h2 o).grown hg (by simp; omega) (fun k hk => Nat.le_trans h1 (hown.lt k hk).1)
/-- one string more -/
theorem append_str {w0 : World} {ops : Array Oper} {rest : List Oper} {o : Oper} {a : Act} {Q : Exit → Act → World → Prop} (x : ByteArray) (hgd : o.guard = none) (s xo : Operand)
    (ho : o.op = .call { callee := .builtin .append, args := #[s, xo], argTypes := #[45, 45] }) (base : Nat) (v : Value) (ls : List Row) (g : Nat) (hgz : g = w0.heap.size) (hs : a.eval s = v) (hx : a.eval xo = .slice (some ⟨g, 0, none⟩) 1 1)
    (hown : Own base v ls w0) (hl : ls.length ≤ 1099511627776) (hbase : base ≤ w0.heap.size)
    (h : ∀ v' w', Own base v' (ls ++ [x.data.toList]) w' → Left w0 base w' → wpList Tryz.prog ops Q rest (a.put o.dst v') w') :
    wpList Tryz.prog ops Q (o :: rest) a (w0.alloc (.cells #[.string x] 9)) := by
  obtain ⟨i0, hi, hz0, hz1, hz2⟩ := info_parts infoStr
  subst hgz
  refine wpList_append_own _ hgd s xo 45 ho base 9 i0 (.string ⟨#[]⟩) 1 16 Tryz.underlying45 hi hz0 hz1 hz2 rfl (by decide) v ls.length (ls.map sv) hs (World.ownsRow.alloc hown _) ⟨w0.heap.size, 0, none⟩ 1 1 [.string x] hx rfl (fun j u hj => ?_) (fun u hu => ?_) (by unfold maxLen; omega) (by omega) (by simp; omega) (fun v' w' h5 h6 _ => h v' w' (Own.snoc h5) (left_of hown h6))
  · match j, hj with
    | 0, hj => simp at hj; subst hj; simp [Addr.add]
  · simp at hu; subst hu; rfl
/-- one row more -/
theorem append_row {α : Type} {I : Nat → Value → α → World → Prop} {t e : TypeId} (hI : Inner e α I) (hinfo : (Tryz.prog.info? e).map (fun i => (i.zero, i.size, i.bytes)) = some (some (.slice none 0 0), 1, 24)) (hund : Tryz.prog.underlying t = some (.slice e))
    {w0 : World} {ops : Array Oper} {rest : List Oper} {o : Oper} {a : Act} {Q : Exit → Act → World → Prop} (ao : Option Addr) (n c : Nat) (x : α) (hgd : o.guard = none) (s xo : Operand)
    (ho : o.op = .call { callee := .builtin .append, args := #[s, xo], argTypes := #[t, t] }) (base : Nat) (v : Value) (xs : List α) (g : Nat) (hgz : g = w0.heap.size) (hs : a.eval s = v) (hx : a.eval xo = .slice (some ⟨g, 0, none⟩) 1 1)
    (hown : ROwn e I base v xs w0) (hu : I base (.slice ao n c) x w0) (hl : xs.length ≤ 1099511627776) (hbase : base ≤ w0.heap.size)
    (h : ∀ v' w', ROwn e I base v' (xs ++ [x]) w' → Left w0 base w' → wpList Tryz.prog ops Q rest (a.put o.dst v') w') :
    wpList Tryz.prog ops Q (o :: rest) a (w0.alloc (.cells #[.slice ao n c] e)) := by
  obtain ⟨i0, hi, hz0, hz1, hz2⟩ := info_parts hinfo
  subst hgz
  obtain ⟨us, hus, hrow, hvals⟩ := hown
  have hal : Below w0.heap.size w0 (w0.alloc (.cells #[.slice ao n c] e)) := (Below.refl _ _).alloc (Nat.le_refl _) _
  refine wpList_append_own _ hgd s xo t ho base e i0 (.slice none 0 0) 1 24 hund hi hz0 hz1 hz2 rfl (by decide) v xs.length us hs (World.ownsRow.alloc hrow _) ⟨w0.heap.size, 0, none⟩ 1 1 [.slice ao n c] hx rfl (fun j u hj => ?_) (fun u hu => ?_) (by unfold maxLen; omega) (by omega) (by simp; omega)
    (fun v' w' h5 h6 _ => h v' w' (ROwn.more hI hus (ownsRow_kept hrow hal) (fun j p u hp hu => hI.kept (hvals j p u hp hu) hal) (hI.kept hu hal) h5 h6) (left_of hrow h6))
  · match j, hj with
    | 0, hj => simp at hj; subst hj; simp [Addr.add]
  · simp at hu; subst hu; rfl

def PtRel (m : UInt8) (l : List Sg) (n : Nat) (w : World) (s5 s6 s11 : Value) (wr : World) : Prop :=
  ∃ (out : List (List Sg)) (one : List Sg) (k : Nat) (wp : World) (u5 u6 : Value), u5 = s5 ∧ u6 = s6 ∧ s11 = .int .i64 (k : Int) ∧ k ≤ n ∧ Below w.heap.size w wp ∧ POwn w.heap.size s5 out wp ∧ Below wp.heap.size wp wr ∧ SOwn wp.heap.size s6 one wr ∧
    parts m l = out ++ pre one (parts m (l.drop k)) ∧ out.length ≤ k ∧ one.length ≤ k

set_option maxHeartbeats 8000000 in
set_option maxRecDepth 100000 in
theorem refParts_any (m : UInt8) (v : Value) (l : List Sg) (w : World) (h : SgsAt w v l) (hl : l.length ≤ 1099511627776) :
    Calls Tryz.prog 84 #[v, .int .u8 (m.toNat : Int)] w fun e w' => (∃ u, e = .returned u ∧ POwn w.heap.size u (parts m l) w') ∧ Below w.heap.size w w' := by
  obtain ⟨A, b, off, c, rfl, h1, h2, h3, h4⟩ := h
  obtain ⟨n, hn⟩ : ∃ n, l.length = n := ⟨_, rfl⟩
  have hmark : ∀ (k : Nat) (out : List (List Sg)) (one : List Sg) (x : Sg), l[k]? = some x → parts m l = out ++ pre one (parts m (l.drop k)) → x = (m, false) → parts m l = (out ++ [one]) ++ pre [] (parts m (l.drop (k + 1))) := fun k out one x hx hR hxm => by
    obtain ⟨hlt, hv⟩ := List.getElem?_eq_some_iff.1 hx
    rw [hR, List.drop_eq_getElem_cons hlt, hv, hxm, parts_mark, pre_nil (parts_ne _ _)]
    simp [pre]
  have hother : ∀ (k : Nat) (out : List (List Sg)) (one : List Sg) (x : Sg), l[k]? = some x → parts m l = out ++ pre one (parts m (l.drop k)) → x ≠ (m, false) → parts m l = out ++ pre (one ++ [x]) (parts m (l.drop (k + 1))) := fun k out one x hx hR hxm => by
    obtain ⟨hlt, hv⟩ := List.getElem?_eq_some_iff.1 hx
    rw [hR, List.drop_eq_getElem_cons hlt, hv, parts_own m x _ hxm, pre_pre]
  have hend : ∀ (out : List (List Sg)) (one : List Sg), parts m l = out ++ pre one (parts m (l.drop n)) → out ++ [one] = parts m l := fun out one hR => by
    rw [hR, List.drop_eq_nil_of_le (by omega)]
    simp [parts, pre]
  rw [hn] at h1 h3 hl ⊢
  unfold maxLen at h2
  have hn' := Lib.hid hn
  have h3' := Lib.hid h3
  have h4' := Lib.hid h4
  have hmark' := Lib.hid hmark
  have hother' := Lib.hid hother
  have hend' := Lib.hid hend
  clear hn h3 h4 hmark hother hend
  go_enter Tryz.func84, Tryz.ntmps84
  go_wp2
  go_loopw [5, 6, 11] (fun s5 s6 s11 wr => PtRel m l n w s5 s6 s11 wr) (fun s5 s6 s11 wr => n - (RowKit.intOf s11).toNat)
  case atStart => exact ⟨[], [], 0, w, _, _, rfl, rfl, rfl, Nat.zero_le _, Below.refl _ _, ROwn.nil _ _ _ _, Below.refl _ _, SOwn.nil _ _, by rw [List.drop_zero, pre_nil (parts_ne _ _)]; rfl, Nat.zero_le _, Nat.zero_le _⟩
  case round =>
    obtain ⟨out, one, k, wp, s5, s6, rfl, rfl, rfl, hk, hbp, hout, hbr, hone, hR, hol, hnl⟩ := hrel
    have hR' := Lib.hid hR
    have hbw := below_then hbp hbr
    have hps := hbp.size
    have hrs := hbr.size
    clear hR
    by_cases hlt : k < n
    · have hx : l[k]? = some (l[k]'(by have := hn'.out; omega)) := List.getElem?_eq_getElem _
      obtain ⟨x, hxe⟩ : ∃ x, l[k]'(by have := hn'.out; omega) = x := ⟨_, rfl⟩
      rw [hxe] at hx
      obtain ⟨rfl, hg⟩ := h3'.out (by omega)
      obtain ⟨q1, q2⟩ := h4'.out k x hx
      rw [← hbw.cell (p := ⟨b, off + k * 2, none⟩) hg] at q1
      rw [← hbw.cell (p := ⟨b, off + k * 2 + 1, none⟩) hg] at q2
      obtain ⟨xb, kb⟩ := x
      have hx' := Lib.hid hx
      dsimp only at q1 q2
      obtain ⟨z, hz⟩ : ∃ z : Int, ((xb.toNat : Nat) : Int) = z := ⟨_, rfl⟩
      rw [hz] at q1
      have hz' := Lib.hid hz
      clear hxe hx
      have hal : Below wr.heap.size wr (wr.alloc (.cells #[.int .u8 z, .bool kb] 122)) := (Below.refl _ _).alloc (Nat.le_refl _) _
      by_cases hmk : xb = m
      · have d1 : (z == ((m.toNat : Nat) : Int)) = true := by rw [← hz]; exact ty rfl hmk
        clear hz
        cases kb
        · have hn := Lib.hid (hmark'.out k out one _ hx'.out hR'.out (by rw [hmk]))
          obtain ⟨ao, cc, rfl⟩ := ownsRow_form hone
          obtain ⟨nn, hnn⟩ : ∃ nn, one.length = nn := ⟨_, rfl⟩
          have hout2 := (ROwn.kept innerSg hout hbr)
          have hone2 := hone.less hps
          rw [hnn] at hone2 ⊢
          have hout3 := ROwn.kept innerSg hout2 hal
          have hone3 := hone2.kept hal
          clear hmk hone hout hnn hout2 hone2
          go_wp2_with (at_builtin; refine append_row (w0 := wr.alloc (.cells #[.int .u8 z, .bool false] 122)) innerSg infoSgs Tryz.underlying123 ao nn cc one rfl _ _ rfl w.heap.size _ out (wr.heap.size + 1) (by simp) rfl rfl hout3 hone3 ?c1 ?c2 ?_)
          case c1 => omega
          case c2 => omega
          intro v' w3 hown3 hleft
          have hbw3 := hleft w.heap.size w (below_then hbw hal) (Nat.le_refl _) (by simp; omega)
          clear hleft hout3 hone3
          go_wp2
          go_roundw
          case rel => exact ⟨_, [], k + 1, w3, _, _, rfl, rfl, by go_num, by omega, hbw3, hown3, Below.refl _ _, SOwn.nil _ _, hn.out, by simp; omega, by simp⟩
          case measure => simp [RowKit.intOf]; omega
        · have hn := Lib.hid (hother'.out k out one _ hx'.out hR'.out (by simp))
          have hone2 := hone.kept hal
          clear hmk
          go_wp2_with (at_builtin; refine append_sg (w0 := wr.alloc (.cells #[.int .u8 z, .bool true] 122)) xb true z hz'.out rfl _ _ rfl wp.heap.size _ one (wr.heap.size + 1) (by simp) rfl rfl hone2 ?c1 ?c2 ?_)
          case c1 => omega
          case c2 => omega
          intro v' w3 hown3 hg3
          have hbr3 : Below wp.heap.size wp w3 := below_app (below_then hbr hal) (by simp; omega) hone2 (Nat.le_refl _) hg3
          clear hg3 hone hone2
          go_wp2
          go_roundw
          case rel => exact ⟨_, _, k + 1, wp, _, _, rfl, rfl, by go_num, by omega, hbp, hout, hbr3, hown3, hn.out, by omega, by simp; omega⟩
          case measure => simp [RowKit.intOf]; omega
      · have d1 : (z == ((m.toNat : Nat) : Int)) = false := by rw [← hz]; exact tn rfl hmk
        have hn := Lib.hid (hother'.out k out one _ hx'.out hR'.out (fun e => hmk (Prod.mk.inj e).1))
        have hone2 := hone.kept hal
        clear hmk hz
        go_wp2_with (at_builtin; refine append_sg (w0 := wr.alloc (.cells #[.int .u8 z, .bool kb] 122)) xb kb z hz'.out rfl _ _ rfl wp.heap.size _ one (wr.heap.size + 1) (by simp) rfl rfl hone2 ?c1 ?c2 ?_)
        case c1 => omega
        case c2 => omega
        intro v' w3 hown3 hg3
        have hbr3 : Below wp.heap.size wp w3 := below_app (below_then hbr hal) (by simp; omega) hone2 (Nat.le_refl _) hg3
        clear hg3 hone hone2
        go_wp2
        go_roundw
        case rel => exact ⟨_, _, k + 1, wp, _, _, rfl, rfl, by go_num, by omega, hbp, hout, hbr3, hown3, hn.out, by omega, by simp; omega⟩
        case measure => simp [RowKit.intOf]; omega
    · obtain rfl : k = n := by omega
      have he := Lib.hid (hend'.out out one hR'.out)
      obtain ⟨ao, cc, rfl⟩ := ownsRow_form hone
      obtain ⟨nn, hnn⟩ : ∃ nn, one.length = nn := ⟨_, rfl⟩
      have hout2 := (ROwn.kept innerSg hout hbr)
      have hone2 := hone.less hps
      rw [hnn] at hone2 ⊢
      clear hone hout hnn
      go_wp2_with (at_builtin; refine append_row (w0 := wr) innerSg infoSgs Tryz.underlying123 ao nn cc one rfl _ _ rfl w.heap.size _ out wr.heap.size rfl rfl rfl hout2 hone2 ?c1 ?c2 ?_)
      case c1 => omega
      case c2 => omega
      intro v' w3 hown3 hleft
      have hbw3 := hleft w.heap.size w hbw (Nat.le_refl _) (by omega)
      rw [he.out] at hown3
      clear hleft hout2 hone2
      go_wp2
      go_ret
      exact ⟨⟨_, rfl, hown3⟩, hbw3⟩
end Go.Proofs.YthnnpnlapjlnoaaGreatDoor.Va
