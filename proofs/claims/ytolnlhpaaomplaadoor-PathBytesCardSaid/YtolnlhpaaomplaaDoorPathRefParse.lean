/-
  THE WALK OF THE REFERENCE's Parse.
-/
import Derived.Test.YtolnlhpaaomplaaDoorPathRefOf
set_option linter.unusedVariables false
namespace Go.Proofs.YtolnlhpaaomplaaDoor.Pa
open Go.Lib Go.RowKit

/-- what Parse answers, the reference's -/
def ParseR (t : Row) (e : Ending) : Prop := (parseP t = none ∧ e = .returned (.tuple #[.string ⟨#[]⟩, .string ⟨#[]⟩, .bool false])) ∨ ∃ a b : ByteArray, parseP t = some (a.data.toList, b.data.toList) ∧ e = .returned (.tuple #[.string a, .string b, .bool true])
theorem get_take {s : ByteArray} {k : Nat} (h : k < s.size) (hk : 1 ≤ k) {t : Row} (e : s.data.toList = 47 :: t) : t.take k = t.take (k - 1) ++ [s[k]'h] ∧ t = t.take (k - 1) ++ s[k]'h :: s.data.toList.drop (k + 1) := by
  have h1 := drop_head s k h
  rw [e] at h1 ⊢
  obtain ⟨m, rfl⟩ : ∃ m, k = m + 1 := ⟨k - 1, by omega⟩
  rw [List.drop_succ_cons] at h1
  rw [List.drop_succ_cons]
  have h2 : t = t.take m ++ t.drop m := (List.take_append_drop m t).symm
  have hl : m < t.length := by
    have : s.data.toList.length = s.size := Lib.size_eq s |>.symm
    rw [e] at this; simp at this; omega
  constructor
  · rw [Nat.add_sub_cancel, List.take_add_one, List.getElem?_eq_getElem hl]
    congr 1
    rw [List.drop_eq_getElem_cons hl] at h1
    injection h1 with h3 _
    rw [h3]; rfl
  · rw [Nat.add_sub_cancel]
    rw [List.drop_succ_cons] at h1
    rw [← h1]; exact h2
theorem parse_head {t : Row} (h : ∀ u, t ≠ 47 :: u) : parseP t = none := by
  cases t with
  | nil => rfl
  | cons c u =>
    rw [parseP, if_neg]
    intro e; subst e; exact h u rfl
theorem parse_cut {S t u v : Row} (e : S = 47 :: t) (h : t = u ++ 47 :: v) (hu : ∀ x ∈ u, x ≠ 47) : parseP S = parse2 (u, v) := by
  rw [e, parseP_mark, if_neg (by rw [h]; simp), h, cutS_no _ _ hu]; rfl
theorem parse_one {S t : Row} (e : S = 47 :: t) (ht : t ≠ []) (hu : ∀ x ∈ t, x ≠ 47) : parseP S = none := by
  rw [e, parseP_mark, if_neg ht, cutS_none _ hu]; rfl

def PRel (s : ByteArray) (s5 : Value) : Prop := ∃ k : Nat, s5 = .int .i64 (k : Int) ∧ 1 ≤ k ∧ k ≤ s.size ∧ ∀ x ∈ s.data.toList.tail.take (k - 1), x ≠ 47

set_option maxHeartbeats 4000000 in
set_option maxRecDepth 100000 in
theorem refParse_any (s : ByteArray) (w : World) (hs : s.size ≤ 140737488355328) :
    Calls Tryd.prog 14 #[.string s] w fun e w' => ParseR s.data.toList e ∧ Below w.heap.size w w' := by
  by_cases h1 : s.toList = [47]
  · have hf := Lib.hid (show ParseR s.data.toList (.returned (.tuple #[.string ⟨#[]⟩, .string ⟨#[]⟩, .bool true])) from .inr ⟨⟨#[]⟩, ⟨#[]⟩, by rw [Lib.toList_data] at h1; rw [h1]; rfl, rfl⟩)
    go_enter Tryd.func14, Tryd.ntmps14
    go_wp2
    go_ret3
    exact ⟨hf.out, Below.refl _ _⟩
  · have h1' : s.data.toList ≠ [47] := by rw [← Lib.toList_data]; exact h1
    have hd1 : (s.toList == [47]) = false := beq_eq_false_iff_ne.2 h1
    by_cases h0 : s.size = 0
    · have hf := Lib.hid (show ParseR s.data.toList (.returned (.tuple #[.string ⟨#[]⟩, .string ⟨#[]⟩, .bool false])) from .inl ⟨by rw [size_nil.1 h0]; rfl, rfl⟩)
      have d0 : ((s.size : Int) == 0) = true := by rw [h0]; rfl
      clear h1'
      go_enter Tryd.func14, Tryd.ntmps14
      go_wp2
      go_ret3
      exact ⟨hf.out, Below.refl _ _⟩
    · have d0 : ((s.size : Int) == 0) = false := beq_eq_false_iff_ne.2 (by omega)
      have hp : 0 < s.size := by omega
      obtain ⟨c, hc⟩ : ∃ c, s[0]'hp = c := ⟨_, rfl⟩
      have hcons : s.data.toList = c :: s.data.toList.tail := by
        have := drop_head s 0 hp
        rw [List.drop_zero, hc] at this
        rw [this]; rfl
      by_cases hc47 : c = 47
      · subst hc47
        obtain ⟨t, ht⟩ : ∃ t, s.data.toList.tail = t := ⟨_, rfl⟩
        rw [ht] at hcons
        have hcons' := Lib.hid hcons
        have ht0 : t ≠ [] := fun e => h1' (by rw [hcons, e])
        have ht0' := Lib.hid ht0
        have htl : t.length + 1 = s.size := by
          have := congrArg List.length hcons
          rw [← Lib.size_eq] at this; simp at this; omega
        have ht' := Lib.hid ht
        clear hcons ht ht0 h1'
        go_enter Tryd.func14, Tryd.ntmps14
        go_wp2
        go_loop [5] (fun s5 => PRel s s5) (fun s5 => s.size - (RowKit.intOf s5).toNat)
        case atStart => exact ⟨1, rfl, Nat.le_refl _, by omega, by simp⟩
        case round =>
          obtain ⟨k, rfl, hk1, hk, hall⟩ := hrel
          rw [ht'.out] at hall
          by_cases hlt : k < s.size
          · obtain ⟨g1, g2⟩ := get_take hlt hk1 hcons'.out
            obtain ⟨b, hb⟩ : ∃ b, s[k]'hlt = b := ⟨_, rfl⟩
            rw [hb] at g1 g2
            by_cases hb47 : b = 47
            · subst hb47
              have d47 : ((s[k]'hlt).toNat : Int) = 47 := by rw [hb]; rfl
              obtain ⟨A, hA⟩ : ∃ A, k + 1 = A := ⟨_, rfl⟩
              have hpar := parse_cut hcons'.out g2 hall
              obtain ⟨xu, hxu⟩ : ∃ x, s.extract 1 k = x := ⟨_, rfl⟩
              have hud : xu.data.toList = t.take (k - 1) := by rw [← hxu, Lib.extract_data, hcons'.out]; rfl
              obtain ⟨xv, hxv⟩ : ∃ x, s.extract A s.size = x := ⟨_, rfl⟩
              have hvd : xv.data.toList = s.data.toList.drop (k + 1) := by rw [← hxv, Lib.extract_to_end, hA]
              rw [← hud, ← hvd] at hpar
              have hxus : xu.size ≤ 140737488355328 := by rw [← hxu, ByteArray.size_extract]; omega
              have hxvs : xv.size ≤ 140737488355328 := by rw [← hxv, ByteArray.size_extract]; omega
              have hvl : xv.size = s.size - A := by rw [← hxv, ByteArray.size_extract]; omega
              have kA : (k : Int) + 1 = (A : Int) := by omega
              have hAs : A ≤ s.size := by omega
              have i1 : (1 : Int) ≤ (k : Int) := by omega
              have i2 : ¬ (k : Int) < 1 := by omega
              have i3 : (0 : Int) ≤ (A : Int) := by omega
              have i4 : (A : Int) ≤ (s.size : Int) := by omega
              have i5 : ¬ (s.size : Int) < (A : Int) := by omega
              have cT := fun W => refText_any xu W hxus
              have cV := fun W => refText_any xv W hxvs
              have hpar' := Lib.hid hpar
              clear g1 g2 hall hpar hud hvd hA hxus hxvs
              go_wp2_with fail
              go_at_call 23
              with_reducible refine (cT _).mono ?_
              rintro e w2 ⟨⟨x, ok, rfl, hf1, hf2⟩, hb2⟩
              cases ok with
              | false =>
                have hf := Lib.hid (show ParseR s.data.toList (.returned (.tuple #[.string ⟨#[]⟩, .string ⟨#[]⟩, .bool false])) from .inl ⟨by rw [hpar'.out]; unfold parse2; rw [hf1 rfl]; rfl, rfl⟩)
                have hb2' := Lib.hid hb2
                clear hf1 hf2 hb2 cV cT
                go_wp2
                go_ret3
                exact ⟨hf.out, hb2'.out⟩
              | true =>
                have hx := Lib.hid (hf2 rfl)
                have hb2' := Lib.hid hb2
                clear hf1 hf2 hb2 cT
                by_cases hAe : A = s.size
                · have hAe' : ((A : Int) == (s.size : Int)) = true := by rw [hAe]; simp
                  have hf := Lib.hid (show ParseR s.data.toList (.returned (.tuple #[.string x, .string ⟨#[]⟩, .bool true])) from .inr ⟨x, ⟨#[]⟩, by
                    rw [hpar'.out]; unfold parse2
                    show (textS xu.data.toList).bind _ = _
                    rw [hx.out, Option.bind_some, if_pos (size_nil.1 (by omega))], rfl⟩)
                  clear hAe cV
                  go_wp2
                  go_ret3
                  exact ⟨hf.out, hb2'.out⟩
                · have hAe' : ((A : Int) == (s.size : Int)) = false := beq_eq_false_iff_ne.2 (by omega)
                  have hv0 := Lib.hid (show ¬ xv.data.toList = [] from fun e => by have := size_nil.2 e; omega)
                  clear hAe
                  go_wp2_with fail
                  go_at_call 23
                  with_reducible refine (cV _).mono ?_
                  rintro e w3 ⟨⟨y, ok, rfl, hf1, hf2⟩, hb3⟩
                  have hB := Lib.hid (hb2'.out.trans (hb3.mono hb2'.out.size))
                  cases ok with
                  | false =>
                    have hf := Lib.hid (show ParseR s.data.toList (.returned (.tuple #[.string ⟨#[]⟩, .string ⟨#[]⟩, .bool false])) from .inl ⟨by
                      rw [hpar'.out]; unfold parse2
                      show (textS xu.data.toList).bind _ = _
                      rw [hx.out, Option.bind_some, if_neg hv0.out]
                      show (textS xv.data.toList).map _ = _
                      rw [hf1 rfl]; rfl, rfl⟩)
                    clear hf1 hf2 hb3 cV
                    go_wp2
                    go_ret3
                    exact ⟨hf.out, hB.out⟩
                  | true =>
                    have hf := Lib.hid (show ParseR s.data.toList (.returned (.tuple #[.string x, .string y, .bool true])) from .inr ⟨x, y, by
                      rw [hpar'.out]; unfold parse2
                      show (textS xu.data.toList).bind _ = _
                      rw [hx.out, Option.bind_some, if_neg hv0.out]
                      show (textS xv.data.toList).map _ = _
                      rw [hf2 rfl]; rfl, rfl⟩)
                    clear hf1 hf2 hb3 cV
                    go_wp2
                    go_ret3
                    exact ⟨hf.out, hB.out⟩
            · have db : (((b.toNat : Nat) : Int) == 47) = false := tn (m := 47) rfl hb47
              have db' : (((b.toNat : Nat) : Int) != 47) = true := by unfold bne; rw [db]; rfl
              have hn := Lib.hid (show ∀ x ∈ s.data.toList.tail.take (k + 1 - 1), x ≠ 47 by
                rw [ht'.out, Nat.add_sub_cancel, g1]
                intro x hx
                rcases List.mem_append.1 hx with hx | hx
                · exact hall x hx
                · rw [List.mem_singleton.1 hx]; exact hb47)
              clear g1 g2 hall hb47
              go_wp2
              go_round
              case rel => exact ⟨k + 1, by go_num, by omega, by omega, hn.out⟩
              case measure => simp [RowKit.intOf]; omega
          · have hf := Lib.hid (show ParseR s.data.toList (.returned (.tuple #[.string ⟨#[]⟩, .string ⟨#[]⟩, .bool false])) from .inl ⟨parse_one hcons'.out ht0'.out (fun x hx => hall x (by rw [List.take_of_length_le (by omega)]; exact hx)), rfl⟩)
            clear hall
            go_wp2
            go_ret3
            exact ⟨hf.out, Below.refl _ _⟩
      · have dc : (((c.toNat : Nat) : Int) == 47) = false := tn (m := 47) rfl hc47
        have dc' : (((c.toNat : Nat) : Int) != 47) = true := by unfold bne; rw [dc]; rfl
        have hf := Lib.hid (show ParseR s.data.toList (.returned (.tuple #[.string ⟨#[]⟩, .string ⟨#[]⟩, .bool false])) from .inl ⟨parse_head (fun u e => by rw [hcons] at e; injection e with e1 _; exact hc47 e1), rfl⟩)
        clear hcons hc47 h1'
        go_enter Tryd.func14, Tryd.ntmps14
        go_wp2
        go_ret3
        exact ⟨hf.out, Below.refl _ _⟩
end Go.Proofs.YtolnlhpaaomplaaDoor.Pa
