/-
  THE LAW ValueJoins.
-/
import Derived.Test.YtjdockjkioomiaaValueSame
import Derived.Test.YtjdockjkioomiaaValueSigns
set_option linter.unusedVariables false
namespace Go.Proofs.Ytjdockjkioomiaa.Va
open Go.Lib Go.RowKit Bu

theorem list_pos {s : Row} {ls : List Row} (h : list s = some ls) : 0 < ls.length := by
  unfold list at h
  obtain ⟨l, _, rfl⟩ := Option.map_eq_some_iff.1 h
  rw [listS_len]; omega
theorem fields_of_list {s : Row} {ls : List Row} (h : list s = some ls) : ∃ fs, fields s = some fs := by
  unfold list at h
  obtain ⟨l, hl, _⟩ := Option.map_eq_some_iff.1 h
  exact ⟨fldS l, by unfold fields; rw [hl]; rfl⟩
theorem fields_of_no {s : Row} (h : list s = none) : fields s = none := fields_iff.2 (list_iff.1 h)
theorem ROwn.form {α : Type} {e : TypeId} {I : Nat → Value → α → World → Prop} {B : Nat} {v : Value} {xs : List α} {w : World} (h : ROwn e I B v xs w) : ∃ ao c, v = .slice ao xs.length c := by
  obtain ⟨us, _, h2, _⟩ := h
  exact ownsRow_form h2
theorem mark_data {a b y z m : ByteArray} {c : UInt8} (hm : m.data.toList = [c]) (h1 : a ++ m = y) (h2 : y ++ b = z) : z.data.toList = a.data.toList ++ c :: b.data.toList := by
  rw [cat_data _ _ _ h2, cat_data _ _ _ h1, hm]; simp
/-- whatever List answers -/
theorem list_some (T : ByteArray) (w : World) (hs : T.size ≤ 1099511627776) :
    Calls Try.prog 11 #[.string T] w fun e w' => (∃ (ao : Option Addr) (n c : Nat) (k : Nat), e = .returned (.tuple #[.slice ao n c, .int .i64 (k : Int)])) ∧ Below w.heap.size w w' :=
  (list_any T w hs).mono fun e w' ⟨h1, h2⟩ => ⟨by
    rcases h1 with ⟨_, rfl⟩ | ⟨v, ms, _, rfl, h4⟩
    · exact ⟨none, 0, 0, 31, rfl⟩
    · obtain ⟨ao, c, rfl⟩ := ownsRow_form h4
      exact ⟨ao, _, c, 0, rfl⟩, h2⟩

set_option maxHeartbeats 8000000 in
set_option maxRecDepth 100000 in
theorem joins_walk (a b : ByteArray) (w : World) (ha : a.size ≤ 1048576) (hb : b.size ≤ 1048576) :
    Calls Try.prog 5 #[.string a, .string b] w fun e w' => e = .returned (.bool true) ∧ Below w.heap.size w w' := by
  obtain ⟨y1, hy1⟩ : ∃ y, b ++ (⟨#[44]⟩ : ByteArray) = y := ⟨_, rfl⟩
  obtain ⟨z1, hz1⟩ : ∃ y, y1 ++ a = y := ⟨_, rfl⟩
  obtain ⟨y2, hy2⟩ : ∃ y, a ++ (⟨#[44]⟩ : ByteArray) = y := ⟨_, rfl⟩
  obtain ⟨z2, hz2⟩ : ∃ y, y2 ++ b = y := ⟨_, rfl⟩
  obtain ⟨y3, hy3⟩ : ∃ y, a ++ (⟨#[59]⟩ : ByteArray) = y := ⟨_, rfl⟩
  obtain ⟨z3, hz3⟩ : ∃ y, y3 ++ b = y := ⟨_, rfl⟩
  have s1 := cat_size _ _ _ hy1
  have s2 := cat_size _ _ _ hz1
  have s3 := cat_size _ _ _ hy2
  have s4 := cat_size _ _ _ hz2
  have s5 := cat_size _ _ _ hy3
  have s6 := cat_size _ _ _ hz3
  have e1 := mark_data (c := 44) rfl hy1 hz1
  have e2 := mark_data (c := 44) rfl hy2 hz2
  have e3 := mark_data (c := 59) rfl hy3 hz3
  rw [show (⟨#[44]⟩ : ByteArray).size = 1 from rfl] at s1 s3
  rw [show (⟨#[59]⟩ : ByteArray).size = 1 from rfl] at s5
  have u1 : ¬ 9223372036854775807 < b.size + 1 := by omega
  have u2 : ¬ 9223372036854775807 < y1.size + a.size := by omega
  have u3 : ¬ 9223372036854775807 < a.size + 1 := by omega
  have u4 : ¬ 9223372036854775807 < y2.size + b.size := by omega
  have u5 : ¬ 9223372036854775807 < y3.size + b.size := by omega
  have cz1 := fun W => list_some z1 W (by omega)
  cases hla : list a.data.toList with
  | some la =>
    obtain ⟨fa, hfa⟩ := fields_of_list hla
    have ca := fun W => list_is a la W (by omega) hla
    have cfa := fun W => fields_is a fa W (by omega) hfa
    cases hlb : list b.data.toList with
    | some lb =>
      obtain ⟨fb, hfb⟩ := fields_of_list hlb
      have cb := fun W => list_is b lb W (by omega) hlb
      have cfb := fun W => fields_is b fb W (by omega) hfb
      obtain ⟨L, hL⟩ : ∃ L, la ++ lb = L := ⟨_, rfl⟩
      have cz2 := fun W => list_is z2 L W (by omega) (by rw [e2, ← hL]; exact list_mark hla hlb)
      have hL' := Lib.hid hL
      have cz3 := fun W => fields_is z3 (fa ++ fb) W (by omega) (by rw [e3]; exact fields_mark hfa hfb)
      have n1 := list_len hla
      have n2 := list_len hlb
      have n3 := fields_len hfa
      have n4 := fields_len hfb
      have n5 := list_pos hla
      have n6 := list_pos hlb
      rw [← Lib.size_eq] at n1 n2 n3 n4
      clear hla hlb hfa hfb e1 e2 e3 s1 s2 s3 s4 s5 s6 cz1 hy1 hz1 u1 u2 hL
      go_enter Try.func5, Try.ntmps5
      go_wp2_with fail
      go_at_call 8
      refine (first_any w).mono ?_
      rintro e w1 ⟨rfl, hb1⟩
      go_wp2_with fail
      go_at_call 11
      refine (ca _).mono ?_
      rintro e w2 ⟨⟨va, rfl, hoa⟩, hb2⟩
      have hB2 := below_then hb1 hb2
      have hA2 := hoa.at
      clear hoa hb1 hb2 ca
      go_wp2_with fail
      go_at_call 11
      refine (cb _).mono ?_
      rintro e w3 ⟨⟨vb, rfl, hob⟩, hb3⟩
      have hB3 := below_then hB2 hb3
      have hA3 := hA2.kept hb3
      have hb3' := hob.at
      clear hob hB2 hA2 hb3 cb
      go_wp2_with fail
      go_at_call 12
      refine (cfa _).mono ?_
      rintro e w4 ⟨⟨vfa, rfl, hofa⟩, hb4⟩
      have hB4 := below_then hB3 hb4
      have hA4 := hA3.kept hb4
      have hb4' := hb3'.kept hb4
      obtain ⟨x1, x2, rfl⟩ := hofa.form
      clear hofa hB3 hA3 hb3' hb4 cfa
      go_wp2_with fail
      go_at_call 12
      refine (cfb _).mono ?_
      rintro e w5 ⟨⟨vfb, rfl, hofb⟩, hb5⟩
      have hB5 := below_then hB4 hb5
      have hA5 := hA4.kept hb5
      have hb5' := hb4'.kept hb5
      obtain ⟨x3, x4, rfl⟩ := hofb.form
      clear hofb hB4 hA4 hb4' hb5 cfb
      go_wp2_with fail
      go_at_call 11
      refine (cz2 _).mono ?_
      rintro e w6 ⟨⟨vn, rfl, hon⟩, hb6⟩
      have hB6 := below_then hB5 hb6
      have hA6 := hA5.kept hb6
      have hb6' := hb5'.kept hb6
      have hn6 := hon.at
      clear hon hB5 hA5 hb5' hb6 cz2
      go_wp2_with fail
      go_at_call 12
      refine (cz3 _).mono ?_
      rintro e w7 ⟨⟨vz, rfl, hoz⟩, hb7⟩
      have hB7 := below_then hB6 hb7
      have hA7 := hA6.kept hb7
      have hb7' := hb6'.kept hb7
      have hn7 := hn6.kept hb7
      obtain ⟨x5, x6, rfl⟩ := hoz.form
      obtain ⟨nf, hnf⟩ : ∃ nf, (fa ++ fb).length = nf := ⟨_, rfl⟩
      have hnf2 := hnf
      rw [List.length_append] at hnf2
      rw [hnf]
      obtain ⟨na, hna⟩ : ∃ na, fa.length = na := ⟨_, rfl⟩
      obtain ⟨nb, hnb⟩ : ∃ nb, fb.length = nb := ⟨_, rfl⟩
      rw [hna] at n3 hnf2 ⊢
      rw [hnb] at n4 hnf2 ⊢
      have hsum : (nf : Int) = (na : Int) + (nb : Int) := by omega
      clear hoz hB6 hA6 hb6' hn6 hb7 cz3 hnf hna hnb
      -- the empty row, and both lists behind it
      have hal : Below w7.heap.size w7 (w7.alloc (.cells #[] 9)) := (Below.refl _ _).alloc (Nat.le_refl _) _
      have hrow : Own w7.heap.size (.slice (some ⟨w7.heap.size, 0, none⟩) 0 0) [] (w7.alloc (.cells #[] 9)) :=
        World.ownsRow_made (base := w7.heap.size) (e := 9) (size := 1) w7 #[] 0 (Nat.le_refl _) (by unfold maxLen; omega) rfl
      have hA8 := hA7.kept hal
      obtain ⟨qa, qc, rfl⟩ : ∃ qa qc, va = .slice qa la.length qc := by obtain ⟨A, _, _, c, h, _⟩ := hA8; exact ⟨A, c, h⟩
      obtain ⟨ra, rc, rfl⟩ : ∃ qa qc, vb = .slice qa lb.length qc := by obtain ⟨A, _, _, c, h, _⟩ := hb7'; exact ⟨A, c, h⟩
      obtain ⟨ta, tc, rfl⟩ : ∃ qa qc, vn = .slice qa L.length qc := by obtain ⟨A, _, _, c, h, _⟩ := hn7; exact ⟨A, c, h⟩
      clear hA7
      go_wp2_with (at_builtin; refine append_strs (by rfl) _ _ rfl w7.heap.size (.slice (some ⟨w7.heap.size, 0, none⟩) 0 0) (.slice qa la.length qc) [] la rfl rfl hrow hA8 n5 ?c1 ?c2 ?_)
      case c1 => simp; omega
      case c2 => simp
      intro v8 w8 hown8 hg8
      have hb8 : Below w7.heap.size w7 w8 := hal.grown hg8 (by simp) (fun k hk => by simp [Value.ownBlock] at hk; omega)
      have hB8 := below_then hB7 hb8
      have hb8' := hb7'.kept hb8
      have hz8 := hb8.size
      have hlt8 := Lib.hid (World.ownsRow.lt hown8)
      obtain ⟨va, vc, rfl⟩ := ownsRow_form hown8
      clear hg8 hb7' hA8 hrow hal
      go_wp2_with (at_builtin; refine append_strs (by rfl) _ _ rfl w7.heap.size (.slice va la.length vc) (.slice ra lb.length rc) la lb rfl rfl hown8 hb8' n6 ?c1 ?c2 ?_)
      case c1 => omega
      case c2 => omega
      intro v9 w9 hown9 hg9
      have hb9 : Below w7.heap.size w7 w9 := hb8.grown hg9 hz8 (fun k hk => (hlt8.out k hk).1)
      have hB9 := below_then hB7 hb9
      have hn9 := hn7.kept hb9
      rw [hL'.out] at hown9
      have hm9 := hown9.at
      obtain ⟨wa, wc, rfl⟩ := ownsRow_form hown9
      clear hg9 hown9 hown8 hb8 hb8' hn7 hb9 hlt8
      go_wp2_with fail
      go_at_call 16
      refine (refSame_any _ _ L w9 hn9 hm9).mono ?_
      rintro e w10 ⟨rfl, m, rfl⟩
      clear hn9 hm9
      go_wp2
      go_ret
      exact ⟨rfl, below_drewN _ hB9⟩
    | none =>
      have hfb := fields_of_no hlb
      have cb := fun W => list_no b W (by omega) hlb
      have cfb := fun W => fields_no b W (by omega) hfb
      clear hla hlb hfa hfb e1 e2 e3 s1 s2 s3 s4 s5 s6 hy2 hz2 hy3 hz3 u3 u4 u5
      go_enter Try.func5, Try.ntmps5
      go_wp2_with fail
      go_at_call 8
      refine (first_any w).mono ?_
      rintro e w1 ⟨rfl, hb1⟩
      go_wp2_with fail
      go_at_call 11
      refine (ca _).mono ?_
      rintro e w2 ⟨⟨va, rfl, hoa⟩, hb2⟩
      have hB2 := below_then hb1 hb2
      clear hoa hb1 hb2 ca
      go_wp2_with fail
      go_at_call 11
      refine (cb _).mono ?_
      rintro e w3 ⟨rfl, hb3⟩
      have hB3 := below_then hB2 hb3
      clear hB2 hb3 cb
      go_wp2_with fail
      go_at_call 12
      refine (cfa _).mono ?_
      rintro e w4 ⟨⟨vfa, rfl, hofa⟩, hb4⟩
      have hB4 := below_then hB3 hb4
      clear hofa hB3 hb4 cfa
      go_wp2_with fail
      go_at_call 12
      refine (cfb _).mono ?_
      rintro e w5 ⟨rfl, hb5⟩
      have hB5 := below_then hB4 hb5
      clear hB4 hb5 cfb
      go_wp2_with fail
      go_at_call 11
      refine (cz1 _).mono ?_
      rintro e w6 ⟨⟨ao, n, c, k, rfl⟩, hb6⟩
      have hB6 := below_then hB5 hb6
      clear hB5 hb6 cz1
      go_wp2
      go_ret
      exact ⟨rfl, hB6⟩
  | none =>
    have hfa := fields_of_no hla
    have ca := fun W => list_no a W (by omega) hla
    have cfa := fun W => fields_no a W (by omega) hfa
    cases hlb : list b.data.toList with
    | some lb =>
      obtain ⟨fb, hfb⟩ := fields_of_list hlb
      have cb := fun W => list_is b lb W (by omega) hlb
      have cfb := fun W => fields_is b fb W (by omega) hfb
      have cz := fun W => list_no z1 W (by omega) (by rw [e1]; exact list_mark_none hlb hla)
      clear hla hlb hfa hfb e1 e2 e3 s1 s2 s3 s4 s5 s6 hy2 hz2 hy3 hz3 u3 u4 u5 cz1
      go_enter Try.func5, Try.ntmps5
      go_wp2_with fail
      go_at_call 8
      refine (first_any w).mono ?_
      rintro e w1 ⟨rfl, hb1⟩
      go_wp2_with fail
      go_at_call 11
      refine (ca _).mono ?_
      rintro e w2 ⟨rfl, hb2⟩
      have hB2 := below_then hb1 hb2
      clear hb1 hb2 ca
      go_wp2_with fail
      go_at_call 11
      refine (cb _).mono ?_
      rintro e w3 ⟨⟨vb, rfl, hob⟩, hb3⟩
      have hB3 := below_then hB2 hb3
      clear hob hB2 hb3 cb
      go_wp2_with fail
      go_at_call 12
      refine (cfa _).mono ?_
      rintro e w4 ⟨rfl, hb4⟩
      have hB4 := below_then hB3 hb4
      clear hB3 hb4 cfa
      go_wp2_with fail
      go_at_call 12
      refine (cfb _).mono ?_
      rintro e w5 ⟨⟨vfb, rfl, hofb⟩, hb5⟩
      have hB5 := below_then hB4 hb5
      clear hofb hB4 hb5 cfb
      go_wp2_with fail
      go_at_call 11
      refine (cz _).mono ?_
      rintro e w6 ⟨rfl, hb6⟩
      have hB6 := below_then hB5 hb6
      clear hB5 hb6 cz
      go_wp2
      go_ret
      exact ⟨rfl, hB6⟩
    | none =>
      have hfb := fields_of_no hlb
      have cb := fun W => list_no b W (by omega) hlb
      have cfb := fun W => fields_no b W (by omega) hfb
      clear hla hlb hfa hfb e1 e2 e3 s1 s2 s3 s4 s5 s6 hy2 hz2 hy3 hz3 u3 u4 u5
      go_enter Try.func5, Try.ntmps5
      go_wp2_with fail
      go_at_call 8
      refine (first_any w).mono ?_
      rintro e w1 ⟨rfl, hb1⟩
      go_wp2_with fail
      go_at_call 11
      refine (ca _).mono ?_
      rintro e w2 ⟨rfl, hb2⟩
      have hB2 := below_then hb1 hb2
      clear hb1 hb2 ca
      go_wp2_with fail
      go_at_call 11
      refine (cb _).mono ?_
      rintro e w3 ⟨rfl, hb3⟩
      have hB3 := below_then hB2 hb3
      clear hB2 hb3 cb
      go_wp2_with fail
      go_at_call 12
      refine (cfa _).mono ?_
      rintro e w4 ⟨rfl, hb4⟩
      have hB4 := below_then hB3 hb4
      clear hB3 hb4 cfa
      go_wp2_with fail
      go_at_call 12
      refine (cfb _).mono ?_
      rintro e w5 ⟨rfl, hb5⟩
      have hB5 := below_then hB4 hb5
      clear hB4 hb5 cfb
      go_wp2_with fail
      go_at_call 11
      refine (cz1 _).mono ?_
      rintro e w6 ⟨⟨ao, n, c, k, rfl⟩, hb6⟩
      have hB6 := below_then hB5 hb6
      clear hB5 hb6 cz1
      go_wp2
      go_ret
      exact ⟨rfl, hB6⟩
end Go.Proofs.Ytjdockjkioomiaa.Va
