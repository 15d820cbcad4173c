import Derived.Test.YtjeagjleolmibaaGreatDoorMg3

/-
  PLAIN LAWS OF LAYER xml: characters told by their numbers, in tens or sixteens.
-/
set_option linter.unusedVariables false
namespace Go.Proofs.YtjeagjleolmibaaGreatDoor.Xm

/-! ### digits of a number -/
def hexL : Row := [48, 49, 50, 51, 52, 53, 54, 55, 56, 57, 97, 98, 99, 100, 101, 102]
def digS (b n : Nat) : Row := if h : 2 ≤ b ∧ b ≤ n then digS b (n / b) ++ [hexL.getD (n % b) 0] else [hexL.getD n 0]
termination_by n
decreasing_by exact Nat.div_lt_self (by omega) (by omega)
theorem digS_big {b n : Nat} (h : 2 ≤ b) (h' : b ≤ n) : digS b n = digS b (n / b) ++ [hexL.getD (n % b) 0] := by
  conv => lhs; unfold digS
  rw [dif_pos ⟨h, h'⟩]
theorem digS_small {b n : Nat} (h' : n < b) : digS b n = [hexL.getD n 0] := by
  unfold digS
  rw [dif_neg (by omega)]
theorem digN_snoc (b : Nat) : ∀ (x : Row) (m : Nat) (c : UInt8), digN b m (x ++ [c]) = (digN b m x).bind fun v => (digV b c).map fun d => v * b + d
  | [], m, c => by
    show (digV b c).bind _ = _
    simp only [digN, Option.bind_some]
    cases digV b c <;> rfl
  | y :: x, m, c => by
    show (digV b y).bind (fun d => digN b (m * b + d) (x ++ [c])) = ((digV b y).bind fun d => digN b (m * b + d) x).bind _
    cases digV b y with
    | none => rfl
    | some d => simp only [Option.bind_some]; exact digN_snoc b x _ c
theorem digV_16 : ∀ k : Fin 16, digV 16 (hexL.getD k.val 0) = some k.val := by decide +kernel
theorem digV_10 : ∀ k : Fin 10, digV 10 (hexL.getD k.val 0) = some k.val := by decide +kernel
theorem digV_hex {b k : Nat} (hb : b = 10 ∨ b = 16) (h : k < b) : digV b (hexL.getD k 0) = some k := by
  rcases hb with rfl | rfl
  · exact digV_10 ⟨k, h⟩
  · exact digV_16 ⟨k, h⟩
theorem digN_digS {b : Nat} (hb : b = 10 ∨ b = 16) : ∀ (m n : Nat), n ≤ m → digN b 0 (digS b n) = some n
  | 0, n, h => by
    rw [digS_small (by omega)]
    show (digV b _).bind _ = _
    rw [digV_hex hb (by omega)]
    simp [digN]
  | m + 1, n, h => by
    by_cases hn : b ≤ n
    · have hlt : n / b < n := Nat.div_lt_self (by omega) (by omega)
      rw [digS_big (by omega) hn, digN_snoc, digN_digS hb m (n / b) (by omega), Option.bind_some, digV_hex hb (Nat.mod_lt _ (by omega))]
      show some (n / b * b + n % b) = some n
      rw [Nat.div_add_mod']
    · rw [digS_small (by omega)]
      show (digV b _).bind _ = _
      rw [digV_hex hb (by omega)]
      simp [digN]
theorem digS_mem {b : Nat} (hb : b = 10 ∨ b = 16) {Q : UInt8 → Prop} (hQ : ∀ k, k < b → Q (hexL.getD k 0)) : ∀ (m n : Nat), n ≤ m → ∀ x ∈ digS b n, Q x
  | 0, n, h, x, hx => by
    rw [digS_small (by omega)] at hx
    rw [List.mem_singleton.1 hx]; exact hQ n (by omega)
  | m + 1, n, h, x, hx => by
    by_cases hn : b ≤ n
    · have hlt : n / b < n := Nat.div_lt_self (by omega) (by omega)
      rw [digS_big (by omega) hn] at hx
      rcases List.mem_append.1 hx with hx | hx
      · exact digS_mem hb hQ m (n / b) (by omega) x hx
      · rw [List.mem_singleton.1 hx]; exact hQ _ (Nat.mod_lt _ (by omega))
    · rw [digS_small (by omega)] at hx
      rw [List.mem_singleton.1 hx]; exact hQ n (by omega)
theorem digS_len {b : Nat} (hb : b = 10 ∨ b = 16) : ∀ (k n : Nat), n < b ^ (k + 1) → (digS b n).length ≤ k + 1
  | 0, n, h => by
    rw [digS_small (by simpa using h)]; simp
  | k + 1, n, h => by
    by_cases hn : b ≤ n
    · have : n / b < b ^ (k + 1) := by
        rw [Nat.div_lt_iff_lt_mul (by omega), ← Nat.pow_succ]; exact h
      rw [digS_big (by omega) hn, List.length_append, List.length_singleton]
      have := digS_len hb k (n / b) this
      omega
    · rw [digS_small (by omega)]; simp
theorem digS_ne (b n : Nat) : digS b n ≠ [] := by
  unfold digS
  split <;> simp
theorem hex16 : ∀ k : Fin 16, hexL.getD k.val 0 ≠ 59 ∧ hexL.getD k.val 0 ≠ 120 ∧ (hexL.getD k.val 0).toNat < 128 ∧ Ch.ctl (hexL.getD k.val 0) = false := by decide +kernel
theorem digS_all {b : Nat} (hb : b = 10 ∨ b = 16) (n : Nat) : ∀ x ∈ digS b n, x ≠ 59 ∧ x ≠ 120 ∧ x.toNat < 128 ∧ Ch.ctl x = false :=
  digS_mem hb (fun k hk => hex16 ⟨k, by omega⟩) n n (Nat.le_refl _)

theorem hex_nz : ∀ k : Fin 16, 0 < k.val → hexL.getD k.val 0 ≠ 48 := by decide +kernel
theorem digS_front {b : Nat} (hb : b = 10 ∨ b = 16) : ∀ (m n : Nat), n ≤ m → 0 < n → (digS b n).head? ≠ some 48
  | 0, n, h, h0 => by omega
  | m + 1, n, h, h0 => by
    by_cases hn : b ≤ n
    · have hlt : n / b < n := Nat.div_lt_self (by omega) (by omega)
      have hpos : 0 < n / b := Nat.div_pos hn (by omega)
      have ih := digS_front hb m (n / b) (by omega) hpos
      rw [digS_big (by omega) hn]
      cases hd : digS b (n / b) with
      | nil => exact absurd hd (digS_ne _ _)
      | cons x r => rw [hd] at ih; simpa using ih
    · rw [digS_small (by omega)]
      simpa using hex_nz ⟨n, by omega⟩ h0
theorem digS_head {b : Nat} (hb : b = 10 ∨ b = 16) (v : Nat) : ¬ (digS b v = [] ∨ (b = 10 ∧ 1 < (digS b v).length ∧ (digS b v).head? = some 48)) := by
  rintro (h | ⟨_, h1, h2⟩)
  · exact digS_ne b v h
  · by_cases h0 : v = 0
    · rw [h0, digS_small (by omega)] at h1; simp at h1
    · exact digS_front hb v v (Nat.le_refl _) (by omega) h2

/-! ### a character by its number -/
/-- as it is told -/
def told (tens : Bool) (v : Nat) : Row := if tens = true then 35 :: digS 10 v else 35 :: 120 :: digS 16 v
theorem numE_digS {b v : Nat} (hb : b = 10 ∨ b = 16) (h : v ≤ 1114111) (hv : Ch.valid (utf v) = true) : numE b (digS b v) = some (utf v) := by
  unfold numE
  rw [if_neg (digS_head hb v), digN_digS hb v v (Nat.le_refl _), Option.bind_some, if_pos ⟨h, hv⟩]
theorem ent_told (tens : Bool) {v : Nat} (h : v ≤ 1114111) (hv : Ch.valid (utf v) = true) : ent (told tens v) = some (utf v) := by
  unfold told
  cases tens with
  | true =>
    rw [if_pos rfl]
    have h1 := numE_digS (.inl rfl) h hv
    have h2 := digS_all (.inl rfl : (10 : Nat) = 10 ∨ (10 : Nat) = 16) v
    cases hd : digS 10 v with
    | nil => exact absurd hd (digS_ne _ _)
    | cons c r =>
      rw [hd] at h1 h2
      have hc := (h2 c (by simp)).2.1
      unfold ent
      rw [if_neg (by simp), if_neg (by simp), if_neg (by simp), if_neg (by simp), if_neg (by simp)]
      split
      · rename_i e; simp at e; exact absurd e.1 hc
      · rename_i e; simp at e; rw [← e]; exact h1
      · rename_i e; exact absurd rfl (e (c :: r))
  | false =>
    rw [if_neg (by decide)]
    have h1 := numE_digS (.inr rfl) h hv
    unfold ent
    rw [if_neg (by simp), if_neg (by simp), if_neg (by simp), if_neg (by simp), if_neg (by simp)]
    exact h1
theorem told_no (tens : Bool) (v : Nat) : (59 : UInt8) ∉ told tens v := by
  unfold told
  cases tens with
  | true =>
    rw [if_pos rfl]
    have h2 := digS_all (.inl rfl : (10 : Nat) = 10 ∨ (10 : Nat) = 16) v
    intro h
    rcases List.mem_cons.1 h with h | h
    · revert h; decide
    · exact (h2 _ h).1 rfl
  | false =>
    rw [if_neg (by decide)]
    have h2 := digS_all (.inr rfl : (16 : Nat) = 10 ∨ (16 : Nat) = 16) v
    intro h
    rcases List.mem_cons.1 h with h | h
    · revert h; decide
    · rcases List.mem_cons.1 h with h | h
      · revert h; decide
      · exact (h2 _ h).1 rfl
theorem told_ascii (tens : Bool) (v : Nat) : ∀ x ∈ told tens v, x.toNat < 128 ∧ Ch.ctl x = false := by
  unfold told
  cases tens with
  | true =>
    rw [if_pos rfl]
    intro x h
    rcases List.mem_cons.1 h with rfl | h
    · decide
    · exact (digS_all (.inl rfl) v x h).2.2
  | false =>
    rw [if_neg (by decide)]
    intro x h
    rcases List.mem_cons.1 h with rfl | h
    · decide
    · rcases List.mem_cons.1 h with rfl | h
      · decide
      · exact (digS_all (.inr rfl) v x h).2.2
theorem told_len (tens : Bool) {v : Nat} (h : v ≤ 1114111) : (told tens v).length ≤ 8 := by
  unfold told
  cases tens with
  | true =>
    rw [if_pos rfl]
    have := digS_len (.inl rfl : (10 : Nat) = 10 ∨ (10 : Nat) = 16) 6 v (by omega)
    rw [List.length_cons]; omega
  | false =>
    rw [if_neg (by decide)]
    have := digS_len (.inr rfl : (16 : Nat) = 10 ∨ (16 : Nat) = 16) 5 v (by omega)
    rw [List.length_cons, List.length_cons]; omega
/-! ### a text told character by character -/
theorem ofNat_is {c : UInt8} {n : Nat} (h : c.toNat = n) : UInt8.ofNat n = c := by rw [← h]; exact UInt8.ofNat_toNat
/-- the character at the front of a valid text -/
theorem front_char {t : Row} (hne : t ≠ []) (hv : Ch.valid t = true) : (Ch.rune t).2 ≠ 0 ∧ (Ch.rune t).2 ≤ t.length ∧ (Ch.rune t).1 ≤ 1114111 ∧ utf (Ch.rune t).1 = t.take (Ch.rune t).2 ∧ Ch.valid (t.take (Ch.rune t).2) = true ∧ Ch.valid (t.drop (Ch.rune t).2) = true := by
  have hs := Ch.valid_step t hne
  rw [hv] at hs
  split at hs
  · cases hs
  · rename_i h0
    have hk0 : (Ch.rune t).2 ≠ 0 := fun e => h0 (.inl e)
    have hl := (Ch.rune_tells hne hk0).1
    have hc := Ch.valid_cut t hv (Ch.rune t).2 hl
    have hvt : Ch.valid (t.take (Ch.rune t).2) = true := by rw [hc.1, ← hc.2]; exact hs.symm
    have key : (Ch.rune t).1 ≤ 1114111 ∧ utf (Ch.rune t).1 = t.take (Ch.rune t).2 := by
      have h4 := (Ch.rune_tells hne hk0).2.2.2
      rw [Ch.rune_eq t hne] at hk0 hl h4 ⊢
      have g : ∀ j, j < t.length → t[j]? = some (t.getD j 0) := fun j hj => by rw [List.getD_eq_getElem?_getD, List.getElem?_eq_getElem hj]; rfl
      obtain ⟨b0, e0⟩ : ∃ b, t.getD 0 0 = b := ⟨_, rfl⟩
      obtain ⟨b1, e1⟩ : ∃ b, t.getD 1 0 = b := ⟨_, rfl⟩
      obtain ⟨b2, e2⟩ : ∃ b, t.getD 2 0 = b := ⟨_, rfl⟩
      obtain ⟨b3, e3⟩ : ∃ b, t.getD 3 0 = b := ⟨_, rfl⟩
      have g0 := g 0
      have g1 := g 1
      have g2 := g 2
      have g3 := g 3
      rw [e0] at hk0 hl h4 g0 ⊢
      rw [e1] at hk0 hl h4 g1 ⊢
      rw [e2] at hk0 hl h4 g2 ⊢
      rw [e3] at hk0 hl h4 g3 ⊢
      have l0 := b0.toNat_lt
      have tk : ∀ (k : Nat) (l : Row), l.length = k → k ≤ t.length → (∀ j, j < k → t[j]? = l[j]?) → t.take k = l := fun k l h1 h2 h3 => by
        refine List.ext_getElem? fun j => ?_
        by_cases hj : j < k
        · rw [List.getElem?_take, if_pos hj]; exact h3 j hj
        · rw [List.getElem?_eq_none (by rw [List.length_take]; omega), List.getElem?_eq_none (by omega)]
      by_cases c0 : b0.toNat < 128
      · have hr := Ch.runeN_one t.length b0.toNat b1.toNat b2.toNat b3.toNat c0
        rw [hr] at hl ⊢
        refine ⟨by simp only; omega, ?_⟩
        show utf b0.toNat = t.take 1
        unfold utf
        rw [if_pos c0, ofNat_is rfl]
        refine (tk 1 [b0] rfl hl fun j hj => ?_).symm
        match j, hj with
        | 0, _ => exact g0 (by simp only at hl; omega)
      · rcases h4 with ⟨q, _⟩ | ⟨q, _⟩
        · exact absurd q c0
        · by_cases c2 : b0.toNat < 224
          · rcases Ch.runeN_two t.length b0.toNat b1.toNat b2.toNat b3.toNat q c2 with ⟨r1, r2, r3, r4, hr⟩ | ⟨_, hr⟩
            · rw [hr]
              refine ⟨by simp only; omega, ?_⟩
              show utf (Ch.v2 b0.toNat b1.toNat) = t.take 2
              unfold Ch.cont at r2
              have x0 : 192 + Ch.v2 b0.toNat b1.toNat / 64 = b0.toNat := by unfold Ch.v2; omega
              have x1 : 128 + Ch.v2 b0.toNat b1.toNat % 64 = b1.toNat := by unfold Ch.v2; omega
              unfold utf
              rw [if_neg (by omega), if_pos (by omega), x0, x1, ofNat_is rfl, ofNat_is rfl]
              refine (tk 2 [b0, b1] rfl r1 fun j hj => ?_).symm
              match j, hj with
              | 0, _ => exact g0 (by omega)
              | 1, _ => exact g1 (by omega)
            · rw [hr] at hk0; exact absurd rfl hk0
          · by_cases c3 : b0.toNat < 240
            · rcases Ch.runeN_three t.length b0.toNat b1.toNat b2.toNat b3.toNat (by omega) c3 with ⟨r1, r2, r2', r3, r4, _, hr⟩ | ⟨_, hr⟩
              · rw [hr]
                refine ⟨by simp only; omega, ?_⟩
                show utf (Ch.v3 b0.toNat b1.toNat b2.toNat) = t.take 3
                unfold Ch.cont at r2 r2'
                have x0 : 224 + Ch.v3 b0.toNat b1.toNat b2.toNat / 4096 = b0.toNat := by unfold Ch.v3; omega
                have x1 : 128 + Ch.v3 b0.toNat b1.toNat b2.toNat / 64 % 64 = b1.toNat := by unfold Ch.v3; omega
                have x2 : 128 + Ch.v3 b0.toNat b1.toNat b2.toNat % 64 = b2.toNat := by unfold Ch.v3; omega
                unfold utf
                rw [if_neg (by omega), if_neg (by omega), if_pos (by omega), x0, x1, x2, ofNat_is rfl, ofNat_is rfl, ofNat_is rfl]
                refine (tk 3 [b0, b1, b2] rfl r1 fun j hj => ?_).symm
                match j, hj with
                | 0, _ => exact g0 (by omega)
                | 1, _ => exact g1 (by omega)
                | 2, _ => exact g2 (by omega)
              · rw [hr] at hk0; exact absurd rfl hk0
            · by_cases c4 : b0.toNat < 248
              · rcases Ch.runeN_four t.length b0.toNat b1.toNat b2.toNat b3.toNat (by omega) c4 with ⟨r1, r2, r2', r2'', r3, r4, hr⟩ | ⟨_, hr⟩
                · rw [hr]
                  refine ⟨r4, ?_⟩
                  show utf (Ch.v4 b0.toNat b1.toNat b2.toNat b3.toNat) = t.take 4
                  unfold Ch.cont at r2 r2' r2''
                  have x0 : 240 + Ch.v4 b0.toNat b1.toNat b2.toNat b3.toNat / 262144 = b0.toNat := by unfold Ch.v4; omega
                  have x1 : 128 + Ch.v4 b0.toNat b1.toNat b2.toNat b3.toNat / 4096 % 64 = b1.toNat := by unfold Ch.v4; omega
                  have x2 : 128 + Ch.v4 b0.toNat b1.toNat b2.toNat b3.toNat / 64 % 64 = b2.toNat := by unfold Ch.v4; omega
                  have x3 : 128 + Ch.v4 b0.toNat b1.toNat b2.toNat b3.toNat % 64 = b3.toNat := by unfold Ch.v4; omega
                  unfold utf
                  rw [if_neg (by omega), if_neg (by omega), if_neg (by omega), x0, x1, x2, x3, ofNat_is rfl, ofNat_is rfl, ofNat_is rfl, ofNat_is rfl]
                  refine (tk 4 [b0, b1, b2, b3] rfl r1 fun j hj => ?_).symm
                  match j, hj with
                  | 0, _ => exact g0 (by omega)
                  | 1, _ => exact g1 (by omega)
                  | 2, _ => exact g2 (by omega)
                  | 3, _ => exact g3 (by omega)
                · rw [hr] at hk0; exact absurd rfl hk0
              · have hr := Ch.runeN_none t.length b0.toNat b1.toNat b2.toNat b3.toNat (.inr ⟨by omega, l0⟩)
                rw [hr] at hk0; exact absurd rfl hk0
    exact ⟨hk0, hl, key.1, key.2, hvt, hs.symm⟩
/-- a text, each character by its number -/
def tell (tens : Bool) : Nat → Row → Row
  | 0, _ => []
  | n + 1, t => if t = [] then [] else 38 :: (told tens (Ch.rune t).1 ++ [59]) ++ tell tens n (t.drop (Ch.rune t).2)
theorem runs_tell (tens : Bool) : ∀ (n : Nat) (t : Row) (σ : St), t.length ≤ n → Ch.valid t = true → σ.stack ≠ [] → Runs σ (tell tens n t) { σ with txt := σ.txt ++ t }
  | 0, t, σ, h, _, _ => by
    obtain rfl : t = [] := List.eq_nil_of_length_eq_zero (by omega)
    simpa [tell] using Runs.nil σ
  | n + 1, t, σ, h, hv, hs => by
    unfold tell
    by_cases ht : t = []
    · rw [if_pos ht, ht]; simpa using Runs.nil σ
    · rw [if_neg ht]
      obtain ⟨h0, hl, hm, hu, hvt, hvd⟩ := front_char ht hv
      have r1 := runs_ent σ (told tens (Ch.rune t).1) (utf (Ch.rune t).1) (told_no tens _) (ent_told tens hm (by rw [hu]; exact hvt)) hs
      have r2 := runs_tell tens n (t.drop (Ch.rune t).2) { σ with txt := σ.txt ++ utf (Ch.rune t).1 } (by rw [List.length_drop]; omega) hvd hs
      have := r1.trans r2
      simp only at this
      rw [hu, List.append_assoc, List.take_append_drop] at this
      exact this
theorem tell_ascii (tens : Bool) : ∀ (n : Nat) (t : Row), ∀ x ∈ tell tens n t, x.toNat < 128 ∧ Ch.ctl x = false
  | 0, t, x, hx => by cases hx
  | n + 1, t, x, hx => by
    unfold tell at hx
    split at hx
    · cases hx
    · rcases List.mem_append.1 hx with hx | hx
      · rcases List.mem_cons.1 hx with rfl | hx
        · decide
        · rcases List.mem_append.1 hx with hx | hx
          · exact told_ascii tens _ x hx
          · rw [List.mem_singleton.1 hx]; decide
      · exact tell_ascii tens n _ x hx
theorem tell_len (tens : Bool) : ∀ (n : Nat) (t : Row), Ch.valid t = true → (tell tens n t).length ≤ 10 * t.length
  | 0, t, _ => by simp [tell]
  | n + 1, t, hv => by
    unfold tell
    by_cases ht : t = []
    · rw [if_pos ht]; simp
    · rw [if_neg ht]
      obtain ⟨h0, hl, hm, hu, hvt, hvd⟩ := front_char ht hv
      have h1 := tell_len tens n (t.drop (Ch.rune t).2) hvd
      have h2 := told_len tens hm
      rw [List.length_drop] at h1
      simp only [List.length_append, List.length_cons, List.length_nil]
      omega
/-- <a> a </a> -/
def inA (x : Row) : Row := 60 :: 97 :: 62 :: (x ++ [60, 47, 97, 62])
def sA : St := ⟨[], [⟨[], [97], 0, []⟩], [], [⟨1, 0, [97], []⟩], [], true⟩
theorem doc_inA {x t : Row} (ht : blanks t = false) (hr : Runs sA x { sA with txt := t }) : docP (inA x) = some [⟨1, 0, [97], []⟩, ⟨3, 0, [], t⟩, ⟨2, 0, [97], []⟩] := by
  have h1 := runs_open (init []) 97 [] [] [] [97] [] 0 (by decide) (fun X => written_bare [97] (62 :: X) (by decide) (fun x hx => by cases hx; decide)) (fun X => decls_none 62 X (by decide)) rfl (by decide) (fun _ => rfl)
  have h2 := runs_close { sA with txt := t } [97] [] [97] ⟨[], [97], 0, []⟩ [] rfl (fun X => written_bare [97] (62 :: X) (by decide) (fun x hx => by cases hx; decide)) rfl rfl
  have := ((Runs.trans (τ := sA) h1 hr).trans h2) []
  rw [List.append_nil] at this
  have e : inA x = (60 :: 97 :: ([] ++ [] ++ [62])) ++ x ++ (60 :: 47 :: ([97] ++ [62])) := by simp [inA]
  unfold docP
  rw [show prolog (inA x) = some (inA x) from prolog_tag (x := 97) (by decide), Option.bind_some, e]
  show (go ((init []).at _)).bind fin = _
  rw [this, go_nil rfl, Option.bind_some]
  show some (flushed [⟨1, 0, [97], []⟩] t ++ [⟨2, 0, [97], []⟩]) = _
  unfold flushed
  rw [if_neg (by rw [ht]; decide)]
  rfl
theorem doc_chars (tens : Bool) {t : Row} (hv : Ch.valid t = true) (ht : blanks t = false) : docP (inA (tell tens t.length t)) = some [⟨1, 0, [97], []⟩, ⟨3, 0, [], t⟩, ⟨2, 0, [97], []⟩] := by
  have := runs_tell tens t.length t sA (Nat.le_refl _) hv (by simp [sA])
  exact doc_inA ht this
end Go.Proofs.YtjeagjleolmibaaGreatDoor.Xm
