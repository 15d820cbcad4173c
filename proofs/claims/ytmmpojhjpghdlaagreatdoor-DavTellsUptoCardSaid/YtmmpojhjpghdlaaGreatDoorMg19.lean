import Derived.Test.YtmmpojhjpghdlaaGreatDoorMg4
import Derived.Test.YtmmpojhjpghdlaaGreatDoorMg16
import Derived.Test.YtmmpojhjpghdlaaGreatDoorMg18
import Derived.Laws.Runes

/-
  THE WALKS OF NUMBERS: char.Number and the reference's.
-/
set_option linter.unusedVariables false
namespace Go.Proofs.YtmmpojhjpghdlaaGreatDoor.Ch
open Go.Lib Go.RowKit

theorem isEmpty_no (s : ByteArray) (h : s.size ≠ 0) : s.toList.isEmpty = false := by
  rw [← decide_eq_emptyBytes s]
  exact decide_eq_false (fun e => h (by rw [e]; rfl))
theorem isEmpty_yes (s : ByteArray) (h : s.size = 0) : s.toList.isEmpty = true := by
  rw [← decide_eq_emptyBytes s]
  exact decide_eq_true (ByteArray.ext (Array.eq_empty_of_size_eq_zero h))

def numE (p : Nat × Bool) : Ending := .returned (.tuple #[.int .u64 (p.1 : Int), .bool p.2])
theorem isD_no {c : UInt8} (h : c.toNat < 48 ∨ 57 < c.toNat) : isD c = false := decide_eq_false (by omega)
theorem isD_yes {c : UInt8} (h1 : 48 ≤ c.toNat) (h2 : c.toNat ≤ 57) : isD c = true := decide_eq_true ⟨h1, h2⟩
set_option maxHeartbeats 2000000 in
set_option maxRecDepth 100000 in
theorem number_any (s : ByteArray) (m : Nat) (w : World) (hs : s.size ≤ 9223372036854775807) (hm : m ≤ 18446744073709551615) :
    Calls Tryz.prog 158 #[.string s, .int .u64 (m : Int)] w fun e w' => e = numE (numS s.data.toList m) ∧ w = w' := by
  have hsl : s.size = s.data.toList.length := Lib.size_eq s
  by_cases h0 : s.size = 0
  · have hE := isEmpty_yes s h0
    have hn : s.data.toList = [] := List.eq_nil_of_length_eq_zero (by omega)
    rw [hn]
    clear hn hsl h0
    go_enter Tryz.func158, Tryz.ntmps158
    go_wp2
    go_ret2
    exact ⟨rfl, rfl⟩
  have hE := isEmpty_no s h0
  have hne : s.data.toList ≠ [] := fun h => h0 (by rw [hsl, h]; rfl)
  have h0z : 0 < s.size := by omega
  have hsl' := Lib.hid hsl
  have hfst : s.data.toList.getD 0 0 = s[0]'h0z := by
    simp only [List.getD_eq_getElem?_getD]
    rw [List.getElem?_eq_getElem (by omega)]
    rfl
  by_cases h1 : lead0 s.data.toList = true
  · rw [numS_lead h1]
    have h2 : 1 < s.size ∧ (s[0]'h0z).toNat = 48 := by
      have h := of_decide_eq_true h1
      rw [hfst, ← hsl] at h
      exact h
    obtain ⟨h3, h4⟩ := h2
    have h5 : (((s[0]'h0z).toNat : Int) == 48) = true := by simp; omega
    have h4' := Lib.hid h4
    clear h1 h4 hsl hfst hne h0
    go_enter Tryz.func158, Tryz.ntmps158
    go_wp2
    go_ret2
    exact ⟨rfl, rfl⟩
  have h2 : ¬ (1 < s.size ∧ (s[0]'h0z).toNat = 48) := by
    intro h
    apply h1
    unfold lead0
    rw [hfst, ← hsl]
    exact decide_eq_true h
  have h2' := Lib.hid h2
  rw [Bool.not_eq_true] at h1
  have h1' := Lib.hid h1
  have hne' := Lib.hid hne
  have hcase : ¬ 1 < s.size ∨ (1 < s.size ∧ (((s[0]'h0z).toNat : Int) == 48) = false) := by
    by_cases h : 1 < s.size
    · exact .inr ⟨h, by simp; omega⟩
    · exact .inl h
  clear h2 h1 hne hfst hsl
  rcases hcase with hc | ⟨hc, hc'⟩
  all_goals
    go_enter Tryz.func158, Tryz.ntmps158
    go_wp2
    go_loop [6, 7] (fun v i => ∃ k : Nat, k ≤ s.size ∧ i = .int .i64 k ∧ v = .int .u64 (numV (s.data.toList.take k) : Int) ∧ (s.data.toList.take k).all isD = true ∧ numV (s.data.toList.take k) ≤ m) (fun _ i => s.size - (RowKit.intOf i).toNat)
    case atStart => exact ⟨0, Nat.zero_le _, rfl, rfl, rfl, Nat.zero_le _⟩
    case round =>
      obtain ⟨k, hk, rfl, rfl, hd, hvm⟩ := hrel
      have hd' := Lib.hid hd
      clear hd
      obtain ⟨v, hv⟩ : ∃ v, numV (s.data.toList.take k) = v := ⟨_, rfl⟩
      rw [hv] at hvm ⊢
      have hv' := Lib.hid hv
      clear hv
      by_cases hlt : k < s.size
      · have hkl : k < s.data.toList.length := by rw [← hsl'.out]; exact hlt
        obtain ⟨c, hc0⟩ : ∃ c, s[k]'hlt = c := ⟨_, rfl⟩
        have hsk := Lib.hid (show s.data.toList[k]'hkl = c by rw [← hc0]; simp; rfl)
        have hcl := c.toNat_lt
        by_cases d1 : c.toNat < 48
        · have hres := Lib.hid (numS_digit (most := m) hkl (by rw [hsk.out]; exact isD_no (.inl d1)))
          go_wp2
          go_ret2
          exact ⟨by rw [hres.out]; rfl, rfl⟩
        by_cases d2 : 57 < c.toNat
        · have hres := Lib.hid (numS_digit (most := m) hkl (by rw [hsk.out]; exact isD_no (.inr d2)))
          go_wp2
          go_ret2
          exact ⟨by rw [hres.out]; rfl, rfl⟩
        by_cases d3 : 10 * v + (c.toNat - 48) ≤ m
        · have hst := Lib.hid (all_take_step s.data.toList k hkl hd'.out (by rw [hsk.out]; exact isD_yes (by omega) (by omega)))
          have hsv := Lib.hid (numV_step s.data.toList k hkl)
          go_wp2
          go_round
          case rel => exact ⟨k + 1, by omega, by go_num, by rw [hsv.out, hv'.out, hsk.out]; go_num, hst.out, by rw [hsv.out, hv'.out, hsk.out]; exact d3⟩
          case measure => simp [RowKit.intOf]; omega
        · have hres := Lib.hid (numS_over (most := m) hkl (by rw [hsk.out, hv'.out]; omega))
          go_wp2
          all_goals
            go_ret2
            exact ⟨by rw [hres.out]; rfl, rfl⟩
      · have hks : k = s.size := by omega
        have hall : s.data.toList.take k = s.data.toList := List.take_of_length_le (by rw [← hsl'.out]; omega)
        have hd2 := hd'.out
        have hv2 := hv'.out
        rw [hall] at hd2 hv2
        have hres := Lib.hid (numS_yes (most := m) hne'.out h1'.out hd2 (by rw [hv2]; exact hvm))
        have hv3 := Lib.hid hv2
        clear hks hall hd2 hv2
        go_wp2
        go_ret2
        exact ⟨by rw [hres.out, hv3.out]; rfl, rfl⟩
end Go.Proofs.YtmmpojhjpghdlaaGreatDoor.Ch

/-
  WALKS OF THE PROGRAM's READER OF LAYER xml: strconv.ParseUint at base 16, number, meant.
-/
set_option linter.unusedVariables false
namespace Go.Proofs.YtmmpojhjpghdlaaGreatDoor.Xm
open Go.Lib Go.RowKit

/-! ### plain -/
/-- the code point that stands between &# and ; -/
def codeOf (d : Row) : Option Nat := match d with
  | 120 :: t => if t = [] then none else (digN 16 0 t).bind fun n => if n ≤ 1114111 then some n else none
  | _ => if d = [] ∨ (1 < d.length ∧ d.head? = some 48) then none else (digN 10 0 d).bind fun n => if n ≤ 1114111 then some n else none
theorem num_code (b : Nat) (d : Row) : numE b d = (if d = [] ∨ (b = 10 ∧ 1 < d.length ∧ d.head? = some 48) then none else (digN b 0 d).bind fun n => if n ≤ 1114111 then some n else none).bind fun n => if Ch.valid (utf n) = true then some (utf n) else none := by
  unfold numE
  split
  · rfl
  · cases digN b 0 d with
    | none => rfl
    | some n =>
      simp only [Option.bind_some]
      by_cases h1 : n ≤ 1114111
      · rw [if_pos h1, Option.bind_some]
        by_cases h2 : Ch.valid (utf n) = true
        · rw [if_pos ⟨h1, h2⟩, if_pos h2]
        · rw [if_neg (fun e => h2 e.2), if_neg h2]
      · rw [if_neg h1, if_neg (fun e => h1 e.1)]; rfl
theorem ent_code {s d : Row} (hs : s = 35 :: d) : ent s = (codeOf d).bind fun n => if Ch.valid (utf n) = true then some (utf n) else none := by
  subst hs
  unfold ent
  rw [if_neg (by simp), if_neg (by simp), if_neg (by simp), if_neg (by simp), if_neg (by simp)]
  cases d with
  | nil =>
    show numE 10 [] = _
    rw [num_code]; rfl
  | cons c t =>
    by_cases hc : c = 120
    · subst hc
      show numE 16 t = (codeOf (120 :: t)).bind _
      rw [num_code]
      show _ = (if t = [] then none else (digN 16 0 t).bind _ : Option Nat).bind _
      by_cases ht : t = []
      · rw [if_pos (.inl ht), if_pos ht]
      · rw [if_neg ht, if_neg (by rintro (h | ⟨h, _⟩); exact ht h; exact absurd h (by decide))]
    · have e2 : codeOf (c :: t) = if (c :: t) = [] ∨ (1 < (c :: t).length ∧ (c :: t).head? = some 48) then none else (digN 10 0 (c :: t)).bind fun n => if n ≤ 1114111 then some n else none := by
        unfold codeOf
        split
        · rename_i u e
          injection e with e _
          exact absurd e hc
        · rfl
      have hR : numE 10 (c :: t) = (codeOf (c :: t)).bind fun n => if Ch.valid (utf n) = true then some (utf n) else none := by
        rw [e2, num_code]
        simp
      rw [← hR]
      split
      · rename_i d e
        injection e with _ e
        injection e with e _
        exact absurd e hc
      · rename_i d _ e
        injection e with _ e
        rw [e]
      · rename_i h
        exact (h (c :: t) rfl).elim
theorem ent_other {s : Row} (h : ([35] : Row).isPrefixOf s = false) (h1 : s ≠ [97, 109, 112]) (h2 : s ≠ [108, 116]) (h3 : s ≠ [103, 116]) (h4 : s ≠ [113, 117, 111, 116]) (h5 : s ≠ [97, 112, 111, 115]) : ent s = none := by
  unfold ent
  rw [if_neg h1, if_neg h2, if_neg h3, if_neg h4, if_neg h5]
  split
  · simp [List.isPrefixOf] at h
  · simp [List.isPrefixOf] at h
  · rfl
theorem digV10 : ∀ k : Fin 256, digV 10 (UInt8.ofNat k.val) = if 48 ≤ k.val ∧ k.val ≤ 57 then some (k.val - 48) else none := by decide +kernel
theorem digV10_of (c : UInt8) : digV 10 c = if Ch.isD c = true then some (c.toNat - 48) else none := by
  have := digV10 ⟨c.toNat, c.toNat_lt⟩
  simp only at this
  rw [UInt8.ofNat_toNat] at this
  rw [this]
  unfold Ch.isD
  by_cases h : 48 ≤ c.toNat ∧ c.toNat ≤ 57
  · rw [if_pos h, if_pos (decide_eq_true h)]
  · rw [if_neg h, if_neg (by rw [decide_eq_false h]; decide)]
theorem digN10 : ∀ (d : Row) (m : Nat), digN 10 m d = if d.all Ch.isD = true then some (d.foldl Ch.numF m) else none
  | [], m => rfl
  | c :: d, m => by
    simp only [digN]
    rw [digV10_of]
    by_cases h : Ch.isD c = true
    · rw [if_pos h, Option.bind_some, digN10 d]
      simp only [List.all_cons, h, Bool.true_and, List.foldl_cons]
      have : m * 10 + (c.toNat - 48) = Ch.numF m c := by unfold Ch.numF; omega
      rw [this]
    · have : (c :: d).all Ch.isD = false := by simp [h]
      rw [if_neg h, this]; rfl
theorem lead_head (d : Row) : Ch.lead0 d = true ↔ (1 < d.length ∧ d.head? = some 48) := by
  unfold Ch.lead0
  rw [decide_eq_true_iff]
  cases d with
  | nil => simp
  | cons c t =>
    simp only [List.getD_cons_zero, List.head?_cons, Option.some.injEq]
    constructor
    · rintro ⟨h1, h2⟩
      exact ⟨h1, UInt8.toNat_inj.1 (by rw [h2]; rfl)⟩
    · rintro ⟨h1, h2⟩
      exact ⟨h1, by rw [h2]; rfl⟩
theorem code10 {d : Row} (h : ([120] : Row).isPrefixOf d = false) : codeOf d = if (Ch.numS d 1114111).2 = true then some (Ch.numS d 1114111).1 else none := by
  have e2 : codeOf d = if d = [] ∨ (1 < d.length ∧ d.head? = some 48) then none else (digN 10 0 d).bind fun n => if n ≤ 1114111 then some n else none := by
    unfold codeOf
    split
    · simp [List.isPrefixOf] at h
    · rfl
  rw [e2, digN10]
  have hl := lead_head d
  unfold Ch.numS Ch.numOk
  by_cases h1 : d = []
  · subst h1; rfl
  · have h1' : d.isEmpty = false := by cases d with
      | nil => exact absurd rfl h1
      | cons c t => rfl
    cases h2 : Ch.lead0 d with
    | true =>
      rw [if_pos (.inr (hl.1 h2))]
      simp [h1']
    | false =>
      rw [if_neg (by rintro (e | e); exact h1 e; rw [hl.2 e] at h2; cases h2)]
      cases h3 : d.all Ch.isD with
      | false => simp [h1']
      | true =>
        by_cases h4 : Ch.numV d ≤ 1114111
        · have : d.foldl Ch.numF 0 ≤ 1114111 := h4
          simp [h1', h4, this]
          rfl
        · have : ¬ d.foldl Ch.numF 0 ≤ 1114111 := h4
          simp [h1', h4, this]
theorem encode_utf {n : Nat} (h : Lib.validRune (n : Int) = true) : (Utf8.encode (n : Int)).data.toList = utf n := by
  have hv : Utf8.valid (n : Int) = true := by rw [validRune_eq]; exact h
  unfold Utf8.encode utf
  simp only [hv, if_true, Int.toNat_natCast]
  by_cases h1 : n < 128
  · simp only [if_pos h1]
  · by_cases h2 : n < 2048
    · simp only [if_neg h1, if_pos h2]
    · by_cases h3 : n < 65536
      · simp only [if_neg h1, if_neg h2, if_pos h3]
      · simp only [if_neg h1, if_neg h2, if_neg h3]
/-- surrogates are no characters -/
theorem utf_bad {n : Nat} (hn : n ≤ 1114111) (h : Lib.validRune (n : Int) = false) : Ch.valid (utf n) = false := by
  have hs : 55296 ≤ n ∧ n ≤ 57343 := by
    unfold Lib.validRune at h
    have := of_decide_eq_false h
    omega
  obtain ⟨h1, h2⟩ := hs
  have e : utf n = [UInt8.ofNat (224 + n / 4096), UInt8.ofNat (128 + n / 64 % 64), UInt8.ofNat (128 + n % 64)] := by
    unfold utf
    rw [if_neg (by omega), if_neg (by omega), if_pos (by omega)]
  rw [e, Ch.valid_step _ (by simp), if_pos]
  left
  rw [Ch.rune_eq _ (by simp)]
  have t0 : (UInt8.ofNat (224 + n / 4096)).toNat = 237 := by rw [UInt8.toNat_ofNat']; omega
  have t1 : (UInt8.ofNat (128 + n / 64 % 64)).toNat = 128 + n / 64 % 64 := by rw [UInt8.toNat_ofNat']; omega
  have t2 : (UInt8.ofNat (128 + n % 64)).toNat = 128 + n % 64 := by rw [UInt8.toNat_ofNat']; omega
  simp only [List.getD_cons_zero, List.getD_cons_succ, List.length_cons, List.length_nil]
  rw [t0, t1, t2]
  rcases Ch.runeN_three 3 237 (128 + n / 64 % 64) (128 + n % 64) 0 (by omega) (by omega) with ⟨r1, r2, r2', r3, r4, r5, hr⟩ | ⟨_, hr⟩
  · exfalso
    unfold Ch.v3 at *
    omega
  · show (Ch.runeN 3 237 (128 + n / 64 % 64) (128 + n % 64) 0).2 = 0
    rw [hr]

/-! ### walks -/
def SxP (s : Row) (e : Ending) : Prop :=
  (∃ n : Nat, digN 16 0 s = some n ∧ s ≠ [] ∧ n < 18446744073709551616 ∧ e = .returned (.tuple #[.int .u64 (n : Int), .nilIface])) ∨
  ((s = [] ∨ ∀ n, digN 16 0 s = some n → 18446744073709551616 ≤ n) ∧ ∃ (x : Int) (k : Nat), e = .returned (.tuple #[.int .u64 x, .iface 234 (.pointer (some ⟨k, 0, none⟩))]))
set_option maxHeartbeats 2000000 in
set_option maxRecDepth 100000 in
theorem hex_none (w : World) : Calls Tryz.prog 168 #[.string ⟨#[]⟩, .int .i64 16, .int .i64 64] w fun e w' => e = .returned (.tuple #[.int .u64 0, .iface 232 (.int .i64 2)]) ∧ w' = w := by
  go_enter Tryz.func168, Tryz.ntmps168
  go_wp2
  go_ret2
  exact ⟨rfl, rfl⟩
theorem hex_all (s : ByteArray) (w : World) (hs : s.size ≤ 65536) :
    Calls Tryz.prog 168 #[.string s, .int .i64 16, .int .i64 64] w fun e w' => ((∃ n : Nat, digN 16 0 s.data.toList = some n ∧ s.data.toList ≠ [] ∧ n < 18446744073709551616 ∧ e = .returned (.tuple #[.int .u64 (n : Int), .nilIface])) ∨
      ∃ (x : Int) (k : Int), (k = 1 ∨ k = 2) ∧ (s.data.toList = [] ∨ ∀ n, digN 16 0 s.data.toList = some n → 18446744073709551616 ≤ n) ∧ e = .returned (.tuple #[.int .u64 x, .iface 232 (.int .i64 k)])) ∧ Below w.heap.size w w' := by
  by_cases h0 : 0 < s.size
  · refine (hex_any s w h0 hs).mono ?_
    rintro e w' ⟨h, hb⟩
    refine ⟨?_, hb⟩
    rcases h with ⟨n, h1, h2, h3⟩ | ⟨x, k, h1, h2, h3⟩
    · exact .inl ⟨n, h1, fun e => (by rw [Lib.size_eq, e] at h0; exact absurd h0 (by decide)), h2, h3⟩
    · exact .inr ⟨x, k, h1, .inr h2, h3⟩
  · have hnil : s.data.toList = [] := List.eq_nil_of_length_eq_zero (by rw [← Lib.size_eq]; omega)
    have hs : s = ⟨#[]⟩ := data_is (by rw [hnil])
    subst hs
    refine (hex_none w).mono ?_
    rintro e w' ⟨h, rfl⟩
    exact ⟨.inr ⟨0, 2, .inr rfl, .inl rfl, h⟩, Below.refl _ _⟩
set_option maxHeartbeats 2000000 in
set_option maxRecDepth 100000 in
theorem parseUint_any (s : ByteArray) (w : World) (hG : Gw w) (hs : s.size ≤ 65536) :
    Calls Tryz.prog 159 #[.string s, .int .i64 16, .int .i64 64] w fun e w' => SxP s.data.toList e ∧ Below w.heap.size w w' := by
  have cH := hex_all s w hs
  have cE := Lib.hid (fun (W : World) (hW : Below w.heap.size w W) (fn : ByteArray) (k : Int) (hk : k = 1 ∨ k = 2) => (show Calls Tryz.prog 169 #[.string fn, .string s, .int .i64 16, .int .i64 64, .iface 232 (.int .i64 k)] W fun e w' => (∃ q : Nat, e = .returned (.iface 234 (.pointer (some ⟨q, 0, none⟩)))) ∧ Below W.heap.size W w' by
    have hGW := gw_below hG hW
    rcases hk with rfl | rfl
    · obtain ⟨ev, h1, h2⟩ := hGW.rng
      exact (Tryz.strconv_toError_range fn s 16 64 ev W (by omega) h1 h2).mono fun e w' ⟨N, h3, _, _, h4⟩ => ⟨⟨N, h3⟩, h4⟩
    · obtain ⟨ev, h1, h2⟩ := hGW.syn
      exact (Tryz.strconv_toError_syntax fn s 16 64 ev W (by omega) h1 h2).mono fun e w' ⟨N, h3, _, _, h4⟩ => ⟨⟨N, h3⟩, h4⟩))
  clear hG
  go_enter Tryz.func159, Tryz.ntmps159
  go_wp2_with fail
  go_at_call 168
  refine cH.mono ?_
  rintro e w3 ⟨hq, hb3⟩
  clear cH
  rcases hq with ⟨n, h1, h2, h3, rfl⟩ | ⟨x, k, hk, h2, rfl⟩
  · have hfin := Lib.hid (show SxP s.data.toList (.returned (.tuple #[.int .u64 (n : Int), .nilIface])) from .inl ⟨n, h1, h2, h3, rfl⟩)
    have hb3' := Lib.hid hb3
    clear h1 h2 h3 cE hb3
    go_wp2
    go_ret2
    exact ⟨hfin.out, hb3'.out⟩
  · have cT := fun fn => cE.out w3 hb3 fn k hk
    have h2' := Lib.hid h2
    have hb3' := Lib.hid hb3
    clear h2 cE hk hb3
    go_wp2_with fail
    go_at_call 169
    refine (cT _).mono ?_
    rintro e w4 ⟨⟨q, rfl⟩, hb4⟩
    have hb4' := Lib.hid (below_then hb3'.out hb4)
    have hfin := Lib.hid (show SxP s.data.toList (.returned (.tuple #[.int .u64 x, .iface 234 (.pointer (some ⟨q, 0, none⟩))])) from .inr ⟨h2'.out, x, q, rfl⟩)
    clear cT hb4
    go_wp2
    go_ret2
    exact ⟨hfin.out, hb4'.out⟩

/-- what number answers -/
def NumP (d : Row) (e : Ending) : Prop := ∃ (x : Int) (ok : Bool), e = .returned (.tuple #[.int .u64 x, .bool ok]) ∧ (ok = true → ∃ n : Nat, x = (n : Int) ∧ n ≤ 1114111 ∧ codeOf d = some n) ∧ (ok = false → codeOf d = none)
theorem num_ten {d : Row} (h : ([120] : Row).isPrefixOf d = false) : NumP d (Ch.numE (Ch.numS d 1114111)) := by
  refine ⟨_, _, rfl, fun hok => ⟨_, rfl, Ch.numS_le _ _, ?_⟩, fun hok => ?_⟩
  · rw [code10 h, if_pos hok]
  · rw [code10 h, if_neg (by rw [hok]; decide)]
theorem code16 (t : Row) : codeOf (120 :: t) = if t = [] then none else (digN 16 0 t).bind fun n => if n ≤ 1114111 then some n else none := rfl
theorem num_some {t : Row} {n : Nat} (h1 : digN 16 0 t = some n) (h2 : t ≠ []) (h : n ≤ 1114111) : NumP (120 :: t) (.returned (.tuple #[.int .u64 (n : Int), .bool true])) :=
  ⟨_, _, rfl, fun _ => ⟨n, rfl, h, by rw [code16, if_neg h2, h1, Option.bind_some, if_pos h]⟩, fun e => by cases e⟩
theorem num_big {t : Row} {n : Nat} (h1 : digN 16 0 t = some n) (h : ¬ n ≤ 1114111) : NumP (120 :: t) (.returned (.tuple #[.int .u64 (n : Int), .bool false])) :=
  ⟨_, _, rfl, fun e => (by cases e), fun _ => by
    rw [code16]
    split
    · rfl
    · rw [h1, Option.bind_some, if_neg h]⟩
theorem num_none {t : Row} {x : Int} (h : t = [] ∨ ∀ n, digN 16 0 t = some n → 18446744073709551616 ≤ n) : NumP (120 :: t) (.returned (.tuple #[.int .u64 x, .bool false])) :=
  ⟨_, _, rfl, fun e => (by cases e), fun _ => by
    rw [code16]
    rcases h with h | h
    · rw [if_pos h]
    · split
      · rfl
      · cases hd : digN 16 0 t with
        | none => rfl
        | some n =>
          have := h n hd
          rw [Option.bind_some, if_neg (by omega)]⟩
set_option maxHeartbeats 2000000 in
set_option maxRecDepth 100000 in
theorem number_any (s : ByteArray) (w : World) (hG : Gw w) (hs : s.size ≤ 65536) :
    Calls Tryz.prog 139 #[.string s] w fun e w' => NumP s.data.toList e ∧ Below w.heap.size w w' := by
  have cP := pre_any s ⟨#[120]⟩ w
  have cT := Ch.number_any s 1114111 w (by omega) (by decide)
  go_enter Tryz.func139, Tryz.ntmps139
  go_wp2_with fail
  go_at_call 95
  with_reducible refine cP.mono ?_
  rintro e w3 ⟨hq, rfl⟩
  clear cP
  rcases hq with ⟨hn, rfl⟩ | ⟨t, hy, rfl⟩
  · have hfin := Lib.hid (num_ten hn)
    obtain ⟨x, hx⟩ : ∃ x, Ch.numS s.data.toList 1114111 = x := ⟨_, rfl⟩
    rw [hx] at hfin cT
    unfold Ch.numE at hfin cT
    clear hn hx hG
    go_wp2_with fail
    go_at_call 158
    refine cT.mono ?_
    rintro e w4 ⟨rfl, rfl⟩
    clear cT
    go_wp2
    go_ret2
    exact ⟨hfin.out, Below.refl _ _⟩
  · have hsz := pre_size hy
    have hsz' : s.size = 1 + t.size := hsz
    have cX := parseUint_any t w3 hG (by omega)
    have hy' : Hid (s.data.toList = 120 :: t.data.toList) := Lib.hid hy
    clear hy hsz hG cT
    go_wp2_with fail
    go_at_call 159
    refine cX.mono ?_
    rintro e w4 ⟨hq, hb4⟩
    have hb4' := Lib.hid hb4
    clear cX hb4
    rcases hq with ⟨n, h1, h2, h3, rfl⟩ | ⟨h2, x, k, rfl⟩
    · by_cases h4 : n ≤ 1114111
      · have hfin := Lib.hid (num_some h1 h2 h4)
        rw [← hy'.out] at hfin
        have q1 : (n : Int) ≤ 1114111 := by omega
        clear h1 h2 h3 hy' h4
        go_wp2
        go_ret2
        exact ⟨hfin.out, hb4'.out⟩
      · have hfin := Lib.hid (num_big h1 h4)
        rw [← hy'.out] at hfin
        have q1 : (1114111 : Int) < (n : Int) := by omega
        have q2 : decide ((n : Int) ≤ 1114111) = false := decide_eq_false (by omega)
        clear h1 h2 h3 hy' h4
        go_wp2
        go_ret2
        exact ⟨hfin.out, hb4'.out⟩
    · have hfin := Lib.hid (num_none (x := x) h2)
      rw [← hy'.out] at hfin
      clear h2 hy'
      go_wp2
      go_ret2
      exact ⟨hfin.out, hb4'.out⟩
end Go.Proofs.YtmmpojhjpghdlaaGreatDoor.Xm

/-
  WALKS OF THE PROGRAM's READER OF LAYER xml: meant.
-/
set_option linter.unusedVariables false
namespace Go.Proofs.YtmmpojhjpghdlaaGreatDoor.Xm
open Go.Lib Go.RowKit

def MeantP (s : Row) (e : Ending) : Prop := (∃ x : ByteArray, ent s = some x.data.toList ∧ e = .returned (.string x)) ∨ (ent s = none ∧ e = gone)
theorem ent_len {s x : Row} (h : ent s = some x) : x.length ≤ 4 := by
  have h1 : ∀ n, (utf n).length ≤ 4 := fun n => by
    unfold utf
    repeat' split
    all_goals simp
  have h2 : ∀ b d y, numE b d = some y → y.length ≤ 4 := fun b d y hy => by
    unfold numE at hy
    split at hy
    · cases hy
    · cases hd : digN b 0 d with
      | none => rw [hd] at hy; cases hy
      | some n =>
        rw [hd, Option.bind_some] at hy
        split at hy
        · injection hy with hy; rw [← hy]; exact h1 n
        · cases hy
  unfold ent at h
  split at h
  · injection h with h; rw [← h]; decide
  · split at h
    · injection h with h; rw [← h]; decide
    · split at h
      · injection h with h; rw [← h]; decide
      · split at h
        · injection h with h; rw [← h]; decide
        · split at h
          · injection h with h; rw [← h]; decide
          · split at h
            · exact h2 _ _ _ h
            · exact h2 _ _ _ h
            · cases h
theorem nm_yes {s : ByteArray} {l : Row} (h : s.data.toList = l) : (s.toList == l) = true ∧ s.toList = l := ⟨by rw [Lib.toList_data, h]; simp, by rw [Lib.toList_data, h]⟩
theorem nm_not {s : ByteArray} {l : Row} (h : s.data.toList ≠ l) : (s.toList == l) = false ∧ ¬ s.toList = l := ⟨by rw [Lib.toList_data]; exact beq_eq_false_iff_ne.2 h, by rw [Lib.toList_data]; exact h⟩
theorem meant_found {s : Row} {n : Nat} (hn : n ≤ 1114111) {d : Row} (hs : s = 35 :: d) (hc : codeOf d = some n) (hr : Lib.validRune (n : Int) = true) (hv : Ch.valid (Utf8.encode (n : Int)).data.toList = true) : MeantP s (.returned (.string (Utf8.encode (n : Int)))) := by
  refine .inl ⟨_, ?_, rfl⟩
  rw [encode_utf hr] at hv ⊢
  rw [ent_code hs, hc, Option.bind_some, if_pos hv]
theorem meant_bad {s : Row} {n : Nat} (hn : n ≤ 1114111) {d : Row} (hs : s = 35 :: d) (hc : codeOf d = some n) (hv : Lib.validRune (n : Int) = false ∨ (Lib.validRune (n : Int) = true ∧ Ch.valid (Utf8.encode (n : Int)).data.toList = false)) : MeantP s gone := by
  refine .inr ⟨?_, rfl⟩
  rw [ent_code hs, hc, Option.bind_some, if_neg]
  rcases hv with h | ⟨h, hv⟩
  · rw [utf_bad hn h]; decide
  · rw [encode_utf h] at hv; rw [hv]; decide
set_option maxHeartbeats 4000000 in
set_option maxRecDepth 100000 in
theorem meant_any (s : ByteArray) (w : World) (hG : Gw w) (hs : s.size ≤ 65536) :
    Calls Tryz.prog 123 #[.string s] w fun e w' => MeantP s.data.toList e ∧ Below w.heap.size w w' := by
  have cT := fun (t : ByteArray) (ht : t.size ≤ 65536) => number_any t w hG ht
  have hGW := Lib.hid (fun (W : World) (hW : Below w.heap.size w W) => (gw_below hG hW).tabs)
  have cP := pre_any s ⟨#[35]⟩ w
  clear hG
  by_cases h1 : s.data.toList = [97, 109, 112]
  · have hfin := Lib.hid (show MeantP s.data.toList (.returned (.string ⟨#[38]⟩)) from .inl ⟨_, by rw [h1]; rfl, rfl⟩)
    obtain ⟨e1, e1'⟩ := nm_yes h1
    clear cT cP h1
    go_enter Tryz.func123, Tryz.ntmps123
    go_wp2
    go_ret
    exact ⟨hfin.out, Below.refl _ _⟩
  obtain ⟨e1, e1'⟩ := nm_not h1
  by_cases h2 : s.data.toList = [108, 116]
  · have hfin := Lib.hid (show MeantP s.data.toList (.returned (.string ⟨#[60]⟩)) from .inl ⟨_, by rw [h2]; rfl, rfl⟩)
    obtain ⟨e2, e2'⟩ := nm_yes h2
    clear cT cP h2 h1
    go_enter Tryz.func123, Tryz.ntmps123
    go_wp2
    go_ret
    exact ⟨hfin.out, Below.refl _ _⟩
  obtain ⟨e2, e2'⟩ := nm_not h2
  by_cases h3 : s.data.toList = [103, 116]
  · have hfin := Lib.hid (show MeantP s.data.toList (.returned (.string ⟨#[62]⟩)) from .inl ⟨_, by rw [h3]; rfl, rfl⟩)
    obtain ⟨e3, e3'⟩ := nm_yes h3
    clear cT cP h3 h2 h1
    go_enter Tryz.func123, Tryz.ntmps123
    go_wp2
    go_ret
    exact ⟨hfin.out, Below.refl _ _⟩
  obtain ⟨e3, e3'⟩ := nm_not h3
  by_cases h4 : s.data.toList = [113, 117, 111, 116]
  · have hfin := Lib.hid (show MeantP s.data.toList (.returned (.string ⟨#[34]⟩)) from .inl ⟨_, by rw [h4]; rfl, rfl⟩)
    obtain ⟨e4, e4'⟩ := nm_yes h4
    clear cT cP h4 h3 h2 h1
    go_enter Tryz.func123, Tryz.ntmps123
    go_wp2
    go_ret
    exact ⟨hfin.out, Below.refl _ _⟩
  obtain ⟨e4, e4'⟩ := nm_not h4
  by_cases h5 : s.data.toList = [97, 112, 111, 115]
  · have hfin := Lib.hid (show MeantP s.data.toList (.returned (.string ⟨#[39]⟩)) from .inl ⟨_, by rw [h5]; rfl, rfl⟩)
    obtain ⟨e5, e5'⟩ := nm_yes h5
    clear cT cP h5 h4 h3 h2 h1
    go_enter Tryz.func123, Tryz.ntmps123
    go_wp2
    go_ret
    exact ⟨hfin.out, Below.refl _ _⟩
  obtain ⟨e5, e5'⟩ := nm_not h5
  have hoth : Hid (([35] : Row).isPrefixOf s.data.toList = false → ent s.data.toList = none) := Lib.hid fun h => ent_other h h1 h2 h3 h4 h5
  clear h1 h2 h3 h4 h5
  go_enter Tryz.func123, Tryz.ntmps123
  go_wp2_with fail
  go_at_call 95
  with_reducible refine cP.mono ?_
  rintro e w3 ⟨hq, rfl⟩
  clear cP
  rcases hq with ⟨hn, rfl⟩ | ⟨t, hy, rfl⟩
  · have hfin := Lib.hid (show MeantP s.data.toList gone from .inr ⟨hoth.out hn, rfl⟩)
    have cN := cT s hs
    clear cT hn hoth
    go_wp2_with fail
    go_at_call 139
    refine cN.mono ?_
    rintro e w4 ⟨⟨x, ok, rfl, _, _⟩, hb4⟩
    have hb4' := Lib.hid hb4
    have cG := giveUp_any w4
    unfold gone at cG hfin
    clear cN hb4 hGW
    go_wp2_with fail
    go_at_call 72
    with_reducible refine cG.mono ?_
    rintro e w5 ⟨rfl, rfl⟩
    go_wp2
    exact ⟨rfl, hfin.out, hb4'.out⟩
  · have hsz := pre_size hy
    have hsz' : s.size = 1 + t.size := hsz
    have hy' : Hid (s.data.toList = 35 :: t.data.toList) := Lib.hid hy
    have cN := cT t (by omega)
    clear cT hy hsz hoth
    go_wp2_with fail
    go_at_call 139
    refine cN.mono ?_
    rintro e w4 ⟨⟨x, ok, rfl, hok, hno⟩, hb4⟩
    have hb4' := Lib.hid hb4
    have hT4 := Lib.hid (fun (W : World) (hW : Below w4.heap.size w4 W) => hGW.out W (below_then hb4 hW))
    clear cN hb4 hGW
    cases ok with
    | false =>
      have hfin := Lib.hid (show MeantP s.data.toList gone from .inr ⟨by rw [ent_code hy'.out, hno rfl]; rfl, rfl⟩)
      have cG := giveUp_any w4
      unfold gone at cG hfin
      clear hok hno hT4
      go_wp2_with fail
      go_at_call 72
      with_reducible refine cG.mono ?_
      rintro e w5 ⟨rfl, rfl⟩
      go_wp2
      exact ⟨rfl, hfin.out, hb4'.out⟩
    | true =>
      obtain ⟨n, rfl, hn, hc⟩ := hok rfl
      have hc' := Lib.hid hc
      have hn' := Lib.hid hn
      have r1 : IntKind.i32.wrap (n : Int) = (n : Int) := by rw [IntKind.wrap_i32]; omega
      have cV := fun W => Tryz.utf8_ValidRune (n : Int) W
      obtain ⟨K, hK⟩ : ∃ K, Lib.validRune (n : Int) = K := ⟨_, rfl⟩
      rw [hK] at cV
      have hK' := Lib.hid hK
      clear hno hc hok hK
      cases K with
      | false =>
        have hfin := Lib.hid (meant_bad hn hy'.out hc'.out (.inl hK'.out))
        have cG := giveUp_any w4
        unfold gone at cG hfin
        clear hT4 hn
        go_wp2_with fail
        go_at_call 140
        with_reducible refine (cV _).mono ?_
        rintro e w5 ⟨rfl, rfl⟩
        go_wp2_with fail
        go_at_call 72
        with_reducible refine cG.mono ?_
        rintro e w5 ⟨rfl, rfl⟩
        go_wp2
        exact ⟨rfl, hfin.out, hb4'.out⟩
      | true =>
        obtain ⟨y, hy2⟩ : ∃ y, Utf8.encode (n : Int) = y := ⟨_, rfl⟩
        obtain ⟨K2, hK2⟩ : ∃ K2, Ch.valid (Utf8.encode (n : Int)).data.toList = K2 := ⟨_, rfl⟩
        have hys : y.size ≤ 4 := by
          rw [← hy2, Lib.size_eq, encode_utf hK'.out]
          unfold utf
          repeat' split
          all_goals simp
        have cW := Ch.valid_any y w4 (by omega) (hT4.out w4 (Below.refl _ _))
        rw [← hy2, hK2] at cW
        cases K2 with
        | true =>
          have hfin := Lib.hid (meant_found hn hy'.out hc'.out hK'.out hK2)
          rw [hy2] at hfin cW
          clear hT4 hn hK2 hys
          go_wp2_with fail
          go_at_call 140
          with_reducible refine (cV _).mono ?_
          rintro e w5 ⟨rfl, rfl⟩
          go_wp2_with fail
          go_at_call 37
          refine cW.mono ?_
          rintro e w6 ⟨rfl, hb6⟩
          have hb6' := Lib.hid (below_then hb4'.out hb6)
          clear cW hb6
          go_wp2
          go_ret
          exact ⟨hfin.out, hb6'.out⟩
        | false =>
          have hfin := Lib.hid (meant_bad hn hy'.out hc'.out (.inr ⟨hK'.out, hK2⟩))
          rw [hy2] at cW
          clear hT4 hn hK2 hys
          go_wp2_with fail
          go_at_call 140
          with_reducible refine (cV _).mono ?_
          rintro e w5 ⟨rfl, rfl⟩
          go_wp2_with fail
          go_at_call 37
          refine cW.mono ?_
          rintro e w6 ⟨rfl, hb6⟩
          have hb6' := Lib.hid (below_then hb4'.out hb6)
          have cG := giveUp_any w6
          unfold gone at cG hfin
          clear cW hb6
          go_wp2_with fail
          go_at_call 72
          with_reducible refine cG.mono ?_
          rintro e w7 ⟨rfl, rfl⟩
          go_wp2
          exact ⟨rfl, hfin.out, hb6'.out⟩
end Go.Proofs.YtmmpojhjpghdlaaGreatDoor.Xm

/-
  WALKS OF THE PROGRAM's READER OF LAYER xml: what stands in an element, given what an element is read as.
-/
set_option linter.unusedVariables false
namespace Go.Proofs.YtmmpojhjpghdlaaGreatDoor.Xm
open Go.Lib Go.RowKit

theorem pre_two {a c : UInt8} {t : Row} (h : ([a, c] : Row).isPrefixOf t = true) : ∃ u, t = a :: c :: u := by
  rcases pre_split [a, c] t with ⟨_, u, hu⟩ | hf
  · exact ⟨u, hu⟩
  · rw [h] at hf; cases hf
/-- how much there is at most -/
def Room (σ : St) : Prop := σ.rest.length ≤ 65536 ∧ σ.txt.length + 4 * σ.rest.length ≤ 262144 ∧ σ.pcs.length + 4 * σ.rest.length ≤ 262144
/-- the reader stands at σ -/
structure Sits (w0 : World) (b : Nat) (σ : St) (x : ByteArray) (q : Value) (w : World) : Prop where
  rest : σ.rest = x.data.toList
  bef : Bef w0 b x σ.txt (σ.pcs, q) w
  room : Room σ
theorem Sits.own {w0 w : World} {b : Nat} {σ : St} {x : ByteArray} {q : Value} (h : Sits w0 b σ x q w) : PsOwn w0.heap.size q σ.pcs w := by
  obtain ⟨p, v, hv⟩ := h.bef.rd
  exact hv.pcs
theorem Sits.small {w0 w : World} {b : Nat} {σ : St} {x : ByteArray} {q : Value} (h : Sits w0 b σ x q w) : x.size ≤ 65536 ∧ σ.txt.length + 4 * x.size ≤ 262144 ∧ σ.pcs.length + 4 * x.size ≤ 262144 := by
  have := h.room
  unfold Room at this
  rw [h.rest, ← Lib.size_eq] at this
  exact this
/-- what stays the same while elements come and go -/
def Like (σ τ : St) : Prop := ans σ = ans τ ∧ τ.stack = σ.stack ∧ τ.env = σ.env ∧ τ.had = σ.had
theorem Like.refl (σ : St) : Like σ σ := ⟨rfl, rfl, rfl, rfl⟩
theorem Like.trans {σ τ υ : St} (h : Like σ τ) (k : Like τ υ) : Like σ υ := ⟨h.1.trans k.1, k.2.1.trans h.2.1, k.2.2.1.trans h.2.2.1, k.2.2.2.trans h.2.2.2⟩
/-- an element read, with all that is in it -/
def ElemP (w0 w : World) (b : Nat) (q : Value) (σ : St) (r : ByteArray) (e : Ending) (w' : World) : Prop :=
  (∃ (τ : St) (x : ByteArray) (q' : Value), ans σ = ans τ ∧ τ.stack = σ.stack ∧ τ.env = σ.env ∧ τ.had = true ∧ τ.txt = [] ∧ Sits w0 b τ x q' w' ∧ x.size < r.size ∧ KeptW q w q' w' ∧ e = .returned (.tuple #[])) ∨
  (ans σ = none ∧ e = gone ∧ Below w0.heap.size w0 w' ∧ ∃ q' : Value, KeptW q w q' w')
/-- of what is asked an element -/
structure Opens (σ : St) (E : List Env) (v : Value) (d : Nat) (w : World) : Prop where
  chain : Chain w v E
  env : σ.env = E.flatten
  deep : d = σ.stack.length + 1
  opens : ∀ t, σ.rest = 60 :: t → step σ = opens σ t
  no : σ.rest.head? ≠ some 60 → ans σ = none
def ElemC (n : Nat) : Prop := ∀ (w0 w : World) (b : Nat) (σ : St) (r : ByteArray) (q : Value) (E : List Env) (v : Value) (d : Nat), r.size ≤ n → Gw w0 → Sits w0 b σ r q w → Opens σ E v d w →
  Calls Tryz.prog 71 #[.pointer (some ⟨b, 0, none⟩), v, .int .i64 (d : Int)] w fun e w' => ElemP w0 w b q σ r e w'
/-- what stands in an element -/
def ContP (w0 w : World) (b : Nat) (q : Value) (σ : St) (r : ByteArray) (e : Ending) (w' : World) : Prop :=
  (∃ (τ : St) (x : ByteArray) (q' : Value), Like σ τ ∧ Sits w0 b τ x q' w' ∧ (∃ t, τ.rest = 60 :: 47 :: t) ∧ x.size ≤ r.size ∧ KeptW q w q' w' ∧ e = .returned (.tuple #[])) ∨
  (ans σ = none ∧ e = gone ∧ Below w0.heap.size w0 w' ∧ ∃ q' : Value, KeptW q w q' w')
theorem sits_rest {w0 w w' : World} {b : Nat} {σ : St} {x x' : ByteArray} {q : Value} (h : Sits w0 b σ x q w) (hb : Bef w0 b x' σ.txt (σ.pcs, q) w') (hs : x'.size ≤ x.size) : Sits w0 b { σ with rest := x'.data.toList } x' q w' := by
  have h1 := h.small
  refine ⟨rfl, hb, ?_⟩
  unfold Room
  simp only
  rw [← Lib.size_eq]
  omega
theorem sits_text {w0 w w' : World} {b : Nat} {σ : St} {x x' : ByteArray} {a : Row} {q : Value} (h : Sits w0 b σ x q w) (hb : Bef w0 b x' (σ.txt ++ a) (σ.pcs, q) w') (hs : a.length + 4 * x'.size ≤ 4 * x.size) : Sits w0 b { σ with rest := x'.data.toList, txt := σ.txt ++ a } x' q w' := by
  have h1 := h.small
  refine ⟨rfl, hb, ?_⟩
  unfold Room
  simp only
  rw [← Lib.size_eq, List.length_append]
  omega
theorem like_rest {σ τ : St} {v : Row} (h : Like σ τ) (ha : ans τ = ans { τ with rest := v }) : Like σ { τ with rest := v } := h.trans ⟨ha, rfl, rfl, rfl⟩
theorem like_text {σ τ : St} {v a : Row} (h : Like σ τ) (ha : ans τ = ans { τ with rest := v, txt := τ.txt ++ a }) : Like σ { τ with rest := v, txt := τ.txt ++ a } := h.trans ⟨ha, rfl, rfl, rfl⟩
set_option maxHeartbeats 4000000 in
set_option maxRecDepth 100000 in
theorem content_any (n : Nat) (hE : ElemC n) {w0 w : World} (hG : Gw w0) {b : Nat} {σ : St} {r : ByteArray} {q : Value} {E : List Env} {v : Value} (d : Nat) (hn : r.size ≤ n) (h : Sits w0 b σ r q w) (hc : Chain w v E) (henv : σ.env = E.flatten) (hst : σ.stack ≠ []) (hhad : σ.had = true) (hd : d = σ.stack.length) (hdb : d ≤ 100) :
    Calls Tryz.prog 104 #[.pointer (some ⟨b, 0, none⟩), v, .int .i64 (d : Int)] w fun e w' => ContP w0 w b q σ r e w' := by
  have h' := Lib.hid h
  have hown := Lib.hid h.own
  have hd' := Lib.hid hd
  have hd1 : IntKind.i64.wrap ((d : Int) + 1) = (d : Int) + 1 := IntWalk.i64_in _ (by omega)
  clear h hd
  go_enter Tryz.func104, Tryz.ntmps104
  go_wp2
  go_loopw [] (fun wr => ∃ (τ : St) (x : ByteArray) (q1 : Value), Like σ τ ∧ Sits w0 b τ x q1 wr ∧ KeptW q w q1 wr ∧ x.size ≤ r.size) (fun wr => restSize b wr)
  case atStart => exact ⟨σ, r, q, Like.refl _, h'.out, KeptW.refl _ _, Nat.le_refl _⟩
  case round =>
    obtain ⟨τ, x, q1, hl, hS, hk, hx⟩ := hrel
    obtain ⟨hx1, hx2, hx3⟩ := hS.small
    obtain ⟨c0, f0⟩ := hS.bef.cell
    have hrs := hS.bef.size
    have hl' := Lib.hid hl
    have hS' := Lib.hid hS
    have hk' := Lib.hid hk
    have hts : Hid (τ.stack ≠ []) := Lib.hid (by rw [hl.2.1]; exact hst)
    have cH := hasPre_any x ⟨#[60, 47]⟩ wr
    obtain ⟨K, hK⟩ : ∃ K, (⟨#[60, 47]⟩ : ByteArray).data.toList.isPrefixOf x.data.toList = K := ⟨_, rfl⟩
    rw [hK] at cH
    have hK' : Hid (([60, 47] : Row).isPrefixOf x.data.toList = K) := Lib.hid hK
    have cR := remark_any hG hS.bef hx1
    clear hl hS hk hK h'
    go_wp2_with fail
    go_at_call 121
    with_reducible refine cH.mono ?_
    rintro e w3 ⟨rfl, rfl⟩
    clear cH
    cases K with
    | true =>
      have hfin := Lib.hid (show ContP w0 w b q σ r (.returned (.tuple #[])) w3 from .inl ⟨τ, x, q1, hl'.out, hS'.out, by rw [hS'.out.rest]; exact pre_two hK'.out, hx, hk'.out, rfl⟩)
      clear hl' hS' hK' cR hts
      go_wp2
      go_end0
      exact hfin.out
    | false =>
      go_wp2_with fail
      go_at_call 98
      with_reducible refine cR.mono ?_
      rintro e w4 ⟨hq, hk4⟩
      clear cR
      have hk4' := Lib.hid (hk'.out.trans hk4.W)
      clear hk4 hk'
      rcases hq with ⟨t, r', hy, hv, rfl, h4⟩ | ⟨hnr, rfl, h4⟩ | ⟨t, hy, hv, rfl, h4⟩
      · have hlt := remark_size hy hv
        have hrel2 := Lib.hid (show ∃ (τ : St) (x : ByteArray) (q1 : Value), Like σ τ ∧ Sits w0 b τ x q1 w4 ∧ KeptW q w q1 w4 ∧ x.size ≤ r.size from ⟨_, r', _, like_rest hl'.out (by rw [ans_remark (by rw [hS'.out.rest]; exact hy), hv]; rfl), sits_rest hS'.out h4 (by omega), hk4'.out, by omega⟩)
        have hm := Lib.hid (show restSize b w4 < restSize b w3 by rw [h4.size, hrs]; exact hlt)
        clear hy hv h4 hl' hS' hK' hts hlt
        go_wp2
        go_roundw
        case rel => exact hrel2.out
        case measure => exact hm.out
      · have cC := characters_any h4 hx1 (by omega)
        have hnr' := Lib.hid hnr
        clear h4 hnr
        go_wp2_with fail
        go_at_call 122
        with_reducible refine cC.mono ?_
        rintro e w5 ⟨hq, hk5⟩
        clear cC
        have hk5' := Lib.hid (hk4'.out.trans hk5.W)
        clear hk5 hk4'
        rcases hq with ⟨a, x', hsp, hno, hhd, rfl, h5⟩ | ⟨hno, rfl, h5⟩
        · have hsz : x.size = a.size + x'.size := by
            have := congrArg List.length hsp
            rw [List.length_append, ← Lib.size_eq, ← Lib.size_eq, ← Lib.size_eq] at this
            exact this
          by_cases ha : 0 < a.size
          · have had : decide (0 < a.size) = true := decide_eq_true ha
            rw [had]
            have hrel2 := Lib.hid (show ∃ (τ : St) (x : ByteArray) (q1 : Value), Like σ τ ∧ Sits w0 b τ x q1 w5 ∧ KeptW q w q1 w5 ∧ x.size ≤ r.size from ⟨_, x', _, like_text hl'.out (ans_bytes (by rw [hS'.out.rest]; exact hsp) hts.out hno), sits_text hS'.out h5 (by rw [← Lib.size_eq]; omega), hk5'.out, by omega⟩)
            have hm := Lib.hid (show restSize b w5 < restSize b w3 by rw [h5.size, hrs]; omega)
            clear hsp hno hhd h5 hl' hS' hK' hts had hnr'
            go_wp2
            go_roundw
            case rel => exact hrel2.out
            case measure => exact hm.out
          · have had : decide (0 < a.size) = false := decide_eq_false ha
            rw [had]
            have han : a.data.toList = [] := List.eq_nil_of_length_eq_zero (by rw [← Lib.size_eq]; omega)
            rw [han, List.nil_append] at hsp
            rw [han, List.append_nil] at h5
            have hxx : x = x' := data_is hsp
            subst hxx
            have hhd' := Lib.hid hhd
            have cT := take_any h5 ⟨#[38]⟩
            clear hsp hno hhd h5 had han hsz ha
            go_wp2_with fail
            go_at_call 68
            with_reducible refine cT.mono ?_
            rintro e w6 ⟨hq, hk6⟩
            clear cT
            have hk6' := Lib.hid (hk5'.out.trans hk6.W)
            clear hk6 hk5'
            rcases hq with ⟨x2, hy, rfl, h6⟩ | ⟨hn38, rfl, h6⟩
            · have hsz2 := pre_size hy
              have hsz2' : x.size = 1 + x2.size := hsz2
              have hy' : Hid (x.data.toList = 38 :: x2.data.toList) := Lib.hid hy
              have h6' := Lib.hid h6
              have cU := until_any hG (h6.kept (Below.drew (Below.refl _ _))) ⟨#[59]⟩ (by decide) (by omega)
              clear hy h6 hsz2 hhd' hnr' hK'
              have hB6 : Below w0.heap.size w0 w6.drew := h6'.out.bel.trans ((Below.drew (Below.refl _ _)).mono h6'.out.bel.size)
              go_wp2_with fail
              go_region_with (first
                  | (go_at_call 69
                     refine cU.mono ?_
                     rintro e w7 ⟨hq, hk7⟩
                     rcases hq with ⟨a2, x3, hf, rfl, h7⟩ | ⟨hnf, rfl, hb7⟩
                     rotate_left
                     · have hfin := Lib.hid (show ContP w0 w b q σ r gone w7 from .inr ⟨by rw [hl'.out.1, ans_ent (by rw [hS'.out.rest]; exact hy'.out) hts.out, show find [59] x2.data.toList = none from hnf]; rfl, rfl, hb7, _, hk6'.out.trans ((KeptR.of_below (Below.drew (Below.refl _ _))).trans hk7).W⟩)
                       unfold gone at hfin ⊢
                       go_wp2
                       exact ⟨rfl, hfin.out⟩
                     have hbel7 := h7.bel
                     have hsa := find_sizes (by decide) hf
                     rw [← Lib.size_eq] at hsa
                     have cM := meant_any a2 w7 (h7.gw hG) (by omega))
                  | (go_at_call 123
                     refine cM.mono ?_
                     rintro e w8 ⟨hq8, hb8⟩
                     rcases hq8 with ⟨y, hy8, rfl⟩ | ⟨hy8, rfl⟩
                     rotate_left
                     · have hfin := Lib.hid (show ContP w0 w b q σ r gone w8 from .inr ⟨by rw [hl'.out.1, ans_ent (by rw [hS'.out.rest]; exact hy'.out) hts.out, show find [59] x2.data.toList = _ from hf, Option.bind_some, hy8]; rfl, rfl, (h7.kept hb8).bel, _, hk6'.out.trans (((KeptR.of_below (Below.drew (Below.refl _ _))).trans hk7).trans (KeptR.of_below hb8)).W⟩)
                       unfold gone at hfin ⊢
                       go_wp2
                       exact ⟨rfl, hfin.out⟩
                     have h8 := h7.kept hb8
                     have hbel8 := h8.bel
                     have hy4 := ent_len hy8
                     rw [← Lib.size_eq] at hy4
                     obtain ⟨p8, v8, hv8⟩ := h8.rd
                     have cW := rdWrite_any hv8 y (by omega) h8.bel.size)
                  | (go_at_call 84
                     refine cW.mono ?_
                     rintro e w9 ⟨rfl, hrd9, hb9, hk9⟩
                     have hbel9 : Below w0.heap.size w0 w9 := hbel8.trans hb9))
              have hk9' := Lib.hid (hk6'.out.trans ((((KeptR.of_below (Below.drew (Below.refl _ _))).trans hk7).trans (KeptR.of_below hb8)).trans hk9).W)
              have hBef9 : Bef w0 b x3 (τ.txt ++ y.data.toList) (τ.pcs, q1) w9 := ⟨hbel9, hrd9⟩
              have hrel2 := Lib.hid (show ∃ (τ : St) (x : ByteArray) (q1 : Value), Like σ τ ∧ Sits w0 b τ x q1 w9 ∧ KeptW q w q1 w9 ∧ x.size ≤ r.size from
                ⟨_, x3, _, like_text (a := y.data.toList) (v := x3.data.toList) hl'.out (by rw [ans_ent (by rw [hS'.out.rest]; exact hy'.out) hts.out, show find [59] x2.data.toList = some (a2.data.toList, x3.data.toList) from hf, Option.bind_some, hy8]; rfl), sits_text hS'.out hBef9 (by rw [← Lib.size_eq]; omega), hk9'.out, by omega⟩)
              have hm := Lib.hid (show restSize b w9 < restSize b w3 by rw [hBef9.size, hrs]; omega)
              clear hBef9 hk9' hbel9 hrd9 hb9 hk9 cW hv8 hy4 hbel8 h8 hy8 hb8 cM hsa hbel7 h7 hf hk7
              go_wp2
              go_roundw
              case rel => exact hrel2.out
              case measure => exact hm.out
            · have h60 : Hid (∃ t, τ.rest = 60 :: t) := Lib.hid (by
                obtain ⟨c, t, hct, hc⟩ := hhd'.out
                rcases hc with rfl | rfl
                · exact ⟨t, by rw [hS'.out.rest]; exact hct⟩
                · rw [hct] at hn38; simp at hn38)
              have hop : Opens τ E v (d + 1) w6 := ⟨hc.kept (hk6'.out.old hown.out), by rw [hl'.out.2.2.1]; exact henv, by rw [hd'.out, hl'.out.2.1], fun t ht => step_in ht hts.out (by
                have := hK'.out
                rw [← hS'.out.rest, ht] at this
                simpa [List.isPrefixOf] using this) (by
                have := hnr'.out
                rw [← hS'.out.rest, ht] at this
                simpa [List.isPrefixOf, remarkS] using this), fun hne => by
                obtain ⟨t, ht⟩ := h60.out
                rw [ht] at hne
                exact absurd rfl hne⟩
              have hS6 : Sits w0 b τ x q1 w6 := ⟨hS'.out.rest, h6, hS'.out.room⟩
              have cE := hE w0 w6 b τ x q1 E v (d + 1) (by omega) hG hS6 hop
              rw [show ((d + 1 : Nat) : Int) = (d : Int) + 1 from rfl] at cE
              clear hn38 h6 hop hS6 h60 hhd' hnr' hK'
              go_wp2_with fail
              go_at_call 71
              with_reducible refine cE.mono ?_
              rintro e w7 hq
              clear cE
              rcases hq with ⟨υ, y, q9, z1, z2, z3, z4, z5, z6, z7, z8, rfl⟩ | ⟨z1, rfl, z2, q9, z9⟩
              · have hl7 := hl'.out
                have hrel2 := Lib.hid (show ∃ (τ : St) (x : ByteArray) (q1 : Value), Like σ τ ∧ Sits w0 b τ x q1 w7 ∧ KeptW q w q1 w7 ∧ x.size ≤ r.size from
                  ⟨υ, y, q9, hl7.trans ⟨z1, z2, z3, by rw [z4, hl7.2.2.2, hhad]⟩, z6, hk6'.out.trans z8, by omega⟩)
                have hm := Lib.hid (show restSize b w7 < restSize b w3 by rw [z6.bef.size, hrs]; exact z7)
                clear z1 z2 z3 z4 z5 z6 z8 hl' hS' hts hl7
                go_wp2
                go_roundw
                case rel => exact hrel2.out
                case measure => exact hm.out
              · have hfin := Lib.hid (show ContP w0 w b q σ r gone w7 from .inr ⟨by rw [hl'.out.1, z1], rfl, z2, q9, hk6'.out.trans z9⟩)
                clear z1 z2 z9 hl' hS' hts
                unfold gone at hfin ⊢
                go_wp2
                exact ⟨rfl, hfin.out⟩
        · have hfin := Lib.hid (show ContP w0 w b q σ r gone w5 from .inr ⟨by rw [hl'.out.1, ans_bytes_end hts.out (by rw [hS'.out.rest]; exact hno)], rfl, h5, _, hk5'.out⟩)
          clear hno h5 hl' hS' hK' hts hnr'
          unfold gone at hfin ⊢
          go_wp2
          exact ⟨rfl, hfin.out⟩
      · have hfin := Lib.hid (show ContP w0 w b q σ r gone w4 from .inr ⟨by rw [hl'.out.1, ans_remark (by rw [hS'.out.rest]; exact hy), hv]; rfl, rfl, h4, _, hk4'.out⟩)
        clear hy hv h4 hl' hS' hK' hts
        unfold gone at hfin ⊢
        go_wp2
        exact ⟨rfl, hfin.out⟩
end Go.Proofs.YtmmpojhjpghdlaaGreatDoor.Xm
