/-
  THE WALK OF THE REFERENCE's List.
-/
import Derived.Test.YtgpkkdimafmehaaDoorCondRef
set_option linter.unusedVariables false
namespace Go.Proofs.YtgpkkdimafmehaaDoor.Co
open Go.Lib Go.RowKit Go.Shelf

/-- one number more -/
theorem append_nat {w0 : World} {ops : Array Oper} {rest : List Oper} {o : Oper} {a : Act} {Q : Exit → Act → World → Prop} (m : Nat) (hgd : o.guard = none) (s xo : Operand)
    (ho : o.op = .call { callee := .builtin .append, args := #[s, xo], argTypes := #[27, 27] }) (base : Nat) (v : Value) (ts : List Nat) (g : Nat) (hgz : g = w0.heap.size) (hs : a.eval s = v) (hx : a.eval xo = .slice (some ⟨g, 0, none⟩) 1 1)
    (hown : w0.ownsRow base 3 1 v ts.length (ts.map iv)) (hl : ts.length ≤ 1099511627776) (hbase : base ≤ w0.heap.size)
    (h : ∀ v' w', w'.ownsRow base 3 1 v' (ts ++ [m]).length ((ts ++ [m]).map iv) → (w0.alloc (.cells #[.int .i64 (m : Int)] 3)).grownBy w' v.ownBlock → wpList Tryd.prog ops Q rest (a.put o.dst v') w') :
    wpList Tryd.prog ops Q (o :: rest) a (w0.alloc (.cells #[.int .i64 (m : Int)] 3)) := by
  obtain ⟨i0, hi, hz0, hz1, hz2⟩ := info_parts infoInt
  subst hgz
  refine wpList_append_own _ hgd s xo 27 ho base 3 i0 (.int .i64 0) 1 8 Tryd.underlying27 hi hz0 hz1 hz2 rfl (by decide) v ts.length (ts.map iv) hs (World.ownsRow.alloc hown _) ⟨w0.heap.size, 0, none⟩ 1 1 [iv m] hx rfl (fun j u hj => ?_) (fun u hu => ?_) (by unfold maxLen; omega) (by omega) (by simp; omega) (fun v' w' h5 h6 _ => h v' w' (by rw [List.map_append, List.length_append]; exact h5) h6)
  · match j, hj with
    | 0, hj => simp at hj; subst hj; simp [Addr.add, iv]
  · simp at hu
    subst hu; rfl
theorem below_app {a w0 w' : World} {B B' : Nat} {e : TypeId} {size n : Nat} {v : Value} {xs : List Value} {o : Obj} (hb : Below B a w0) (hB : B ≤ w0.heap.size) (hown : w0.ownsRow B' e size v n xs) (hBB : B ≤ B') (hg : (w0.alloc o).grownBy w' v.ownBlock) : Below B a w' :=
  (hb.alloc hB o).grown hg (by simp; omega) (fun k hk => Nat.le_trans hBB (hown.lt k hk).1)

/-- what the reference's List answers -/
def RefP (l : Row) (e : Ending) (w' : World) : Prop :=
  (cond l = none ∧ e = .returned (.tuple #[.slice none 0 0, .bool false, .bool false])) ∨
  ∃ (ts : List Nat) (all : Bool) (v : Value), cond l = some (ts, all) ∧ NsAt w' v ts ∧ e = .returned (.tuple #[v, .bool all, .bool true])

/-- where the reader stands: a piece begins at a, no comma from there to i; or all is read -/
def At (s : ByteArray) (done : List Row) (a i : Nat) : Prop :=
  (a ≤ i ∧ i ≤ s.size ∧ spl s.data.toList = done ++ spl (s.data.toList.drop a) ∧ (44 : UInt8) ∉ mid s a i) ∨ (i = s.size + 1 ∧ spl s.data.toList = done)
theorem mid_nil (s : ByteArray) (a : Nat) : mid s a a = [] := by unfold mid; rw [Nat.sub_self]; rfl
theorem at_start (s : ByteArray) : At s [] 0 0 := .inl ⟨Nat.le_refl _, Nat.zero_le _, rfl, by rw [mid_nil]; simp⟩
theorem at_own {s : ByteArray} {done : List Row} {a i : Nat} (h : At s done a i) (hi : i < s.size) (hc : (s[i]'hi) ≠ 44) : At s done a (i + 1) := by
  rcases h with ⟨h1, h2, h3, h4⟩ | ⟨h1, _⟩
  · refine .inl ⟨by omega, by omega, h3, ?_⟩
    rw [mid_last (N := i) (by omega) rfl hi]
    simp only [List.mem_append, List.mem_singleton, not_or]
    exact ⟨h4, fun e => hc e.symm⟩
  · omega
theorem mid_drop {s : ByteArray} {a i : Nat} (h : a ≤ i) : s.data.toList.drop a = mid s a i ++ s.data.toList.drop i := by
  unfold mid
  conv => lhs; rw [← List.take_append_drop (i - a) (s.data.toList.drop a)]
  rw [List.drop_drop, show a + (i - a) = i by omega]
/-- a piece is whole -/
theorem at_piece {s : ByteArray} {done : List Row} {a i : Nat} (h : At s done a i) (hi : i ≤ s.size) (hc : i = s.size ∨ ∃ hi : i < s.size, s[i]'hi = 44) :
    a ≤ i ∧ At s (done ++ [mid s a i]) (i + 1) (i + 1) ∧ ∃ r, spl s.data.toList = done ++ mid s a i :: r := by
  rcases h with ⟨h1, h2, h3, h4⟩ | ⟨h1, _⟩
  · refine ⟨h1, ?_⟩
    rcases hc with rfl | ⟨hlt, hc⟩
    · rw [mid_drop h1, List.drop_of_length_le (by rw [← Lib.size_eq]; exact Nat.le_refl _), List.append_nil, spl_own h4] at h3
      exact ⟨.inr ⟨rfl, h3⟩, [], h3⟩
    · rw [mid_drop h1, drop_at hlt, hc, spl_at _ h4] at h3
      refine ⟨.inl ⟨Nat.le_refl _, by omega, ?_, by rw [mid_nil]; simp⟩, _, h3⟩
      rw [h3]; simp
  · omega

set_option maxHeartbeats 8000000 in
set_option maxRecDepth 100000 in
theorem refList_any (s : ByteArray) (w : World) (hs : s.size ≤ 1099511627776) :
    Calls Tryd.prog 13 #[.string s] w fun e w' => RefP s.data.toList e w' ∧ Below w.heap.size w w' := by
  have cT := refTrim_any s w (by omega)
  obtain ⟨x, hx, hxl⟩ := sv_some (trim s.data.toList)
  rw [hx] at cT
  clear hx
  by_cases hst : trim s.data.toList = [42]
  · have hE : (x.toList == [42]) = true := by rw [Lib.toList_data, hxl, hst]; rfl
    have hfin : RefP s.data.toList (.returned (.tuple #[.slice none 0 0, .bool true, .bool true])) w := .inr ⟨[], true, _, by unfold cond; rw [if_pos hst], nsAt_nil _, rfl⟩
    have hfin' := Lib.hid hfin
    clear hfin hst hxl
    go_enter Tryd.func13, Tryd.ntmps13
    go_wp2_with (go_at_call 24; refine cT.mono ?_; rintro e w ⟨rfl, rfl⟩)
    go_ret3
    exact ⟨hfin'.out, Below.refl _ _⟩
  have hE : (x.toList == [42]) = false := by rw [Lib.toList_data, hxl]; exact beq_false_of_ne hst
  have hst' := Lib.hid hst
  clear hst hxl
  go_enter Tryd.func13, Tryd.ntmps13
  go_wp2_with (go_at_call 24; refine cT.mono ?_; rintro e w ⟨rfl, rfl⟩)
  clear cT
  go_loopw [5, 6, 7, 8] (fun s5 s6 s7 s8 wr => ∃ (ts : List Nat) (done : List Row) (a i : Nat) (v : Value), v = s5 ∧ s6 = .int .i64 (a : Int) ∧ s7 = .int .i64 (i : Int) ∧ a ≤ s.size + 1 ∧ i ≤ s.size + 1 ∧ tagsOf done = some ts ∧ done.length ≤ i ∧ At s done a i ∧ wr.ownsRow w.heap.size 3 1 s5 ts.length (ts.map iv) ∧ Below w.heap.size w wr)
    (fun s5 s6 s7 s8 wr => s.size + 1 - (RowKit.intOf s7).toNat)
  case atStart => exact ⟨[], [], 0, 0, _, rfl, rfl, rfl, Nat.zero_le _, Nat.zero_le _, rfl, Nat.le_refl _, at_start s, World.ownsRow_nil _ _ _ _, Below.refl _ _⟩
  case round =>
    obtain ⟨ts, done, a, i, s5, rfl, rfl, rfl, ha, hi, hts, hdl, hat, hown, hbr⟩ := hrel
    by_cases hle : i ≤ s.size
    rotate_left
    · have hfin : RefP s.data.toList (.returned (.tuple #[s5, .bool false, .bool true])) wr := by
        refine .inr ⟨ts, false, _, ?_, ownsRow_at hown, rfl⟩
        rcases hat with ⟨_, h, _⟩ | ⟨_, h⟩
        · omega
        · unfold cond
          rw [if_neg hst'.out, h, hts]; rfl
      have hfin' := Lib.hid hfin
      have hz : ¬ (i : Int) ≤ (s.size : Int) := by omega
      clear hat hts hown hfin
      go_wp2
      go_ret3
      exact ⟨hfin'.out, hbr⟩
    have hlz : (i : Int) ≤ (s.size : Int) := by omega
    by_cases hown1 : ∃ h : i < s.size, s[i]'h ≠ 44
    · obtain ⟨hlt, hc⟩ := hown1
      have hnx := Lib.hid (at_own hat hlt hc)
      obtain ⟨x2, hx2⟩ : ∃ x2, (s[i]'hlt).toNat = x2 := ⟨_, rfl⟩
      have hc2 : x2 ≠ 44 := fun e => hc (UInt8.toNat_inj.1 (by rw [hx2, e]; rfl))
      have c5 : ((x2 : Int) != 44) = true := by simp; omega
      clear hat hc hc2
      go_wp2
      go_roundw
      case rel => exact ⟨ts, done, a, i + 1, _, rfl, rfl, by go_num, ha, by omega, hts, by omega, hnx.out, hown, hbr⟩
      case measure => simp [RowKit.intOf]; omega
    · have hc : i = s.size ∨ ∃ hi : i < s.size, s[i]'hi = 44 := by
        by_cases h : i < s.size
        · right
          refine ⟨h, ?_⟩
          by_cases h2 : s[i]'h = 44
          · exact h2
          · exact absurd ⟨h, h2⟩ hown1
        · left; omega
      obtain ⟨hai, hnx, r, hsp⟩ := at_piece hat hle hc
      have hc2 : (¬ (i : Int) < (s.size : Int)) ∨ ∃ hlt : i < s.size, ((((s[i]'hlt).toNat : Nat) : Int) != 44) = false := by
        rcases hc with rfl | ⟨hlt, hc⟩
        · left; omega
        · right
          exact ⟨hlt, by rw [hc]; rfl⟩
      have cT := refTrim_any (s.extract a i) wr (by simp; omega)
      have hm : (s.extract a i).data.toList = mid s a i := by rw [Lib.extract_data]; rfl
      rw [hm] at cT
      obtain ⟨y, hy, hyl⟩ := sv_some (trim (mid s a i))
      rw [hy] at cT
      have hys : y.size ≤ 9223372036854775807 := by
        have h1 := trim_len (mid s a i)
        rw [← hyl, ← Lib.size_eq, ← hm, ← Lib.size_eq] at h1
        have h2 : (s.extract a i).size ≤ s.size := by simp; omega
        omega
      have cP := refParse_any y wr hys
      rw [hyl] at cP
      have z1 : (a : Int) ≤ (i : Int) := by omega
      have htl := tagsOf_len hts
      by_cases h0 : par (trim (mid s a i)) = 0
      · rw [h0] at cP
        have hfin : RefP s.data.toList (.returned (.tuple #[.slice none 0 0, .bool false, .bool false])) wr := by
          refine .inl ⟨?_, rfl⟩
          unfold cond
          rw [if_neg hst'.out, hsp, tagsOf_stop hts h0]; rfl
        have hfin' := Lib.hid hfin
        clear hown1 hc hnx hsp hy hyl hm hys h0 hat hts hown htl hfin
        rcases hc2 with hc2 | ⟨hlt, hc2⟩
        all_goals
          go_wp2_with (first
            | (go_at_call 24; refine cT.mono ?_; rintro e wr ⟨rfl, rfl⟩)
            | (go_at_call 11; refine cP.mono ?_; rintro e wr ⟨rfl, rfl⟩))
          go_ret3
          exact ⟨hfin'.out, hbr⟩
      · have hmore := Lib.hid (tagsOf_more hts h0)
        have h0' : (((par (trim (mid s a i)) : Nat) : Int) == 0) = false := by simp; exact h0
        generalize par (trim (mid s a i)) = m at cP hmore h0'
        have hnx' := Lib.hid hnx
        have htsl : ts.length ≤ 1099511627776 := by omega
        clear hown1 hc hsp hy hyl hm hys h0 hat hts hnx htl
        rcases hc2 with hc2 | ⟨hlt, hc2⟩
        all_goals
          go_wp2_with (first
            | (go_at_call 24; refine cT.mono ?_; rintro e wr ⟨rfl, rfl⟩)
            | (go_at_call 11; refine cP.mono ?_; rintro e wr ⟨rfl, rfl⟩)
            | (at_builtin; refine append_nat m rfl _ _ rfl w.heap.size _ ts _ rfl rfl rfl hown htsl hbr.size ?_))
          intro v' w3 hown3 hg
          have hbw3 := below_app hbr hbr.size hown (Nat.le_refl _) hg
          clear hg hown
          go_wp2
          go_roundw
          case rel => exact ⟨ts ++ [m], done ++ [mid s a i], i + 1, i + 1, _, rfl, by go_num, by go_num, by omega, by omega, hmore.out, by simp; omega, hnx'.out, by rw [List.map_append, List.length_append]; exact hown3, hbw3⟩
          case measure => simp [RowKit.intOf]; omega
end Go.Proofs.YtgpkkdimafmehaaDoor.Co
