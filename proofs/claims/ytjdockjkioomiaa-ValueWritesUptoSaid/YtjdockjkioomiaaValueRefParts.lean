/-
  WALKS OF THE REFERENCE's Parts, List, Fields.
-/
import Derived.Test.YtjdockjkioomiaaValueRefSigns
set_option linter.unusedVariables false
namespace Go.Proofs.Ytjdockjkioomiaa.Va
open Go.Lib Go.RowKit Bu

/-- what is left where a row of the call's own is written -/
def Left (w0 : World) (base : Nat) (w' : World) : Prop := ∀ (B : Nat) (A : World), Below B A w0 → B ≤ base → B ≤ w0.heap.size → Below B A w'
theorem left_of {w0 w' : World} {base : Nat} {e : TypeId} {size n : Nat} {v : Value} {xs : List Value} {o : Obj} (hown : w0.ownsRow base e size v n xs) (hg : (w0.alloc o).grownBy w' v.ownBlock) : Left w0 base w' :=
  fun B A hb h1 h2 => (hb.alloc h2 o).grown hg (by simp; omega) (fun k hk => Nat.le_trans h1 (hown.lt k hk).1)
/-- one string more -/
theorem append_str {w0 : World} {ops : Array Oper} {rest : List Oper} {o : Oper} {a : Act} {Q : Exit → Act → World → Prop} (x : ByteArray) (hgd : o.guard = none) (s xo : Operand)
    (ho : o.op = .call { callee := .builtin .append, args := #[s, xo], argTypes := #[29, 29] }) (base : Nat) (v : Value) (ls : List Row) (g : Nat) (hgz : g = w0.heap.size) (hs : a.eval s = v) (hx : a.eval xo = .slice (some ⟨g, 0, none⟩) 1 1)
    (hown : Own base v ls w0) (hl : ls.length ≤ 1099511627776) (hbase : base ≤ w0.heap.size)
    (h : ∀ v' w', Own base v' (ls ++ [x.data.toList]) w' → Left w0 base w' → wpList Try.prog ops Q rest (a.put o.dst v') w') :
    wpList Try.prog ops Q (o :: rest) a (w0.alloc (.cells #[.string x] 9)) := by
  obtain ⟨i0, hi, hz0, hz1, hz2⟩ := info_parts infoStr
  subst hgz
  refine wpList_append_own _ hgd s xo 29 ho base 9 i0 (.string ⟨#[]⟩) 1 16 Try.underlying29 hi hz0 hz1 hz2 rfl (by decide) v ls.length (ls.map sv) hs (World.ownsRow.alloc hown _) ⟨w0.heap.size, 0, none⟩ 1 1 [.string x] hx rfl (fun j u hj => ?_) (fun u hu => ?_) (by unfold maxLen; omega) (by omega) (by simp; omega) (fun v' w' h5 h6 _ => h v' w' (Own.snoc h5) (left_of hown h6))
  · match j, hj with
    | 0, hj => simp at hj; subst hj; simp [Addr.add]
  · simp at hu; subst hu; rfl
/-- one row more -/
theorem append_row {α : Type} {I : Nat → Value → α → World → Prop} {t e : TypeId} (hI : Inner e α I) (hinfo : (Try.prog.info? e).map (fun i => (i.zero, i.size, i.bytes)) = some (some (.slice none 0 0), 1, 24)) (hund : Try.prog.underlying t = some (.slice e))
    {w0 : World} {ops : Array Oper} {rest : List Oper} {o : Oper} {a : Act} {Q : Exit → Act → World → Prop} (ao : Option Addr) (n c : Nat) (x : α) (hgd : o.guard = none) (s xo : Operand)
    (ho : o.op = .call { callee := .builtin .append, args := #[s, xo], argTypes := #[t, t] }) (base : Nat) (v : Value) (xs : List α) (g : Nat) (hgz : g = w0.heap.size) (hs : a.eval s = v) (hx : a.eval xo = .slice (some ⟨g, 0, none⟩) 1 1)
    (hown : ROwn e I base v xs w0) (hu : I base (.slice ao n c) x w0) (hl : xs.length ≤ 1099511627776) (hbase : base ≤ w0.heap.size)
    (h : ∀ v' w', ROwn e I base v' (xs ++ [x]) w' → Left w0 base w' → wpList Try.prog ops Q rest (a.put o.dst v') w') :
    wpList Try.prog ops Q (o :: rest) a (w0.alloc (.cells #[.slice ao n c] e)) := by
  obtain ⟨i0, hi, hz0, hz1, hz2⟩ := info_parts hinfo
  subst hgz
  obtain ⟨us, hus, hrow, hvals⟩ := hown
  have hal : Below w0.heap.size w0 (w0.alloc (.cells #[.slice ao n c] e)) := (Below.refl _ _).alloc (Nat.le_refl _) _
  refine wpList_append_own _ hgd s xo t ho base e i0 (.slice none 0 0) 1 24 hund hi hz0 hz1 hz2 rfl (by decide) v xs.length us hs (World.ownsRow.alloc hrow _) ⟨w0.heap.size, 0, none⟩ 1 1 [.slice ao n c] hx rfl (fun j u hj => ?_) (fun u hu => ?_) (by unfold maxLen; omega) (by omega) (by simp; omega)
    (fun v' w' h5 h6 _ => h v' w' (ROwn.more hI hus (ownsRow_kept hrow hal) (fun j p u hp hu => hI.kept (hvals j p u hp hu) hal) (hI.kept hu hal) h5 h6) (left_of hrow h6))
  · match j, hj with
    | 0, hj => simp at hj; subst hj; simp [Addr.add]
  · simp at hu; subst hu; rfl

def PtRel (m : UInt8) (l : List Sg) (n : Nat) (w : World) (s5 s6 s11 : Value) (wr : World) : Prop :=
  ∃ (out : List (List Sg)) (one : List Sg) (k : Nat) (wp : World) (u5 u6 : Value), u5 = s5 ∧ u6 = s6 ∧ s11 = .int .i64 (k : Int) ∧ k ≤ n ∧ Below w.heap.size w wp ∧ POwn w.heap.size s5 out wp ∧ Below wp.heap.size wp wr ∧ SOwn wp.heap.size s6 one wr ∧
    parts m l = out ++ pre one (parts m (l.drop k)) ∧ out.length ≤ k ∧ one.length ≤ k

set_option maxHeartbeats 8000000 in
set_option maxRecDepth 100000 in
theorem refParts_any (m : UInt8) (v : Value) (l : List Sg) (w : World) (h : SgsAt w v l) (hl : l.length ≤ 1099511627776) :
    Calls Try.prog 29 #[v, .int .u8 (m.toNat : Int)] w fun e w' => (∃ u, e = .returned u ∧ POwn w.heap.size u (parts m l) w') ∧ Below w.heap.size w w' := by
  obtain ⟨A, b, off, c, rfl, h1, h2, h3, h4⟩ := h
  obtain ⟨n, hn⟩ : ∃ n, l.length = n := ⟨_, rfl⟩
  have hmark : ∀ (k : Nat) (out : List (List Sg)) (one : List Sg) (x : Sg), l[k]? = some x → parts m l = out ++ pre one (parts m (l.drop k)) → x = (m, false) → parts m l = (out ++ [one]) ++ pre [] (parts m (l.drop (k + 1))) := fun k out one x hx hR hxm => by
    obtain ⟨hlt, hv⟩ := List.getElem?_eq_some_iff.1 hx
    rw [hR, List.drop_eq_getElem_cons hlt, hv, hxm, parts_mark, pre_nil (parts_ne _ _)]
    simp [pre]
  have hother : ∀ (k : Nat) (out : List (List Sg)) (one : List Sg) (x : Sg), l[k]? = some x → parts m l = out ++ pre one (parts m (l.drop k)) → x ≠ (m, false) → parts m l = out ++ pre (one ++ [x]) (parts m (l.drop (k + 1))) := fun k out one x hx hR hxm => by
    obtain ⟨hlt, hv⟩ := List.getElem?_eq_some_iff.1 hx
    rw [hR, List.drop_eq_getElem_cons hlt, hv, parts_own m x _ hxm, pre_pre]
  have hend : ∀ (out : List (List Sg)) (one : List Sg), parts m l = out ++ pre one (parts m (l.drop n)) → out ++ [one] = parts m l := fun out one hR => by
    rw [hR, List.drop_eq_nil_of_le (by omega)]
    simp [parts, pre]
  rw [hn] at h1 h3 hl ⊢
  unfold maxLen at h2
  have hn' := Lib.hid hn
  have h3' := Lib.hid h3
  have h4' := Lib.hid h4
  have hmark' := Lib.hid hmark
  have hother' := Lib.hid hother
  have hend' := Lib.hid hend
  clear hn h3 h4 hmark hother hend
  go_enter Try.func29, Try.ntmps29
  go_wp2
  go_loopw [5, 6, 11] (fun s5 s6 s11 wr => PtRel m l n w s5 s6 s11 wr) (fun s5 s6 s11 wr => n - (RowKit.intOf s11).toNat)
  case atStart => exact ⟨[], [], 0, w, _, _, rfl, rfl, rfl, Nat.zero_le _, Below.refl _ _, ROwn.nil _ _ _ _, Below.refl _ _, SOwn.nil _ _, by rw [List.drop_zero, pre_nil (parts_ne _ _)]; rfl, Nat.zero_le _, Nat.zero_le _⟩
  case round =>
    obtain ⟨out, one, k, wp, s5, s6, rfl, rfl, rfl, hk, hbp, hout, hbr, hone, hR, hol, hnl⟩ := hrel
    have hR' := Lib.hid hR
    have hbw := below_then hbp hbr
    have hps := hbp.size
    have hrs := hbr.size
    clear hR
    by_cases hlt : k < n
    · have hx : l[k]? = some (l[k]'(by have := hn'.out; omega)) := List.getElem?_eq_getElem _
      obtain ⟨x, hxe⟩ : ∃ x, l[k]'(by have := hn'.out; omega) = x := ⟨_, rfl⟩
      rw [hxe] at hx
      obtain ⟨rfl, hg⟩ := h3'.out (by omega)
      obtain ⟨q1, q2⟩ := h4'.out k x hx
      rw [← hbw.cell (p := ⟨b, off + k * 2, none⟩) hg] at q1
      rw [← hbw.cell (p := ⟨b, off + k * 2 + 1, none⟩) hg] at q2
      obtain ⟨xb, kb⟩ := x
      have hx' := Lib.hid hx
      dsimp only at q1 q2
      obtain ⟨z, hz⟩ : ∃ z : Int, ((xb.toNat : Nat) : Int) = z := ⟨_, rfl⟩
      rw [hz] at q1
      have hz' := Lib.hid hz
      clear hxe hx
      have hal : Below wr.heap.size wr (wr.alloc (.cells #[.int .u8 z, .bool kb] 49)) := (Below.refl _ _).alloc (Nat.le_refl _) _
      by_cases hmk : xb = m
      · have d1 : (z == ((m.toNat : Nat) : Int)) = true := by rw [← hz]; exact ty rfl hmk
        clear hz
        cases kb
        · have hn := Lib.hid (hmark'.out k out one _ hx'.out hR'.out (by rw [hmk]))
          obtain ⟨ao, cc, rfl⟩ := ownsRow_form hone
          obtain ⟨nn, hnn⟩ : ∃ nn, one.length = nn := ⟨_, rfl⟩
          have hout2 := (ROwn.kept innerSg hout hbr)
          have hone2 := hone.less hps
          rw [hnn] at hone2 ⊢
          have hout3 := ROwn.kept innerSg hout2 hal
          have hone3 := hone2.kept hal
          clear hmk hone hout hnn hout2 hone2
          go_wp2_with (at_builtin; refine append_row (w0 := wr.alloc (.cells #[.int .u8 z, .bool false] 49)) innerSg infoSgs Try.underlying66 ao nn cc one rfl _ _ rfl w.heap.size _ out (wr.heap.size + 1) (by simp) rfl rfl hout3 hone3 ?c1 ?c2 ?_)
          case c1 => omega
          case c2 => omega
          intro v' w3 hown3 hleft
          have hbw3 := hleft w.heap.size w (below_then hbw hal) (Nat.le_refl _) (by simp; omega)
          clear hleft hout3 hone3
          go_wp2
          go_roundw
          case rel => exact ⟨_, [], k + 1, w3, _, _, rfl, rfl, by go_num, by omega, hbw3, hown3, Below.refl _ _, SOwn.nil _ _, hn.out, by simp; omega, by simp⟩
          case measure => simp [RowKit.intOf]; omega
        · have hn := Lib.hid (hother'.out k out one _ hx'.out hR'.out (by simp))
          have hone2 := hone.kept hal
          clear hmk
          go_wp2_with (at_builtin; refine append_sg (w0 := wr.alloc (.cells #[.int .u8 z, .bool true] 49)) xb true z hz'.out rfl _ _ rfl wp.heap.size _ one (wr.heap.size + 1) (by simp) rfl rfl hone2 ?c1 ?c2 ?_)
          case c1 => omega
          case c2 => omega
          intro v' w3 hown3 hg3
          have hbr3 : Below wp.heap.size wp w3 := below_app (below_then hbr hal) (by simp; omega) hone2 (Nat.le_refl _) hg3
          clear hg3 hone hone2
          go_wp2
          go_roundw
          case rel => exact ⟨_, _, k + 1, wp, _, _, rfl, rfl, by go_num, by omega, hbp, hout, hbr3, hown3, hn.out, by omega, by simp; omega⟩
          case measure => simp [RowKit.intOf]; omega
      · have d1 : (z == ((m.toNat : Nat) : Int)) = false := by rw [← hz]; exact tn rfl hmk
        have hn := Lib.hid (hother'.out k out one _ hx'.out hR'.out (fun e => hmk (Prod.mk.inj e).1))
        have hone2 := hone.kept hal
        clear hmk hz
        go_wp2_with (at_builtin; refine append_sg (w0 := wr.alloc (.cells #[.int .u8 z, .bool kb] 49)) xb kb z hz'.out rfl _ _ rfl wp.heap.size _ one (wr.heap.size + 1) (by simp) rfl rfl hone2 ?c1 ?c2 ?_)
        case c1 => omega
        case c2 => omega
        intro v' w3 hown3 hg3
        have hbr3 : Below wp.heap.size wp w3 := below_app (below_then hbr hal) (by simp; omega) hone2 (Nat.le_refl _) hg3
        clear hg3 hone hone2
        go_wp2
        go_roundw
        case rel => exact ⟨_, _, k + 1, wp, _, _, rfl, rfl, by go_num, by omega, hbp, hout, hbr3, hown3, hn.out, by omega, by simp; omega⟩
        case measure => simp [RowKit.intOf]; omega
    · obtain rfl : k = n := by omega
      have he := Lib.hid (hend'.out out one hR'.out)
      obtain ⟨ao, cc, rfl⟩ := ownsRow_form hone
      obtain ⟨nn, hnn⟩ : ∃ nn, one.length = nn := ⟨_, rfl⟩
      have hout2 := (ROwn.kept innerSg hout hbr)
      have hone2 := hone.less hps
      rw [hnn] at hone2 ⊢
      clear hone hout hnn
      go_wp2_with (at_builtin; refine append_row (w0 := wr) innerSg infoSgs Try.underlying66 ao nn cc one rfl _ _ rfl w.heap.size _ out wr.heap.size rfl rfl rfl hout2 hone2 ?c1 ?c2 ?_)
      case c1 => omega
      case c2 => omega
      intro v' w3 hown3 hleft
      have hbw3 := hleft w.heap.size w hbw (Nat.le_refl _) (by omega)
      rw [he.out] at hown3
      clear hleft hout2 hone2
      go_wp2
      go_ret
      exact ⟨⟨_, rfl, hown3⟩, hbw3⟩
end Go.Proofs.Ytjdockjkioomiaa.Va
