import Derived.Test.YtjeagjleolmibaaGreatDoorMg11
import Derived.Test.YtjeagjleolmibaaGreatDoorMg7
import Derived.Laws.Runes

/-
  WALKS OF THE PROGRAM's READER OF LAYER xml: declarations. (wip/tools/genxmli.py)
-/
set_option linter.unusedVariables false
namespace Go.Proofs.YtjeagjleolmibaaGreatDoor.Xm
open Go.Lib Go.RowKit Go.Maps

theorem KeptR.map_grown {w w1 w2 : World} {m : Nat} (h : KeptR w w1) (hg : w1.grownBy w2 (some m)) (hm : w.heap.size ≤ m) : KeptR w w2 := ⟨Nat.le_trans h.1 hg.size, fun k o hk hf => by
  have h1 := h.2 k o hk hf
  have hlt := (Array.getElem?_eq_some_iff.1 hk).1
  rw [hg.block k (Array.getElem?_eq_some_iff.1 h1).1 (fun e => by injection e with e; omega)]
  exact h1⟩
/-- the reader beside a map that grows -/
theorem Bef.map_grown {w0 w1 w2 : World} {b : Nat} {r : ByteArray} {l : Row} {ps : Pq} {m : Nat} (h : Bef w0 b r l ps w1) (hg : w1.grownBy w2 (some m)) (hm : w0.heap.size ≤ m) (hmap : ∃ es cl, w1.heap[m]? = some (.map es cl)) : Bef w0 b r l ps w2 := by
  obtain ⟨hb, p, v, hv⟩ := h
  obtain ⟨es, cl, hmap⟩ := hmap
  have hk : ∀ (i : Nat) (cs : Array Value) (t : TypeId) (fr : Nat × Nat), w1.heap[i]? = some (.cells cs t fr) → w2.heap[i]? = some (.cells cs t fr) := fun i cs t fr hi => by
    rw [hg.block i (Array.getElem?_eq_some_iff.1 hi).1 (fun e => by injection e with e; subst e; rw [hi] at hmap; cases hmap)]
    exact hi
  refine ⟨hb.grown hg hb.size (fun k hk => by injection hk with hk; omega), p, v, hv.hB, hk _ _ _ _ hv.at0, hv.ptr, ?_, hv.nil, ?_⟩
  · refine ownsRowF_kept hv.row (fun i o hi ho => ?_)
    obtain ⟨cs, fr, hx⟩ := rowB_type hv.row ho
    rw [hx] at hi; injection hi with hi; subst hi
    exact hk _ _ _ _ hx
  · refine psOwn_kept hv.pcs (fun i o hi ho => ?_)
    obtain ⟨cs, fr, hx⟩ := rowP_type hv.pcs ho
    rw [hx] at hi; injection hi with hi; subst hi
    exact hk _ _ _ _ hx
theorem MapAt.isMap {w : World} {m : Nat} {own : Env} (h : MapAt w m own) : ∃ es cl, w.heap[m]? = some (.map es cl) := by
  obtain ⟨es, cl, hb, _⟩ := h; exact ⟨es, cl, hb⟩
theorem MapAt.new (w : World) : MapAt (w.alloc (.map #[] 0)) w.heap.size [] := World.ownsMap_made w _ _ _

/-- an element's declarations -/
def DecP (w0 : World) (b : Nat) (r : ByteArray) (l : Row) (ps : Pq) (e : Ending) (w' : World) : Prop :=
  (∃ (m : Nat) (own : Env) (r' : ByteArray), Bef w0 b r' l ps w' ∧ MapAt w' m own ∧ e = .returned (.map (some m)) ∧ r'.size ≤ r.size ∧
    (declsA r.data.toList [] = some (r'.data.toList, own) ∨ (declsA r.data.toList [] = none ∧ r'.data.toList.head? ≠ some 47 ∧ r'.data.toList.head? ≠ some 62))) ∨
  (declsA r.data.toList [] = none ∧ e = gone ∧ Below w0.heap.size w0 w')
/-- one declaration read: what is left of it -/
theorem dec_here {R x : Row} {own : Env} {x1 : Row} (h : R = x1) : R = x1 := h
theorem dec_twice {X P : Row} {own : Env} {D : Option (Row × Int × Row)} {A : Option (Row × Env)} (hA : A = D.bind fun d => if (look d.1 own).isSome = true then none else declsA d.2.2 ((d.1, d.2.1) :: own)) (hd : D = (quoted X).map fun p => (P, spaceOf p.1, p.2)) (hl : (look P own).isSome = true) : A = none := by
  rw [hA, hd]
  cases quoted X with
  | none => rfl
  | some p => show (if (look P own).isSome = true then none else _) = none; rw [if_pos hl]
theorem dec_noval {X P : Row} {own : Env} {D : Option (Row × Int × Row)} {A : Option (Row × Env)} (hA : A = D.bind fun d => if (look d.1 own).isSome = true then none else declsA d.2.2 ((d.1, d.2.1) :: own)) (hd : D = (quoted X).map fun p => (P, spaceOf p.1, p.2)) (hq : quoted X = none) : A = none := by
  rw [hA, hd, hq]; rfl
theorem dec_one {X P v r : Row} {own : Env} {D : Option (Row × Int × Row)} {A : Option (Row × Env)} (hA : A = D.bind fun d => if (look d.1 own).isSome = true then none else declsA d.2.2 ((d.1, d.2.1) :: own)) (hd : D = (quoted X).map fun p => (P, spaceOf p.1, p.2)) (hl : (look P own).isSome = false) (hq : quoted X = some (v, r)) : A = declsA r ((P, spaceOf v) :: own) := by
  rw [hA, hd, hq]
  show (if (look P own).isSome = true then none else _) = _
  rw [if_neg (by rw [hl]; decide)]
theorem dec_noname {own : Env} {D : Option (Row × Int × Row)} {A : Option (Row × Env)} (hA : A = D.bind fun d => if (look d.1 own).isSome = true then none else declsA d.2.2 ((d.1, d.2.1) :: own)) (hd : D = none) : A = none := by
  rw [hA, hd]; rfl
theorem spaceOf_wf (v : Row) : (Lit.int .i64 (spaceOf v)).wf = true := by
  unfold spaceOf
  repeat' split
  all_goals decide
theorem head_not {c : UInt8} {t : Row} (h : ([c] : Row).isPrefixOf t = false) : t.head? ≠ some c := by
  intro e
  cases t with
  | nil => cases e
  | cons x r =>
    simp at e
    subst e
    simp at h
theorem quoted_size {r v r' : ByteArray} (h : quoted (61 :: r.data.toList) = some (v.data.toList, r'.data.toList)) : r'.size ≤ r.size := by
  have := quoted_len h
  rw [List.length_cons, ← Lib.size_eq, ← Lib.size_eq] at this
  omega

set_option maxHeartbeats 4000000 in
set_option maxRecDepth 100000 in
theorem declarations_any {w0 w : World} (hG : Gw w0) {b : Nat} {r : ByteArray} {l : Row} {ps : Pq} (h : Bef w0 b r l ps w) (hr : r.size ≤ 65536) :
    Calls Tryz.prog 59 #[.pointer (some ⟨b, 0, none⟩)] w fun e w' => DecP w0 b r l ps e w' ∧ KeptR w w' := by
  have hz : ∀ W, (zeroValue 35).run Tryz.prog W = .ok (.int .i64 0) W := fun W => rfl
  have hmk : (Instr.makeMap 91 none).run Tryz.prog w = .ok (.map (some w.heap.size)) (w.alloc (.map #[] 0)) := rfl
  obtain ⟨m, hm⟩ : ∃ m, w.heap.size = m := ⟨_, rfl⟩
  have hal : Below w.heap.size w (w.alloc (.map #[] 0)) := (Below.refl _ _).alloc (Nat.le_refl _) _
  have h1 := Lib.hid (h.kept hal)
  have hk1 := Lib.hid (KeptR.of_below hal)
  have hmap1 : Hid (MapAt (w.alloc (.map #[] 0)) m []) := Lib.hid (hm ▸ MapAt.new w)
  have hmw : w.heap.size ≤ m := by omega
  have hmw0 : w0.heap.size ≤ m := by have := h.bel.size; omega
  clear h hal
  go_enter Tryz.func59, Tryz.ntmps59
  go_wp2
  go_loopw [] (fun wr => ∃ (x : ByteArray) (own : Env), Bef w0 b x l ps wr ∧ MapAt wr m own ∧ KeptR w wr ∧ Hid (declsA r.data.toList [] = declsA x.data.toList own) ∧ own.length + x.size ≤ r.size) (fun wr => restSize b wr)
  case atStart => exact ⟨r, [], h1.out, hmap1.out, hk1.out, Lib.hid rfl, by simp⟩
  case round =>
    obtain ⟨x, own, hB, hmp, hk, hA, hsz⟩ := hrel
    have hrs := hB.size
    have cB := blanks_any hB
    have hk' := Lib.hid hk
    have hmp' := Lib.hid hmp
    clear hk hmp h1 hk1 hmap1 hB
    go_wp2_with fail
    go_at_call 55
    with_reducible refine cB.mono ?_
    rintro e w3 ⟨⟨x1, hx1, rfl, h3⟩, hk3⟩
    clear cB
    have hmp3 := Lib.hid (hmp'.out.kept hk3)
    have hk3' := Lib.hid (hk'.out.trans hk3)
    clear hk3 hk' hmp'
    by_cases hd : x1.size < x.size
    · have hd' : decide (x1.size < x.size) = true := decide_eq_true hd
      rw [hd']
      have hne : Hid (x.data.toList.dropWhile blk ≠ x.data.toList) := Lib.hid fun e => by
        rw [e] at hx1
        have := congrArg List.length hx1
        rw [← Lib.size_eq, ← Lib.size_eq] at this
        omega
      have hx1' := Lib.hid hx1
      have cT := take_any h3 ⟨#[120, 109, 108, 110, 115]⟩
      clear hx1 h3 hd'
      go_wp2_with fail
      go_at_call 41
      with_reducible refine cT.mono ?_
      rintro e w4 ⟨hq, hk4⟩
      clear cT
      have hmp4 := Lib.hid (hmp3.out.kept hk4)
      have hk4' := Lib.hid (hk3'.out.trans hk4)
      clear hk4 hk3' hmp3
      rcases hq with ⟨x2, hy, rfl, h4⟩ | ⟨hn, rfl, h4⟩
      · have hsz2 := pre_size hy
        have hsz2' : x1.size = 5 + x2.size := hsz2
        have hAD : Hid (declsA r.data.toList [] = (decl (xmlnsS ++ x2.data.toList)).bind fun d => if (look d.1 own).isSome = true then none else declsA d.2.2 ((d.1, d.2.1) :: own)) := Lib.hid (by
          rw [hA.out]
          exact declsA_here hne.out (by rw [← hx1'.out]; exact hy))
        have cT2 := take_any h4 ⟨#[58]⟩
        clear hy h4 hne hx1' hsz2 hA
        go_wp2_with fail
        go_at_call 41
        with_reducible refine cT2.mono ?_
        rintro e w5 ⟨hq, hk5⟩
        clear cT2
        have hmp5 := Lib.hid (hmp4.out.kept hk5)
        have hk5' := Lib.hid (hk4'.out.trans hk5)
        clear hk5 hk4' hmp4
        rcases hq with ⟨x3, hy, rfl, h5⟩ | ⟨hn, rfl, h5⟩
        · have hsz3 := pre_size hy
          have hsz3' : x2.size = 1 + x3.size := hsz3
          have hy2 : Hid (x2.data.toList = 58 :: x3.data.toList) := Lib.hid hy
          have cN := name_any h5 (by omega)
          clear hy h5 hsz3
          go_wp2_with fail
          go_at_call 77
          with_reducible refine cN.mono ?_
          rintro e w6 ⟨hq, hk6⟩
          clear cN
          have hmp6 := Lib.hid (hmp5.out.kept hk6)
          have hk6' := Lib.hid (hk5'.out.trans hk6)
          clear hk6 hk5' hmp5
          rcases hq with ⟨n, X, hn, rfl, h6⟩ | ⟨hn, rfl, h6⟩
          · have hXs := nameC_size hn
            have hns : n.size ≤ 65536 := by
              have e1 := (nameC_some hn).1
              have := congrArg List.length e1
              rw [List.length_append, ← Lib.size_eq, ← Lib.size_eq, ← Lib.size_eq] at this
              omega
            have hdec : Hid (decl (xmlnsS ++ x2.data.toList) = (quoted X.data.toList).map fun p => (n.data.toList, spaceOf p.1, p.2)) := Lib.hid (by
              rw [hy2.out, (nameC_some hn).1]
              exact decl_named (nameC_some hn).2 (nameC_head hn))
            clear hn hy2
            have hkey : keyOf Tryz.prog 9 (.string n) = some (.string n.data.toList) := WideMaps.keyOf_string_mk Tryz.underlying9 (by first | decide | (unfold maxLen; omega))
            obtain ⟨D, hD⟩ : ∃ D, DE own = D := ⟨_, rfl⟩
            have hown : w6.ownsMap Tryz.prog 9 (plainElem (H := Unit) Tryz.prog 35) m own.length D := hD ▸ hmp6.out
            have hhas : has D (.string n.data.toList) = (look n.data.toList own).isSome := by rw [← hD]; exact DE_has _ _
            obtain ⟨K, hK⟩ : ∃ K, (look n.data.toList own).isSome = K := ⟨_, rfl⟩
            rw [hK] at hhas
            have hK' := Lib.hid hK
            have hD' := Lib.hid hD
            clear hK hD
            cases K with
            | true =>
              have hfin := Lib.hid (show DecP w0 b r l ps gone w6 from .inr ⟨dec_twice hAD.out hdec.out hK'.out, rfl, h6.bel⟩)
              have cG := giveUp_any w6
              unfold gone at hfin cG
              clear hAD hdec hK' h6 hD' hmp6
              go_wp2_with (at_lookup; refine wpList_lookup_own_ok_int _ rfl _ _ 91 rfl 9 35 .i64 str_keyed Tryz.underlying91 Tryz.underlying35 (hz _) m _ D rfl hown _ _ rfl hkey ?_)
              intro c hat hwc
              clear hat hwc hown
              go_wp2_with fail
              go_at_call 45
              with_reducible refine cG.mono ?_
              rintro e w7 ⟨rfl, rfl⟩
              go_wp2
              exact ⟨rfl, hfin.out, hk6'.out⟩
            | false =>
              have cN := need_any h6 ⟨#[61]⟩
              clear h6
              go_wp2_with (at_lookup; refine wpList_lookup_own_ok_int _ rfl _ _ 91 rfl 9 35 .i64 str_keyed Tryz.underlying91 Tryz.underlying35 (hz _) m _ D rfl hown _ _ rfl hkey ?_)
              intro c hat hwc
              clear hat hwc hown
              go_wp2_with fail
              go_at_call 57
              with_reducible refine cN.mono ?_
              rintro e w7 ⟨hq, hk7⟩
              clear cN
              have hmp7 := Lib.hid (hmp6.out.kept hk7)
              have hk7' := Lib.hid (hk6'.out.trans hk7)
              clear hk7 hk6' hmp6
              rcases hq with ⟨X2, hy, rfl, h7⟩ | ⟨hn, rfl, h7⟩
              · have hsX := pre_size hy
                have hsX' : X.size = 1 + X2.size := hsX
                have hyX : Hid (X.data.toList = 61 :: X2.data.toList) := Lib.hid hy
                have cQ := quoted_any hG h7 (by omega)
                clear hy h7 hsX
                go_wp2_with fail
                go_at_call 79
                with_reducible refine cQ.mono ?_
                rintro e w8 ⟨hq, hk8⟩
                clear cQ
                have hmp8 := Lib.hid (hmp7.out.kept hk8)
                have hk8' := Lib.hid (hk7'.out.trans hk8)
                clear hk8 hk7' hmp7
                rcases hq with ⟨v, X3, hqv, rfl, h8⟩ | ⟨hqn, rfl, h8⟩
                · have hq3 := quoted_size hqv
                  have hA9 : Hid (declsA r.data.toList [] = declsA X3.data.toList ((n.data.toList, spaceOf v.data.toList) :: own)) := Lib.hid (dec_one hAD.out hdec.out hK'.out (by rw [hyX.out]; exact hqv))
                  have cS := spaceOf_any v w8
                  have hwf := spaceOf_wf v.data.toList
                  have hDp : Hid (D.put (.string n.data.toList) (.lit (.int .i64 (spaceOf v.data.toList))) = DE ((n.data.toList, spaceOf v.data.toList) :: own)) := Lib.hid (by rw [← hD'.out]; rfl)
                  have hown8 : w8.ownsMap Tryz.prog 9 (plainElem (H := Unit) Tryz.prog 35) m own.length D := hD'.out ▸ hmp8.out
                  have h8' := Lib.hid (fun (W : World) (hg : w8.grownBy W (some m)) => h8.map_grown hg hmw0 hmp8.out.isMap)
                  obtain ⟨sp, hsp⟩ : ∃ sp, spaceOf v.data.toList = sp := ⟨_, rfl⟩
                  rw [hsp] at cS hwf hDp hA9
                  clear hqv h8 hAD hdec hK' hD' hyX hsp
                  go_wp2_with fail
                  go_at_call 78
                  with_reducible refine cS.mono ?_
                  rintro e w9 ⟨rfl, rfl⟩
                  clear cS
                  have hval : plainElem (H := Unit) Tryz.prog 35 (.int .i64 sp) = some (.lit (.int .i64 sp), []) := plainElem_int Tryz.underlying35 hwf
                  go_wp2_with (at_mapUpdate; refine wpList_mapUpdate_own _ rfl _ _ _ 91 rfl 9 35 str_keyed Tryz.underlying91 _ m own.length D rfl hown8 (by unfold maxLen; omega) _ _ (.string n.data.toList) rfl rfl hkey (.lit (.int .i64 sp)) [] hval ?_)
                  intro w10 hown10 hg10
                  have h10 := h8'.out w10 hg10
                  have hrel2 := Lib.hid (show ∃ (x : ByteArray) (own : Env), Bef w0 b x l ps w10 ∧ MapAt w10 m own ∧ KeptR w w10 ∧ Hid (declsA r.data.toList [] = declsA x.data.toList own) ∧ own.length + x.size ≤ r.size from
                    ⟨X3, (n.data.toList, sp) :: own, h10, by rw [hDp.out] at hown10; exact hown10, hk8'.out.map_grown hg10 hmw, hA9, by rw [List.length_cons]; omega⟩)
                  have hms := Lib.hid (show restSize b w10 < restSize b wr by rw [h10.size, hrs]; omega)
                  clear hown10 hg10 h10 h8' hown8 hmp8 hk8' hA9 hDp
                  go_wp2
                  go_roundw
                  case rel => exact hrel2.out
                  case measure => exact hms.out
                · have hfin := Lib.hid (show DecP w0 b r l ps gone w8 from .inr ⟨dec_noval hAD.out hdec.out (by rw [hyX.out]; exact hqn), rfl, h8⟩)
                  clear hqn h8 hAD hdec hK' hmp8 hD' hyX
                  unfold gone at hfin ⊢
                  go_wp2
                  exact ⟨rfl, hfin.out, hk8'.out⟩
              · have hfin := Lib.hid (show DecP w0 b r l ps gone w7 from .inr ⟨dec_noval hAD.out hdec.out (quoted_no (head_not hn)), rfl, h7⟩)
                clear hn h7 hAD hdec hK' hmp7
                unfold gone at hfin ⊢
                go_wp2
                exact ⟨rfl, hfin.out, hk7'.out⟩
          · have hfin := Lib.hid (show DecP w0 b r l ps gone w6 from .inr ⟨dec_noname hAD.out (by rw [hy2.out]; exact decl_noname hn), rfl, h6⟩)
            clear hn h6 hAD hy2
            unfold gone at hfin ⊢
            go_wp2
            exact ⟨rfl, hfin.out, hk6'.out⟩
        · have hdec : Hid (decl (xmlnsS ++ x2.data.toList) = (quoted x2.data.toList).map fun p => (([] : Row), spaceOf p.1, p.2)) := Lib.hid (decl_plain (head_not hn))
          clear hn
          have h6 := h5
          have hmp6 := hmp5
          have hk6' := hk5'
          clear h5 hmp5 hk5'
          have hkey : keyOf Tryz.prog 9 (.string ⟨#[]⟩) = some (.string []) := WideMaps.keyOf_string_mk Tryz.underlying9 (by first | decide | (unfold maxLen; omega))
          obtain ⟨D, hD⟩ : ∃ D, DE own = D := ⟨_, rfl⟩
          have hown : w5.ownsMap Tryz.prog 9 (plainElem (H := Unit) Tryz.prog 35) m own.length D := hD ▸ hmp6.out
          have hhas : has D (.string []) = (look [] own).isSome := by rw [← hD]; exact DE_has _ _
          obtain ⟨K, hK⟩ : ∃ K, (look [] own).isSome = K := ⟨_, rfl⟩
          rw [hK] at hhas
          have hK' := Lib.hid hK
          have hD' := Lib.hid hD
          clear hK hD
          cases K with
          | true =>
            have hfin := Lib.hid (show DecP w0 b r l ps gone w5 from .inr ⟨dec_twice hAD.out hdec.out hK'.out, rfl, h6.bel⟩)
            have cG := giveUp_any w5
            unfold gone at hfin cG
            clear hAD hdec hK' h6 hD' hmp6
            go_wp2_with (at_lookup; refine wpList_lookup_own_ok_int _ rfl _ _ 91 rfl 9 35 .i64 str_keyed Tryz.underlying91 Tryz.underlying35 (hz _) m _ D rfl hown _ _ rfl hkey ?_)
            intro c hat hwc
            clear hat hwc hown
            go_wp2_with fail
            go_at_call 45
            with_reducible refine cG.mono ?_
            rintro e w7 ⟨rfl, rfl⟩
            go_wp2
            exact ⟨rfl, hfin.out, hk6'.out⟩
          | false =>
            have cN := need_any h6 ⟨#[61]⟩
            clear h6
            go_wp2_with (at_lookup; refine wpList_lookup_own_ok_int _ rfl _ _ 91 rfl 9 35 .i64 str_keyed Tryz.underlying91 Tryz.underlying35 (hz _) m _ D rfl hown _ _ rfl hkey ?_)
            intro c hat hwc
            clear hat hwc hown
            go_wp2_with fail
            go_at_call 57
            with_reducible refine cN.mono ?_
            rintro e w7 ⟨hq, hk7⟩
            clear cN
            have hmp7 := Lib.hid (hmp6.out.kept hk7)
            have hk7' := Lib.hid (hk6'.out.trans hk7)
            clear hk7 hk6' hmp6
            rcases hq with ⟨X2, hy, rfl, h7⟩ | ⟨hn, rfl, h7⟩
            · have hsX := pre_size hy
              have hsX' : x2.size = 1 + X2.size := hsX
              have hyX : Hid (x2.data.toList = 61 :: X2.data.toList) := Lib.hid hy
              have cQ := quoted_any hG h7 (by omega)
              clear hy h7 hsX
              go_wp2_with fail
              go_at_call 79
              with_reducible refine cQ.mono ?_
              rintro e w8 ⟨hq, hk8⟩
              clear cQ
              have hmp8 := Lib.hid (hmp7.out.kept hk8)
              have hk8' := Lib.hid (hk7'.out.trans hk8)
              clear hk8 hk7' hmp7
              rcases hq with ⟨v, X3, hqv, rfl, h8⟩ | ⟨hqn, rfl, h8⟩
              · have hq3 := quoted_size hqv
                have hA9 : Hid (declsA r.data.toList [] = declsA X3.data.toList (([], spaceOf v.data.toList) :: own)) := Lib.hid (dec_one hAD.out hdec.out hK'.out (by rw [hyX.out]; exact hqv))
                have cS := spaceOf_any v w8
                have hwf := spaceOf_wf v.data.toList
                have hDp : Hid (D.put (.string []) (.lit (.int .i64 (spaceOf v.data.toList))) = DE (([], spaceOf v.data.toList) :: own)) := Lib.hid (by rw [← hD'.out]; rfl)
                have hown8 : w8.ownsMap Tryz.prog 9 (plainElem (H := Unit) Tryz.prog 35) m own.length D := hD'.out ▸ hmp8.out
                have h8' := Lib.hid (fun (W : World) (hg : w8.grownBy W (some m)) => h8.map_grown hg hmw0 hmp8.out.isMap)
                obtain ⟨sp, hsp⟩ : ∃ sp, spaceOf v.data.toList = sp := ⟨_, rfl⟩
                rw [hsp] at cS hwf hDp hA9
                clear hqv h8 hAD hdec hK' hD' hyX hsp
                go_wp2_with fail
                go_at_call 78
                with_reducible refine cS.mono ?_
                rintro e w9 ⟨rfl, rfl⟩
                clear cS
                have hval : plainElem (H := Unit) Tryz.prog 35 (.int .i64 sp) = some (.lit (.int .i64 sp), []) := plainElem_int Tryz.underlying35 hwf
                go_wp2_with (at_mapUpdate; refine wpList_mapUpdate_own _ rfl _ _ _ 91 rfl 9 35 str_keyed Tryz.underlying91 _ m own.length D rfl hown8 (by unfold maxLen; omega) _ _ (.string []) rfl rfl hkey (.lit (.int .i64 sp)) [] hval ?_)
                intro w10 hown10 hg10
                have h10 := h8'.out w10 hg10
                have hrel2 := Lib.hid (show ∃ (x : ByteArray) (own : Env), Bef w0 b x l ps w10 ∧ MapAt w10 m own ∧ KeptR w w10 ∧ Hid (declsA r.data.toList [] = declsA x.data.toList own) ∧ own.length + x.size ≤ r.size from
                  ⟨X3, ([], sp) :: own, h10, by rw [hDp.out] at hown10; exact hown10, hk8'.out.map_grown hg10 hmw, hA9, by rw [List.length_cons]; omega⟩)
                have hms := Lib.hid (show restSize b w10 < restSize b wr by rw [h10.size, hrs]; omega)
                clear hown10 hg10 h10 h8' hown8 hmp8 hk8' hA9 hDp
                go_wp2
                go_roundw
                case rel => exact hrel2.out
                case measure => exact hms.out
              · have hfin := Lib.hid (show DecP w0 b r l ps gone w8 from .inr ⟨dec_noval hAD.out hdec.out (by rw [hyX.out]; exact hqn), rfl, h8⟩)
                clear hqn h8 hAD hdec hK' hmp8 hD' hyX
                unfold gone at hfin ⊢
                go_wp2
                exact ⟨rfl, hfin.out, hk8'.out⟩
            · have hfin := Lib.hid (show DecP w0 b r l ps gone w7 from .inr ⟨dec_noval hAD.out hdec.out (quoted_no (head_not hn)), rfl, h7⟩)
              clear hn h7 hAD hdec hK' hmp7
              unfold gone at hfin ⊢
              go_wp2
              exact ⟨rfl, hfin.out, hk7'.out⟩
      · have hfin := Lib.hid (show DecP w0 b r l ps (.returned (.map (some m))) w4 from .inl ⟨m, own, x1, h4, hmp4.out, rfl, by omega, by
          rw [hA.out, hx1'.out]
          have hn' : xmlnsS.isPrefixOf x1.data.toList = false := hn
          rw [hx1'.out] at hn'
          exact declsA_other hn'⟩)
        clear hn h4 hA hmp4
        go_wp2
        go_ret
        exact ⟨hfin.out, hk4'.out⟩
    · have hd' : decide (x1.size < x.size) = false := decide_eq_false hd
      rw [hd']
      obtain ⟨e1, e2⟩ := dw_same hx1 hd
      subst e1
      have hfin := Lib.hid (show DecP w0 b r l ps (.returned (.map (some m))) w3 from .inl ⟨m, own, x1, h3, hmp3.out, rfl, by omega, .inl (by rw [hA.out, declsA_stop e2])⟩)
      clear hx1 h3 e2 hd' hd hA hmp3
      go_wp2
      go_ret
      exact ⟨hfin.out, hk3'.out⟩
end Go.Proofs.YtjeagjleolmibaaGreatDoor.Xm

/-
  THE WALKS OF NUMBERS: char.Number and the reference's.
-/
set_option linter.unusedVariables false
namespace Go.Proofs.YtjeagjleolmibaaGreatDoor.Ch
open Go.Lib Go.RowKit

theorem isEmpty_no (s : ByteArray) (h : s.size ≠ 0) : s.toList.isEmpty = false := by
  rw [← decide_eq_emptyBytes s]
  exact decide_eq_false (fun e => h (by rw [e]; rfl))
theorem isEmpty_yes (s : ByteArray) (h : s.size = 0) : s.toList.isEmpty = true := by
  rw [← decide_eq_emptyBytes s]
  exact decide_eq_true (ByteArray.ext (Array.eq_empty_of_size_eq_zero h))

def numE (p : Nat × Bool) : Ending := .returned (.tuple #[.int .u64 (p.1 : Int), .bool p.2])
theorem isD_no {c : UInt8} (h : c.toNat < 48 ∨ 57 < c.toNat) : isD c = false := decide_eq_false (by omega)
theorem isD_yes {c : UInt8} (h1 : 48 ≤ c.toNat) (h2 : c.toNat ≤ 57) : isD c = true := decide_eq_true ⟨h1, h2⟩
set_option maxHeartbeats 2000000 in
set_option maxRecDepth 100000 in
theorem number_any (s : ByteArray) (m : Nat) (w : World) (hs : s.size ≤ 9223372036854775807) (hm : m ≤ 18446744073709551615) :
    Calls Tryz.prog 111 #[.string s, .int .u64 (m : Int)] w fun e w' => e = numE (numS s.data.toList m) ∧ w = w' := by
  have hsl : s.size = s.data.toList.length := Lib.size_eq s
  by_cases h0 : s.size = 0
  · have hE := isEmpty_yes s h0
    have hn : s.data.toList = [] := List.eq_nil_of_length_eq_zero (by omega)
    rw [hn]
    clear hn hsl h0
    go_enter Tryz.func111, Tryz.ntmps111
    go_wp2
    go_ret2
    exact ⟨rfl, rfl⟩
  have hE := isEmpty_no s h0
  have hne : s.data.toList ≠ [] := fun h => h0 (by rw [hsl, h]; rfl)
  have h0z : 0 < s.size := by omega
  have hsl' := Lib.hid hsl
  have hfst : s.data.toList.getD 0 0 = s[0]'h0z := by
    simp only [List.getD_eq_getElem?_getD]
    rw [List.getElem?_eq_getElem (by omega)]
    rfl
  by_cases h1 : lead0 s.data.toList = true
  · rw [numS_lead h1]
    have h2 : 1 < s.size ∧ (s[0]'h0z).toNat = 48 := by
      have h := of_decide_eq_true h1
      rw [hfst, ← hsl] at h
      exact h
    obtain ⟨h3, h4⟩ := h2
    have h5 : (((s[0]'h0z).toNat : Int) == 48) = true := by simp; omega
    have h4' := Lib.hid h4
    clear h1 h4 hsl hfst hne h0
    go_enter Tryz.func111, Tryz.ntmps111
    go_wp2
    go_ret2
    exact ⟨rfl, rfl⟩
  have h2 : ¬ (1 < s.size ∧ (s[0]'h0z).toNat = 48) := by
    intro h
    apply h1
    unfold lead0
    rw [hfst, ← hsl]
    exact decide_eq_true h
  have h2' := Lib.hid h2
  rw [Bool.not_eq_true] at h1
  have h1' := Lib.hid h1
  have hne' := Lib.hid hne
  have hcase : ¬ 1 < s.size ∨ (1 < s.size ∧ (((s[0]'h0z).toNat : Int) == 48) = false) := by
    by_cases h : 1 < s.size
    · exact .inr ⟨h, by simp; omega⟩
    · exact .inl h
  clear h2 h1 hne hfst hsl
  rcases hcase with hc | ⟨hc, hc'⟩
  all_goals
    go_enter Tryz.func111, Tryz.ntmps111
    go_wp2
    go_loop [6, 7] (fun v i => ∃ k : Nat, k ≤ s.size ∧ i = .int .i64 k ∧ v = .int .u64 (numV (s.data.toList.take k) : Int) ∧ (s.data.toList.take k).all isD = true ∧ numV (s.data.toList.take k) ≤ m) (fun _ i => s.size - (RowKit.intOf i).toNat)
    case atStart => exact ⟨0, Nat.zero_le _, rfl, rfl, rfl, Nat.zero_le _⟩
    case round =>
      obtain ⟨k, hk, rfl, rfl, hd, hvm⟩ := hrel
      have hd' := Lib.hid hd
      clear hd
      obtain ⟨v, hv⟩ : ∃ v, numV (s.data.toList.take k) = v := ⟨_, rfl⟩
      rw [hv] at hvm ⊢
      have hv' := Lib.hid hv
      clear hv
      by_cases hlt : k < s.size
      · have hkl : k < s.data.toList.length := by rw [← hsl'.out]; exact hlt
        obtain ⟨c, hc0⟩ : ∃ c, s[k]'hlt = c := ⟨_, rfl⟩
        have hsk := Lib.hid (show s.data.toList[k]'hkl = c by rw [← hc0]; simp; rfl)
        have hcl := c.toNat_lt
        by_cases d1 : c.toNat < 48
        · have hres := Lib.hid (numS_digit (most := m) hkl (by rw [hsk.out]; exact isD_no (.inl d1)))
          go_wp2
          go_ret2
          exact ⟨by rw [hres.out]; rfl, rfl⟩
        by_cases d2 : 57 < c.toNat
        · have hres := Lib.hid (numS_digit (most := m) hkl (by rw [hsk.out]; exact isD_no (.inr d2)))
          go_wp2
          go_ret2
          exact ⟨by rw [hres.out]; rfl, rfl⟩
        by_cases d3 : 10 * v + (c.toNat - 48) ≤ m
        · have hst := Lib.hid (all_take_step s.data.toList k hkl hd'.out (by rw [hsk.out]; exact isD_yes (by omega) (by omega)))
          have hsv := Lib.hid (numV_step s.data.toList k hkl)
          go_wp2
          go_round
          case rel => exact ⟨k + 1, by omega, by go_num, by rw [hsv.out, hv'.out, hsk.out]; go_num, hst.out, by rw [hsv.out, hv'.out, hsk.out]; exact d3⟩
          case measure => simp [RowKit.intOf]; omega
        · have hres := Lib.hid (numS_over (most := m) hkl (by rw [hsk.out, hv'.out]; omega))
          go_wp2
          all_goals
            go_ret2
            exact ⟨by rw [hres.out]; rfl, rfl⟩
      · have hks : k = s.size := by omega
        have hall : s.data.toList.take k = s.data.toList := List.take_of_length_le (by rw [← hsl'.out]; omega)
        have hd2 := hd'.out
        have hv2 := hv'.out
        rw [hall] at hd2 hv2
        have hres := Lib.hid (numS_yes (most := m) hne'.out h1'.out hd2 (by rw [hv2]; exact hvm))
        have hv3 := Lib.hid hv2
        clear hks hall hd2 hv2
        go_wp2
        go_ret2
        exact ⟨by rw [hres.out, hv3.out]; rfl, rfl⟩
end Go.Proofs.YtjeagjleolmibaaGreatDoor.Ch

/-
  WALKS OF THE PROGRAM's READER OF LAYER xml: strconv.ParseUint at base 16, number, meant.
-/
set_option linter.unusedVariables false
namespace Go.Proofs.YtjeagjleolmibaaGreatDoor.Xm
open Go.Lib Go.RowKit

/-! ### plain -/
/-- the code point that stands between &# and ; -/
def codeOf (d : Row) : Option Nat := match d with
  | 120 :: t => if t = [] then none else (digN 16 0 t).bind fun n => if n ≤ 1114111 then some n else none
  | _ => if d = [] ∨ (1 < d.length ∧ d.head? = some 48) then none else (digN 10 0 d).bind fun n => if n ≤ 1114111 then some n else none
theorem num_code (b : Nat) (d : Row) : numE b d = (if d = [] ∨ (b = 10 ∧ 1 < d.length ∧ d.head? = some 48) then none else (digN b 0 d).bind fun n => if n ≤ 1114111 then some n else none).bind fun n => if Ch.valid (utf n) = true then some (utf n) else none := by
  unfold numE
  split
  · rfl
  · cases digN b 0 d with
    | none => rfl
    | some n =>
      simp only [Option.bind_some]
      by_cases h1 : n ≤ 1114111
      · rw [if_pos h1, Option.bind_some]
        by_cases h2 : Ch.valid (utf n) = true
        · rw [if_pos ⟨h1, h2⟩, if_pos h2]
        · rw [if_neg (fun e => h2 e.2), if_neg h2]
      · rw [if_neg h1, if_neg (fun e => h1 e.1)]; rfl
theorem ent_code {s d : Row} (hs : s = 35 :: d) : ent s = (codeOf d).bind fun n => if Ch.valid (utf n) = true then some (utf n) else none := by
  subst hs
  unfold ent
  rw [if_neg (by simp), if_neg (by simp), if_neg (by simp), if_neg (by simp), if_neg (by simp)]
  cases d with
  | nil =>
    show numE 10 [] = _
    rw [num_code]; rfl
  | cons c t =>
    by_cases hc : c = 120
    · subst hc
      show numE 16 t = (codeOf (120 :: t)).bind _
      rw [num_code]
      show _ = (if t = [] then none else (digN 16 0 t).bind _ : Option Nat).bind _
      by_cases ht : t = []
      · rw [if_pos (.inl ht), if_pos ht]
      · rw [if_neg ht, if_neg (by rintro (h | ⟨h, _⟩); exact ht h; exact absurd h (by decide))]
    · have e2 : codeOf (c :: t) = if (c :: t) = [] ∨ (1 < (c :: t).length ∧ (c :: t).head? = some 48) then none else (digN 10 0 (c :: t)).bind fun n => if n ≤ 1114111 then some n else none := by
        unfold codeOf
        split
        · rename_i u e
          injection e with e _
          exact absurd e hc
        · rfl
      have hR : numE 10 (c :: t) = (codeOf (c :: t)).bind fun n => if Ch.valid (utf n) = true then some (utf n) else none := by
        rw [e2, num_code]
        simp
      rw [← hR]
      split
      · rename_i d e
        injection e with _ e
        injection e with e _
        exact absurd e hc
      · rename_i d _ e
        injection e with _ e
        rw [e]
      · rename_i h
        exact (h (c :: t) rfl).elim
theorem ent_other {s : Row} (h : ([35] : Row).isPrefixOf s = false) (h1 : s ≠ [97, 109, 112]) (h2 : s ≠ [108, 116]) (h3 : s ≠ [103, 116]) (h4 : s ≠ [113, 117, 111, 116]) (h5 : s ≠ [97, 112, 111, 115]) : ent s = none := by
  unfold ent
  rw [if_neg h1, if_neg h2, if_neg h3, if_neg h4, if_neg h5]
  split
  · simp [List.isPrefixOf] at h
  · simp [List.isPrefixOf] at h
  · rfl
theorem digV10 : ∀ k : Fin 256, digV 10 (UInt8.ofNat k.val) = if 48 ≤ k.val ∧ k.val ≤ 57 then some (k.val - 48) else none := by decide +kernel
theorem digV10_of (c : UInt8) : digV 10 c = if Ch.isD c = true then some (c.toNat - 48) else none := by
  have := digV10 ⟨c.toNat, c.toNat_lt⟩
  simp only at this
  rw [UInt8.ofNat_toNat] at this
  rw [this]
  unfold Ch.isD
  by_cases h : 48 ≤ c.toNat ∧ c.toNat ≤ 57
  · rw [if_pos h, if_pos (decide_eq_true h)]
  · rw [if_neg h, if_neg (by rw [decide_eq_false h]; decide)]
theorem digN10 : ∀ (d : Row) (m : Nat), digN 10 m d = if d.all Ch.isD = true then some (d.foldl Ch.numF m) else none
  | [], m => rfl
  | c :: d, m => by
    simp only [digN]
    rw [digV10_of]
    by_cases h : Ch.isD c = true
    · rw [if_pos h, Option.bind_some, digN10 d]
      simp only [List.all_cons, h, Bool.true_and, List.foldl_cons]
      have : m * 10 + (c.toNat - 48) = Ch.numF m c := by unfold Ch.numF; omega
      rw [this]
    · have : (c :: d).all Ch.isD = false := by simp [h]
      rw [if_neg h, this]; rfl
theorem lead_head (d : Row) : Ch.lead0 d = true ↔ (1 < d.length ∧ d.head? = some 48) := by
  unfold Ch.lead0
  rw [decide_eq_true_iff]
  cases d with
  | nil => simp
  | cons c t =>
    simp only [List.getD_cons_zero, List.head?_cons, Option.some.injEq]
    constructor
    · rintro ⟨h1, h2⟩
      exact ⟨h1, UInt8.toNat_inj.1 (by rw [h2]; rfl)⟩
    · rintro ⟨h1, h2⟩
      exact ⟨h1, by rw [h2]; rfl⟩
theorem code10 {d : Row} (h : ([120] : Row).isPrefixOf d = false) : codeOf d = if (Ch.numS d 1114111).2 = true then some (Ch.numS d 1114111).1 else none := by
  have e2 : codeOf d = if d = [] ∨ (1 < d.length ∧ d.head? = some 48) then none else (digN 10 0 d).bind fun n => if n ≤ 1114111 then some n else none := by
    unfold codeOf
    split
    · simp [List.isPrefixOf] at h
    · rfl
  rw [e2, digN10]
  have hl := lead_head d
  unfold Ch.numS Ch.numOk
  by_cases h1 : d = []
  · subst h1; rfl
  · have h1' : d.isEmpty = false := by cases d with
      | nil => exact absurd rfl h1
      | cons c t => rfl
    cases h2 : Ch.lead0 d with
    | true =>
      rw [if_pos (.inr (hl.1 h2))]
      simp [h1']
    | false =>
      rw [if_neg (by rintro (e | e); exact h1 e; rw [hl.2 e] at h2; cases h2)]
      cases h3 : d.all Ch.isD with
      | false => simp [h1']
      | true =>
        by_cases h4 : Ch.numV d ≤ 1114111
        · have : d.foldl Ch.numF 0 ≤ 1114111 := h4
          simp [h1', h4, this]
          rfl
        · have : ¬ d.foldl Ch.numF 0 ≤ 1114111 := h4
          simp [h1', h4, this]
theorem encode_utf {n : Nat} (h : Lib.validRune (n : Int) = true) : (Utf8.encode (n : Int)).data.toList = utf n := by
  have hv : Utf8.valid (n : Int) = true := by rw [validRune_eq]; exact h
  unfold Utf8.encode utf
  simp only [hv, if_true, Int.toNat_natCast]
  by_cases h1 : n < 128
  · simp only [if_pos h1]
  · by_cases h2 : n < 2048
    · simp only [if_neg h1, if_pos h2]
    · by_cases h3 : n < 65536
      · simp only [if_neg h1, if_neg h2, if_pos h3]
      · simp only [if_neg h1, if_neg h2, if_neg h3]
/-- surrogates are no characters -/
theorem utf_bad {n : Nat} (hn : n ≤ 1114111) (h : Lib.validRune (n : Int) = false) : Ch.valid (utf n) = false := by
  have hs : 55296 ≤ n ∧ n ≤ 57343 := by
    unfold Lib.validRune at h
    have := of_decide_eq_false h
    omega
  obtain ⟨h1, h2⟩ := hs
  have e : utf n = [UInt8.ofNat (224 + n / 4096), UInt8.ofNat (128 + n / 64 % 64), UInt8.ofNat (128 + n % 64)] := by
    unfold utf
    rw [if_neg (by omega), if_neg (by omega), if_pos (by omega)]
  rw [e, Ch.valid_step _ (by simp), if_pos]
  left
  rw [Ch.rune_eq _ (by simp)]
  have t0 : (UInt8.ofNat (224 + n / 4096)).toNat = 237 := by rw [UInt8.toNat_ofNat']; omega
  have t1 : (UInt8.ofNat (128 + n / 64 % 64)).toNat = 128 + n / 64 % 64 := by rw [UInt8.toNat_ofNat']; omega
  have t2 : (UInt8.ofNat (128 + n % 64)).toNat = 128 + n % 64 := by rw [UInt8.toNat_ofNat']; omega
  simp only [List.getD_cons_zero, List.getD_cons_succ, List.length_cons, List.length_nil]
  rw [t0, t1, t2]
  rcases Ch.runeN_three 3 237 (128 + n / 64 % 64) (128 + n % 64) 0 (by omega) (by omega) with ⟨r1, r2, r2', r3, r4, r5, hr⟩ | ⟨_, hr⟩
  · exfalso
    unfold Ch.v3 at *
    omega
  · show (Ch.runeN 3 237 (128 + n / 64 % 64) (128 + n % 64) 0).2 = 0
    rw [hr]

/-! ### walks -/
def SxP (s : Row) (e : Ending) : Prop :=
  (∃ n : Nat, digN 16 0 s = some n ∧ s ≠ [] ∧ n < 18446744073709551616 ∧ e = .returned (.tuple #[.int .u64 (n : Int), .nilIface])) ∨
  ((s = [] ∨ ∀ n, digN 16 0 s = some n → 18446744073709551616 ≤ n) ∧ ∃ (x : Int) (k : Nat), e = .returned (.tuple #[.int .u64 x, .iface 182 (.pointer (some ⟨k, 0, none⟩))]))
set_option maxHeartbeats 2000000 in
set_option maxRecDepth 100000 in
theorem hex_none (w : World) : Calls Tryz.prog 122 #[.string ⟨#[]⟩, .int .i64 16, .int .i64 64] w fun e w' => e = .returned (.tuple #[.int .u64 0, .iface 180 (.int .i64 2)]) ∧ w' = w := by
  go_enter Tryz.func122, Tryz.ntmps122
  go_wp2
  go_ret2
  exact ⟨rfl, rfl⟩
theorem hex_all (s : ByteArray) (w : World) (hs : s.size ≤ 65536) :
    Calls Tryz.prog 122 #[.string s, .int .i64 16, .int .i64 64] w fun e w' => ((∃ n : Nat, digN 16 0 s.data.toList = some n ∧ s.data.toList ≠ [] ∧ n < 18446744073709551616 ∧ e = .returned (.tuple #[.int .u64 (n : Int), .nilIface])) ∨
      ∃ (x : Int) (k : Int), (k = 1 ∨ k = 2) ∧ (s.data.toList = [] ∨ ∀ n, digN 16 0 s.data.toList = some n → 18446744073709551616 ≤ n) ∧ e = .returned (.tuple #[.int .u64 x, .iface 180 (.int .i64 k)])) ∧ Below w.heap.size w w' := by
  by_cases h0 : 0 < s.size
  · refine (hex_any s w h0 hs).mono ?_
    rintro e w' ⟨h, hb⟩
    refine ⟨?_, hb⟩
    rcases h with ⟨n, h1, h2, h3⟩ | ⟨x, k, h1, h2, h3⟩
    · exact .inl ⟨n, h1, fun e => (by rw [Lib.size_eq, e] at h0; exact absurd h0 (by decide)), h2, h3⟩
    · exact .inr ⟨x, k, h1, .inr h2, h3⟩
  · have hnil : s.data.toList = [] := List.eq_nil_of_length_eq_zero (by rw [← Lib.size_eq]; omega)
    have hs : s = ⟨#[]⟩ := data_is (by rw [hnil])
    subst hs
    refine (hex_none w).mono ?_
    rintro e w' ⟨h, rfl⟩
    exact ⟨.inr ⟨0, 2, .inr rfl, .inl rfl, h⟩, Below.refl _ _⟩
set_option maxHeartbeats 2000000 in
set_option maxRecDepth 100000 in
theorem parseUint_any (s : ByteArray) (w : World) (hG : Gw w) (hs : s.size ≤ 65536) :
    Calls Tryz.prog 112 #[.string s, .int .i64 16, .int .i64 64] w fun e w' => SxP s.data.toList e ∧ Below w.heap.size w w' := by
  have cH := hex_all s w hs
  have cE := Lib.hid (fun (W : World) (hW : Below w.heap.size w W) (fn : ByteArray) (k : Int) (hk : k = 1 ∨ k = 2) => (show Calls Tryz.prog 123 #[.string fn, .string s, .int .i64 16, .int .i64 64, .iface 180 (.int .i64 k)] W fun e w' => (∃ q : Nat, e = .returned (.iface 182 (.pointer (some ⟨q, 0, none⟩)))) ∧ Below W.heap.size W w' by
    have hGW := gw_below hG hW
    rcases hk with rfl | rfl
    · obtain ⟨ev, h1, h2⟩ := hGW.rng
      exact (Tryz.strconv_toError_range fn s 16 64 ev W (by omega) h1 h2).mono fun e w' ⟨N, h3, _, _, h4⟩ => ⟨⟨N, h3⟩, h4⟩
    · obtain ⟨ev, h1, h2⟩ := hGW.syn
      exact (Tryz.strconv_toError_syntax fn s 16 64 ev W (by omega) h1 h2).mono fun e w' ⟨N, h3, _, _, h4⟩ => ⟨⟨N, h3⟩, h4⟩))
  clear hG
  go_enter Tryz.func112, Tryz.ntmps112
  go_wp2_with fail
  go_at_call 122
  refine cH.mono ?_
  rintro e w3 ⟨hq, hb3⟩
  clear cH
  rcases hq with ⟨n, h1, h2, h3, rfl⟩ | ⟨x, k, hk, h2, rfl⟩
  · have hfin := Lib.hid (show SxP s.data.toList (.returned (.tuple #[.int .u64 (n : Int), .nilIface])) from .inl ⟨n, h1, h2, h3, rfl⟩)
    have hb3' := Lib.hid hb3
    clear h1 h2 h3 cE hb3
    go_wp2
    go_ret2
    exact ⟨hfin.out, hb3'.out⟩
  · have cT := fun fn => cE.out w3 hb3 fn k hk
    have h2' := Lib.hid h2
    have hb3' := Lib.hid hb3
    clear h2 cE hk hb3
    go_wp2_with fail
    go_at_call 123
    refine (cT _).mono ?_
    rintro e w4 ⟨⟨q, rfl⟩, hb4⟩
    have hb4' := Lib.hid (below_then hb3'.out hb4)
    have hfin := Lib.hid (show SxP s.data.toList (.returned (.tuple #[.int .u64 x, .iface 182 (.pointer (some ⟨q, 0, none⟩))])) from .inr ⟨h2'.out, x, q, rfl⟩)
    clear cT hb4
    go_wp2
    go_ret2
    exact ⟨hfin.out, hb4'.out⟩

/-- what number answers -/
def NumP (d : Row) (e : Ending) : Prop := ∃ (x : Int) (ok : Bool), e = .returned (.tuple #[.int .u64 x, .bool ok]) ∧ (ok = true → ∃ n : Nat, x = (n : Int) ∧ n ≤ 1114111 ∧ codeOf d = some n) ∧ (ok = false → codeOf d = none)
theorem num_ten {d : Row} (h : ([120] : Row).isPrefixOf d = false) : NumP d (Ch.numE (Ch.numS d 1114111)) := by
  refine ⟨_, _, rfl, fun hok => ⟨_, rfl, Ch.numS_le _ _, ?_⟩, fun hok => ?_⟩
  · rw [code10 h, if_pos hok]
  · rw [code10 h, if_neg (by rw [hok]; decide)]
theorem code16 (t : Row) : codeOf (120 :: t) = if t = [] then none else (digN 16 0 t).bind fun n => if n ≤ 1114111 then some n else none := rfl
theorem num_some {t : Row} {n : Nat} (h1 : digN 16 0 t = some n) (h2 : t ≠ []) (h : n ≤ 1114111) : NumP (120 :: t) (.returned (.tuple #[.int .u64 (n : Int), .bool true])) :=
  ⟨_, _, rfl, fun _ => ⟨n, rfl, h, by rw [code16, if_neg h2, h1, Option.bind_some, if_pos h]⟩, fun e => by cases e⟩
theorem num_big {t : Row} {n : Nat} (h1 : digN 16 0 t = some n) (h : ¬ n ≤ 1114111) : NumP (120 :: t) (.returned (.tuple #[.int .u64 (n : Int), .bool false])) :=
  ⟨_, _, rfl, fun e => (by cases e), fun _ => by
    rw [code16]
    split
    · rfl
    · rw [h1, Option.bind_some, if_neg h]⟩
theorem num_none {t : Row} {x : Int} (h : t = [] ∨ ∀ n, digN 16 0 t = some n → 18446744073709551616 ≤ n) : NumP (120 :: t) (.returned (.tuple #[.int .u64 x, .bool false])) :=
  ⟨_, _, rfl, fun e => (by cases e), fun _ => by
    rw [code16]
    rcases h with h | h
    · rw [if_pos h]
    · split
      · rfl
      · cases hd : digN 16 0 t with
        | none => rfl
        | some n =>
          have := h n hd
          rw [Option.bind_some, if_neg (by omega)]⟩
set_option maxHeartbeats 2000000 in
set_option maxRecDepth 100000 in
theorem number_any (s : ByteArray) (w : World) (hG : Gw w) (hs : s.size ≤ 65536) :
    Calls Tryz.prog 95 #[.string s] w fun e w' => NumP s.data.toList e ∧ Below w.heap.size w w' := by
  have cP := pre_any s ⟨#[120]⟩ w
  have cT := Ch.number_any s 1114111 w (by omega) (by decide)
  go_enter Tryz.func95, Tryz.ntmps95
  go_wp2_with fail
  go_at_call 53
  with_reducible refine cP.mono ?_
  rintro e w3 ⟨hq, rfl⟩
  clear cP
  rcases hq with ⟨hn, rfl⟩ | ⟨t, hy, rfl⟩
  · have hfin := Lib.hid (num_ten hn)
    obtain ⟨x, hx⟩ : ∃ x, Ch.numS s.data.toList 1114111 = x := ⟨_, rfl⟩
    rw [hx] at hfin cT
    unfold Ch.numE at hfin cT
    clear hn hx hG
    go_wp2_with fail
    go_at_call 111
    refine cT.mono ?_
    rintro e w4 ⟨rfl, rfl⟩
    clear cT
    go_wp2
    go_ret2
    exact ⟨hfin.out, Below.refl _ _⟩
  · have hsz := pre_size hy
    have hsz' : s.size = 1 + t.size := hsz
    have cX := parseUint_any t w3 hG (by omega)
    have hy' : Hid (s.data.toList = 120 :: t.data.toList) := Lib.hid hy
    clear hy hsz hG cT
    go_wp2_with fail
    go_at_call 112
    refine cX.mono ?_
    rintro e w4 ⟨hq, hb4⟩
    have hb4' := Lib.hid hb4
    clear cX hb4
    rcases hq with ⟨n, h1, h2, h3, rfl⟩ | ⟨h2, x, k, rfl⟩
    · by_cases h4 : n ≤ 1114111
      · have hfin := Lib.hid (num_some h1 h2 h4)
        rw [← hy'.out] at hfin
        have q1 : (n : Int) ≤ 1114111 := by omega
        clear h1 h2 h3 hy' h4
        go_wp2
        go_ret2
        exact ⟨hfin.out, hb4'.out⟩
      · have hfin := Lib.hid (num_big h1 h4)
        rw [← hy'.out] at hfin
        have q1 : (1114111 : Int) < (n : Int) := by omega
        have q2 : decide ((n : Int) ≤ 1114111) = false := decide_eq_false (by omega)
        clear h1 h2 h3 hy' h4
        go_wp2
        go_ret2
        exact ⟨hfin.out, hb4'.out⟩
    · have hfin := Lib.hid (num_none (x := x) h2)
      rw [← hy'.out] at hfin
      clear h2 hy'
      go_wp2
      go_ret2
      exact ⟨hfin.out, hb4'.out⟩
end Go.Proofs.YtjeagjleolmibaaGreatDoor.Xm
