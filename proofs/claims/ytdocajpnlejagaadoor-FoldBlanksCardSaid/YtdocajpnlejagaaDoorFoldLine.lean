/-
  WALKS OF fold.cutLine AND fold.Unfold.
-/
import Derived.Test.YtdocajpnlejagaaDoorFoldCut
set_option linter.unusedVariables false
namespace Go.Proofs.YtdocajpnlejagaaDoor.Fo
open Go.Lib Go.RowKit Bu

def strLen : Value → Nat
  | .string t => t.size
  | _ => 0
theorem headBl_get (s : ByteArray) (h : 0 < s.size) : headBl s.data.toList = bl (s[0]'h) := by
  have hl : 0 < s.data.toList.length := by rw [← Lib.size_eq]; exact h
  have e : s.data.toList = (s[0]'h) :: s.data.toList.drop 1 := List.drop_eq_getElem_cons hl
  rw [e]; rfl
theorem blank_is (x : UInt8) (v : Bool) (w : World) (hv : bl x = v) : Calls Tryd.prog 18 #[.int .u8 (x.toNat : Int)] w fun e w' => e = .returned (.bool v) ∧ w = w' := by
  subst hv; exact blank_any x w

/-- what cutLine answers -/
def LineP (t : ByteArray) (e : Ending) : Prop :=
  (e = .returned (.tuple #[.string ⟨#[]⟩, .string ⟨#[]⟩, .bool false]) ∧ ∀ out, (out = [] ∨ headBl t.data.toList = false) → R out t.data.toList = none) ∨
  ∃ line rest : ByteArray, e = .returned (.tuple #[.string line, .string rest, .bool true]) ∧ headBl rest.data.toList = false ∧ line.data.toList.length + rest.data.toList.length + 1 ≤ t.data.toList.length ∧
    ∀ out, (out = [] ∨ headBl t.data.toList = false) → R out t.data.toList = R (out ++ [line.data.toList]) rest.data.toList

/-- the rounds: what has been gathered, what is left -/
def LineRel (t : ByteArray) (B : Nat) (w : World) (s3 : Value) (wr : World) : Prop :=
  ∃ (rest : ByteArray) (l : Row), s3 = .string rest ∧ Bd B B l wr ∧ Below w.heap.size w wr ∧ w.heap.size ≤ B ∧ l.length + rest.data.toList.length + 1 ≤ t.data.toList.length ∧
    ∀ out, (out = [] ∨ headBl t.data.toList = false) → R out t.data.toList = R (out ++ [l]) rest.data.toList

theorem bd_le {B b : Nat} {w w' : World} (h : Below B w w') (hB : b ≤ B) : Below b w w' := h.mono hB

set_option maxHeartbeats 4000000 in
set_option maxRecDepth 100000 in
theorem cutLine_any (t : ByteArray) (w : World) (hs : t.size ≤ 140737488355328) (hne : t.data.toList ≠ []) :
    Calls Tryd.prog 14 #[.string t] w fun e w' => LineP t e ∧ Below w.heap.size w w' := by
  have hne' := Lib.hid hne
  clear hne
  have htl : t.size = t.data.toList.length := Lib.size_eq t
  go_enter Tryd.func14, Tryd.ntmps14
  go_wp2_with fail
  go_at_call 20
  refine (cutRow_any t w hs hne'.out).mono ?_
  rintro e w1 ⟨hc, hb⟩
  rcases hc with ⟨rfl, h1⟩ | ⟨a, r, row, h1, h2, h3, h4, rfl⟩
  · have hfin : LineP t (.returned (.tuple #[.string ⟨#[]⟩, .string ⟨#[]⟩, .bool false])) := .inl ⟨rfl, fun out _ => h1 out⟩
    have hfin' := Lib.hid hfin
    have htl' := Lib.hid htl
    clear hfin h1 htl
    go_wp2
    go_ret3
    exact ⟨hfin'.out, hb⟩
  · have hrow : row.data.toList ≠ [] := by
      intro h0
      rw [h0] at h4
      cases h4
    have hz : 0 < row.size := by rw [Lib.size_eq]; exact List.length_pos_iff.2 hrow
    have hhd := headBl_get row hz
    obtain ⟨hst, x0, r0, ha0, _⟩ := strip_head a.data.toList (by rw [← h3]; exact hrow)
    have hth : headBl t.data.toList = headBl row.data.toList := by
      rw [h2, h3, hst, ha0]; rfl
    have hlen : t.data.toList.length = a.data.toList.length + (r.data.toList.length + 1) := by rw [h2]; simp
    have hrl : row.data.toList.length ≤ a.data.toList.length := by rw [h3]; exact strip_len _
    have hRt : ∀ out, R out t.data.toList = (gstep out row.data.toList).bind fun o => R o r.data.toList := fun out => by rw [h2, R_cut out _ _ h1, ← h3]
    cases hv : bl (row[0]'hz)
    · have hRt2 : ∀ out, R out t.data.toList = R (out ++ [row.data.toList]) r.data.toList := fun out => by
        rw [hRt, gstep_new out _ h4 (by rw [hhd]; exact hv)]; rfl
      have hR' := Lib.hid hRt2
      have hrs : row.size ≤ 140737488355328 := by rw [Lib.size_eq]; omega
      have cB := fun W => blank_is (row[0]'hz) false W hv
      have hL : row.data.toList.length + r.data.toList.length + 1 ≤ t.data.toList.length := by omega
      clear hRt2 hRt hv hhd hth hst ha0 h1 h2 h3 h4 hlen hrl hrow
      have htl' := Lib.hid htl
      clear htl
      go_wp2_with (first
        | (go_at_call 18; refine (cB _).mono ?_; rintro e w' ⟨rfl, rfl⟩)
        | (go_at_call 21; refine (write_any w1.heap.size w1.heap.size [] row _ (fresh w1) (by simpa using hrs) (by simp)).mono ?_; rintro e w2 ⟨rfl, hbd, hb2⟩))
      clear cB hrs
      have hbw : Below w.heap.size w w2 := (hb.alloc hb.size _).trans (hb2.mono hb.size)
      have hsz : w1.heap.size ≤ w2.heap.size := by have := hb2.size; simp at this; omega
      have hrel0 : LineRel t w1.heap.size w (.string r) w2 := ⟨r, row.data.toList, rfl, by simpa using hbd, hbw, hb.size, hL, fun out _ => hR'.out out⟩
      have hB1 : w.heap.size ≤ w1.heap.size := hb.size
      generalize w1.heap.size = B at hrel0 hB1 ⊢
      clear hbw hsz hR' hL hbd hb2 hb
      go_loopw [3] (fun s3 wr => LineRel t B w s3 wr) (fun s3 wr => strLen s3)
      case atStart => exact hrel0
      case round =>
        obtain ⟨rest, l, rfl, hbd, hbw, _, hL, hR⟩ := hrel
        clear hrel0
        have hR' := Lib.hid hR
        clear hR
        have hBr := hbd.lt
        have hw2 : w2.heap.size ≤ wr.heap.size ∨ True := .inr trivial
        clear hw2
        have hend : headBl rest.data.toList = false → LineP t (.returned (.tuple #[.string ⟨l.toArray⟩, .string rest, .bool true])) := fun hh =>
          .inr ⟨⟨l.toArray⟩, rest, rfl, hh, by simpa using hL, fun out ho => by rw [hR'.out out ho]⟩
        have hend' := Lib.hid hend
        clear hend
        by_cases h0 : rest.data.toList = []
        · have he := empty_of rest h0
          have hfin' := Lib.hid (hend'.out (by rw [h0]; rfl))
          clear h0 hL
          go_wp2_with (go_at_call 16; refine (text_any B B l _ hbd (by omega)).mono ?_; rintro e w3 ⟨rfl, _, hb3⟩)
          go_ret3
          exact ⟨hfin'.out, hbw.trans (hb3.mono hB1)⟩
        · have he := nonempty_of rest h0
          have hz2 : 0 < rest.size := by rw [Lib.size_eq]; exact List.length_pos_iff.2 h0
          have hhd := headBl_get rest hz2
          cases hv2 : bl (rest[0]'hz2)
          · have hfin' := Lib.hid (hend'.out (by rw [hhd]; exact hv2))
            have cB2 := fun W => blank_is (rest[0]'hz2) false W hv2
            clear hhd hv2 h0 hL
            go_wp2_with (first
              | (go_at_call 18; refine (cB2 _).mono ?_; rintro e w' ⟨rfl, rfl⟩)
              | (go_at_call 16; refine (text_any B B l _ hbd (by omega)).mono ?_; rintro e w3 ⟨rfl, _, hb3⟩))
            go_ret3
            exact ⟨hfin'.out, hbw.trans (hb3.mono hB1)⟩
          · have cB2 := fun W => blank_is (rest[0]'hz2) true W hv2
            have h0' := Lib.hid h0
            have hhd' := Lib.hid (hhd.trans hv2)
            have htl2 : rest.size ≤ 140737488355328 := by rw [Lib.size_eq]; have := htl'.out; omega
            have hL' := Lib.hid hL
            clear hhd hv2 h0 hL hend'
            go_wp2_with (go_at_call 18; refine (cB2 _).mono ?_; rintro e w' ⟨rfl, rfl⟩)
            go_at_call 20
            refine (cutRow_any rest _ htl2 h0'.out).mono ?_
            rintro e w4 ⟨hc, hb4⟩
            rcases hc with ⟨rfl, h1⟩ | ⟨a2, r2, row2, h1, h2, h3, h4, rfl⟩
            · have hfin : LineP t (.returned (.tuple #[.string ⟨#[]⟩, .string ⟨#[]⟩, .bool false])) := .inl ⟨rfl, fun out ho => by rw [hR'.out out ho, h1]⟩
              have hfin' := Lib.hid hfin
              clear hfin h1
              go_wp2
              go_ret3
              exact ⟨hfin'.out, below_then hbw hb4⟩
            · have hrow : row2.data.toList ≠ [] := by
                intro h0
                rw [h0] at h4
                cases h4
              have hzr : 0 < row2.size := by rw [Lib.size_eq]; exact List.length_pos_iff.2 hrow
              obtain ⟨hst, x0, r0, ha0, _⟩ := strip_head a2.data.toList (by rw [← h3]; exact hrow)
              have hth : headBl row2.data.toList = true := by rw [← hhd'.out, h2, h3, hst, ha0]; rfl
              have hlen : rest.data.toList.length = a2.data.toList.length + (r2.data.toList.length + 1) := by rw [h2]; simp
              have hrl : row2.data.toList.length ≤ a2.data.toList.length := by rw [h3]; exact strip_len _
              have htt : (row2.extract 1 row2.size).data.toList = row2.data.toList.tail := by rw [Lib.extract_to_end, List.drop_one]
              have htz : (row2.extract 1 row2.size).data.toList.length + 1 = row2.data.toList.length := by
                rw [htt, List.length_tail]; have := List.length_pos_iff.2 hrow; omega
              have htz2 : (row2.extract 1 row2.size).size = (row2.extract 1 row2.size).data.toList.length := Lib.size_eq _
              have hL2 : (l ++ (row2.extract 1 row2.size).data.toList).length + r2.data.toList.length + 1 ≤ t.data.toList.length := by
                have := hL'.out; rw [List.length_append]; omega
              have hRn : ∀ out, (out = [] ∨ headBl t.data.toList = false) → R out t.data.toList = R (out ++ [l ++ (row2.extract 1 row2.size).data.toList]) r2.data.toList := fun out ho => by
                rw [hR'.out out ho, h2, R_cut _ _ _ h1, ← h3, gstep_more _ _ _ h4 hth, htt]; rfl
              have hlm : l.length + (row2.extract 1 row2.size).size ≤ 140737488355328 := by
                have h5 := htl'.out; rw [List.length_append] at hL2; omega
              have hms : r2.size < rest.size := by rw [Lib.size_eq, Lib.size_eq]; omega
              have hRn' := Lib.hid hRn
              have hL2' := Lib.hid hL2
              have hbd4 : Bd B B l w4 := hbd.kept hb4
              have hB4 : B ≤ w4.heap.size := by have := hbd4.lt; omega
              have hbw4 := below_then hbw hb4
              clear hRn hL2 htt htz htz2 hrl hlen hth hst ha0 h1 h2 h3 h4 hrow hbd hb4 hbw hBr cB2
              go_wp2_with (go_at_call 21; refine (write_any B B l _ _ hbd4 hlm hB4).mono ?_; rintro e w5 ⟨rfl, hbd5, hb5⟩)
              go_roundw
              case rel => exact ⟨r2, _, rfl, hbd5, hbw4.trans (hb5.mono hB1), hB1, hL2'.out, hRn'.out⟩
              case measure => exact hms
    · have hfin : LineP t (.returned (.tuple #[.string ⟨#[]⟩, .string ⟨#[]⟩, .bool false])) := .inl ⟨rfl, fun out ho => by
        rcases ho with rfl | ho
        · rw [hRt, gstep_none _ (by rw [hhd]; exact hv)]; rfl
        · rw [hth, hhd, hv] at ho; cases ho⟩
      have hfin' := Lib.hid hfin
      have cB := fun W => blank_is (row[0]'hz) true W hv
      clear hRt hv hhd hth hst ha0 h1 h2 h3 h4 hlen hrl hrow hfin htl
      go_wp2_with (go_at_call 18; refine (cB _).mono ?_; rintro e w' ⟨rfl, rfl⟩)
      go_ret3
      exact ⟨hfin'.out, hb⟩
end Go.Proofs.YtdocajpnlejagaaDoor.Fo
