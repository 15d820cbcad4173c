/-
  THE WALK OF fold.Unfold.
-/
import Derived.Test.YtdocajpnlejagaaDoorFoldLine
set_option linter.unusedVariables false
namespace Go.Proofs.YtdocajpnlejagaaDoor.Fo
open Go.Lib Go.RowKit Bu

def sv (l : Row) : Value := .string ⟨l.toArray⟩
theorem sv_data (s : ByteArray) : sv s.data.toList = .string s := by unfold sv; rw [Lib.mk_data]
/-- a slice of the call's own that reads as these strings -/
def Own (B : Nat) (v : Value) (ls : List Row) (w : World) : Prop := w.ownsRow B 9 1 v ls.length (ls.map sv)
theorem Own.nil (B : Nat) (w : World) : Own B (.slice none 0 0) [] w := World.ownsRow_nil w B _ 1
theorem ownsRow_kept {w w' : World} {B : Nat} {e : TypeId} {size : Nat} {v : Value} {n : Nat} {xs : List Value} (h : w.ownsRow B e size v n xs) (hb : Below w.heap.size w w') : w'.ownsRow B e size v n xs := by
  refine ⟨h.1, ?_⟩
  rcases h.2 with h | ⟨g, cap, cur, e1, e2, e3, e4⟩
  · exact .inl h
  · exact .inr ⟨g, cap, cur, e1, e2, by rw [hb.block g (Array.getElem?_eq_some_iff.1 e3).1]; exact e3, e4⟩
theorem Own.kept {w w' : World} {B : Nat} {v : Value} {ls : List Row} (h : Own B v ls w) (hb : Below w.heap.size w w') : Own B v ls w' := ownsRow_kept h hb
theorem infoStr : (Tryd.prog.info? 9).map (fun i => (i.zero, i.size, i.bytes)) = some (some (.string ⟨#[]⟩), 1, 16) := by kernel_rfl

/-- what Unfold answers -/
def UnfP (B : Nat) (T : ByteArray) (e : Ending) (w' : World) : Prop :=
  (∃ v out, e = .returned (.tuple #[v, .int .i64 0]) ∧ R [] T.data.toList = some out ∧ Own B v out w') ∨
  (e = .returned (.tuple #[.slice none 0 0, .int .i64 20]) ∧ R [] T.data.toList = none)

def UnfRel (T : ByteArray) (w : World) (s0 s4 : Value) (wr : World) : Prop :=
  ∃ (text : ByteArray) (out : List Row) (v : Value), s0 = .string text ∧ v = s4 ∧ Own w.heap.size s4 out wr ∧ Below w.heap.size w wr ∧ out.length + text.data.toList.length ≤ T.data.toList.length ∧
    R [] T.data.toList = R out text.data.toList ∧ (out = [] ∨ headBl text.data.toList = false)

set_option maxHeartbeats 4000000 in
set_option maxRecDepth 100000 in
theorem unfold_any (T : ByteArray) (w : World) (hs : T.size ≤ 1099511627776) :
    Calls Tryd.prog 8 #[.string T] w fun e w' => UnfP w.heap.size T e w' ∧ Below w.heap.size w w' := by
  obtain ⟨i0, hi, hz0, hz1, hz2⟩ := info_parts infoStr
  have htl := Lib.hid (Lib.size_eq T)
  go_enter Tryd.func8, Tryd.ntmps8
  go_wp2
  go_loopw [0, 4] (fun s0 s4 wr => UnfRel T w s0 s4 wr) (fun s0 s4 wr => strLen s0)
  case atStart => exact ⟨T, [], _, rfl, rfl, Own.nil _ _, Below.refl _ _, by simp, rfl, .inl rfl⟩
  case round =>
    obtain ⟨text, out, s4, rfl, rfl, hown, hbw, hL, hR, hH⟩ := hrel
    have hR' := Lib.hid hR
    have hL' := Lib.hid hL
    have hH' := Lib.hid hH
    clear hR hL hH
    by_cases h0 : text.data.toList = []
    · have he := empty_of text h0
      have hfin : UnfP w.heap.size T (.returned (.tuple #[s4, .int .i64 0])) wr := .inl ⟨s4, out, rfl, by rw [hR'.out, h0]; rfl, hown⟩
      have hfin' := Lib.hid hfin
      clear hfin h0
      go_wp2
      go_ret2
      exact ⟨hfin'.out, hbw⟩
    · have he := nonempty_of text h0
      have hts : text.size ≤ 140737488355328 := by have h1 := htl.out; have h2 := hL'.out; rw [Lib.size_eq]; omega
      have h0' := Lib.hid h0
      clear h0
      go_wp2_with fail
      go_at_call 14
      refine (cutLine_any text wr hts h0'.out).mono ?_
      rintro e w1 ⟨hc, hb1⟩
      rcases hc with ⟨rfl, h1⟩ | ⟨line, rest, rfl, h1, h2, h3⟩
      · have hfin : UnfP w.heap.size T (.returned (.tuple #[.slice none 0 0, .int .i64 20])) w1 := .inr ⟨rfl, by rw [hR'.out, h1 out hH'.out]⟩
        have hfin' := Lib.hid hfin
        clear hfin h1
        go_wp2
        go_ret2
        exact ⟨hfin'.out, below_then hbw hb1⟩
      · have hRn := Lib.hid (hR'.out.trans (h3 out hH'.out))
        have hLn : (out ++ [line.data.toList]).length + rest.data.toList.length ≤ T.data.toList.length := by have := hL'.out; rw [List.length_append, List.length_singleton]; omega
        have hms : rest.size < text.size := by rw [Lib.size_eq, Lib.size_eq]; omega
        have hol : out.length ≤ 1099511627776 := by have h4 := htl.out; have h5 := hL'.out; omega
        have hLn' := Lib.hid hLn
        have hms' := Lib.hid hms
        have hown1 : Own w.heap.size s4 out w1 := hown.kept hb1
        have hbw1 := below_then hbw hb1
        have hcell : ([.string line] : List Value).map id = [.string line] := rfl
        have h1' := Lib.hid h1
        clear h1 h2 h3 hLn hms hown hcell hR' hL' hH'
        unfold Own at hown1
        go_wp2_with (at_builtin; refine wpList_append_own _ rfl _ _ 23 rfl w.heap.size 9 i0 (.string ⟨#[]⟩) 1 16 Tryd.underlying23 hi hz0 hz1 hz2 rfl (by decide) _ _ _ rfl (hown1.alloc _) ⟨w1.heap.size, 0, none⟩ 1 1 [.string line] rfl rfl ?c1 ?c2 ?c3 ?c4 ?c5 ?_)
        case c1 =>
          intro j u hj
          match j, hj with
          | 0, hj => simp at hj; subst hj; simp [Addr.add]
        case c2 => intro u hu; simp at hu; subst hu; rfl
        case c3 => unfold maxLen; omega
        case c4 => omega
        case c5 => have := hbw1.size; simp; omega
        intro v' w2 hown' hgrow _
        have hown2 : Own w.heap.size v' (out ++ [line.data.toList]) w2 := by
          unfold Own
          rw [List.map_append, List.length_append]
          simpa [sv_data] using hown'
        have hbw2 : Below w.heap.size w w2 := (hbw1.alloc hbw1.size _).grown hgrow (by have := hbw1.size; simp; omega) (fun k hk => (hown1.lt k hk).1)
        clear hown' hgrow hown1 hbw hbw1
        go_wp2
        go_roundw
        case rel => exact ⟨rest, _, _, rfl, rfl, hown2, hbw2, hLn'.out, hRn.out, .inr h1'.out⟩
        case measure => exact hms'.out
end Go.Proofs.YtdocajpnlejagaaDoor.Fo
