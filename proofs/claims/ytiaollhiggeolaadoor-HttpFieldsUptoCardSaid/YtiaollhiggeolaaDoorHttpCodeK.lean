/-
  THE WALK OF THE PROGRAM's LAYER http: Reason: a map written out, and one look-up.
-/
import Derived.Test.YtiaollhiggeolaaDoorHttpCodeI
import Derived.Maps.OwnOps
import Derived.Maps.OwnSet
set_option linter.unusedVariables false
namespace Go.Proofs.YtiaollhiggeolaaDoor.Ht
open Go.Lib Go.RowKit Go.Shelf Go.Maps

/-- 'm[k] = v' of a literal, at the operation -/
theorem wpList_insert_own {H : Type} {P : Program} (w : World) {ops : Array Oper} {rest : List Oper} {o : Oper} {a : Act} {Q : Exit → Act → World → Prop}
    (hg : o.guard = none) (m x v : Operand) (t : TypeId) (hop : o.op = Op.insert t m x v)
    (k e : TypeId) (K : Keyed P k) (ht : P.underlying t = some (.map k e)) (R : Value → Option (DataW H × List MemPlace)) (b n : Nat) (D : DataW H)
    (hm : a.eval m = .map (some b)) (hown : w.ownsMap P k R b n D) (hn : n < maxLen) (key val : Value) (kl : Lit) (hx : a.eval x = key) (hv : a.eval v = val) (hkey : keyOf P k key = some kl)
    (d : DataW H) (ps : List MemPlace) (hval : R val = some (d, ps))
    (hK : ∀ w', w'.ownsMap P k R b (n + 1) (D.put kl d) → w.grownBy w' (some b) → wpList P ops Q rest (a.put o.dst undef) w') :
    wpList P ops Q (o :: rest) a w := by
  refine wpList_plain hg fun K' hK' => ?_
  obtain ⟨w', hrun, r1, r2⟩ := hown.update K ht hn hkey hval
  unfold Oper.wp
  simp [execOp, hop, hm, hx, hv, hrun, Result.andThen]
  exact hK' _ _ (hK w' r1 r2)

/-- how an element reads: a struct of one string -/
def rsR (v : Value) : Option (DataW Unit × List MemPlace) := match v with
  | .agg cs => (match cs.toList with
    | [.string s] => some (.agg [.lit (.string s.data.toList)], [])
    | _ => none)
  | _ => none
theorem rsR_inv {v : Value} {z : DataW Unit × List MemPlace} (h : rsR v = some z) : ∃ s : ByteArray, v = .agg #[.string s] ∧ z = (.agg [.lit (.string s.data.toList)], []) := by
  unfold rsR at h
  split at h
  · rename_i cs
    split at h
    · rename_i s hs
      refine ⟨s, ?_, (Option.some.inj h).symm⟩
      congr 1
      exact Array.toList_inj.1 hs
    · cases h
  · cases h
theorem int_key : Keyed Tryd.prog 3 := int_keyed Tryd.underlying3
theorem zero_rs (w : World) : (zeroValue 66).run Tryd.prog w = .ok (.agg #[.string ⟨#[]⟩]) w := by kernel_rfl
theorem key_is (n : Int) (h : (Lit.int .i64 n).wf = true) : keyOf Tryd.prog 3 (.int .i64 n) = some (.int .i64 n) := keyOf_int_mk Tryd.underlying3 h
def rsD (r : Row) : DataW Unit := .agg [.lit (.string r)]
/-- a map that reads as this function of its keys -/
structure Tbl (D : DataW Unit) (f : Int → Option Row) : Prop where
  isMap : IsMap D
  has : ∀ n : Int, Maps.has D (.int .i64 n) = (f n).isSome
  at' : ∀ (n : Int) (z : DataW Unit), D.atKey (.int .i64 n) z = match f n with
    | some r => rsD r
    | none => z
theorem tbl_none : Tbl (.map []) (fun _ => none) := ⟨isMap_empty, fun n => rfl, fun n z => rfl⟩
theorem key_lit (n : Int) : WideAt.IsKeyLit (.int .i64 n) := by trivial
theorem Tbl.put {D : DataW Unit} {f : Int → Option Row} (h : Tbl D f) (k : Int) (r : Row) : Tbl (D.put (.int .i64 k) (rsD r)) (fun n => if n = k then some r else f n) := by
  refine ⟨h.isMap.put _ _, fun n => ?_, fun n z => ?_⟩
  · by_cases e : n = k
    · subst e
      rw [if_pos rfl, has_put_same h.isMap (key_lit n)]; rfl
    · rw [if_neg e, has_put_other (fun e2 => e (by injection e2)), h.has]
  · by_cases e : n = k
    · subst e
      rw [if_pos rfl, atKey_put_same h.isMap (key_lit n)]
    · rw [if_neg e, atKey_put_other (fun e2 => e (by injection e2)), h.at']

def rsF (n : Int) : Option Row := if n = 507 then some [73, 110, 115, 117, 102, 102, 105, 99, 105, 101, 110, 116, 32, 83, 116, 111, 114, 97, 103, 101] else (if n = 503 then some [83, 101, 114, 118, 105, 99, 101, 32, 85, 110, 97, 118, 97, 105, 108, 97, 98, 108, 101] else (if n = 421 then some [77, 105, 115, 100, 105, 114, 101, 99, 116, 101, 100, 32, 82, 101, 113, 117, 101, 115, 116] else (if n = 413 then some [67, 111, 110, 116, 101, 110, 116, 32, 84, 111, 111, 32, 76, 97, 114, 103, 101] else (if n = 412 then some [80, 114, 101, 99, 111, 110, 100, 105, 116, 105, 111, 110, 32, 70, 97, 105, 108, 101, 100] else (if n = 409 then some [67, 111, 110, 102, 108, 105, 99, 116] else (if n = 405 then some [77, 101, 116, 104, 111, 100, 32, 78, 111, 116, 32, 65, 108, 108, 111, 119, 101, 100] else (if n = 404 then some [78, 111, 116, 32, 70, 111, 117, 110, 100] else (if n = 403 then some [70, 111, 114, 98, 105, 100, 100, 101, 110] else (if n = 400 then some [66, 97, 100, 32, 82, 101, 113, 117, 101, 115, 116] else (if n = 207 then some [77, 117, 108, 116, 105, 45, 83, 116, 97, 116, 117, 115] else (if n = 204 then some [78, 111, 32, 67, 111, 110, 116, 101, 110, 116] else (if n = 201 then some [67, 114, 101, 97, 116, 101, 100] else (if n = 200 then some [79, 75] else (none))))))))))))))
def rsM : DataW Unit := (((((((((((((((.map [] : DataW Unit).put (.int .i64 200) (rsD [79, 75])).put (.int .i64 201) (rsD [67, 114, 101, 97, 116, 101, 100])).put (.int .i64 204) (rsD [78, 111, 32, 67, 111, 110, 116, 101, 110, 116])).put (.int .i64 207) (rsD [77, 117, 108, 116, 105, 45, 83, 116, 97, 116, 117, 115])).put (.int .i64 400) (rsD [66, 97, 100, 32, 82, 101, 113, 117, 101, 115, 116])).put (.int .i64 403) (rsD [70, 111, 114, 98, 105, 100, 100, 101, 110])).put (.int .i64 404) (rsD [78, 111, 116, 32, 70, 111, 117, 110, 100])).put (.int .i64 405) (rsD [77, 101, 116, 104, 111, 100, 32, 78, 111, 116, 32, 65, 108, 108, 111, 119, 101, 100])).put (.int .i64 409) (rsD [67, 111, 110, 102, 108, 105, 99, 116])).put (.int .i64 412) (rsD [80, 114, 101, 99, 111, 110, 100, 105, 116, 105, 111, 110, 32, 70, 97, 105, 108, 101, 100])).put (.int .i64 413) (rsD [67, 111, 110, 116, 101, 110, 116, 32, 84, 111, 111, 32, 76, 97, 114, 103, 101])).put (.int .i64 421) (rsD [77, 105, 115, 100, 105, 114, 101, 99, 116, 101, 100, 32, 82, 101, 113, 117, 101, 115, 116])).put (.int .i64 503) (rsD [83, 101, 114, 118, 105, 99, 101, 32, 85, 110, 97, 118, 97, 105, 108, 97, 98, 108, 101])).put (.int .i64 507) (rsD [73, 110, 115, 117, 102, 102, 105, 99, 105, 101, 110, 116, 32, 83, 116, 111, 114, 97, 103, 101]))
theorem rsM_is : Tbl rsM rsF := ((((((((((((((tbl_none.put 200 [79, 75]).put 201 [67, 114, 101, 97, 116, 101, 100]).put 204 [78, 111, 32, 67, 111, 110, 116, 101, 110, 116]).put 207 [77, 117, 108, 116, 105, 45, 83, 116, 97, 116, 117, 115]).put 400 [66, 97, 100, 32, 82, 101, 113, 117, 101, 115, 116]).put 403 [70, 111, 114, 98, 105, 100, 100, 101, 110]).put 404 [78, 111, 116, 32, 70, 111, 117, 110, 100]).put 405 [77, 101, 116, 104, 111, 100, 32, 78, 111, 116, 32, 65, 108, 108, 111, 119, 101, 100]).put 409 [67, 111, 110, 102, 108, 105, 99, 116]).put 412 [80, 114, 101, 99, 111, 110, 100, 105, 116, 105, 111, 110, 32, 70, 97, 105, 108, 101, 100]).put 413 [67, 111, 110, 116, 101, 110, 116, 32, 84, 111, 111, 32, 76, 97, 114, 103, 101]).put 421 [77, 105, 115, 100, 105, 114, 101, 99, 116, 101, 100, 32, 82, 101, 113, 117, 101, 115, 116]).put 503 [83, 101, 114, 118, 105, 99, 101, 32, 85, 110, 97, 118, 97, 105, 108, 97, 98, 108, 101]).put 507 [73, 110, 115, 117, 102, 102, 105, 99, 105, 101, 110, 116, 32, 83, 116, 111, 114, 97, 103, 101])
theorem rsF_is (n : Int) : reason n = (rsF n).getD [79, 116, 104, 101, 114] := by
  unfold reason rsF
  by_cases h200 : n = 200
  · subst h200; rfl
  rw [if_neg h200]
  by_cases h201 : n = 201
  · subst h201; rfl
  rw [if_neg h201]
  by_cases h204 : n = 204
  · subst h204; rfl
  rw [if_neg h204]
  by_cases h207 : n = 207
  · subst h207; rfl
  rw [if_neg h207]
  by_cases h400 : n = 400
  · subst h400; rfl
  rw [if_neg h400]
  by_cases h403 : n = 403
  · subst h403; rfl
  rw [if_neg h403]
  by_cases h404 : n = 404
  · subst h404; rfl
  rw [if_neg h404]
  by_cases h405 : n = 405
  · subst h405; rfl
  rw [if_neg h405]
  by_cases h409 : n = 409
  · subst h409; rfl
  rw [if_neg h409]
  by_cases h412 : n = 412
  · subst h412; rfl
  rw [if_neg h412]
  by_cases h413 : n = 413
  · subst h413; rfl
  rw [if_neg h413]
  by_cases h421 : n = 421
  · subst h421; rfl
  rw [if_neg h421]
  by_cases h503 : n = 503
  · subst h503; rfl
  rw [if_neg h503]
  by_cases h507 : n = 507
  · subst h507; rfl
  rw [if_neg h507]
  rw [if_neg h507, if_neg h503, if_neg h421, if_neg h413, if_neg h412, if_neg h409, if_neg h405, if_neg h404, if_neg h403, if_neg h400, if_neg h207, if_neg h204, if_neg h201, if_neg h200]
  rfl
set_option maxHeartbeats 8000000 in
set_option maxRecDepth 100000 in
theorem reason_any (n : Int) (w : World) (hn : (Lit.int .i64 n).wf = true) : Calls Tryd.prog 17 #[.int .i64 n] w fun e w' => e = .returned (sv (reason n)) ∧ Below w.heap.size w w' := by
  have hmm := @run_makeMap Tryd.prog
  have hz := zero_rs
  have hkn := key_is n hn
  have hb0 : Below w.heap.size w (w.alloc (.map #[] 0)) := (Below.refl _ _).alloc (Nat.le_refl _) _
  have hown0 := World.ownsMap_made w Tryd.prog 3 rsR
  have hb0' := Lib.hid hb0
  clear hb0
  go_enter Tryd.func17, Tryd.ntmps17
  go_wp2_with (refine wpList_insert_own _ rfl _ _ _ 67 rfl 3 66 int_key Tryd.underlying67 _ w.heap.size 0 _ rfl hown0 (by decide) _ _ (.int .i64 200) rfl rfl (key_is 200 (by decide)) (rsD [79, 75]) [] rfl ?_)
  intro w1 hown1 hg1
  have hb1' := Lib.hid (hb0'.out.grown hg1 (by have := hb0'.out.size; omega) (fun k hk => by injection hk with hk; omega))
  clear hg1 hb0' hown0
  go_wp2_with (refine wpList_insert_own _ rfl _ _ _ 67 rfl 3 66 int_key Tryd.underlying67 _ w.heap.size 1 _ rfl hown1 (by decide) _ _ (.int .i64 201) rfl rfl (key_is 201 (by decide)) (rsD [67, 114, 101, 97, 116, 101, 100]) [] rfl ?_)
  intro w2 hown2 hg2
  have hb2' := Lib.hid (hb1'.out.grown hg2 (by have := hb1'.out.size; omega) (fun k hk => by injection hk with hk; omega))
  clear hg2 hb1' hown1
  go_wp2_with (refine wpList_insert_own _ rfl _ _ _ 67 rfl 3 66 int_key Tryd.underlying67 _ w.heap.size 2 _ rfl hown2 (by decide) _ _ (.int .i64 204) rfl rfl (key_is 204 (by decide)) (rsD [78, 111, 32, 67, 111, 110, 116, 101, 110, 116]) [] rfl ?_)
  intro w3 hown3 hg3
  have hb3' := Lib.hid (hb2'.out.grown hg3 (by have := hb2'.out.size; omega) (fun k hk => by injection hk with hk; omega))
  clear hg3 hb2' hown2
  go_wp2_with (refine wpList_insert_own _ rfl _ _ _ 67 rfl 3 66 int_key Tryd.underlying67 _ w.heap.size 3 _ rfl hown3 (by decide) _ _ (.int .i64 207) rfl rfl (key_is 207 (by decide)) (rsD [77, 117, 108, 116, 105, 45, 83, 116, 97, 116, 117, 115]) [] rfl ?_)
  intro w4 hown4 hg4
  have hb4' := Lib.hid (hb3'.out.grown hg4 (by have := hb3'.out.size; omega) (fun k hk => by injection hk with hk; omega))
  clear hg4 hb3' hown3
  go_wp2_with (refine wpList_insert_own _ rfl _ _ _ 67 rfl 3 66 int_key Tryd.underlying67 _ w.heap.size 4 _ rfl hown4 (by decide) _ _ (.int .i64 400) rfl rfl (key_is 400 (by decide)) (rsD [66, 97, 100, 32, 82, 101, 113, 117, 101, 115, 116]) [] rfl ?_)
  intro w5 hown5 hg5
  have hb5' := Lib.hid (hb4'.out.grown hg5 (by have := hb4'.out.size; omega) (fun k hk => by injection hk with hk; omega))
  clear hg5 hb4' hown4
  go_wp2_with (refine wpList_insert_own _ rfl _ _ _ 67 rfl 3 66 int_key Tryd.underlying67 _ w.heap.size 5 _ rfl hown5 (by decide) _ _ (.int .i64 403) rfl rfl (key_is 403 (by decide)) (rsD [70, 111, 114, 98, 105, 100, 100, 101, 110]) [] rfl ?_)
  intro w6 hown6 hg6
  have hb6' := Lib.hid (hb5'.out.grown hg6 (by have := hb5'.out.size; omega) (fun k hk => by injection hk with hk; omega))
  clear hg6 hb5' hown5
  go_wp2_with (refine wpList_insert_own _ rfl _ _ _ 67 rfl 3 66 int_key Tryd.underlying67 _ w.heap.size 6 _ rfl hown6 (by decide) _ _ (.int .i64 404) rfl rfl (key_is 404 (by decide)) (rsD [78, 111, 116, 32, 70, 111, 117, 110, 100]) [] rfl ?_)
  intro w7 hown7 hg7
  have hb7' := Lib.hid (hb6'.out.grown hg7 (by have := hb6'.out.size; omega) (fun k hk => by injection hk with hk; omega))
  clear hg7 hb6' hown6
  go_wp2_with (refine wpList_insert_own _ rfl _ _ _ 67 rfl 3 66 int_key Tryd.underlying67 _ w.heap.size 7 _ rfl hown7 (by decide) _ _ (.int .i64 405) rfl rfl (key_is 405 (by decide)) (rsD [77, 101, 116, 104, 111, 100, 32, 78, 111, 116, 32, 65, 108, 108, 111, 119, 101, 100]) [] rfl ?_)
  intro w8 hown8 hg8
  have hb8' := Lib.hid (hb7'.out.grown hg8 (by have := hb7'.out.size; omega) (fun k hk => by injection hk with hk; omega))
  clear hg8 hb7' hown7
  go_wp2_with (refine wpList_insert_own _ rfl _ _ _ 67 rfl 3 66 int_key Tryd.underlying67 _ w.heap.size 8 _ rfl hown8 (by decide) _ _ (.int .i64 409) rfl rfl (key_is 409 (by decide)) (rsD [67, 111, 110, 102, 108, 105, 99, 116]) [] rfl ?_)
  intro w9 hown9 hg9
  have hb9' := Lib.hid (hb8'.out.grown hg9 (by have := hb8'.out.size; omega) (fun k hk => by injection hk with hk; omega))
  clear hg9 hb8' hown8
  go_wp2_with (refine wpList_insert_own _ rfl _ _ _ 67 rfl 3 66 int_key Tryd.underlying67 _ w.heap.size 9 _ rfl hown9 (by decide) _ _ (.int .i64 412) rfl rfl (key_is 412 (by decide)) (rsD [80, 114, 101, 99, 111, 110, 100, 105, 116, 105, 111, 110, 32, 70, 97, 105, 108, 101, 100]) [] rfl ?_)
  intro w10 hown10 hg10
  have hb10' := Lib.hid (hb9'.out.grown hg10 (by have := hb9'.out.size; omega) (fun k hk => by injection hk with hk; omega))
  clear hg10 hb9' hown9
  go_wp2_with (refine wpList_insert_own _ rfl _ _ _ 67 rfl 3 66 int_key Tryd.underlying67 _ w.heap.size 10 _ rfl hown10 (by decide) _ _ (.int .i64 413) rfl rfl (key_is 413 (by decide)) (rsD [67, 111, 110, 116, 101, 110, 116, 32, 84, 111, 111, 32, 76, 97, 114, 103, 101]) [] rfl ?_)
  intro w11 hown11 hg11
  have hb11' := Lib.hid (hb10'.out.grown hg11 (by have := hb10'.out.size; omega) (fun k hk => by injection hk with hk; omega))
  clear hg11 hb10' hown10
  go_wp2_with (refine wpList_insert_own _ rfl _ _ _ 67 rfl 3 66 int_key Tryd.underlying67 _ w.heap.size 11 _ rfl hown11 (by decide) _ _ (.int .i64 421) rfl rfl (key_is 421 (by decide)) (rsD [77, 105, 115, 100, 105, 114, 101, 99, 116, 101, 100, 32, 82, 101, 113, 117, 101, 115, 116]) [] rfl ?_)
  intro w12 hown12 hg12
  have hb12' := Lib.hid (hb11'.out.grown hg12 (by have := hb11'.out.size; omega) (fun k hk => by injection hk with hk; omega))
  clear hg12 hb11' hown11
  go_wp2_with (refine wpList_insert_own _ rfl _ _ _ 67 rfl 3 66 int_key Tryd.underlying67 _ w.heap.size 12 _ rfl hown12 (by decide) _ _ (.int .i64 503) rfl rfl (key_is 503 (by decide)) (rsD [83, 101, 114, 118, 105, 99, 101, 32, 85, 110, 97, 118, 97, 105, 108, 97, 98, 108, 101]) [] rfl ?_)
  intro w13 hown13 hg13
  have hb13' := Lib.hid (hb12'.out.grown hg13 (by have := hb12'.out.size; omega) (fun k hk => by injection hk with hk; omega))
  clear hg13 hb12' hown12
  go_wp2_with (refine wpList_insert_own _ rfl _ _ _ 67 rfl 3 66 int_key Tryd.underlying67 _ w.heap.size 13 _ rfl hown13 (by decide) _ _ (.int .i64 507) rfl rfl (key_is 507 (by decide)) (rsD [73, 110, 115, 117, 102, 102, 105, 99, 105, 101, 110, 116, 32, 83, 116, 111, 114, 97, 103, 101]) [] rfl ?_)
  intro w14 hown14 hg14
  have hb14' := Lib.hid (hb13'.out.grown hg14 (by have := hb13'.out.size; omega) (fun k hk => by injection hk with hk; omega))
  clear hg14 hb13' hown13
  have hown' : w14.ownsMap Tryd.prog 3 rsR w.heap.size 14 rsM := hown14
  clear hown14 hmm
  have hmr := rsF_is n
  go_wp2_with (at_lookup; refine wpList_lookup_own_ok _ rfl _ _ 67 rfl 3 66 int_key Tryd.underlying67 rsR (zero_rs _) (rsD []) [] rfl w.heap.size 14 rsM rfl hown' _ (.int .i64 n) rfl hkn ?_)
  intro v ps hv
  rw [rsM_is.at'] at hv
  rw [rsM_is.has]
  obtain ⟨s, rfl, hs⟩ := rsR_inv hv
  have hb' := Lib.hid hb14'.out
  clear hv hown'
  cases hr : rsF n with
  | none =>
    rw [hr] at hmr
    have hfin := Lib.hid (show Ending.returned (.string ⟨#[79, 116, 104, 101, 114]⟩) = .returned (sv (reason n)) by rw [hmr]; rfl)
    simp only [Option.isSome_none]
    have hb2 : Below w.heap.size w (w14.alloc (.cells #[.string s] 66)) := hb'.out.alloc hb'.out.size _
    clear hmr hs hr
    go_wp2
    go_ret
    exact ⟨hfin.out, hb2⟩
  | some r =>
    rw [hr] at hmr hs
    simp only [Option.isSome_some]
    have hsr : s.data.toList = r := by
      have hs := congrArg Prod.fst hs
      simp [rsD] at hs
      exact hs.symm
    have hb2 : Below w.heap.size w (w14.alloc (.cells #[.string s] 66)) := hb'.out.alloc hb'.out.size _
    have x0 : (w14.alloc (.cells #[.string s] 66)).cell? ⟨w14.heap.size, 0, none⟩ = some (.string s) := by rw [World.cell?_alloc_new]; rfl
    have hsv : sv r = .string s := by rw [← hsr, sv_data]
    have hfin := Lib.hid (show Ending.returned (.string s) = .returned (sv (reason n)) by rw [hmr, ← hsv]; rfl)
    clear hmr hs hr hsr hsv
    go_wp2
    go_ret
    exact ⟨hfin.out, hb2⟩
end Go.Proofs.YtiaollhiggeolaaDoor.Ht
