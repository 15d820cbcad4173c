import Derived.Test.YtmmpojhjpghdlaaGreatDoorMg22
import Derived.Test.YtmmpojhjpghdlaaGreatDoorMg20
import Derived.Test.YtmmpojhjpghdlaaGreatDoorMg7
import Derived.Test.YtmmpojhjpghdlaaGreatDoorMg16
import Derived.Shelf.LaysM
import Derived.Test.YtmmpojhjpghdlaaGreatDoorMg15
import Derived.Test.YtmmpojhjpghdlaaGreatDoorMg14

/-
  THE WALK OF THE PROGRAM's Print OF LAYER xml.
-/
set_option linter.unusedVariables false
namespace Go.Proofs.YtmmpojhjpghdlaaGreatDoor.Xm
open Go.Lib Go.RowKit

theorem bd_less {B B' b : Nat} {l : List UInt8} {w : World} (h : Bu.Bd B b l w) (hb : B' ≤ B) : Bu.Bd B' b l w := by
  have main : ∀ p, BuilderAtF 94 5 B b p (byteCells l) w → BuilderAtF 94 5 B' b p (byteCells l) w := by
    rintro p ⟨h1, v, h2, h3, h4⟩
    refine ⟨Nat.le_trans hb h1, v, h2, ⟨h3.1, ?_⟩, h4⟩
    rcases h3.2 with h | ⟨g, cap, cur, fz, e1, e2, e3⟩
    · exact .inl h
    · exact .inr ⟨g, cap, cur, fz, e1, Nat.le_trans hb e2, e3⟩
  exact h.elim (fun x => .inl (main _ x)) (fun x => .inr (main _ x))
set_option maxHeartbeats 4000000 in
set_option maxRecDepth 100000 in
theorem print_any : PrintC := fun v ps w hv hsz hG => by
  have cK := check_any v ps w hv hsz hG
  obtain ⟨A, b, off, c, rfl, hc1, hc2, hA, hP⟩ := hv
  unfold maxLen at hc2
  cases hr : right ps with
  | false =>
    rw [hr, if_neg (by decide)] at cK
    have hfin : Hid (PrintP ps (.returned (.tuple #[.string ⟨#[]⟩, .int .i64 70]))) := Lib.hid (.inl ⟨hr, rfl⟩)
    clear hA hP hr
    go_enter Tryz.func56, Tryz.ntmps56
    go_wp2_with fail
    go_at_call 83
    refine cK.mono ?_
    rintro e w2 ⟨rfl, hb2⟩
    have hb2' := Lib.hid hb2
    clear cK hb2
    go_wp2
    go_ret2
    exact ⟨hfin.out, hb2'.out⟩
  | true =>
    rw [hr, if_pos rfl] at cK
    obtain ⟨n, hn⟩ : ∃ n, ps.length = n := ⟨_, rfl⟩
    obtain ⟨Z, hZ⟩ : ∃ Z, w.heap.size = Z := ⟨_, rfl⟩
    rw [hn] at hc1 hA cK ⊢
    have hn' := Lib.hid hn
    have hP' := Lib.hid hP
    have hA' := Lib.hid hA
    have hr' := Lib.hid hr
    have hsz' := Lib.hid hsz
    have hZ' := Lib.hid hZ
    have hlen : (prX ps).length ≤ 1099511627776 := by have := prX_len ps; unfold mostP at hsz; omega
    have hlen' := Lib.hid hlen
    clear hn hP hA hr hsz hZ hlen
    go_enter Tryz.func56, Tryz.ntmps56
    go_wp2_with fail
    go_at_call 83
    refine cK.mono ?_
    rintro e w2 ⟨rfl, hb2⟩
    rw [hZ'.out] at hb2
    have hZ2 : Z ≤ w2.heap.size := by have := hb2.size; rw [hZ'.out] at this; exact this
    have hb2' := Lib.hid hb2
    have hfr : Hid (Bu.Bd Z w2.heap.size [] (w2.alloc (.cells #[.pointer none, .slice none 0 0] 94))) := Lib.hid (bd_less (Bu.fresh w2) hZ2)
    have hb3 : Hid (Below Z w (w2.alloc (.cells #[.pointer none, .slice none 0 0] 94))) := Lib.hid (hb2.alloc hZ2 _)
    obtain ⟨t, ht⟩ : ∃ t, w2.heap.size = t := ⟨_, rfl⟩
    rw [ht] at hfr
    have hZt : Z ≤ t := by omega
    clear cK hb2
    go_wp2
    go_loopw [14] (fun s14 wr => ∃ k : Nat, s14 = .int .i64 (k : Int) ∧ k ≤ n ∧ Bu.Bd Z t (preX ps k) wr ∧ Below Z w wr) (fun s14 wr => n - (RowKit.intOf s14).toNat)
    case atStart => exact ⟨0, rfl, Nat.zero_le _, hfr.out, hb3.out⟩
    case round =>
      obtain ⟨k, rfl, hk, hbd, hbw⟩ := hrel
      have hZr : Z ≤ wr.heap.size := by have := hbw.size; rw [hZ'.out] at this; exact this
      have hbd' := Lib.hid hbd
      have hbw' := Lib.hid hbw
      by_cases hlt : k < n
      · have hp : ps[k]? = some (ps[k]'(by have := hn'.out; omega)) := List.getElem?_eq_getElem _
        obtain ⟨p, hPe⟩ : ∃ p, ps[k]'(by have := hn'.out; omega) = p := ⟨_, rfl⟩
        rw [hPe] at hp
        obtain ⟨rfl, hAb⟩ := hA'.out (by omega)
        have hbw2 : Below w.heap.size w wr := by rw [hZ'.out]; exact hbw
        have cW := written_any b off n c ps k p wr hn'.out (fun j q hj => (hP'.out j q hj).kept hAb hbw2) (Nat.lt_of_lt_of_le hAb hbw2.size) hp hr'.out hc1 (by omega) (by
          have h1 := szs_mem (List.mem_of_getElem? hp)
          have h2 := hsz'.out
          unfold szP at h1
          unfold mostP at h2
          omega)
        obtain ⟨T, hT⟩ : ∃ T : ByteArray, (⟨(chunkAt ps k p).toArray⟩ : ByteArray) = T := ⟨_, rfl⟩
        rw [hT] at cW
        have hpre : preX ps (k + 1) = preX ps k ++ T.data.toList := by rw [preX_succ hp, ← hT]; rfl
        have hTl : (preX ps k).length + T.size ≤ 140737488355328 := by
          have h1 := preX_le ps (k + 1)
          have h2 := hlen'.out
          rw [hpre, List.length_append, ← Lib.size_eq] at h1
          omega
        have hpre' := Lib.hid hpre
        have hTl' := Lib.hid hTl
        clear hPe hp hT hpre hTl hbd hbw hbw2
        go_wp2_with fail
        go_at_call 85
        refine cW.mono ?_
        rintro e w4 ⟨rfl, hb4⟩
        have hbd4 := hbd'.out.kept hb4
        have hbw4 := Lib.hid (hbw'.out.trans (hb4.mono hZr))
        have hZ4 : Z ≤ w4.heap.size := Nat.le_trans hZr hb4.size
        have cB := Bu.write_any Z t (preX ps k) T w4 hbd4 hTl'.out hZ4
        clear cW hb4 hbd4
        go_wp2_with fail
        go_at_call 84
        refine cB.mono ?_
        rintro e w5 ⟨rfl, hbd5, hb5⟩
        have hbd5' := Lib.hid hbd5
        have hb5' := Lib.hid (hbw4.out.trans hb5)
        clear cB hbd5 hb5
        go_wp2
        go_roundw
        case rel => exact ⟨k + 1, by go_num, by omega, by rw [hpre'.out]; exact hbd5'.out, hb5'.out⟩
        case measure => simp [RowKit.intOf]; omega
      · have hkn : k = ps.length := by have := hn'.out; omega
        rw [hkn, preX_all] at hbd
        have cL := Tryz.Builder_Len_f Z t _ wr hbd
        rw [Lib.byteCells_length] at cL
        have cS := Bu.text_any Z t (prX ps) wr hbd hZr
        obtain ⟨L, hL⟩ : ∃ L, (prX ps).length = L := ⟨_, rfl⟩
        obtain ⟨T, hT⟩ : ∃ T : ByteArray, (⟨(prX ps).toArray⟩ : ByteArray) = T := ⟨_, rfl⟩
        rw [hL] at cL
        rw [hT] at cS
        by_cases hl : 65536 < L
        · have hfin : Hid (PrintP ps (.returned (.tuple #[.string ⟨#[]⟩, .int .i64 11]))) := Lib.hid (.inr (.inl ⟨hr'.out, by rw [hL]; exact hl, rfl⟩))
          clear hkn hbd hbw cS hL hT
          go_wp2_with fail
          go_at_call 86
          refine cL.mono ?_
          rintro e w5 ⟨rfl, rfl⟩
          clear cL
          go_wp2
          go_ret2
          exact ⟨hfin.out, by rw [hZ'.out]; exact hbw'.out⟩
        · have hfin : Hid (PrintP ps (.returned (.tuple #[.string T, .int .i64 0]))) := Lib.hid (.inr (.inr ⟨hr'.out, by rw [hL]; omega, by rw [hT]⟩))
          clear hkn hbd hbw hL hT
          go_wp2_with fail
          go_at_call 86
          refine cL.mono ?_
          rintro e w5 ⟨rfl, rfl⟩
          clear cL
          go_wp2_with fail
          go_at_call 87
          refine cS.mono ?_
          rintro e w6 ⟨rfl, _, hb6⟩
          have hb6' := Lib.hid (hbw'.out.trans hb6)
          clear cS hb6
          go_wp2
          go_ret2
          exact ⟨hfin.out, by rw [hZ'.out]; exact hb6'.out⟩
end Go.Proofs.YtmmpojhjpghdlaaGreatDoor.Xm

/-
  THE PROGRAM's CALLS OF LAYER xml KEEP WHAT THE LAWS WANT: Parse (parse_any), Check (check_any), Print (print_any).
-/

/-
  WHAT THE ROWS OF LAYER xml LIST: utf8's tables, strconv's two errors (in the reading and in the witness' world).
-/
set_option linter.unusedVariables false
namespace Go.Proofs.YtmmpojhjpghdlaaGreatDoor.Xm
open Go.Lib Go.RowKit Go.Shelf Go.ChangeShapes Go.WideShapes Go.ChangeAt

/-- a variable of an interface type that reads as a datum holds some interface value -/
theorem err_of {W : World} {n : String} {g : Nat} {name : String} {d : DataW Unit} (hg : Tryz.prog.globalNamed n = some g) (ht : (Tryz.prog.globals[g]?).map (·.type) = some 138) (h : VarReads Tryz.prog W n (.iface name d)) :
    ∃ ev, W.cell? ⟨g, 0, none⟩ = some ev ∧ (ev = .nilIface ∨ ∃ te pe, ev = .iface te pe) := by
  obtain ⟨g', t, cs, fuel, p, hg', hty, hvar, hd⟩ := h
  obtain rfl := Option.some.inj (hg.symm.trans hg')
  obtain rfl := Option.some.inj (ht.symm.trans hty)
  have hc : ∃ u v, cs.toList = [.iface u v] := by
    cases fuel with
    | zero => simp [DataW.trod] at hd
    | succ fuel =>
      cases hx : cs.toList with
      | nil => simp [DataW.trod, hx, Tryz.underlying138] at hd
      | cons x r =>
        cases r with
        | cons y r => cases x <;> simp [DataW.trod, hx, Tryz.underlying138] at hd
        | nil =>
          cases x
          case iface u v => exact ⟨u, v, rfl⟩
          all_goals simp [DataW.trod, hx, Tryz.underlying138] at hd
  obtain ⟨u, v, hc⟩ := hc
  refine ⟨.iface u v, ?_, .inr ⟨u, v, rfl⟩⟩
  unfold World.var? at hvar
  rw [hg, Option.bind_some] at hvar
  unfold World.cell?
  cases hh : W.heap[g]? with
  | none => rw [hh] at hvar; cases hvar
  | some o =>
    rw [hh] at hvar
    cases o with
    | cells cs' t' fr =>
      have hvar : some cs' = some cs := hvar
      obtain rfl := Option.some.inj hvar
      have : cs'[0]? = some (.iface u v) := by rw [← Array.getElem?_toList, hc]; rfl
      simpa using this
    | _ => cases hvar
theorem gw_of {W : World} {n1 n2 : String} {d1 d2 : DataW Unit} (h1 : VarReads Tryz.prog W "unicode/utf8.first" Lib.firstData) (h2 : VarReads Tryz.prog W "unicode/utf8.acceptRanges" Lib.acceptData)
    (h3 : VarReads Tryz.prog W "strconv.ErrSyntax" (.iface n1 d1)) (h4 : VarReads Tryz.prog W "strconv.ErrRange" (.iface n2 d2)) (hsh : W.ShapedOpen Tryz.prog) : Gw W :=
  ⟨La.tabs_of h1 h2, Go.Proofs.cell_of_shapedOpen_int (zero := #[.int .i64 0]) (t := 3) hsh (of_decide_eq_true (by kernel_rfl)) (by kernel_rfl) rfl (by kernel_rfl) (by kernel_rfl) Tryz.underlying3,
    err_of (by kernel_rfl) (by kernel_rfl) h3, err_of (by kernel_rfl) (by kernel_rfl) h4⟩

/-! ### a world for the witness -/
def de32 : List Int := [0, 1, 28, 2, 29, 14, 24, 3, 30, 22, 20, 15, 25, 17, 4, 8, 31, 27, 13, 23, 21, 19, 16, 7, 26, 12, 18, 6, 11, 5, 10, 9]
def de64 : List Int := [0, 1, 56, 2, 57, 49, 28, 3, 61, 58, 42, 50, 38, 29, 17, 4, 62, 47, 59, 36, 45, 43, 51, 22, 53, 39, 33, 30, 24, 18, 12, 5, 63, 55, 48, 27, 60, 41, 37, 16, 46, 35, 44, 21, 52, 32, 23, 11, 54, 26, 40, 15, 34, 20, 31, 10, 25, 14, 19, 9, 13, 8, 7, 6]
def rangeText : ByteArray := ⟨#[118, 97, 108, 117, 101, 32, 111, 117, 116, 32, 111, 102, 32, 114, 97, 110, 103, 101]⟩
def syntaxText : ByteArray := ⟨#[105, 110, 118, 97, 108, 105, 100, 32, 115, 121, 110, 116, 97, 120]⟩
noncomputable def low : Nat := (World.holding Tryz.prog default ⟨#[], #[], []⟩).heap.size
/-- the settled world, the variables holding what their initialisers lay -/
noncomputable def laidWorld (os : Os) : World :=
  let w0 := World.holding Tryz.prog os ⟨#[.cells #[.string rangeText] 265, .cells #[.string syntaxText] 265], #[], []⟩
  let put (h : Array Obj) (g : Nat) (cs : Array Value) : Array Obj := h.modify g fun
    | .cells _ t frozen => .cells cs t frozen
    | o => o
  let h1 := put w0.heap 0 (Lib.firstTab.map fun z => Value.int .u8 z).toArray
  let h2 := put h1 1 ((List.range 16).flatMap fun i => [Value.int .u8 (Lib.accLo i), Value.int .u8 (Lib.accHi i)]).toArray
  let h3 := put h2 5 (Lib.pow10Tab.map fun z => Value.int .u64 z).toArray
  let h4 := put h3 6 (de32.map fun z => Value.int .u8 z).toArray
  let h5 := put h4 7 (de64.map fun z => Value.int .u8 z).toArray
  let h6 := put h5 4 #[.iface 263 (.pointer (some ⟨low, 0, none⟩))]
  let h7 := put h6 3 #[.iface 263 (.pointer (some ⟨low + 1, 0, none⟩))]
  { w0 with heap := h7 }
theorem laid_met (os : Os) (args : Array Value) : laidMet Tryz.prog Rows.davTellsRow.laid ((laidWorld os).forCall (fun _ _ => 0) ⟨#[], args, []⟩).memory :=
  (LaidIn.of_run (l := Rows.davTellsRow.laid) [6, 7, 5, 1, 0, 4, 3, low, low + 1] 8 (by kernel_rfl) (by kernel_rfl) (by kernel_rfl) (by kernel_rfl)).met
end Go.Proofs.YtmmpojhjpghdlaaGreatDoor.Xm

/-
  ALL THAT THE LAW OF LAYER dav LEANS ON, but its first (for the merge).
-/
