import Derived.Test.YtobfaibofhmpgaaGreatDoorAp1
import Derived.Test.YtobfaibofhmpgaaGreatDoorAp5
import Derived.Laws.RangeAny
import Derived.LoopTactic
import Derived.Lib.OthersKept
import Derived.Deep.QuietTactic
import Derived.BigQuiet
import Derived.Laws.Runes
import Derived.WalkMore
import Derived.Laws.IdiomStrings
import Derived.Laws.MakeOwn
import Derived.Outline
import Derived.Lib.ItoaMem
set_option linter.unusedVariables false
set_option maxHeartbeats 4000000
set_option maxRecDepth 1000000
namespace Go.Proofs.YtobfaibofhmpgaaGreatDoor
namespace An
open Go.Lib Go.RowKit
theorem drewN_below {a w:World} (n:Nat) (h:Below a.heap.size a w):Below a.heap.size a (w.drewN n):=⟨h.os,h.tape,h.output,h.size,h.block⟩
theorem quiet_again {P:Program} {f:FuncId} {args:Array Value} {w:World} {a n:Nat} {v:Value}
    (h:Calls P f args (w.drewN (a+n)) fun e w'=>e=.returned v/\w'=w.drewN (a+n)) :
    Calls P f args (w.drewN (a+n)) fun e w''=>e=.returned v/\∃ m,w''=w.drewN (a+m) :=
  h.mono fun _ _ ⟨he,hm⟩=>⟨he,n,hm⟩
theorem valid_of (r:Int) (h:Lib.validRune r=true):Utf8.valid r=true:=by
  unfold Lib.validRune at h
  unfold Utf8.valid
  have h:=of_decide_eq_true h
  simp
  omega
def Asc (cs:ByteArray):Prop:=∀ (j:Nat) b,cs.data.toList[j]?=some b->b.toNat < 128
theorem Asc.at {cs:ByteArray} (h:Asc cs) (i:Nat) (hi:i < cs.size):(cs[i]'hi).toNat < 128:=h i _ (Lib.data_getElem? cs i hi)
theorem Asc.cut {cs:ByteArray} (h:Asc cs) (k:Nat):Asc (cs.extract k cs.size):=fun j b hb=>by
  rw [Lib.extract_to_end,List.getElem?_drop] at hb
  exact h _ _ hb
theorem Asc.none {cs:ByteArray} (h:Asc cs) (c:Int) (h1:128<=c) (h2:c < 256):Lib.indexByte cs.data.toList c.toNat.toUInt8=-1:=by
  have hge:=Lib.indexByte_ge cs.data.toList c.toNat.toUInt8
  by_cases hn:Lib.indexByte cs.data.toList c.toNat.toUInt8=-1
  · exact hn
  · obtain ⟨k,hk⟩:∃ k:Nat,Lib.indexByte cs.data.toList c.toNat.toUInt8=k:=⟨(Lib.indexByte cs.data.toList c.toNat.toUInt8).toNat,by omega⟩
    have:=h k _ (Lib.indexByte_some hk).1
    have e:c.toNat.toUInt8.toNat=c.toNat:=by simp [UInt8.toNat_ofNat'];omega
    rw [e] at this
    omega
theorem indexRune_far2 (cs:ByteArray) (c:Nat) (rs:ByteArray) (w:World) (h1:128<=c) (d2:((c:Int)==65533)=false) (hrs:Utf8.encode (c:Int)=rs) (h2:rs.size=2) (hcs:cs.size<=1)
    (cV:∀ W,Calls Tryz.prog 248 #[.int .i32 (c:Int)] W fun e w'=>e=.returned (.bool true)/\w'=W) :
    Calls Tryz.prog 237 #[.string cs,.int .i32 (c:Int)] w fun e w'=>e=.returned (.int .i64 (-1))/\Below w.heap.size w w':=by
  go_enter Tryz.func237,Tryz.ntmps237
  go_wp2_with (go_at_call 248;refine (cV _).mono ?_;rintro e w' ⟨rfl,rfl⟩)
  go_step3
  go_wp2
  refine wp_loop_rounds 1 ?_
  rw [rounds_succ]
  go_wp2
  rw [Exit.noGoto_ret]
  go_ret
  exact ⟨rfl,Below.refl _ _⟩
theorem indexRune_near2 (cs:ByteArray) (ha:Asc cs) (c:Nat) (rs:ByteArray) (w:World) (h1:128<=c) (d2:((c:Int)==65533)=false) (hrs:Utf8.encode (c:Int)=rs) (h2:rs.size=2) (hl:1 < rs.size) (hb:128<=(rs[1]'hl).toNat) (hcs:1 < cs.size) (hbig:cs.size<=64)
    (cV:∀ W,Calls Tryz.prog 248 #[.int .i32 (c:Int)] W fun e w'=>e=.returned (.bool true)/\w'=W) :
    Calls Tryz.prog 237 #[.string cs,.int .i32 (c:Int)] w fun e w'=>e=.returned (.int .i64 (-1))/\Below w.heap.size w w':=by
  have e10:=ha.at 1 hcs
  have dne:((((cs[1]'hcs)).toNat:Int) != ((rs[1]'hl).toNat:Int))=true:=by rw [bne_iff_ne];omega
  have hlt:=(rs[1]'hl).toNat_lt
  have cB:=fun W=>Tryz.strings_IndexByte (cs.extract 2 cs.size) ((rs[1]'hl).toNat:Int) W
  rw [(ha.cut 2).none ((rs[1]'hl).toNat:Int) (by omega) (by omega)] at cB
  clear e10
  go_enter Tryz.func237,Tryz.ntmps237
  go_wp2_with (go_at_call 248;refine (cV _).mono ?_;rintro e w' ⟨rfl,rfl⟩)
  go_step3
  go_wp2
  refine wp_loop_rounds 1 ?_
  rw [rounds_succ]
  go_wp2
  go_step3
  go_wp2
  go_quiet (fail)
  go_wp2
  have w2:IntKind.i64.wrap 2=2:=by decide
  go_quiet ((go_at_call 247;exact quiet_again (cB _)))
  go_wp2
  rw [Exit.noGoto_ret]
  go_simp
  go_ret
  exact ⟨rfl,drewN_below _ (Below.refl _ _)⟩
theorem indexRune_far3 (cs:ByteArray) (c:Nat) (rs:ByteArray) (w:World) (h1:128<=c) (d2:((c:Int)==65533)=false) (hrs:Utf8.encode (c:Int)=rs) (h2:rs.size=3) (hcs:cs.size<=2)
    (cV:∀ W,Calls Tryz.prog 248 #[.int .i32 (c:Int)] W fun e w'=>e=.returned (.bool true)/\w'=W) :
    Calls Tryz.prog 237 #[.string cs,.int .i32 (c:Int)] w fun e w'=>e=.returned (.int .i64 (-1))/\Below w.heap.size w w':=by
  go_enter Tryz.func237,Tryz.ntmps237
  go_wp2_with (go_at_call 248;refine (cV _).mono ?_;rintro e w' ⟨rfl,rfl⟩)
  go_step3
  go_wp2
  refine wp_loop_rounds 1 ?_
  rw [rounds_succ]
  go_wp2
  rw [Exit.noGoto_ret]
  go_ret
  exact ⟨rfl,Below.refl _ _⟩
theorem indexRune_near3 (cs:ByteArray) (ha:Asc cs) (c:Nat) (rs:ByteArray) (w:World) (h1:128<=c) (d2:((c:Int)==65533)=false) (hrs:Utf8.encode (c:Int)=rs) (h2:rs.size=3) (hl:2 < rs.size) (hb:128<=(rs[2]'hl).toNat) (hcs:2 < cs.size) (hbig:cs.size<=64)
    (cV:∀ W,Calls Tryz.prog 248 #[.int .i32 (c:Int)] W fun e w'=>e=.returned (.bool true)/\w'=W) :
    Calls Tryz.prog 237 #[.string cs,.int .i32 (c:Int)] w fun e w'=>e=.returned (.int .i64 (-1))/\Below w.heap.size w w':=by
  have e10:=ha.at 2 hcs
  have dne:((((cs[2]'hcs)).toNat:Int) != ((rs[2]'hl).toNat:Int))=true:=by rw [bne_iff_ne];omega
  have hlt:=(rs[2]'hl).toNat_lt
  have cB:=fun W=>Tryz.strings_IndexByte (cs.extract 3 cs.size) ((rs[2]'hl).toNat:Int) W
  rw [(ha.cut 3).none ((rs[2]'hl).toNat:Int) (by omega) (by omega)] at cB
  clear e10
  go_enter Tryz.func237,Tryz.ntmps237
  go_wp2_with (go_at_call 248;refine (cV _).mono ?_;rintro e w' ⟨rfl,rfl⟩)
  go_step3
  go_wp2
  refine wp_loop_rounds 1 ?_
  rw [rounds_succ]
  go_wp2
  go_step3
  go_wp2
  go_quiet (fail)
  go_wp2
  have w2:IntKind.i64.wrap 3=3:=by decide
  go_quiet ((go_at_call 247;exact quiet_again (cB _)))
  go_wp2
  rw [Exit.noGoto_ret]
  go_simp
  go_ret
  exact ⟨rfl,drewN_below _ (Below.refl _ _)⟩
theorem indexRune_far4 (cs:ByteArray) (c:Nat) (rs:ByteArray) (w:World) (h1:128<=c) (d2:((c:Int)==65533)=false) (hrs:Utf8.encode (c:Int)=rs) (h2:rs.size=4) (hcs:cs.size<=3)
    (cV:∀ W,Calls Tryz.prog 248 #[.int .i32 (c:Int)] W fun e w'=>e=.returned (.bool true)/\w'=W) :
    Calls Tryz.prog 237 #[.string cs,.int .i32 (c:Int)] w fun e w'=>e=.returned (.int .i64 (-1))/\Below w.heap.size w w':=by
  go_enter Tryz.func237,Tryz.ntmps237
  go_wp2_with (go_at_call 248;refine (cV _).mono ?_;rintro e w' ⟨rfl,rfl⟩)
  go_step3
  go_wp2
  refine wp_loop_rounds 1 ?_
  rw [rounds_succ]
  go_wp2
  rw [Exit.noGoto_ret]
  go_ret
  exact ⟨rfl,Below.refl _ _⟩
theorem indexRune_near4 (cs:ByteArray) (ha:Asc cs) (c:Nat) (rs:ByteArray) (w:World) (h1:128<=c) (d2:((c:Int)==65533)=false) (hrs:Utf8.encode (c:Int)=rs) (h2:rs.size=4) (hl:3 < rs.size) (hb:128<=(rs[3]'hl).toNat) (hcs:3 < cs.size) (hbig:cs.size<=64)
    (cV:∀ W,Calls Tryz.prog 248 #[.int .i32 (c:Int)] W fun e w'=>e=.returned (.bool true)/\w'=W) :
    Calls Tryz.prog 237 #[.string cs,.int .i32 (c:Int)] w fun e w'=>e=.returned (.int .i64 (-1))/\Below w.heap.size w w':=by
  have e10:=ha.at 3 hcs
  have dne:((((cs[3]'hcs)).toNat:Int) != ((rs[3]'hl).toNat:Int))=true:=by rw [bne_iff_ne];omega
  have hlt:=(rs[3]'hl).toNat_lt
  have cB:=fun W=>Tryz.strings_IndexByte (cs.extract 4 cs.size) ((rs[3]'hl).toNat:Int) W
  rw [(ha.cut 4).none ((rs[3]'hl).toNat:Int) (by omega) (by omega)] at cB
  clear e10
  go_enter Tryz.func237,Tryz.ntmps237
  go_wp2_with (go_at_call 248;refine (cV _).mono ?_;rintro e w' ⟨rfl,rfl⟩)
  go_step3
  go_wp2
  refine wp_loop_rounds 1 ?_
  rw [rounds_succ]
  go_wp2
  go_step3
  go_wp2
  go_quiet (fail)
  go_wp2
  have w2:IntKind.i64.wrap 4=4:=by decide
  go_quiet ((go_at_call 247;exact quiet_again (cB _)))
  go_wp2
  rw [Exit.noGoto_ret]
  go_simp
  go_ret
  exact ⟨rfl,drewN_below _ (Below.refl _ _)⟩
theorem indexRune_big (cs:ByteArray) (ha:Asc cs) (hbig:cs.size<=64) (c:Nat) (w:World) (h1:128<=c) (h3:c≠65533) :
    Calls Tryz.prog 237 #[.string cs,.int .i32 (c:Int)] w fun e w'=>e=.returned (.int .i64 (-1))/\Below w.heap.size w w':=by
  have d2:((c:Int)==65533)=false:=beq_eq_false_iff_ne.2 (by omega)
  cases hv:Lib.validRune (c:Int)
  · have cV:=fun W=>Tryz.utf8_ValidRune (c:Int) W
    rw [hv] at cV
    clear hv
    go_enter Tryz.func237,Tryz.ntmps237
    go_wp2_with (go_at_call 248;refine (cV _).mono ?_;rintro e w' ⟨rfl,rfl⟩)
    go_ret
    exact ⟨rfl,Below.refl _ _⟩
  · have cV:=fun W=>Tryz.utf8_ValidRune (c:Int) W
    rw [hv] at cV
    obtain ⟨hz,hz4,hl⟩:=encode_facts (c:Int) (valid_of _ hv) (by omega)
    clear hv
    obtain ⟨rs,hrs⟩:∃ rs,Utf8.encode (c:Int)=rs:=⟨_,rfl⟩
    rw [hrs] at hz hz4
    have hl2:∀ h:rs.size - 1 < rs.size,128<=(rs[rs.size - 1]'h).toNat:=by subst hrs;exact hl
    have hsz:rs.size=2\/rs.size=3\/rs.size=4:=by omega
    rcases hsz with h2 | h2 | h2
    · have hb:=hl2 (by omega)
      rcases Nat.lt_or_ge 1 cs.size with h | h
      · exact indexRune_near2 cs ha c rs w h1 d2 hrs h2 (by omega) (by simpa only [h2] using hb) h hbig cV
      · exact indexRune_far2 cs c rs w h1 d2 hrs h2 h cV
    · have hb:=hl2 (by omega)
      rcases Nat.lt_or_ge 2 cs.size with h | h
      · exact indexRune_near3 cs ha c rs w h1 d2 hrs h2 (by omega) (by simpa only [h2] using hb) h hbig cV
      · exact indexRune_far3 cs c rs w h1 d2 hrs h2 h cV
    · have hb:=hl2 (by omega)
      rcases Nat.lt_or_ge 3 cs.size with h | h
      · exact indexRune_near4 cs ha c rs w h1 d2 hrs h2 (by omega) (by simpa only [h2] using hb) h hbig cV
      · exact indexRune_far4 cs c rs w h1 d2 hrs h2 h cV
theorem indexRune_err (cs:ByteArray) (ha:Asc cs) (hbig:cs.size<=64) (w:World):Calls Tryz.prog 237 #[.string cs,.int .i32 65533] w fun e w'=>e=.returned (.int .i64 (-1))/\Below w.heap.size w w':=by
  go_enter Tryz.func237,Tryz.ntmps237
  go_wp2
  go_loopg [5,6] cs.size (fun g _ _ wx=>∃ i:Nat,i+g=cs.size/\wx=w.iter cs i)
  case atStart=>exact ⟨0,by omega,rfl⟩
  case round =>
    obtain ⟨i,hig,rfl⟩:=hrel
    by_cases hlt:i < cs.size
    · have hai:=ha.at i hlt
      have hnx:=fun ty=>run_next_ascii (P:=Tryz.prog) w cs i ty hlt hai
      have d1:(((cs[i]'hlt).toNat:Int)==65533)=false:=beq_eq_false_iff_ne.2 (by omega)
      obtain ⟨g,rfl⟩:∃ g,gk=g+1:=⟨gk - 1,by omega⟩
      clear hai
      go_wp2
      go_roundg g
      case measure=>omega
      case rel=>exact ⟨i+1,by omega,rfl⟩
    · have hnx:=fun ty=>run_next_end (P:=Tryz.prog) w cs i ty hlt
      go_wp2
      go_ret
      exact ⟨rfl,(Below.refl _ _).alloc (Nat.le_refl _) _⟩
theorem dec_facts (l:List UInt8) (hne:l≠[]) :
    1<=(decodeL l).2/\(decodeL l).2<=l.length/\(((decodeL l).1 < 128/\(decodeL l).2=1/\(l.getD 0 0).toNat=(decodeL l).1)\/(128<=(decodeL l).1/\∀ j,j < (decodeL l).2->128<=(l.getD j 0).toNat)):=by
  have hp:=Ch.pos_of_ne hne
  have hw:=decodeL_width l
  have hr:Ch.rune l=if decodeL l=(65533,1) then (0,0) else decodeL l:=by
    rw [Ch.rune_eq l hne,decodeL_N]
    rfl
  by_cases h0:(l.getD 0 0).toNat < 128
  · have e:=Ch.runeN_one l.length (l.getD 0 0).toNat (l.getD 1 0).toNat (l.getD 2 0).toNat (l.getD 3 0).toNat h0
    rw [<-Ch.rune_eq l hne,hr] at e
    by_cases hd:decodeL l=(65533,1)
    · rw [if_pos hd] at e
      have:=congrArg Prod.snd e
      simp at this
    · rw [if_neg hd] at e
      rw [e]
      exact ⟨Nat.le_refl _,hp,.inl ⟨h0,rfl,rfl⟩⟩
  · by_cases hd:decodeL l=(65533,1)
    · rw [hd]
      refine ⟨Nat.le_refl _,hp,.inr ⟨by decide,fun j hj=>?_⟩⟩
      obtain rfl:j=0:=by simpa using hj
      omega
    · rw [if_neg hd] at hr
      have hk:(Ch.rune l).2≠0:=by rw [hr];omega
      obtain ⟨t1,t2,t3,t4⟩:=Ch.rune_tells hne hk
      rw [hr] at t1 t2 t3 t4
      rcases t4 with ⟨t4,_⟩ | ⟨t4,t5⟩
      · omega
      · refine ⟨hw,t1,.inr ⟨t3 t5,fun j hj=>?_⟩⟩
        rcases Nat.eq_zero_or_pos j with rfl | hj0
        · omega
        · exact (t2 j hj0 hj).1
theorem NoAny.more {l cs:List UInt8} {pos n:Nat} (h:Lib.NoAny l cs pos) (ha:∀ (j:Nat) b,cs[j]?=some b->b.toNat < 128) (hb:∀ j,j < n->128<=((l.drop pos).getD j 0).toNat):Lib.NoAny l cs (pos+n):=by
  intro j b hj hjb
  by_cases hlt:j < pos
  · exact h j b hlt hjb
  · have:=hb (j - pos) (by omega)
    rw [List.getD_eq_getElem?_getD,List.getElem?_drop,show pos+(j - pos)=j by omega,hjb] at this
    rw [Bool.eq_false_iff]
    intro hm
    obtain ⟨k,hk⟩:=List.mem_iff_getElem?.1 (by simpa using hm)
    have:=ha k b hk
    simp at *
    omega
theorem NoAny.one {l cs:List UInt8} {pos:Nat} {x:UInt8} (h:Lib.NoAny l cs pos) (hx:l[pos]?=some x) (hn:cs.contains x=false):Lib.NoAny l cs (pos+1):=by
  intro j b hj hjb
  by_cases hlt:j < pos
  · exact h j b hlt hjb
  · obtain rfl:j=pos:=by omega
    rw [hx] at hjb
    obtain rfl:=Option.some.inj hjb
    exact hn
theorem in_index (l:List UInt8) (c:UInt8):l.contains c=decide (0<=Lib.indexByte l c):=by
  have hge:=Lib.indexByte_ge l c
  by_cases hn:Lib.indexByte l c=-1
  · rw [hn]
    have:c∉l:=fun hm=>by
      obtain ⟨k,hk⟩:=List.mem_iff_getElem?.1 hm
      exact Lib.indexByte_none hn k hk
    simpa using this
  · obtain ⟨k,hk⟩:∃ k:Nat,Lib.indexByte l c=k:=⟨(Lib.indexByte l c).toNat,by omega⟩
    have:=List.mem_iff_getElem?.2 ⟨k,(Lib.indexByte_some hk).1⟩
    rw [hk,decide_eq_true (by omega)]
    simpa using this
theorem indexRune_at (cs:ByteArray) (ha:Asc cs) (hbig:cs.size<=64) (c:Nat) (w:World):Calls Tryz.prog 237 #[.string cs,.int .i32 (c:Int)] w fun e w'=>(∃ i:Int,e=.returned (.int .i64 i)/\(if c < 128 then cs.data.toList.contains (UInt8.ofNat c) else false)=decide (0<=i))/\Below w.heap.size w w':=by
  by_cases h1:c < 128
  · refine (Tryz.strings_IndexRune_ascii cs (c:Int) w (by omega) (by omega)).mono ?_
    rintro e w' ⟨rfl,rfl⟩
    refine ⟨⟨_,rfl,?_⟩,Below.refl _ _⟩
    rw [if_pos h1,in_index]
    rfl
  · rw [if_neg h1]
    have hno:∀ e w',(e=Ending.returned (.int .i64 (-1))/\Below w.heap.size w w')->(∃ i:Int,e=.returned (.int .i64 i)/\false=decide (0<=i))/\Below w.heap.size w w':=fun e w' ⟨h,hb⟩=>⟨⟨-1,h,rfl⟩,hb⟩
    by_cases h3:c=65533
    · subst h3;exact (indexRune_err cs ha hbig w).mono hno
    · exact (indexRune_big cs ha hbig c w (by omega) h3).mono hno
theorem zero256:∀ w,(zeroValue 238).run Tryz.prog w=.ok (.agg (Array.replicate 256 (.bool false))) w :=
  (zero_of_info (show (Tryz.prog.info? 238).map (fun i=>(i.zero,i.size))=some (some (.agg (Array.replicate 256 (.bool false))),256) by kernel_rfl)).1
def IxP (l cs:List UInt8) (e:Ending):Prop:=e=.returned (.int .i64 (Lib.indexAny l cs))
theorem indexAny_short (s cs:ByteArray) (ha:Asc cs) (h2:2<=cs.size) (hbig:cs.size<=64) (w:World) (h8:s.size<=8) :
    Calls Tryz.prog 213 #[.string s,.string cs] w fun e w'=>IxP s.data.toList cs.data.toList e/\Below w.heap.size w w':=by
  have cU:∀ W,Calls Tryz.prog 239 #[.int .i64 (s.size:Int)] W fun e w'=>e=.returned (.bool false)/\W=w':=fun W=>by
    refine (Tryz.strings_shouldUseASCIISet (s.size:Int) W).mono ?_
    rintro e w' ⟨rfl,rfl⟩
    rw [show decide ((8:Int) < (s.size:Int))=false from decide_eq_false (by omega)]
    exact ⟨rfl,rfl⟩
  have hcn:cs.toList.isEmpty=false:=by
    rw [Lib.toList_data]
    cases hd:cs.data.toList with
    | nil=>have:=Lib.size_eq cs;rw [hd,List.length_nil] at this;omega
    | cons _ _=>rfl
  have hc1:((cs.size:Int)==1)=false:=beq_eq_false_iff_ne.2 (by omega)
  have hc2:(cs.size==1)=false:=beq_eq_false_iff_ne.2 (by omega)
  go_enter Tryz.func213,Tryz.ntmps213
  go_wp2_with (go_at_call 239;refine (cU _).mono ?_;rintro e w' ⟨rfl,rfl⟩)
  clear cU
  go_loopw [] (fun wr=>∃ pos:Nat,pos<=s.size/\wr.heap[w.heap.size]?=some (.stringIter s pos)/\Below w.heap.size w wr/\Lib.NoAny s.data.toList cs.data.toList pos) (fun wr=>s.size - wr.iterPos w.heap.size)
  case atStart=>exact ⟨0,Nat.zero_le _,World.iter_heap w s 0,(Below.refl _ _).alloc (Nat.le_refl _) _,fun j b hj _=>absurd hj (Nat.not_lt_zero _)⟩
  case round =>
    obtain ⟨pos,hpos,hit,hbw,hen⟩:=hrel
    have hsz:w.heap.size < wr.heap.size:=(Array.getElem?_eq_some_iff.1 hit).1
    have hen':=Lib.hid hen
    clear hen
    by_cases hp:pos < s.size
    · have hne:s.data.toList.drop pos≠[]:=fun h=>by
        have:=List.drop_eq_nil_iff.1 h
        rw [<-Lib.size_eq] at this
        omega
      obtain ⟨f1,f2,f3⟩:=dec_facts _ hne
      rw [decodeL_drop] at f1 f2 f3
      rw [List.length_drop,<-Lib.size_eq] at f2
      have hnx:∀ ty,(Instr.next (.pointer (some ⟨w.heap.size,0,none⟩)) true ty).run Tryz.prog wr=_:=fun ty=>Lib.run_next_any_at wr w.heap.size s pos ty hit hp
      obtain ⟨⟨r,n⟩,hd⟩:∃ p,Utf8.decode s pos=p:=⟨_,rfl⟩
      rw [hd] at f1 f2 f3
      simp only [hd] at hnx
      have hit2:=Lib.iterAt_heap wr w.heap.size s pos (pos+n) hit
      have hbw2:=Lib.below_iterAt hbw (k:=w.heap.size) (Nat.le_refl _) s (pos+n)
      have hsz2:w.heap.size < (wr.iterAt w.heap.size s (pos+n)).heap.size:=by rw [Lib.iterAt_size];exact hsz
      have hxg:s.data.toList[pos]?=some (s[pos]'hp):=Lib.data_getElem? s pos hp
      have hx0:((s.data.toList.drop pos).getD 0 0).toNat=(s[pos]'hp).toNat:=by
        rw [List.getD_eq_getElem?_getD,List.getElem?_drop,Nat.add_zero,hxg];rfl
      have cR0:=fun W=>indexRune_at cs ha hbig r W
      clear hd hne
      cases hc:(if r < 128 then cs.data.toList.contains (UInt8.ofNat r) else false)
      · have hnext:Lib.NoAny s.data.toList cs.data.toList (pos+n):=by
          rcases f3 with ⟨g1,g2,g3⟩ | ⟨g1,g2⟩
          · rw [hx0] at g3
            have g2:n=1:=g2
            have g3:(s[pos]'hp).toNat=r:=g3
            rw [if_pos g1] at hc
            rw [g2]
            exact NoAny.one hen'.out hxg (by rw [<-hc,<-g3];simp)
          · exact NoAny.more hen'.out ha g2
        have hnext':=Lib.hid hnext
        have cR:∀ W,Calls Tryz.prog 237 #[.string cs,.int .i32 (r:Int)] W fun e w'=>(∃ i:Int,e=.returned (.int .i64 i)/\i < 0)/\Below W.heap.size W w':=fun W=>(cR0 W).mono fun e w' ⟨⟨i,h1,h2⟩,hb⟩=>⟨⟨i,h1,by
          rw [hc] at h2
          have:=of_decide_eq_false h2.symm
          omega⟩,hb⟩
        have hit4:=Lib.hid hit
        clear hnext f3 hx0 hxg hc hit cR0
        go_wp2_with (go_at_call 237;refine (cR _).mono ?_;rintro e w3 ⟨⟨i,rfl,hi⟩,hb3⟩)
        have hit3:w3.heap[w.heap.size]?=some (.stringIter s (pos+n)):=(hb3.block _ hsz2).trans hit2
        go_roundw
        case rel=>exact ⟨pos+n,by omega,hit3,hbw2.trans (hb3.mono (by omega)),hnext'.out⟩
        case measure =>
          simp only [World.iterPos,hit3,hit4.out]
          omega
      · have hfin:IxP s.data.toList cs.data.toList (.returned (.int .i64 (pos:Int))):=by
          rcases f3 with ⟨g1,g2,g3⟩ | ⟨g1,_⟩
          · rw [hx0] at g3
            have g3:(s[pos]'hp).toNat=r:=g3
            rw [if_pos g1] at hc
            unfold IxP
            rw [Lib.indexAny_hit hen'.out hxg (by rw [<-hc,<-g3];simp)]
          · have g1:128<=r:=g1
            rw [if_neg (by omega)] at hc
            cases hc
        have hfin':=Lib.hid hfin
        have cR:∀ W,Calls Tryz.prog 237 #[.string cs,.int .i32 (r:Int)] W fun e w'=>(∃ i:Int,e=.returned (.int .i64 i)/\0<=i)/\Below W.heap.size W w':=fun W=>(cR0 W).mono fun e w' ⟨⟨i,h1,h2⟩,hb⟩=>⟨⟨i,h1,by
          rw [hc] at h2
          exact of_decide_eq_true h2.symm⟩,hb⟩
        clear hfin f3 hx0 hxg hc f1 f2 hit cR0
        go_wp2_with (go_at_call 237;refine (cR _).mono ?_;rintro e w3 ⟨⟨i,rfl,hi⟩,hb3⟩)
        go_ret
        exact ⟨hfin'.out,hbw2.trans (hb3.mono (by omega))⟩
    · have hfin:IxP s.data.toList cs.data.toList (.returned (.int .i64 (-1))):=by
        have h:=hen'.out
        unfold IxP
        rw [Lib.indexAny_none (fun j b hj hb=>h j b (by rw [<-Lib.size_eq] at hj;omega) hb)]
      have hfin':=Lib.hid hfin
      have hnx:∀ ty,(Instr.next (.pointer (some ⟨w.heap.size,0,none⟩)) true ty).run Tryz.prog wr=_:=fun ty=>Lib.run_next_end_at wr w.heap.size s pos ty hit hp
      clear hfin
      go_wp2
      go_ret
      exact ⟨hfin'.out,hbw⟩
def setW (cs:List UInt8) (w:World):World:=(w.alloc (.cells (Lib.setCells cs) 238)).alloc (.cells (Lib.setCells cs) 238)
theorem setW_cell (cs:List UInt8) (w:World) (x:UInt8):(setW cs w).cell? ⟨w.heap.size+1,x.toNat,none⟩=some (.bool (cs.contains x)):=by
  unfold setW
  rw [World.cell?_alloc_at _ _ _ _ (by simp),Lib.setCells_at]
theorem setW_below (cs:List UInt8) (w:World):Below w.heap.size w (setW cs w):=((Below.refl _ _).alloc (Nat.le_refl _) _).alloc (by simp) _
theorem indexAny_long (s cs:ByteArray) (ha:Asc cs) (h2:2<=cs.size) (hbig:cs.size<=64) (w:World) (h8:8 < s.size) (hs:s.size<=9223372036854775807) :
    Calls Tryz.prog 213 #[.string s,.string cs] w fun e w'=>IxP s.data.toList cs.data.toList e/\Below w.heap.size w w':=by
  have hM:=Tryz.strings_makeASCIISet zero256 cs w (by omega) ha
  have cU:∀ W,Calls Tryz.prog 239 #[.int .i64 (s.size:Int)] W fun e w'=>e=.returned (.bool true)/\W=w':=fun W=>by
    refine (Tryz.strings_shouldUseASCIISet (s.size:Int) W).mono ?_
    rintro e w' ⟨rfl,rfl⟩
    rw [show decide ((8:Int) < (s.size:Int))=true from decide_eq_true (by omega)]
    exact ⟨rfl,rfl⟩
  have hsc:(storeCells ⟨w.heap.size+1,0,none⟩ (Lib.setCells cs.data.toList).toList 0).run Tryz.prog ((w.alloc (.cells (Lib.setCells cs.data.toList) 238)).alloc (.cells (Array.replicate 256 (.bool false)) 238))=.ok () (setW cs.data.toList w):=by
    have:=run_storeCells_new (P:=Tryz.prog) (w.alloc (.cells (Lib.setCells cs.data.toList) 238)) 238 (Array.replicate 256 (.bool false)) (Lib.setCells cs.data.toList) (by rw [Lib.setCells_size];kernel_rfl) (by rw [Lib.setCells_size,Array.size_replicate]) (Lib.setCells_one _)
    simpa [setW] using this
  have hz:∀ w,(zeroValue 238).run Tryz.prog w=_:=zero256
  have hcn:cs.toList.isEmpty=false:=by
    rw [Lib.toList_data]
    cases hd:cs.data.toList with
    | nil=>have:=Lib.size_eq cs;rw [hd,List.length_nil] at this;omega
    | cons _ _=>rfl
  have hc1:((cs.size:Int)==1)=false:=beq_eq_false_iff_ne.2 (by omega)
  have hc2:(cs.size==1)=false:=beq_eq_false_iff_ne.2 (by omega)
  have hss:=Lib.setCells_size cs.data.toList
  have ha':=Lib.hid ha
  clear ha
  go_enter Tryz.func213,Tryz.ntmps213
  go_wp2_with (first
    | (go_at_call 239;refine (cU _).mono ?_;rintro e w' ⟨rfl,rfl⟩)
    | (go_at_call 177;refine hM.mono ?_;rintro e w' ⟨rfl,hw⟩;rw [hw]))
  clear hM hsc cU hss
  have hbw:=setW_below cs.data.toList w
  have hcell:=Lib.hid (setW_cell cs.data.toList w)
  generalize setW cs.data.toList w=w2 at hbw hcell ⊢
  go_loop [8] (fun s8=>∃ i:Nat,s8=.int .i64 (i:Int)/\i<=s.size/\Lib.NoAny s.data.toList cs.data.toList i) (fun s8=>s.size - (RowKit.intOf s8).toNat)
  case atStart=>exact ⟨0,rfl,Nat.zero_le _,fun j b hj _=>absurd hj (Nat.not_lt_zero _)⟩
  case round =>
    obtain ⟨i,rfl,hi,hen⟩:=hrel
    have hen':=Lib.hid hen
    clear hen
    by_cases hlt:i < s.size
    · have hxg:s.data.toList[i]?=some (s[i]'hlt):=Lib.data_getElem? s i hlt
      have cC:∀ v,cs.data.toList.contains (s[i]'hlt)=v->Calls Tryz.prog 207 #[.pointer (some ⟨w.heap.size+1,0,none⟩),.int .u8 ((s[i]'hlt).toNat:Int)] w2 fun e w'=>e=.returned (.bool v)/\w2=w':=fun v hv=>by
        have hc:=hcell.out (s[i]'hlt)
        rw [hv] at hc
        refine (Tryz.asciiSet_contains (w.heap.size+1) (s[i]'hlt) v w2 hc).mono ?_
        rintro e w' ⟨rfl,rfl⟩
        exact ⟨rfl,rfl⟩
      cases hx:cs.data.toList.contains (s[i]'hlt)
      · have hn:=Lib.hid (NoAny.one hen'.out hxg hx)
        have cC1:=cC false hx
        clear hx hxg cC
        go_wp2_with (go_at_call 207;refine cC1.mono ?_;rintro e w' ⟨rfl,rfl⟩)
        go_round
        case rel=>exact ⟨i+1,by go_num,by omega,hn.out⟩
        case measure=>simp [RowKit.intOf];omega
      · have hfin:IxP s.data.toList cs.data.toList (.returned (.int .i64 (i:Int))):=by unfold IxP;rw [Lib.indexAny_hit hen'.out hxg hx]
        have hfin':=Lib.hid hfin
        have cC1:=cC true hx
        clear hfin hx hxg cC
        go_wp2_with (go_at_call 207;refine cC1.mono ?_;rintro e w' ⟨rfl,rfl⟩)
        go_ret
        exact ⟨hfin'.out,hbw⟩
    · have hfin:IxP s.data.toList cs.data.toList (.returned (.int .i64 (-1))):=by
        have h:=hen'.out
        unfold IxP
        rw [Lib.indexAny_none (fun j b hj hb=>h j b (by rw [<-Lib.size_eq] at hj;omega) hb)]
      have hfin':=Lib.hid hfin
      clear hfin
      go_wp2
      go_ret
      exact ⟨hfin'.out,hbw⟩
theorem indexAny_all (s cs:ByteArray) (ha:Asc cs) (h2:2<=cs.size) (hbig:cs.size<=64) (w:World) (hs:s.size<=9223372036854775807) :
    Calls Tryz.prog 213 #[.string s,.string cs] w fun e w'=>e=.returned (.int .i64 (Lib.indexAny s.data.toList cs.data.toList))/\Below w.heap.size w w':=by
  by_cases h8:s.size<=8
  · exact indexAny_short s cs ha h2 hbig w h8
  · exact indexAny_long s cs ha h2 hbig w (by omega) hs
theorem containsAny_all (s cs:ByteArray) (ha:Asc cs) (h2:2<=cs.size) (hbig:cs.size<=64) (w:World) (hs:s.size<=9223372036854775807) :
    Calls Tryz.prog 188 #[.string s,.string cs] w fun e w'=>e=.returned (.bool (Lib.containsAny s.data.toList cs.data.toList))/\Below w.heap.size w w':=by
  obtain ⟨E,hE⟩:∃ E,Lib.indexAny s.data.toList cs.data.toList=E:=⟨_,rfl⟩
  have cI:=fun W=>indexAny_all s cs ha h2 hbig W hs
  unfold Lib.containsAny
  rw [hE] at cI ⊢
  clear hE ha
  go_enter Tryz.func188,Tryz.ntmps188
  go_wp2_with (go_at_call 213;refine (cI _).mono ?_;rintro e w3 ⟨rfl,hb3⟩)
  go_ret
  exact ⟨rfl,hb3⟩
theorem containsAny_one (s cs:ByteArray) (ha:Asc cs) (h1:cs.size=1) (w:World) :
    Calls Tryz.prog 188 #[.string s,.string cs] w fun e w'=>e=.returned (.bool (Lib.containsAny s.data.toList cs.data.toList))/\Below w.heap.size w w':=by
  obtain ⟨E,hE⟩:∃ E,Lib.indexAny s.data.toList cs.data.toList=E:=⟨_,rfl⟩
  have cI:=fun W=>Tryz.strings_IndexAny_one s cs W h1 ha
  unfold Lib.containsAny
  rw [hE] at cI ⊢
  clear hE ha h1
  go_enter Tryz.func188,Tryz.ntmps188
  go_wp2_with (go_at_call 213;refine (cI _).mono ?_;rintro e w3 ⟨rfl,rfl⟩)
  go_ret
  exact ⟨rfl,Below.refl _ _⟩
theorem contains_any (l cs:List UInt8):Lib.containsAny l cs=l.any fun b=>cs.contains b:=by
  unfold Lib.containsAny
  induction l with
  | nil=>rfl
  | cons b l ih =>
    have hge:=Lib.indexAny_ge cs l
    rw [Lib.indexAny,List.any_cons,<-ih]
    cases hb:cs.contains b
    · simp only [Bool.false_or,Bool.false_eq_true,if_false]
      by_cases h:Lib.indexAny l cs=-1
      · simp [h]
      · have h1:(Lib.indexAny l cs==-1)=false:=by simpa using h
        simp only [h1,Bool.false_eq_true,if_false]
        rw [decide_eq_true (show (0:Int)<=Lib.indexAny l cs+1 by omega),decide_eq_true (show (0:Int)<=Lib.indexAny l cs by omega)]
    · simp
end An
namespace Ch
open Go.Lib Go.RowKit
def RowF (f:UInt8->UInt8) (r:Nat->UInt8) (s:ByteArray) (B k:Nat) (w0 w:World):Prop :=
  Below B w0 w/\B < w.heap.size/\∀ j (hj:j < s.data.size),w.cell? ⟨B,j,none⟩=some (.int .u8 ((if j < k then f s.data[j] else r j).toNat:Int))/\w.frozen? ⟨B,j,none⟩=false
def rest (s:ByteArray) (j:Nat):UInt8:=s.data[j]?.getD 0
theorem rest_at (s:ByteArray) (j:Nat) (hj:j < s.data.size):rest s j=s.data[j]:=by unfold rest;rw [Array.getElem?_eq_getElem hj];rfl
theorem rowF_start (f:UInt8->UInt8) (s:ByteArray) (w:World) (C:Array Value) (t:TypeId) (hC:∀ j (hj:j < s.data.size),C[j]?=some (.int .u8 (s.data[j].toNat:Int))) (hsz:s.data.size<=C.size) :
    RowF f (rest s) s w.heap.size 0 w (w.alloc (.cells C t (C.size,C.size+1))).drew:=by
  refine ⟨((Below.refl _ _).alloc (Nat.le_refl _) _).drew,by simp,fun j hj=>⟨?_,?_⟩⟩
  · show (w.alloc (.cells C t (C.size,C.size+1))).cell? _=_
    rw [World.cell?_alloc_mark,hC j hj,if_neg (Nat.not_lt_zero j),rest_at s j hj]
  · show (w.alloc (.cells C t (C.size,C.size+1))).frozen? _=_
    rw [World.frozen?_alloc_mark]
    simp
    omega
theorem rowF_get {f:UInt8->UInt8} {r:Nat->UInt8} {s:ByteArray} {B k:Nat} {w0 w:World} (h:RowF f r s B k w0 w) (hk:k < s.data.size) :
    w.cell? ⟨B,k,none⟩=some (.int .u8 ((r k).toNat:Int))/\w.frozen? ⟨B,k,none⟩=false:=by
  have:=h.2.2 k hk
  rwa [if_neg (Nat.lt_irrefl k)] at this
theorem rowF_skip {f:UInt8->UInt8} {r:Nat->UInt8} {s:ByteArray} {B k:Nat} {w0 w:World} (h:RowF f r s B k w0 w) (hk:k < s.data.size) (hf:f s.data[k]=r k):RowF f r s B (k+1) w0 w:=by
  refine ⟨h.1,h.2.1,fun j hj=>?_⟩
  have:=h.2.2 j hj
  by_cases hjk:j=k
  · subst hjk
    rw [if_neg (Nat.lt_irrefl j)] at this
    rw [if_pos (by omega),hf]
    exact this
  · by_cases hlt:j < k
    · rw [if_pos hlt] at this;rw [if_pos (by omega)];exact this
    · rw [if_neg hlt] at this;rw [if_neg (by omega)];exact this
theorem rowF_put {f:UInt8->UInt8} {r:Nat->UInt8} {s:ByteArray} {B k:Nat} {w0 w:World} (h:RowF f r s B k w0 w) (hk:k < s.data.size) (z:Int) (hz:((f s.data[k]).toNat:Int)=z) (hB:B=w0.heap.size):RowF f r s B (k+1) w0 (w.setCell ⟨B,k,none⟩ (.int .u8 z)):=by
  refine ⟨h.1.setCell (by subst hB;exact Nat.le_refl _) _,by simpa using h.2.1,fun j hj=>?_⟩
  have:=h.2.2 j hj
  rw [World.frozen?_setCell]
  by_cases hjk:j=k
  · subst hjk
    rw [World.cell?_setCell_same _ _ _ this.1,if_pos (by omega),hz]
    exact ⟨rfl,this.2⟩
  · rw [World.cell?_setCell_other _ _ _ _ (by simp)]
    by_cases hlt:j < k
    · rw [if_pos hlt] at this;rw [if_pos (by omega)];exact this
    · rw [if_neg hlt] at this;rw [if_neg (by omega)];exact this
theorem rowF_text {f:UInt8->UInt8} {r:Nat->UInt8} {s:ByteArray} {B:Nat} {w0 w:World} (h:RowF f r s B s.data.size w0 w) (cap:Nat) :
    (convert 56 9 (.slice (some ⟨B,0,none⟩) s.data.size cap)).run Tryz.prog w=.ok (.string ⟨(s.data.toList.map f).toArray⟩) w:=by
  have:=run_convert_bytes_back (P:=Tryz.prog) w 56 9 5 ⟨B,0,none⟩ cap (s.data.toList.map f) Tryz.underlying56 Tryz.underlying5 Tryz.underlying9 (fun j hj=>by
    have hj':j < s.data.size:=by simpa using hj
    have:=(h.2.2 j hj').1
    rw [if_pos hj'] at this
    have e:(⟨B,0,none⟩:Addr).add j=⟨B,j,none⟩:=Lib.add_plain B 0 j |>.trans (by rw [Nat.zero_add])
    rw [e,this]
    simp)
  rwa [List.length_map,Array.length_toList] at this
theorem bytes_new (w:World) (s:ByteArray):∃ (cap:Nat) (C:Array Value),
    (convert 9 56 (.string s)).run Tryz.prog w=.ok (.slice (some ⟨w.heap.size,0,none⟩) s.size cap) (w.drew.alloc (.cells C 5 (C.size,C.size+1)))/\
    (∀ j (hj:j < s.data.size),C[j]?=some (.int .u8 (s.data[j].toNat:Int)))/\s.data.size<=C.size:=by
  refine ⟨_,_,run_bytes_of_string w 9 56 5 s Tryz.underlying9 Tryz.underlying56 Tryz.underlying5,fun j hj=>bytesRow_at s _ j hj,?_⟩
  simp [bytesRow]
theorem lower_any (s:ByteArray) (w:World) (hs:s.size<=9223372036854775807) :
    Calls Tryz.prog 160 #[.string s] w fun e w'=>e=.returned (.string ⟨(low s.data.toList).toArray⟩)/\Below w.heap.size w w':=by
  obtain ⟨cap,C,hconv,hC,hCs⟩:=bytes_new w s
  have hst:=rowF_start lowB s w C 5 hC hCs
  have hst':=Lib.hid hst
  have hss:s.size=s.data.size:=rfl
  obtain ⟨n,hn⟩:∃ n,s.data.size=n:=⟨_,rfl⟩
  have hsz:s.size=n:=hn
  clear hC hCs hst
  rw [hsz] at hconv hs
  have hn':=Lib.hid hn
  clear hn hss hsz
  go_enter Tryz.func160,Tryz.ntmps160
  go_wp2
  go_loopw [10] (fun i wr=>∃ k:Nat,k<=n/\i=.int .i64 k/\RowF lowB (rest s) s w.heap.size k w wr) (fun i _=>n - (RowKit.intOf i).toNat)
  case atStart=>exact ⟨0,Nat.zero_le _,rfl,hst'.out⟩
  case round =>
    obtain ⟨k,hk,rfl,hrow⟩:=hrel
    by_cases hlt:k < n
    · have hkd:k < s.data.size:=by rw [hn'.out];exact hlt
      have hgd:rest s k=s.data[k]:=rest_at s k hkd
      obtain ⟨x,hx⟩:∃ x,s.data[k]=x:=⟨_,rfl⟩
      obtain ⟨g1,g2⟩:=rowF_get hrow hkd
      rw [hgd,hx] at g1
      have hx':=Lib.hid hx
      have hgd':=Lib.hid hgd
      have hxl:=x.toNat_lt
      have HR:=Lib.hid hrow
      clear hx hrow hgd
      by_cases h1:65<=x.toNat
      · by_cases h2:x.toNat<=90
        · go_wp2
          go_roundw
          case rel=>exact ⟨k+1,by omega,by go_num,rowF_put HR.out hkd _ (by rw [hx'.out,lowB_yes x h1 h2];omega) rfl⟩
          case measure=>simp [RowKit.intOf];omega
        · go_wp2
          go_roundw
          case rel=>exact ⟨k+1,by omega,by go_num,rowF_skip HR.out hkd (by rw [hgd'.out,hx'.out];exact lowB_no x (by omega))⟩
          case measure=>simp [RowKit.intOf];omega
      · go_wp2
        go_roundw
        case rel=>exact ⟨k+1,by omega,by go_num,rowF_skip HR.out hkd (by rw [hgd'.out,hx'.out];exact lowB_no x (by omega))⟩
        case measure=>simp [RowKit.intOf];omega
    · obtain rfl:k=n:=by omega
      have ht:=rowF_text (s:=s) (by rw [hn'.out];exact hrow) cap
      rw [hn'.out] at ht
      have hb:=hrow.1
      clear hrow
      go_wp2
      go_ret
      exact ⟨rfl,hb⟩
theorem upper_any (s:ByteArray) (w:World) (hs:s.size<=9223372036854775807) :
    Calls Tryz.prog 141 #[.string s] w fun e w'=>e=.returned (.string ⟨(up s.data.toList).toArray⟩)/\Below w.heap.size w w':=by
  obtain ⟨cap,C,hconv,hC,hCs⟩:=bytes_new w s
  have hst:=rowF_start upB s w C 5 hC hCs
  have hst':=Lib.hid hst
  have hss:s.size=s.data.size:=rfl
  obtain ⟨n,hn⟩:∃ n,s.data.size=n:=⟨_,rfl⟩
  have hsz:s.size=n:=hn
  clear hC hCs hst
  rw [hsz] at hconv hs
  have hn':=Lib.hid hn
  clear hn hss hsz
  go_enter Tryz.func141,Tryz.ntmps141
  go_wp2
  go_loopw [10] (fun i wr=>∃ k:Nat,k<=n/\i=.int .i64 k/\RowF upB (rest s) s w.heap.size k w wr) (fun i _=>n - (RowKit.intOf i).toNat)
  case atStart=>exact ⟨0,Nat.zero_le _,rfl,hst'.out⟩
  case round =>
    obtain ⟨k,hk,rfl,hrow⟩:=hrel
    by_cases hlt:k < n
    · have hkd:k < s.data.size:=by rw [hn'.out];exact hlt
      have hgd:rest s k=s.data[k]:=rest_at s k hkd
      obtain ⟨x,hx⟩:∃ x,s.data[k]=x:=⟨_,rfl⟩
      obtain ⟨g1,g2⟩:=rowF_get hrow hkd
      rw [hgd,hx] at g1
      have hx':=Lib.hid hx
      have hgd':=Lib.hid hgd
      have hxl:=x.toNat_lt
      have HR:=Lib.hid hrow
      clear hx hrow hgd
      by_cases h1:97<=x.toNat
      · by_cases h2:x.toNat<=122
        · go_wp2
          go_roundw
          case rel=>exact ⟨k+1,by omega,by go_num,rowF_put HR.out hkd _ (by rw [hx'.out,upB_yes x h1 h2];omega) rfl⟩
          case measure=>simp [RowKit.intOf];omega
        · go_wp2
          go_roundw
          case rel=>exact ⟨k+1,by omega,by go_num,rowF_skip HR.out hkd (by rw [hgd'.out,hx'.out];exact upB_no x (by omega))⟩
          case measure=>simp [RowKit.intOf];omega
      · go_wp2
        go_roundw
        case rel=>exact ⟨k+1,by omega,by go_num,rowF_skip HR.out hkd (by rw [hgd'.out,hx'.out];exact upB_no x (by omega))⟩
        case measure=>simp [RowKit.intOf];omega
    · obtain rfl:k=n:=by omega
      have ht:=rowF_text (s:=s) (by rw [hn'.out];exact hrow) cap
      rw [hn'.out] at ht
      have hb:=hrow.1
      clear hrow
      go_wp2
      go_ret
      exact ⟨rfl,hb⟩
theorem same_any (s t:ByteArray) (w:World) (hs:s.size<=9223372036854775807) (ht:t.size<=9223372036854775807) :
    Calls Tryz.prog 140 #[.string s,.string t] w fun e w'=>e=.returned (.bool (low s.data.toList==low t.data.toList))/\Below w.heap.size w w':=by
  go_enter Tryz.func140,Tryz.ntmps140
  go_wp2_with fail
  go_at_call 160
  refine (lower_any s w hs).mono ?_
  rintro e w1 ⟨rfl,hb1⟩
  go_wp2_with fail
  go_at_call 160
  refine (lower_any t w1 ht).mono ?_
  rintro e w2 ⟨rfl,hb2⟩
  go_wp2
  go_ret
  exact ⟨rfl,hb1.trans (hb2.mono (Nat.le_of_lt_succ (Nat.lt_succ_of_le hb1.size)))⟩
end Ch
namespace Ch
open Go.Lib Go.RowKit Go.Shelf
def Tabs (w:World):Prop:=Lib.Utf8Tabs (Tryz.laysValid_ren.g 3) (Tryz.laysValid_ren.g 4) w
theorem tabs_below {w w':World} (h:Tabs w) (hb:Below w.heap.size w w'):Tabs w':=Utf8Tabs_below h hb
theorem control_any (x:UInt8) (w:World):Calls Tryz.prog 97 #[.int .u8 (x.toNat:Int)] w fun e w'=>e=.returned (.bool (ctl x))/\w=w':=by
  have hx:=x.toNat_lt
  unfold ctl
  generalize x.toNat=v at hx ⊢
  by_cases c1:v=9
  · subst c1
    go_enter Tryz.func97,Tryz.ntmps97
    go_wp2
    go_ret
    exact ⟨rfl,rfl⟩
  by_cases c2:v=10
  · subst c2
    go_enter Tryz.func97,Tryz.ntmps97
    go_wp2
    go_ret
    exact ⟨rfl,rfl⟩
  by_cases c3:v=13
  · subst c3
    go_enter Tryz.func97,Tryz.ntmps97
    go_wp2
    go_ret
    exact ⟨rfl,rfl⟩
  by_cases c4:v=127
  · subst c4
    go_enter Tryz.func97,Tryz.ntmps97
    go_wp2
    go_ret
    exact ⟨rfl,rfl⟩
  rw [if_neg (by omega),if_neg c4]
  by_cases c5:v < 32
  · have d1:((v:Int)==9)=false:=by simp;omega
    have d2:((v:Int)==10)=false:=by simp;omega
    have d3:((v:Int)==13)=false:=by simp;omega
    have d4:((v:Int)==127)=false:=by simp;omega
    have d5:decide ((v:Int) < 32)=true:=by simp;omega
    rw [decide_eq_true c5]
    go_enter Tryz.func97,Tryz.ntmps97
    go_wp2
    go_ret
    exact ⟨rfl,rfl⟩
  · have d1:((v:Int)==9)=false:=by simp;omega
    have d2:((v:Int)==10)=false:=by simp;omega
    have d3:((v:Int)==13)=false:=by simp;omega
    have d4:((v:Int)==127)=false:=by simp;omega
    have d5:decide ((v:Int) < 32)=false:=by simp;omega
    rw [decide_eq_false c5]
    go_enter Tryz.func97,Tryz.ntmps97
    go_wp2
    go_ret
    exact ⟨rfl,rfl⟩
theorem clean_take (l:List UInt8) (k:Nat) (hk:k < l.length) (h:clean (l.take k)=true) (hc:ctl l[k]=false):clean (l.take (k+1))=true:=by
  rw [List.take_succ_eq_append_getElem hk,clean_append,h]
  simp [clean,hc]
theorem clean_not (l:List UInt8) (k:Nat) (hk:k < l.length) (hc:ctl l[k]=true):clean l=false:=by
  unfold clean
  rw [Bool.eq_false_iff]
  intro h
  rw [List.all_eq_true] at h
  have:=h _ (List.getElem_mem hk)
  rw [hc] at this
  exact absurd this (by decide)
theorem valid_any (s:ByteArray) (w:World) (hs:s.size<=9223372036854775807) (hT:Tabs w) :
    Calls Tryz.prog 79 #[.string s] w fun e w'=>e=.returned (.bool (valid s.data.toList))/\Below w.heap.size w w':=by
  have cV:Calls Tryz.prog 96 #[.string s] w _:=Any.utf8_ValidString Tryz.laysValid s w hs hT
  unfold valid
  obtain ⟨V,hV⟩:∃ V,validD s.data.toList=V:=⟨_,rfl⟩
  rw [hV] at cV ⊢
  clear hV hT
  cases V
  · go_enter Tryz.func79,Tryz.ntmps79
    go_wp2_with (go_at_call 96;refine cV.mono ?_;rintro e w' ⟨rfl,hb⟩)
    go_ret
    exact ⟨rfl,hb⟩
  · rw [Bool.true_and]
    go_enter Tryz.func79,Tryz.ntmps79
    go_wp2_with (go_at_call 96;refine cV.mono ?_;rintro e w1 ⟨rfl,hb⟩)
    clear cV
    go_loop [3] (fun i=>∃ k:Nat,k<=s.size/\i=.int .i64 k/\clean (s.data.toList.take k)=true) (fun i=>s.size - (RowKit.intOf i).toNat)
    case atStart=>exact ⟨0,Nat.zero_le _,rfl,rfl⟩
    case round =>
      obtain ⟨k,hk,rfl,hcl⟩:=hrel
      have hcl':=Lib.hid hcl
      clear hcl
      by_cases hlt:k < s.size
      · have hkl:k < s.data.toList.length:=by simpa using hlt
        have hsk:=Lib.hid (show s[k]'hlt=s.data.toList[k]'hkl by simp;rfl)
        by_cases hc:ctl (s[k]'hlt)=true
        · have hno:=Lib.hid (clean_not s.data.toList k hkl (by rw [<-hsk.out];exact hc))
          go_wp2_with (go_at_call 97;refine (control_any _ _).mono ?_;rintro e w' ⟨rfl,rfl⟩)
          go_ret
          exact ⟨by rw [hno.out];rfl,hb⟩
        · rw [Bool.not_eq_true] at hc
          have hyes:=Lib.hid (clean_take s.data.toList k hkl hcl'.out (by rw [<-hsk.out];exact hc))
          go_wp2_with (go_at_call 97;refine (control_any _ _).mono ?_;rintro e w' ⟨rfl,rfl⟩)
          go_round
          case rel=>exact ⟨k+1,by omega,by go_num,hyes.out⟩
          case measure=>simp [RowKit.intOf];omega
      · have hks:k=s.size:=by omega
        have hfin:=Lib.hid (show clean s.data.toList=true by
          have h:=hcl'.out
          rwa [List.take_of_length_le (by rw [<-Lib.size_eq];omega)] at h)
        clear hks
        go_wp2
        go_ret
        exact ⟨by rw [hfin.out];rfl,hb⟩
end Ch
end Go.Proofs.YtobfaibofhmpgaaGreatDoor
