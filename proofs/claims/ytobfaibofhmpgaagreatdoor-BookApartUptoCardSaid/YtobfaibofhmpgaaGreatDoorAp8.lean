import Derived.Test.YtobfaibofhmpgaaGreatDoorAp6
import Derived.Test.YtobfaibofhmpgaaGreatDoorAp7
set_option linter.unusedVariables false
set_option maxHeartbeats 4000000
set_option maxRecDepth 100000
namespace Go.Proofs.YtobfaibofhmpgaaGreatDoor
namespace Bu
open Go.Lib Go.RowKit Go.Shelf
def Bd (B b:Nat) (l:List UInt8) (w:World):Prop:=IsBuilderF 133 5 B b (byteCells l) w
theorem sizeB:(Tryz.prog.info? 133).map (·.size)=some 2:=by kernel_rfl
theorem liesB:liesAt Tryz.prog Tryz.prog.depth 133 (2 / Tryz.prog.cellsOf 133) 0 133 1=true:=by kernel_rfl
theorem infoU8:(Tryz.prog.info? 5).map (fun i=>(i.zero,i.size,i.bytes))=some (some (.int .u8 0),1,1):=by kernel_rfl
theorem fresh (w:World):Bd w.heap.size w.heap.size [] (w.alloc (.cells #[.pointer none,.slice none 0 0] 133)):=IsBuilderF.of (fresh_isBuilder _ _ w)
theorem Bd.kept {B b:Nat} {l:List UInt8} {w w':World} (h:Bd B b l w) (hb:Below w.heap.size w w'):Bd B b l w':=by
  have main:∀ p,BuilderAtF 133 5 B b p (byteCells l) w->BuilderAtF 133 5 B b p (byteCells l) w':=by
    rintro p ⟨h1,v,h2,h3,h4⟩
    refine ⟨h1,v,?_,?_,h4⟩
    · rw [hb.block b (Array.getElem?_eq_some_iff.1 h2).1];exact h2
    · refine ⟨h3.1,?_⟩
      rcases h3.2 with h | ⟨g,cap,cur,fz,e1,e2,e3,e4⟩
      · exact .inl h
      · exact .inr ⟨g,cap,cur,fz,e1,e2,by rw [hb.block g (Array.getElem?_eq_some_iff.1 e3).1];exact e3,e4⟩
  exact h.elim (fun x=>.inl (main _ x)) (fun x=>.inr (main _ x))
theorem Bd.lt {B b:Nat} {l:List UInt8} {w:World} (h:Bd B b l w):B<=b/\b < w.heap.size:=by
  rcases h with ⟨h1,v,h2,_⟩ | ⟨h1,v,h2,_⟩<;>exact ⟨h1,(Array.getElem?_eq_some_iff.1 h2).1⟩
def KeptT (w w':World):Prop:=∀ (k:Nat) (cs:Array Value) (t:TypeId) (fr:Nat × Nat),w.heap[k]?=some (.cells cs t fr)->t≠133->t≠5->w'.heap[k]?=some (.cells cs t fr)
theorem KeptT.refl (w:World):KeptT w w:=fun _ _ _ _ h _ _=>h
theorem KeptT.trans {a b c:World} (h:KeptT a b) (k:KeptT b c):KeptT a c:=fun i cs t fr hi h1 h2=>k i cs t fr (h i cs t fr hi h1 h2) h1 h2
theorem KeptT.of_below {w w':World} (h:Below w.heap.size w w'):KeptT w w':=fun i cs t fr hi _ _=>(h.block i (Array.getElem?_eq_some_iff.1 hi).1).trans hi
theorem KeptT.setCell {w:World} {b:Nat} {cs:Array Value} {fr:Nat × Nat} (hb:w.heap[b]?=some (.cells cs 133 fr)) (o:Nat) (u:Value):KeptT w (w.setCell ⟨b,o,none⟩ u):=fun i cs' t fr' hi h1 _=>by
  rw [Below.heap_setCell w ⟨b,o,none⟩ u i (fun e=>by
    have e:i=b:=e
    subst e
    rw [hb] at hi
    injection hi with hi
    injection hi with _ ht
    exact h1 ht.symm)]
  exact hi
theorem KeptT.grown {w w':World} {B:Nat} {size n:Nat} {v:Value} {xs:List Value} (h:w.ownsRowF B 5 size v n xs) (hg:w.grownBy w' v.ownBlock):KeptT w w':=fun i cs t fr hi _ h2=>by
  rw [hg.block i (Array.getElem?_eq_some_iff.1 hi).1 (fun e=>by
    rcases h.2 with ⟨hv,_⟩ | ⟨g,cap,cur,fz,hv,_,hh,_⟩
    · rw [hv] at e;cases e
    · rw [hv] at e
      have e:i=g:=by simpa [Value.ownBlock] using e
      subst e
      rw [hi] at hh
      injection hh with hh
      injection hh with _ ht
      exact h2 ht)]
  exact hi
theorem check_new (b:Nat) (w:World) (h0:w.cell? ⟨b,0,none⟩=some (.pointer none)) (hsh:w.shape? b=some (133,2)) (hfz:w.frozen? ⟨b,0,none⟩=false) :
    Calls Tryz.prog 98 #[.pointer (some ⟨b,0,none⟩)] w fun e w'=>e=.returned (.tuple #[])/\w'=w.setCell ⟨b,0,none⟩ (.pointer (some ⟨b,0,none⟩)):=by
  obtain ⟨j,hj,hjs⟩:=Option.map_eq_some_iff.1 sizeB
  go_enter Tryz.func98,Tryz.ntmps98
  go_wp2
  rw [Lib.run_to_unsafe w ⟨b,0,none⟩ Tryz.underlying131 Tryz.underlying188 hj (by rw [hjs];decide) hsh (Nat.zero_lt_succ 1)]
  simp only [Result.andThen]
  rw [Oper.upon_value]
  go_wp2
  rw [run_callFunc_extern Tryz.func127 (by kernel_rfl) (by kernel_rfl) (by kernel_rfl) (e:=Extern.AbiNoEscape.same) (by kernel_rfl)]
  rw [Lib.run_noEscape]
  simp only [Result.andThen]
  rw [Oper.upon_value]
  go_wp2
  rw [Lib.run_from_unsafe w ⟨b,0,none⟩ Tryz.underlying188 Tryz.underlying131 hj hsh liesB]
  simp only [Result.andThen]
  rw [Oper.upon_value]
  go_wp2
  go_end0
  exact ⟨rfl,rfl⟩
theorem check_old (b:Nat) (w:World) (h0:w.cell? ⟨b,0,none⟩=some (.pointer (some ⟨b,0,none⟩))) :
    Calls Tryz.prog 98 #[.pointer (some ⟨b,0,none⟩)] w fun e w'=>e=.returned (.tuple #[])/\w'=w:=by
  obtain ⟨j,hj,hjs⟩:=Option.map_eq_some_iff.1 sizeB
  go_enter Tryz.func98,Tryz.ntmps98
  go_wp2
  rw [Lib.run_neq_ptr_same w _ Tryz.underlying131 hj]
  go_wp2
  go_end0
  exact ⟨rfl,rfl⟩
theorem check_any (B b:Nat) (l:List UInt8) (w:World) (h:Bd B b l w) :
    Calls Tryz.prog 98 #[.pointer (some ⟨b,0,none⟩)] w fun e w'=>e=.returned (.tuple #[])/\BuilderAtF 133 5 B b (.pointer (some ⟨b,0,none⟩)) (byteCells l) w'/\Below B w w'/\KeptT w w':=by
  rcases h with h | h
  · refine (check_new b w h.cell0 h.shape h.frozen0).mono ?_
    rintro e w' ⟨rfl,rfl⟩
    obtain ⟨_,_,hbk,_⟩:=id h
    exact ⟨rfl,h.used _,(Below.refl B w).setCell (p:=⟨b,0,none⟩) h.1 _,KeptT.setCell hbk 0 _⟩
  · refine (check_old b w h.cell0).mono ?_
    rintro e w' ⟨rfl,rfl⟩
    exact ⟨rfl,h,Below.refl B _,KeptT.refl _⟩
theorem write_full (B b:Nat) (l:List UInt8) (s:ByteArray) (w:World) (h:Bd B b l w) (hlen:l.length+s.size<=140737488355328) (hBw:B<=w.heap.size) :
    Calls Tryz.prog 156 #[.pointer (some ⟨b,0,none⟩),.string s] w fun e w'=>e=.returned (.tuple #[.int .i64 s.size,.nilIface])/\Bd B b (l++s.data.toList) w'/\Below B w w'/\KeptT w w':=by
  obtain ⟨i0,hi,hz0,hz1,hz2⟩:=info_parts infoU8
  rw [<-Lib.byteCells_length l] at hlen
  go_enter Tryz.func156,Tryz.ntmps156
  go_wp2_with (go_at_call 98;refine (check_any B b l _ h).mono ?_)
  rintro e w1 ⟨rfl,h1,hb1,ht1⟩
  obtain ⟨hB,v,hbk,hown,hne⟩:=h1
  have c0:w1.cell? ⟨b,0,none⟩=some (.pointer (some ⟨b,0,none⟩)):=by rw [Lib.cell_of_heap hbk];rfl
  have c1:w1.cell? ⟨b,1,none⟩=some v:=by rw [Lib.cell_of_heap hbk];rfl
  go_wp2_with (at_builtin;refine Lib.wpList_append_own_stringF _ rfl _ _ 56 9 rfl B 5 i0 Tryz.underlying56 Tryz.underlying9 hi hz0 hz1 hz2 _ _ _ rfl hown s rfl ?c3 ?c4 ?c5 ?_)
  case c3=>unfold maxLen;omega
  case c4=>omega
  case c5=>have:=hb1.size;omega
  intro v' w2 hown' hgrow _
  have hlt:b < w1.heap.size:=(Array.getElem?_eq_some_iff.1 hbk).1
  have hb2:w2.heap[b]?=some (.cells #[.pointer (some ⟨b,0,none⟩),v] 133 (0,0)):=by
    rw [hgrow.block b hlt (fun e=>hne e.symm)]
    exact hbk
  have d0:w2.cell? ⟨b,0,none⟩=some (.pointer (some ⟨b,0,none⟩)):=by rw [Lib.cell_of_heap hb2];rfl
  have d1:w2.cell? ⟨b,1,none⟩=some v:=by rw [Lib.cell_of_heap hb2];rfl
  have f1:w2.frozen? ⟨b,1,none⟩=false:=Lib.frozen_of_heap hb2 1
  have ht2:KeptT w w2:=ht1.trans (KeptT.grown hown hgrow)
  have hb2':=Lib.hid hb2
  have ht2':=Lib.hid ht2
  clear ht1 ht2
  obtain ⟨ao,n',cap,rfl⟩:∃ ao n' cap,v'=.slice ao n' cap:=by
    rcases hown'.2 with ⟨hv,_⟩ | ⟨g,cap,cur,fz,hv,_⟩
    · exact ⟨_,_,_,hv⟩
    · exact ⟨_,_,_,hv⟩
  go_wp2
  go_ret2
  refine ⟨rfl,.inr ?_,?_,ht2'.out.trans (KeptT.setCell hb2'.out 1 _)⟩
  · have e:byteCells (l++s.data.toList)=byteCells l++strCells s:=by rw [byteCells_append];rfl
    rw [e]
    exact Lib.BuilderAtF.put (T:=133) (e:=5) hB hb2 (bs':=byteCells l++strCells s) (by simpa [Lib.strCells_length] using hown') (by decide)
  · exact (hb1.grown hgrow (by have:=hb1.size;omega) (fun k hk=>(hown.lt k hk).1)).setCell (p:=⟨b,1,none⟩) hB _
theorem write_any (B b:Nat) (l:List UInt8) (s:ByteArray) (w:World) (h:Bd B b l w) (hlen:l.length+s.size<=140737488355328) (hBw:B<=w.heap.size) :
    Calls Tryz.prog 156 #[.pointer (some ⟨b,0,none⟩),.string s] w fun e w'=>e=.returned (.tuple #[.int .i64 s.size,.nilIface])/\Bd B b (l++s.data.toList) w'/\Below B w w' :=
  (write_full B b l s w h hlen hBw).mono fun e w' ⟨h1,h2,h3,_⟩=>⟨h1,h2,h3⟩
theorem byte_full (B b:Nat) (l:List UInt8) (c:UInt8) (w:World) (h:Bd B b l w) (hlen:l.length+1<=140737488355328) (hBw:B<=w.heap.size) :
    Calls Tryz.prog 81 #[.pointer (some ⟨b,0,none⟩),.int .u8 (c.toNat:Int)] w fun e w'=>e=.returned .nilIface/\Bd B b (l++[c]) w'/\Below B w w'/\KeptT w w':=by
  obtain ⟨i0,hi,hz0,hz1,hz2⟩:=info_parts infoU8
  rw [<-Lib.byteCells_length l] at hlen
  have hcc:byteCells (l++[c])=byteCells l++[.int .u8 (c.toNat:Int)]:=by rw [byteCells_append];rfl
  have hcc':=Lib.hid hcc
  clear hcc
  obtain ⟨n,hn⟩:∃ n:Int,(c.toNat:Int)=n:=⟨_,rfl⟩
  rw [hn] at hcc' ⊢
  clear hn
  go_enter Tryz.func81,Tryz.ntmps81
  go_wp2_with (go_at_call 98;refine (check_any B b l _ h).mono ?_)
  rintro e w1 ⟨rfl,h1,hb1,ht1⟩
  obtain ⟨hB,v,hbk,hown,hne⟩:=h1
  have c0:w1.cell? ⟨b,0,none⟩=some (.pointer (some ⟨b,0,none⟩)):=by rw [Lib.cell_of_heap hbk];rfl
  have c1:w1.cell? ⟨b,1,none⟩=some v:=by rw [Lib.cell_of_heap hbk];rfl
  go_wp2_with (at_builtin;refine wpList_append_ownF _ rfl _ _ 56 rfl B 5 i0 (.int .u8 0) 1 1 Tryz.underlying56 hi hz0 hz1 hz2 rfl (by decide) _ _ _ rfl (hown.alloc _) ⟨w1.heap.size,0,none⟩ 1 1 [.int .u8 n] rfl rfl ?c1 ?c2 ?c3 ?c4 ?c5 ?_)
  case c1 =>
    intro j u hj
    match j,hj with
    | 0,hj=>simp at hj;subst hj;simp [Addr.add]
  case c2=>intro u hu;simp at hu;subst hu;rfl
  case c3=>unfold maxLen;omega
  case c4=>omega
  case c5=>have:=hb1.size;simp;omega
  intro v' w2 hown' hgrow _
  have hlt:b < w1.heap.size:=(Array.getElem?_eq_some_iff.1 hbk).1
  have hb2:w2.heap[b]?=some (.cells #[.pointer (some ⟨b,0,none⟩),v] 133 (0,0)):=by
    rw [hgrow.block b (by simp;omega) (fun e=>hne e.symm),Lib.alloc_old w1 _ b hlt]
    exact hbk
  have d0:w2.cell? ⟨b,0,none⟩=some (.pointer (some ⟨b,0,none⟩)):=by rw [Lib.cell_of_heap hb2];rfl
  have d1:w2.cell? ⟨b,1,none⟩=some v:=by rw [Lib.cell_of_heap hb2];rfl
  have f1:w2.frozen? ⟨b,1,none⟩=false:=Lib.frozen_of_heap hb2 1
  have ht2:KeptT w w2:=(ht1.trans (KeptT.of_below ((Below.refl _ _).alloc (Nat.le_refl _) _))).trans (KeptT.grown (hown.alloc _) hgrow)
  have hb2':=Lib.hid hb2
  have ht2':=Lib.hid ht2
  clear ht1 ht2
  obtain ⟨ao,n',cap,rfl⟩:∃ ao n' cap,v'=.slice ao n' cap:=by
    rcases hown'.2 with ⟨hv,_⟩ | ⟨g,cap,cur,fz,hv,_⟩
    · exact ⟨_,_,_,hv⟩
    · exact ⟨_,_,_,hv⟩
  go_wp2
  go_ret
  refine ⟨rfl,.inr ?_,?_,ht2'.out.trans (KeptT.setCell hb2'.out 1 _)⟩
  · rw [hcc'.out]
    exact Lib.BuilderAtF.put (T:=133) (e:=5) hB hb2 (bs':=byteCells l++[.int .u8 n]) (by simpa using hown') (by decide)
  · exact ((hb1.alloc (by have:=hb1.size;omega) _).grown hgrow (by have:=hb1.size;simp;omega) (fun k hk=>(hown.lt k hk).1)).setCell (p:=⟨b,1,none⟩) hB _
theorem byte_any (B b:Nat) (l:List UInt8) (c:UInt8) (w:World) (h:Bd B b l w) (hlen:l.length+1<=140737488355328) (hBw:B<=w.heap.size) :
    Calls Tryz.prog 81 #[.pointer (some ⟨b,0,none⟩),.int .u8 (c.toNat:Int)] w fun e w'=>e=.returned .nilIface/\Bd B b (l++[c]) w'/\Below B w w' :=
  (byte_full B b l c w h hlen hBw).mono fun e w' ⟨h1,h2,h3,_⟩=>⟨h1,h2,h3⟩
theorem text_any (B b:Nat) (l:List UInt8) (w:World) (h:Bd B b l w) (hBw:B<=w.heap.size) :
    Calls Tryz.prog 82 #[.pointer (some ⟨b,0,none⟩)] w fun e w'=>e=.returned (.string ⟨l.toArray⟩)/\Bd B b l w'/\Below B w w' :=
  (Tryz.Builder_String_any_f B b l w h hBw).mono fun e w' ⟨h1,h2,h3⟩=>⟨h1,h2,h3⟩
end Bu
namespace Li
open Go.Lib Go.RowKit Bu
theorem results_tmp4 {fn:Func} {t u v x:Tmp} (h:fn.results=#[.tmp t,.tmp u,.tmp v,.tmp x]) (tmps:Array Value) (P:Program) (w:World) :
    (results fn tmps).run P w=.ok (.tuple #[tmps.getD t undef,tmps.getD u undef,tmps.getD v undef,tmps.getD x undef]) w:=by simp [results,h]
def CutNamesP (t:Row) (e:Ending):Prop :=
  (namesC t=none/\e=.returned (.tuple #[.string ⟨#[]⟩,.string ⟨#[]⟩,.string ⟨#[]⟩,.bool false]))\/
  ∃ g n r:ByteArray,namesC t=some (g.data.toList,n.data.toList,r.data.toList)/\e=.returned (.tuple #[.string g,.string n,.string r,.bool true])
theorem nameC_len {l:Row} {n r:ByteArray} (h:nameC l=some (n.data.toList,r.data.toList)):n.size+r.size=l.length:=by
  have:=congrArg List.length (nameC_some h).1
  rw [List.length_append] at this
  rw [Lib.size_eq,Lib.size_eq];omega
theorem cutNames_any (s:ByteArray) (w:World) (hs:s.size<=9223372036854775807) :
    Calls Tryz.prog 158 #[.string s] w fun e w'=>CutNamesP s.data.toList e/\Below w.heap.size w w':=by
  go_enter Tryz.func158,Tryz.ntmps158
  go_wp2_with fail
  go_at_call 189
  refine (cutName_any s w hs).mono ?_
  rintro e w1 ⟨hc,hb⟩
  rcases hc with ⟨h1,rfl⟩ | ⟨n,r,h1,rfl⟩
  · have hfin:CutNamesP s.data.toList (.returned (.tuple #[.string ⟨#[]⟩,.string ⟨#[]⟩,.string ⟨#[]⟩,.bool false])):=.inl ⟨by unfold namesC;rw [h1],rfl⟩
    have hfin':=Lib.hid hfin
    clear hfin h1
    go_wp2
    refine bodyPost_ret (results_tmp4 rfl _ _ _) rfl ?_
    exact ⟨hfin'.out,hb⟩
  · have hrs:r.size<=9223372036854775807:=by have:=nameC_len h1;have:=Lib.size_eq s;omega
    by_cases h46:r.data.toList.head?=some 46
    · have hfin0:nameC r.data.toList.tail=none->CutNamesP s.data.toList (.returned (.tuple #[.string ⟨#[]⟩,.string ⟨#[]⟩,.string ⟨#[]⟩,.bool false])):=fun h2=>.inl ⟨by unfold namesC;rw [h1];dsimp only;rw [if_pos h46,h2];rfl,rfl⟩
      have hfin1:∀ m q:ByteArray,nameC r.data.toList.tail=some (m.data.toList,q.data.toList)->CutNamesP s.data.toList (.returned (.tuple #[.string n,.string m,.string q,.bool true])):=fun m q h2=>.inr ⟨n,m,q,by unfold namesC;rw [h1];dsimp only;rw [if_pos h46,h2];rfl,rfl⟩
      have hfin0':=Lib.hid hfin0
      have hfin1':=Lib.hid hfin1
      have cH:=fun W=>hasPre_is r 46 true W (decide_eq_true h46)
      have hr1:=size_pos r h46
      clear hfin0 hfin1 h1 h46
      go_wp2_with (go_at_call 190;refine (cH _).mono ?_;rintro e w' ⟨rfl,rfl⟩)
      go_at_call 189
      refine (cutName_any (r.extract 1 r.size) _ (by rw [Lib.size_eq,cut_tail,List.length_tail,<-Lib.size_eq];omega)).mono ?_
      rintro e w2 ⟨hc,hb2⟩
      rw [cut_tail] at hc
      rcases hc with ⟨h1,rfl⟩ | ⟨m,q,h1,rfl⟩
      · have hf:=Lib.hid (hfin0'.out h1)
        clear h1
        go_wp2
        refine bodyPost_ret (results_tmp4 rfl _ _ _) rfl ?_
        exact ⟨hf.out,below_then hb hb2⟩
      · have hf:=Lib.hid (hfin1'.out m q h1)
        clear h1
        go_wp2
        refine bodyPost_ret (results_tmp4 rfl _ _ _) rfl ?_
        exact ⟨hf.out,below_then hb hb2⟩
    · have hfin:CutNamesP s.data.toList (.returned (.tuple #[.string ⟨#[]⟩,.string n,.string r,.bool true])):=.inr ⟨⟨#[]⟩,n,r,by unfold namesC;rw [h1];dsimp only;rw [if_neg h46],rfl⟩
      have hfin':=Lib.hid hfin
      have cH:=fun W=>hasPre_is r 46 false W (decide_eq_false h46)
      clear hfin h1 h46
      go_wp2_with (go_at_call 190;refine (cH _).mono ?_;rintro e w' ⟨rfl,rfl⟩)
      refine bodyPost_ret (results_tmp4 rfl _ _ _) rfl ?_
      exact ⟨hfin'.out,hb⟩
def CutP (c:UInt8) (t:ByteArray) (e:Ending):Prop :=
  (cut1 c t.data.toList=none/\e=.returned (.tuple #[.string t,.string ⟨#[]⟩,.bool false]))\/
  ∃ a r:ByteArray,cut1 c t.data.toList=some (a.data.toList,r.data.toList)/\e=.returned (.tuple #[.string a,.string r,.bool true])
theorem byte_at (l:List UInt8) (c:UInt8):(indexByte l c=-1/\c∉l)\/∃ k:Nat,indexByte l c=k/\k < l.length/\c∉l.take k/\l=l.take k++c :: l.drop (k+1):=by
  have hge:=indexByte_ge l c
  by_cases h:indexByte l c=-1
  · left
    refine ⟨h,fun hm=>?_⟩
    obtain ⟨k,hk⟩:=List.mem_iff_getElem?.1 hm
    exact indexByte_none h k hk
  · right
    obtain ⟨k,hk⟩:∃ k:Nat,indexByte l c=k:=⟨(indexByte l c).toNat,by omega⟩
    obtain ⟨h1,h2⟩:=indexByte_some hk
    obtain ⟨hlt,hv⟩:=List.getElem?_eq_some_iff.1 h1
    refine ⟨k,hk,hlt,fun hm=>?_,?_⟩
    · obtain ⟨j,hj⟩:=List.mem_iff_getElem?.1 hm
      rw [List.getElem?_take] at hj
      split at hj
      · exact h2 j ‹_› hj
      · cases hj
    · conv=>lhs;rw [<-List.take_append_drop k l,List.drop_eq_getElem_cons hlt,hv]
theorem cutLite_any (c:UInt8) (t:ByteArray) (w:World) (hs:t.size<=9223372036854775807) :
    Calls Tryz.prog 49 #[.string t,.string ⟨#[c]⟩] w fun e w'=>CutP c t e/\Below w.heap.size w w':=by
  have cI:=fun W=>Tryz.stringslite_Index_one t c W
  rcases byte_at t.data.toList c with ⟨h1,h2⟩ | ⟨k,h1,h2,h3,h4⟩
  · rw [h1] at cI
    have hfin:CutP c t (.returned (.tuple #[.string t,.string ⟨#[]⟩,.bool false])):=.inl ⟨cut1_none h2,rfl⟩
    clear h1 h2
    have hfin':=Lib.hid hfin
    clear hfin
    go_enter Tryz.func49,Tryz.ntmps49
    go_wp2_with (go_at_call 74;refine (cI _).mono ?_;rintro e w' ⟨rfl,rfl⟩)
    go_ret3
    exact ⟨hfin'.out,Below.refl _ _⟩
  · rw [h1] at cI
    rw [<-Lib.size_eq] at h2
    have e1:(t.extract 0 k).data.toList=t.data.toList.take k:=by rw [Lib.extract_data];rfl
    have e2:(t.extract (k+1) t.size).data.toList=t.data.toList.drop (k+1):=Lib.extract_to_end t (k+1)
    have hfin : CutP c t (.returned (.tuple #[.string (t.extract 0 k),.string (t.extract (k+1) t.size),.bool true])) :=
      .inr ⟨_, _, by rw [e1,e2];conv=>lhs;rw [h4]
                     exact cut1_some _ h3,rfl⟩
    clear h1 h3 h4 e1 e2
    have hfin':=Lib.hid hfin
    clear hfin
    have hw:IntKind.i64.wrap ((k:Int)+1)=(k:Int)+1:=IntWalk.i64_in _ (by omega)
    go_enter Tryz.func49,Tryz.ntmps49
    go_wp2_with (go_at_call 74;refine (cI _).mono ?_;rintro e w' ⟨rfl,rfl⟩)
    go_quiet (fail)
    go_wp2
    go_ret3
    exact ⟨hfin'.out,below_drew _ _⟩
theorem cut_any (c:UInt8) (t:ByteArray) (w:World) (hs:t.size<=9223372036854775807) :
    Calls Tryz.prog 23 #[.string t,.string ⟨#[c]⟩] w fun e w'=>CutP c t e/\Below w.heap.size w w':=by
  go_enter Tryz.func23,Tryz.ntmps23
  go_wp2_with fail
  go_at_call 49
  refine (cutLite_any c t w hs).mono ?_
  rintro e w1 ⟨hc,hb⟩
  rcases hc with ⟨h1,rfl⟩ | ⟨a,r,h1,rfl⟩
  · have hfin:CutP c t (.returned (.tuple #[.string t,.string ⟨#[]⟩,.bool false])):=.inl ⟨h1,rfl⟩
    have hfin':=Lib.hid hfin
    clear hfin h1
    go_wp2
    go_ret3
    exact ⟨hfin'.out,hb⟩
  · have hfin:CutP c t (.returned (.tuple #[.string a,.string r,.bool true])):=.inr ⟨a,r,h1,rfl⟩
    have hfin':=Lib.hid hfin
    clear hfin h1
    go_wp2
    go_ret3
    exact ⟨hfin'.out,hb⟩
def CutValueP (t:Row) (e:Ending):Prop :=
  (rawC t=none/\∃ a r:ByteArray,e=.returned (.tuple #[.string a,.string r,.bool false]))\/
  ∃ a r:ByteArray,rawC t=some (a.data.toList,r.data.toList)/\e=.returned (.tuple #[.string a,.string r,.bool true])
theorem sep_in (b:UInt8):sepB b=([44,59,58,34]:List UInt8).contains b:=by
  rw [Bool.eq_iff_iff]
  unfold sepB
  simp [or_assoc]
theorem index_span (l:Row):(Lib.indexAny l [44,59,58,34]=-1/\l.takeWhile (fun b=>!sepB b)=l/\l.dropWhile (fun b=>!sepB b)=[])\/
    ∃ k:Nat,Lib.indexAny l [44,59,58,34]=k/\k < l.length/\l.takeWhile (fun b=>!sepB b)=l.take k/\l.dropWhile (fun b=>!sepB b)=l.drop k:=by
  induction l with
  | nil=>exact .inl ⟨rfl,rfl,rfl⟩
  | cons x l ih =>
    rw [Lib.indexAny,<-sep_in]
    cases hx:sepB x
    · rcases ih with ⟨h1,h2,h3⟩ | ⟨k,h1,h2,h3,h4⟩
      · left
        rw [h1]
        refine ⟨rfl,?_,?_⟩
        · rw [List.takeWhile_cons,hx,h2];rfl
        · rw [List.dropWhile_cons,hx,h3];rfl
      · right
        refine ⟨k+1,?_,by simp;exact h2,?_,?_⟩
        · have:(Lib.indexAny l [44,59,58,34]==-1)=false:=by rw [h1];exact beq_eq_false_iff_ne.2 (by omega)
          rw [this,h1];rfl
        · rw [List.takeWhile_cons,hx,h3];rfl
        · rw [List.dropWhile_cons,hx,h4];rfl
    · right
      exact ⟨0,rfl,by simp,by rw [List.takeWhile_cons,hx];rfl,by rw [List.dropWhile_cons,hx];rfl⟩
theorem asc4:An.Asc ⟨#[44,59,58,34]⟩:=fun j b hb=>by
  have:b∈([44,59,58,34]:List UInt8):=List.mem_iff_getElem?.2 ⟨j,hb⟩
  simp only [List.mem_cons,List.not_mem_nil,or_false] at this
  rcases this with rfl | rfl | rfl | rfl<;>decide
theorem cutValue_any (s:ByteArray) (w:World) (hs:s.size<=9223372036854775807) :
    Calls Tryz.prog 240 #[.string s] w fun e w'=>CutValueP s.data.toList e/\Below w.heap.size w w':=by
  by_cases h34:s.data.toList.head?=some 34
  · have hfin0:cut1 34 s.data.toList.tail=none->∀ a r:ByteArray,CutValueP s.data.toList (.returned (.tuple #[.string a,.string r,.bool false])):=fun h a r=>.inl ⟨by unfold rawC;rw [if_pos h34];exact h,a,r,rfl⟩
    have hfin1:∀ a r:ByteArray,cut1 34 s.data.toList.tail=some (a.data.toList,r.data.toList)->CutValueP s.data.toList (.returned (.tuple #[.string a,.string r,.bool true])):=fun a r h=>.inr ⟨a,r,by unfold rawC;rw [if_pos h34];exact h,rfl⟩
    have hfin0':=Lib.hid hfin0
    have hfin1':=Lib.hid hfin1
    have cH:=fun W=>hasPre_is s 34 true W (decide_eq_true h34)
    have hr1:=size_pos s h34
    clear hfin0 hfin1 h34
    go_enter Tryz.func240,Tryz.ntmps240
    go_wp2_with (go_at_call 190;refine (cH _).mono ?_;rintro e w' ⟨rfl,rfl⟩)
    go_at_call 23
    refine (cut_any 34 (s.extract 1 s.size) _ (by rw [Lib.size_eq,cut_tail,List.length_tail,<-Lib.size_eq];omega)).mono ?_
    rintro e w1 ⟨hc,hb⟩
    unfold CutP at hc
    rw [cut_tail] at hc
    rcases hc with ⟨h1,rfl⟩ | ⟨a,r,h1,rfl⟩
    · have hf:=Lib.hid (hfin0'.out h1)
      clear h1
      go_wp2
      go_ret3
      exact ⟨hf.out _ _,hb⟩
    · have hf:=Lib.hid (hfin1'.out a r h1)
      clear h1
      go_wp2
      go_ret3
      exact ⟨hf.out,hb⟩
  · have hraw:rawC s.data.toList=some (s.data.toList.takeWhile (fun b=>!sepB b),s.data.toList.dropWhile (fun b=>!sepB b)):=by unfold rawC;rw [if_neg h34]
    have cH:=fun W=>hasPre_is s 34 false W (decide_eq_false h34)
    have cI:=fun W=>An.indexAny_all s ⟨#[44,59,58,34]⟩ asc4 (by decide) (by decide) W hs
    rw [show (⟨#[44,59,58,34]⟩:ByteArray).data.toList=[44,59,58,34] from rfl] at cI
    rcases index_span s.data.toList with ⟨h1,h2,h3⟩ | ⟨k,h1,hk,h2,h3⟩
    · rw [h1] at cI
      have hfin:∀ a r:ByteArray,a.data.toList=s.data.toList->r.data.toList=[]->CutValueP s.data.toList (.returned (.tuple #[.string a,.string r,.bool true])):=fun a r ha hr=>.inr ⟨a,r,by rw [hraw,h2,h3,ha,hr],rfl⟩
      have hfin':=Lib.hid hfin
      clear hfin hraw h1 h2 h3 h34
      go_enter Tryz.func240,Tryz.ntmps240
      go_wp2_with (first
        | (go_at_call 190;refine (cH _).mono ?_;rintro e w' ⟨rfl,rfl⟩)
        | (go_at_call 213;refine (cI _).mono ?_;rintro e w1 ⟨rfl,hb⟩))
      go_quiet (fail)
      go_wp2
      go_ret3
      exact ⟨hfin'.out s ByteArray.empty rfl rfl,below_drewN _ hb⟩
    · rw [h1] at cI
      rw [<-Lib.size_eq] at hk
      have hfin:CutValueP s.data.toList (.returned (.tuple #[.string (s.extract 0 k),.string (s.extract k s.size),.bool true])):=.inr ⟨_,_,by
        rw [hraw,h2,h3,Lib.extract_to_end,Lib.extract_data];rfl,rfl⟩
      have hfin':=Lib.hid hfin
      clear hfin hraw h1 h2 h3 h34
      go_enter Tryz.func240,Tryz.ntmps240
      go_wp2_with (first
        | (go_at_call 190;refine (cH _).mono ?_;rintro e w' ⟨rfl,rfl⟩)
        | (go_at_call 213;refine (cI _).mono ?_;rintro e w1 ⟨rfl,hb⟩))
      go_quiet (fail)
      go_wp2
      go_ret3
      exact ⟨hfin'.out,below_drewN _ hb⟩
def escL (l:Row):Option UInt8:=if Lib.hasPrefix l [94,110]=true then some 10 else if Lib.hasPrefix l [94,94]=true then some 94 else if Lib.hasPrefix l [94,39]=true then some 34 else none
theorem pre_two (l:Row) (a b:UInt8):Lib.hasPrefix l [a,b]=true↔∃ r,l=a :: b :: r:=by
  unfold Lib.hasPrefix
  rw [List.isPrefixOf_iff_prefix]
  constructor
  · rintro ⟨r,h⟩;exact ⟨r,h.symm⟩
  · rintro ⟨r,h⟩;exact ⟨r,h.symm⟩
theorem mean_yes {l:Row} {c:UInt8} (h:escL l=some c):mean l=c :: mean (l.drop 2)/\2<=l.length:=by
  unfold escL at h
  split at h
  · obtain ⟨r,rfl⟩:=(pre_two _ _ _).1 ‹_›
    obtain rfl:=Option.some.inj h
    exact ⟨by simp [mean],by simp⟩
  · split at h
    · obtain ⟨r,rfl⟩:=(pre_two _ _ _).1 ‹_›
      obtain rfl:=Option.some.inj h
      exact ⟨by simp [mean],by simp⟩
    · split at h
      · obtain ⟨r,rfl⟩:=(pre_two _ _ _).1 ‹_›
        obtain rfl:=Option.some.inj h
        exact ⟨by simp [mean],by simp⟩
      · cases h
theorem mean_no {x:UInt8} {l:Row} (h:escL (x :: l)=none):mean (x :: l)=x :: mean l:=by
  unfold escL at h
  split at h
  · cases h
  split at h
  · cases h
  split at h
  · cases h
  rename_i h1 h2 h3
  cases l with
  | nil=>rfl
  | cons y t =>
    rw [mean,if_neg (fun h'=>h1 ((pre_two _ _ _).2 ⟨t,by rw [h'.1,h'.2]⟩)),if_neg (fun h'=>h2 ((pre_two _ _ _).2 ⟨t,by rw [h'.1,h'.2]⟩)),if_neg (fun h'=>h3 ((pre_two _ _ _).2 ⟨t,by rw [h'.1,h'.2]⟩))]
def EscP (l:Row) (e:Ending):Prop :=
  (escL l=none/\e=.returned (.tuple #[.int .u8 0,.bool false]))\/∃ c:UInt8,escL l=some c/\e=.returned (.tuple #[.int .u8 (c.toNat:Int),.bool true])
theorem escaped_any (s:ByteArray) (w:World) :
    Calls Tryz.prog 249 #[.string s] w fun e w'=>EscP s.data.toList e/\w=w':=by
  have c1:=fun W=>Tryz.strings_HasPrefix s ⟨#[94,110]⟩ W
  have c2:=fun W=>Tryz.strings_HasPrefix s ⟨#[94,94]⟩ W
  have c3:=fun W=>Tryz.strings_HasPrefix s ⟨#[94,39]⟩ W
  rw [show (⟨#[94,110]⟩:ByteArray).data.toList=[94,110] from rfl] at c1
  rw [show (⟨#[94,94]⟩:ByteArray).data.toList=[94,94] from rfl] at c2
  rw [show (⟨#[94,39]⟩:ByteArray).data.toList=[94,39] from rfl] at c3
  have f0:escL s.data.toList=none->EscP s.data.toList (.returned (.tuple #[.int .u8 0,.bool false])):=fun h=>.inl ⟨h,rfl⟩
  have f1:∀ c:UInt8,escL s.data.toList=some c->EscP s.data.toList (.returned (.tuple #[.int .u8 (c.toNat:Int),.bool true])):=fun c h=>.inr ⟨c,h,rfl⟩
  unfold escL at f0 f1
  generalize EscP s.data.toList=P at f0 f1 ⊢
  cases h1:Lib.hasPrefix s.data.toList [94,110]
  · cases h2:Lib.hasPrefix s.data.toList [94,94]
    · cases h3:Lib.hasPrefix s.data.toList [94,39]
      · rw [h1] at c1;rw [h2] at c2;rw [h3] at c3
        have hf:=Lib.hid (f0 (by rw [h1,h2,h3];rfl))
        clear f0 f1 h1 h2 h3
        go_enter Tryz.func249,Tryz.ntmps249
        go_wp2_with (first | (go_at_call 190;refine (c1 _).mono ?_;rintro e w' ⟨rfl,rfl⟩) | (go_at_call 190;refine (c2 _).mono ?_;rintro e w' ⟨rfl,rfl⟩) | (go_at_call 190;refine (c3 _).mono ?_;rintro e w' ⟨rfl,rfl⟩))
        go_ret2
        exact ⟨hf.out,rfl⟩
      · rw [h1] at c1;rw [h2] at c2;rw [h3] at c3
        have hf:=Lib.hid (f1 34 (by rw [h1,h2,h3];rfl))
        clear f0 f1 h1 h2 h3
        go_enter Tryz.func249,Tryz.ntmps249
        go_wp2_with (first | (go_at_call 190;refine (c1 _).mono ?_;rintro e w' ⟨rfl,rfl⟩) | (go_at_call 190;refine (c2 _).mono ?_;rintro e w' ⟨rfl,rfl⟩) | (go_at_call 190;refine (c3 _).mono ?_;rintro e w' ⟨rfl,rfl⟩))
        go_ret2
        exact ⟨hf.out,rfl⟩
    · rw [h1] at c1;rw [h2] at c2
      have hf:=Lib.hid (f1 94 (by rw [h1,h2];rfl))
      clear f0 f1 h1 h2 c3
      go_enter Tryz.func249,Tryz.ntmps249
      go_wp2_with (first | (go_at_call 190;refine (c1 _).mono ?_;rintro e w' ⟨rfl,rfl⟩) | (go_at_call 190;refine (c2 _).mono ?_;rintro e w' ⟨rfl,rfl⟩))
      go_ret2
      exact ⟨hf.out,rfl⟩
  · rw [h1] at c1
    have hf:=Lib.hid (f1 10 (by rw [h1];rfl))
    clear f0 f1 h1 c2 c3
    go_enter Tryz.func249,Tryz.ntmps249
    go_wp2_with (go_at_call 190;refine (c1 _).mono ?_;rintro e w' ⟨rfl,rfl⟩)
    go_ret2
    exact ⟨hf.out,rfl⟩
theorem drop_head (s:ByteArray) (k:Nat) (h:k < s.size):s.data.toList.drop k=s[k]'h :: s.data.toList.drop (k+1):=by
  have:=Lib.data_getElem? s k h
  obtain ⟨hl,hv⟩:=List.getElem?_eq_some_iff.1 this
  rw [List.drop_eq_getElem_cons hl,hv]
theorem meant_any (s:ByteArray) (w:World) (hs:s.size<=140737488355328) :
    Calls Tryz.prog 241 #[.string s] w fun e w'=>e=.returned (.string ⟨(mean s.data.toList).toArray⟩)/\Below w.heap.size w w':=by
  have hML:=mean_len s.data.toList
  rw [<-Lib.size_eq] at hML
  obtain ⟨M,hM⟩:∃ M,mean s.data.toList=M:=⟨_,rfl⟩
  rw [hM] at hML ⊢
  have hM':=Lib.hid hM
  clear hM
  go_enter Tryz.func241,Tryz.ntmps241
  go_wp2
  go_loopw [4] (fun s4 wr=>∃ (k:Nat) (acc:Row),s4=.int .i64 (k:Int)/\k<=s.size/\M=acc++mean (s.data.toList.drop k)/\Bd w.heap.size w.heap.size acc wr/\Below w.heap.size w wr) (fun s4 wr=>s.size - (RowKit.intOf s4).toNat)
  case atStart=>exact ⟨0,[],rfl,Nat.zero_le _,hM'.out.symm,fresh w,(Below.refl _ _).alloc (Nat.le_refl _) _⟩
  case round =>
    obtain ⟨k,acc,rfl,hk,hacc,hbd,hbw⟩:=hrel
    have hal:acc.length<=M.length:=by have:=congrArg List.length hacc;rw [List.length_append] at this;omega
    have hbr:=hbd.lt
    by_cases hlt:k < s.size
    · have hds:(s.extract k s.size).data.toList=s.data.toList.drop k:=Lib.extract_to_end s k
      have hdh:=drop_head s k hlt
      have hE:=escaped_any (s.extract k s.size) wr
      rw [hds] at hE
      have hdl:(s.data.toList.drop k).length=s.size - k:=by rw [List.length_drop,<-Lib.size_eq]
      have hacc':=Lib.hid hacc
      have hdh':=Lib.hid hdh
      have hdl':=Lib.hid hdl
      clear hacc hds hdh hdl
      go_wp2_with fail
      go_at_call 249
      refine hE.mono ?_
      rintro e w' ⟨hc,rfl⟩
      rcases hc with ⟨h1,rfl⟩ | ⟨c,h1,rfl⟩
      · have hn:M=(acc++[s[k]'hlt])++mean (s.data.toList.drop (k+1)):=by
          rw [hdh'.out] at h1
          rw [hacc'.out,hdh'.out,mean_no h1];simp
        have hl1:acc.length+1<=140737488355328:=by
          have:=congrArg List.length hn
          rw [List.length_append,List.length_append,List.length_singleton] at this
          omega
        have cB:=byte_any w.heap.size w.heap.size acc (s[k]'hlt) wr hbd hl1 (by omega)
        have hn':=Lib.hid hn
        clear h1 hn
        go_wp2_with (go_at_call 81;refine cB.mono ?_;rintro e w1 ⟨rfl,hbd1,hb1⟩)
        go_roundw
        case rel=>exact ⟨k+1,_,by go_num,by omega,hn'.out,hbd1,hbw.trans hb1⟩
        case measure=>simp [RowKit.intOf];omega
      · obtain ⟨hm,h2⟩:=mean_yes h1
        have hk2:k+2<=s.size:=by have:=hdl'.out;omega
        have hn:M=(acc++[c])++mean (s.data.toList.drop (k+2)):=by
          rw [hacc'.out,hm,List.drop_drop];simp
        have hl1:acc.length+1<=140737488355328:=by
          have:=congrArg List.length hn
          rw [List.length_append,List.length_append,List.length_singleton] at this
          omega
        have cB:=byte_any w.heap.size w.heap.size acc c wr hbd hl1 (by omega)
        have hn':=Lib.hid hn
        clear h1 hm hn h2
        go_wp2_with (go_at_call 81;refine cB.mono ?_;rintro e w1 ⟨rfl,hbd1,hb1⟩)
        go_roundw
        case rel=>exact ⟨k+2,_,by go_num,by omega,hn'.out,hbd1,hbw.trans hb1⟩
        case measure=>simp [RowKit.intOf];omega
    · have hfin:acc=M:=by
        rw [hacc,List.drop_eq_nil_of_le (by rw [<-Lib.size_eq];omega)]
        simp [mean]
      have hfin':=Lib.hid hfin
      clear hfin hacc
      go_wp2_with (go_at_call 82;refine (text_any w.heap.size w.heap.size _ _ hbd (by omega)).mono ?_;rintro e w1 ⟨rfl,_,hb1⟩)
      go_ret
      exact ⟨by rw [hfin'.out];rfl,hbw.trans hb1⟩
theorem asc2:An.Asc ⟨#[13,10]⟩:=fun j b hb=>by
  have:b∈([13,10]:List UInt8):=List.mem_iff_getElem?.2 ⟨j,hb⟩
  simp only [List.mem_cons,List.not_mem_nil,or_false] at this
  rcases this with rfl | rfl<;>decide
theorem asc1:An.Asc ⟨#[13]⟩:=fun j b hb=>by
  have:b∈([13]:List UInt8):=List.mem_iff_getElem?.2 ⟨j,hb⟩
  simp only [List.mem_cons,List.not_mem_nil,or_false] at this
  subst this;decide
theorem ends_is (l:Row):Lib.containsAny l [13,10]=ends l:=by
  rw [An.contains_any,Bool.eq_iff_iff,ends_mem,List.any_eq_true]
  constructor
  · rintro ⟨x,hx,h⟩
    simp at h
    rcases h with rfl | rfl
    · exact .inl hx
    · exact .inr hx
  · rintro (h | h)
    · exact ⟨13,h,rfl⟩
    · exact ⟨10,h,rfl⟩
theorem has13 (l:Row):Lib.containsAny l [13]=l.contains 13:=by
  rw [An.contains_any,Bool.eq_iff_iff,List.any_eq_true]
  constructor
  · rintro ⟨x,hx,h⟩
    simp at h
    subst h;simpa using hx
  · intro h
    exact ⟨13,by simpa using h,rfl⟩
theorem plain_with (s cs:ByteArray) (V:Bool) (w:World) (hT:Ch.Tabs w) (hs:s.size<=9223372036854775807)
    (cC:∀ W,Calls Tryz.prog 188 #[.string s,.string cs] W fun e w'=>e=.returned (.bool V)/\Below W.heap.size W w') :
    Calls Tryz.prog 157 #[.string s,.string cs] w fun e w'=>e=.returned (.bool (Ch.valid s.data.toList && !V))/\Below w.heap.size w w':=by
  have cV:=Ch.valid_any s w hs hT
  have hT':=Lib.hid hT
  clear hT
  cases hv:Ch.valid s.data.toList
  · rw [hv] at cV
    clear hv
    go_enter Tryz.func157,Tryz.ntmps157
    go_wp2_with (go_at_call 79;refine cV.mono ?_;rintro e w1 ⟨rfl,hb⟩)
    go_ret
    exact ⟨rfl,hb⟩
  · rw [hv] at cV
    clear hv
    cases V
    all_goals
      go_enter Tryz.func157,Tryz.ntmps157
      go_wp2_with (first
        | (go_at_call 79;refine cV.mono ?_;rintro e w1 ⟨rfl,hb⟩)
        | (go_at_call 188;refine (cC _).mono ?_;rintro e w2 ⟨rfl,hb2⟩))
      go_ret
      exact ⟨rfl,below_then hb hb2⟩
theorem plainT_any (s:ByteArray) (w:World) (hT:Ch.Tabs w) (hs:s.size<=9223372036854775807) :
    Calls Tryz.prog 157 #[.string s,.string ⟨#[13,10]⟩] w fun e w'=>e=.returned (.bool (okT s.data.toList))/\Below w.heap.size w w':=by
  refine plain_with s ⟨#[13,10]⟩ (ends s.data.toList) w hT hs fun W=>(An.containsAny_all s ⟨#[13,10]⟩ asc2 (by decide) (by decide) W hs).mono fun e w' ⟨h1,h2⟩=>⟨h1.trans ?_,h2⟩
  rw [<-ends_is]
theorem plainV_any (s:ByteArray) (w:World) (hT:Ch.Tabs w) (hs:s.size<=9223372036854775807) :
    Calls Tryz.prog 157 #[.string s,.string ⟨#[13]⟩] w fun e w'=>e=.returned (.bool (okV s.data.toList))/\Below w.heap.size w w':=by
  refine plain_with s ⟨#[13]⟩ (s.data.toList.contains 13) w hT hs fun W=>(An.containsAny_one s ⟨#[13]⟩ asc1 (by decide) W).mono fun e w' ⟨h1,h2⟩=>⟨h1.trans ?_,h2⟩
  rw [<-has13]
end Li
end Go.Proofs.YtobfaibofhmpgaaGreatDoor
