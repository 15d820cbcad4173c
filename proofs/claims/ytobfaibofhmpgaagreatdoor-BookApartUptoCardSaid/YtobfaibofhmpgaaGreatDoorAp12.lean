import Derived.Test.YtobfaibofhmpgaaGreatDoorAp11
import Derived.Shelf.GgClosure.Gives
import Derived.Laws.BytesArg
set_option linter.unusedVariables false
set_option maxHeartbeats 4000000
set_option maxRecDepth 100000
namespace Go.Proofs.YtobfaibofhmpgaaGreatDoor
namespace Va
open Go.Lib Go.RowKit Bu
def ListP (B:Nat) (t:Row) (e:Ending) (w':World):Prop :=
  (list t=none/\e=.returned (.tuple #[.slice none 0 0,.int .i64 31]))\/∃ (v:Value) (ls:List Row),list t=some ls/\e=.returned (.tuple #[v,.int .i64 0])/\Own B v ls w'
def FieldsP (B:Nat) (t:Row) (e:Ending) (w':World):Prop :=
  (fields t=none/\e=.returned (.tuple #[.slice none 0 0,.int .i64 31]))\/∃ (v:Value) (fs:List (List Row)),fields t=some fs/\e=.returned (.tuple #[v,.int .i64 0])/\LOwn B v fs w'
theorem list_last {s:Row} (h:cutM 44 s=none):list s=(text s).map fun x=>[x]:=pcs_last 44 (by decide) plain s h
theorem list_more {s a r:Row} (h:cutM 44 s=some (a,r)):list s=(text a).bind fun x=>(list r).map fun y=>x :: y:=pcs_more 44 (by decide) plain s a r h
theorem fields_last {s:Row} (h:cutM 59 s=none):fields s=(list s).map fun x=>[x]:=pcs_last 59 (by decide) listS s h
theorem fields_more {s a r:Row} (h:cutM 59 s=some (a,r)):fields s=(list a).bind fun x=>(fields r).map fun y=>x :: y:=pcs_more 59 (by decide) listS s a r h
theorem cutM_size {m:UInt8} (h92:m≠92) {t a r:ByteArray} (h:cutM m t.data.toList=some (a.data.toList,r.data.toList)):a.size+(r.size+1)=t.size:=by
  have:=cutM_len m h92 h
  rw [<-Lib.size_eq,<-Lib.size_eq,<-Lib.size_eq] at this
  exact this
theorem data_eq {a t:ByteArray} (h:a.data.toList=t.data.toList):a=t:=by rw [<-Lib.mk_data a,<-Lib.mk_data t,h]
def PcsRel {α:Type} (rd:Row->Option (List α)) (Ow:Nat->Value->List α->World->Prop) (T:ByteArray) (w:World) (s0 s8 s9:Value) (wr:World):Prop :=
  ∃ (t:ByteArray) (out:List α) (m:Bool) (v:Value),s0=.string t/\v=s8/\s9=.bool m/\Ow w.heap.size s8 out wr/\Below w.heap.size w wr/\t.size<=T.size/\out.length<=T.size+1/\
    (m=true->rd T.data.toList=(rd t.data.toList).map fun y=>out++y)/\(m=false->rd T.data.toList=some out)/\(m=true->out.length+t.size<=T.size)
theorem pieces1_any (T:ByteArray) (w:World) (hs:T.size<=1099511627776) :
    Calls Tryz.prog 216 #[.string T,.int .u8 44,.func (.func 163) #[] #[]] w fun e w'=>ListP w.heap.size T.data.toList e w'/\Below w.heap.size w w':=by
  obtain ⟨i0,hi,hz0,hz1,hz2⟩:=info_parts infoStr
  have eg:∀ args w,(callFunc 163 args).run Tryz.prog w=.ok (.enter 163 args) w:=enters_of Tryz.func163 (by kernel_rfl) rfl
  go_enter Tryz.func216,Tryz.ntmps216
  go_wp2
  go_loopw [0,8,9] (fun s0 s8 s9 wr=>PcsRel list Own T w s0 s8 s9 wr) (fun s0 s8 s9 wr=>strLen s0+bit s9)
  case atStart=>exact ⟨T,[],true,_,rfl,rfl,rfl,Own.nil _ _,Below.refl _ _,Nat.le_refl _,by simp,fun _=>by simp,(fun h=>by cases h),fun _=>by simp⟩
  case round =>
    obtain ⟨t,out,m,s8,rfl,rfl,rfl,hown,hbw,hT,hO,hm1,hm2,hm3⟩:=hrel
    cases m
    · have hf:ListP w.heap.size T.data.toList (.returned (.tuple #[s8,.int .i64 0])) wr:=.inr ⟨s8,out,hm2 rfl,rfl,hown⟩
      have hf':=Lib.hid hf
      clear hf hm1 hm2 hm3 hown
      go_wp2
      go_ret2
      exact ⟨hf'.out,hbw⟩
    · have hR:=Lib.hid (hm1 rfl)
      have hL:=hm3 rfl
      have cC:=cut_any 44 t wr (by decide) (by omega)
      rw [show (((44:UInt8).toNat:Nat):Int)=44 from rfl] at cC
      clear hm1 hm2 hm3
      go_wp2_with fail
      go_at_call 220
      refine cC.mono ?_
      rintro e w1 ⟨hc,hb1⟩
      have hown1:=hown.kept hb1
      have hbw1:=below_then hbw hb1
      clear hown hbw hb1 cC
      have hsplit:∃ (a r:ByteArray) (g:Bool),e=.returned (.tuple #[.string a,.string r,.bool g])/\a.size<=t.size/\r.size+bit (.bool g)<=t.size/\
          (text a.data.toList=none->list T.data.toList=none)/\(∀ x,text a.data.toList=some x->(g=true->list T.data.toList=(list r.data.toList).map fun y=>(out++[x])++y)/\(g=false->list T.data.toList=some (out++[x]))/\(g=true->out.length+1+r.size<=T.size)):=by
        rcases hc with ⟨h1,a,h2,rfl⟩ | ⟨a,r,h1,rfl⟩
        · obtain rfl:=data_eq h2
          refine ⟨a,_,false,rfl,Nat.le_refl _,Nat.zero_le _,fun h=>?_,fun x hx=>⟨(fun h=>by cases h),fun _=>?_,(fun h=>by cases h)⟩⟩
          · rw [hR.out,list_last h1,h];rfl
          · rw [hR.out,list_last h1,hx];rfl
        · have hsz:=cutM_size (by decide) h1
          refine ⟨a,r,true,rfl,by omega,by simp only [bit];omega,fun h=>?_,fun x hx=>⟨fun _=>?_,(fun h=>by cases h),fun _=>by omega⟩⟩
          · rw [hR.out,list_more h1,h];rfl
          · rw [hR.out,list_more h1,hx,Option.bind_some,Option.map_map]
            congr 1
            funext y
            simp
      obtain ⟨a,r,g,rfl,hsa,hsr,hbad,hgood⟩:=hsplit
      have hbad':=Lib.hid hbad
      have hgood':=Lib.hid hgood
      clear hc hbad hgood hR
      have cT:=text_any a w1 (by omega)
      go_wp2_with fail
      go_at_fn 163
      refine cT.mono ?_
      rintro e w2 ⟨ht,hb2⟩
      have hown2:=hown1.kept hb2
      have hbw2:=below_then hbw1 hb2
      clear hown1 hbw1 hb2 cT
      rcases ht with ⟨h1,rfl⟩ | ⟨x,h1,rfl⟩
      · have hf:ListP w.heap.size T.data.toList (.returned (.tuple #[.slice none 0 0,.int .i64 31])) w2:=.inl ⟨hbad'.out h1,rfl⟩
        have hf':=Lib.hid hf
        clear hf h1
        go_wp2
        go_ret2
        exact ⟨hf'.out,hbw2⟩
      · have hg:=Lib.hid (hgood'.out _ h1)
        clear h1
        unfold Own at hown2
        go_wp2_with (at_builtin;refine wpList_append_own _ rfl _ _ 32 rfl w.heap.size 9 i0 (.string ⟨#[]⟩) 1 16 Tryz.underlying32 hi hz0 hz1 hz2 rfl (by decide) _ _ _ rfl (hown2.alloc _) ⟨w2.heap.size,0,none⟩ 1 1 [.string x] rfl rfl ?c1 ?c2 ?c3 ?c4 ?c5 ?_)
        case c1 =>
          intro j u hj
          match j,hj with
          | 0,hj=>simp at hj;subst hj;simp [Addr.add]
        case c2=>intro u hu;simp at hu;subst hu;rfl
        case c3=>unfold maxLen;omega
        case c4=>omega
        case c5=>have:=hbw2.size;simp;omega
        intro v' w3 hown' hgrow _
        have hown3:Own w.heap.size v' (out++[x.data.toList]) w3:=Own.snoc hown'
        have hbw3:Below w.heap.size w w3:=(hbw2.alloc hbw2.size _).grown hgrow (by have:=hbw2.size;simp;omega) (fun k hk=>(hown2.lt k hk).1)
        clear hown' hgrow hown2 hbw2
        go_wp2
        go_roundw
        case rel=>exact ⟨r,_,g,_,rfl,rfl,rfl,hown3,hbw3,by omega,by simp;omega,hg.out.1,hg.out.2.1,fun h=>by have:=hg.out.2.2 h;simp;omega⟩
        case measure=>simp only [strLen,bit] at hsr ⊢;omega
theorem list_any (T:ByteArray) (w:World) (hs:T.size<=1099511627776) :
    Calls Tryz.prog 193 #[.string T] w fun e w'=>ListP w.heap.size T.data.toList e w'/\Below w.heap.size w w':=by
  have cP:=pieces1_any T w hs
  go_enter Tryz.func193,Tryz.ntmps193
  go_wp2_with fail
  go_at_call 216
  refine cP.mono ?_
  rintro e w1 ⟨hP,hb⟩
  have hP':=Lib.hid hP
  rcases hP with ⟨_,rfl⟩ | ⟨v,ls,_,rfl,_⟩
  · go_wp2
    go_ret2
    exact ⟨hP'.out,hb⟩
  · go_wp2
    go_ret2
    exact ⟨hP'.out,hb⟩
theorem pieces2_any (T:ByteArray) (w:World) (hs:T.size<=1099511627776) :
    Calls Tryz.prog 196 #[.string T,.int .u8 59,.func (.func 193) #[] #[]] w fun e w'=>FieldsP w.heap.size T.data.toList e w'/\Below w.heap.size w w':=by
  obtain ⟨i0,hi,hz0,hz1,hz2⟩:=info_parts infoStrs
  have eg:∀ args w,(callFunc 193 args).run Tryz.prog w=.ok (.enter 193 args) w:=enters_of Tryz.func193 (by kernel_rfl) rfl
  go_enter Tryz.func196,Tryz.ntmps196
  go_wp2
  go_loopw [0,8,9] (fun s0 s8 s9 wr=>PcsRel fields LOwn T w s0 s8 s9 wr) (fun s0 s8 s9 wr=>strLen s0+bit s9)
  case atStart=>exact ⟨T,[],true,_,rfl,rfl,rfl,ROwn.nil _ _ _ _,Below.refl _ _,Nat.le_refl _,by simp,fun _=>by simp,(fun h=>by cases h),fun _=>by simp⟩
  case round =>
    obtain ⟨t,out,m,s8,rfl,rfl,rfl,hown,hbw,hT,hO,hm1,hm2,hm3⟩:=hrel
    cases m
    · have hf:FieldsP w.heap.size T.data.toList (.returned (.tuple #[s8,.int .i64 0])) wr:=.inr ⟨s8,out,hm2 rfl,rfl,hown⟩
      have hf':=Lib.hid hf
      clear hf hm1 hm2 hm3 hown
      go_wp2
      go_ret2
      exact ⟨hf'.out,hbw⟩
    · have hR:=Lib.hid (hm1 rfl)
      have hL:=hm3 rfl
      have cC:=cut_any 59 t wr (by decide) (by omega)
      rw [show (((59:UInt8).toNat:Nat):Int)=59 from rfl] at cC
      clear hm1 hm2 hm3
      go_wp2_with fail
      go_at_call 220
      refine cC.mono ?_
      rintro e w1 ⟨hc,hb1⟩
      have hown1:=ROwn.kept innerStr hown hb1
      have hbw1:=below_then hbw hb1
      clear hown hbw hb1 cC
      have hsplit:∃ (a r:ByteArray) (g:Bool),e=.returned (.tuple #[.string a,.string r,.bool g])/\a.size<=t.size/\r.size+bit (.bool g)<=t.size/\
          (list a.data.toList=none->fields T.data.toList=none)/\(∀ x,list a.data.toList=some x->(g=true->fields T.data.toList=(fields r.data.toList).map fun y=>(out++[x])++y)/\(g=false->fields T.data.toList=some (out++[x]))/\(g=true->out.length+1+r.size<=T.size)):=by
        rcases hc with ⟨h1,a,h2,rfl⟩ | ⟨a,r,h1,rfl⟩
        · obtain rfl:=data_eq h2
          refine ⟨a,_,false,rfl,Nat.le_refl _,Nat.zero_le _,fun h=>?_,fun x hx=>⟨(fun h=>by cases h),fun _=>?_,(fun h=>by cases h)⟩⟩
          · rw [hR.out,fields_last h1,h];rfl
          · rw [hR.out,fields_last h1,hx];rfl
        · have hsz:=cutM_size (by decide) h1
          refine ⟨a,r,true,rfl,by omega,by simp only [bit];omega,fun h=>?_,fun x hx=>⟨fun _=>?_,(fun h=>by cases h),fun _=>by omega⟩⟩
          · rw [hR.out,fields_more h1,h];rfl
          · rw [hR.out,fields_more h1,hx,Option.bind_some,Option.map_map]
            congr 1
            funext y
            simp
      obtain ⟨a,r,g,rfl,hsa,hsr,hbad,hgood⟩:=hsplit
      have hbad':=Lib.hid hbad
      have hgood':=Lib.hid hgood
      clear hc hbad hgood hR
      have cT:=list_any a w1 (by omega)
      go_wp2_with fail
      go_at_fn 193
      refine cT.mono ?_
      rintro e w2 ⟨ht,hb2⟩
      have hown2:=ROwn.kept innerStr hown1 hb2
      have hbw2:=below_then hbw1 hb2
      have hle:w.heap.size<=w1.heap.size:=hbw1.size
      clear hown1 hbw1 hb2 cT
      rcases ht with ⟨h1,rfl⟩ | ⟨x,ls,h1,rfl,hx⟩
      · have hf:FieldsP w.heap.size T.data.toList (.returned (.tuple #[.slice none 0 0,.int .i64 31])) w2:=.inl ⟨hbad'.out h1,rfl⟩
        have hf':=Lib.hid hf
        clear hf h1
        go_wp2
        go_ret2
        exact ⟨hf'.out,hbw2⟩
      · have hg:=Lib.hid (hgood'.out _ h1)
        obtain ⟨ao,c,rfl⟩:=ownsRow_form hx
        obtain ⟨n,hn⟩:∃ n,ls.length=n:=⟨_,rfl⟩
        rw [hn] at hx ⊢
        obtain ⟨us,hus,hrow,hvals⟩:=hown2
        have hx0:Own w.heap.size (.slice ao n c) ls w2:=hx.less hle
        have hfinal:∀ (v':Value) (w':World),w'.ownsRow w.heap.size 32 1 v' (out.length+1) (us++[.slice ao n c])->
            (w2.alloc (.cells #[.slice ao n c] 32)).grownBy w' s8.ownBlock->LOwn w.heap.size v' (out++[ls]) w':=fun v' w' hw hg=>by
          have hal:Below w2.heap.size w2 (w2.alloc (.cells #[.slice ao n c] 32)):=(Below.refl _ _).alloc (Nat.le_refl _) _
          exact ROwn.more innerStr hus (ownsRow_kept hrow hal) (fun j p u hp hu=>(hvals j p u hp hu).kept hal) (hx0.kept hal) hw hg
        have hfinal':=Lib.hid hfinal
        clear h1 hx hx0 hfinal hvals hn hus
        go_wp2_with (at_builtin;refine wpList_append_own _ rfl _ _ 225 rfl w.heap.size 32 i0 (.slice none 0 0) 1 24 Tryz.underlying225 hi hz0 hz1 hz2 rfl (by decide) _ _ _ rfl (hrow.alloc _) ⟨w2.heap.size,0,none⟩ 1 1 [.slice ao n c] rfl rfl ?c1 ?c2 ?c3 ?c4 ?c5 ?_)
        case c1 =>
          intro j u hj
          match j,hj with
          | 0,hj=>simp at hj;subst hj;simp [Addr.add]
        case c2=>intro u hu;simp at hu;subst hu;rfl
        case c3=>unfold maxLen;omega
        case c4=>omega
        case c5=>have:=hbw2.size;simp;omega
        intro v' w3 hown' hgrow _
        have hown3:LOwn w.heap.size v' (out++[ls]) w3:=hfinal'.out v' w3 hown' hgrow
        have hbw3:Below w.heap.size w w3:=(hbw2.alloc hbw2.size _).grown hgrow (by have:=hbw2.size;simp;omega) (fun k hk=>(hrow.lt k hk).1)
        clear hown' hgrow hrow hbw2 hfinal'
        go_wp2
        go_roundw
        case rel=>exact ⟨r,_,g,_,rfl,rfl,rfl,hown3,hbw3,by omega,by simp;omega,hg.out.1,hg.out.2.1,fun h=>by have:=hg.out.2.2 h;simp;omega⟩
        case measure=>simp only [strLen,bit] at hsr ⊢;omega
theorem fields_any (T:ByteArray) (w:World) (hs:T.size<=1099511627776) :
    Calls Tryz.prog 162 #[.string T] w fun e w'=>FieldsP w.heap.size T.data.toList e w'/\Below w.heap.size w w':=by
  have cP:=pieces2_any T w hs
  go_enter Tryz.func162,Tryz.ntmps162
  go_wp2_with fail
  go_at_call 196
  refine cP.mono ?_
  rintro e w1 ⟨hP,hb⟩
  have hP':=Lib.hid hP
  rcases hP with ⟨_,rfl⟩ | ⟨v,ls,_,rfl,_⟩
  · go_wp2
    go_ret2
    exact ⟨hP'.out,hb⟩
  · go_wp2
    go_ret2
    exact ⟨hP'.out,hb⟩
theorem put_snoc (a:Row) (c:UInt8):put (a++[c])=put a++put1 c:=by rw [put_append];simp [put]
theorem put_take (s:ByteArray) (k:Nat) (h:k < s.size):put (s.data.toList.take (k+1))=put (s.data.toList.take k)++put1 (s[k]'h):=by rw [take_next s k h,put_snoc]
theorem put_take_le (l:Row) (k:Nat):(put (l.take k)).length<=(put l).length:=by
  conv=>rhs;rw [<-List.take_append_drop k l,put_append,List.length_append]
  omega
theorem put1_pos (c:UInt8):1<=(put1 c).length:=by unfold put1;split;simp;split<;>simp
theorem put_ge:∀ (l:Row),l.length<=(put l).length
  | []=>by simp
  | c :: l=>by have:=put_ge l;have:=put1_pos c;simp only [put,List.length_append,List.length_cons];omega
theorem putText_any (s:ByteArray) (w:World) (hlen:(put s.data.toList).length<=140737488355328) :
    Calls Tryz.prog 192 #[.string s] w fun e w'=>(∃ x:ByteArray,x.data.toList=put s.data.toList/\e=.returned (.string x))/\Below w.heap.size w w':=by
  have hs:s.size<=140737488355328:=by have:=put_ge s.data.toList;rw [<-Lib.size_eq] at this;omega
  have hnext:∀ (k:Nat) (h:k < s.size) (a:Row),put1 (s[k]'h)=a->put (s.data.toList.take k)++a=put (s.data.toList.take (k+1))/\(put (s.data.toList.take k)).length+a.length<=140737488355328:=fun k h a ha=>by
    have h1:=put_take s k h
    rw [ha] at h1
    have h2:=put_take_le s.data.toList (k+1)
    rw [h1,List.length_append] at h2
    exact ⟨h1.symm,by omega⟩
  have hn:=Lib.hid hnext
  clear hnext hlen
  go_enter Tryz.func192,Tryz.ntmps192
  go_wp2
  go_loopw [4] (fun s4 wr=>∃ k:Nat,s4=.int .i64 (k:Int)/\k<=s.size/\Bd w.heap.size w.heap.size (put (s.data.toList.take k)) wr/\Below w.heap.size w wr) (fun s4 wr=>s.size - (RowKit.intOf s4).toNat)
  case atStart=>exact ⟨0,rfl,Nat.zero_le _,fresh w,(Below.refl _ _).alloc (Nat.le_refl _) _⟩
  case round =>
    obtain ⟨k,rfl,hk,hbd,hbw⟩:=hrel
    have hBr:=hbw.size
    by_cases hlt:k < s.size
    · have hmore:∀ (c:UInt8) (b:UInt8),(c=92\/c=44\/c=59)->put1 c=[92,c]:=fun c b h=>by unfold put1;rw [if_pos h]
      by_cases c0:(s[k]'hlt=92\/s[k]'hlt=44\/s[k]'hlt=59)
      · obtain ⟨e1,e2⟩:=hn.out k hlt _ (hmore _ 0 c0)
        have cA:=byte_any w.heap.size w.heap.size _ 92 wr hbd (by simp only [List.length_cons,List.length_nil] at e2;omega) hBr
        have cB:=fun W (hW:Bd w.heap.size w.heap.size (put (s.data.toList.take k)++[92]) W) (hB:w.heap.size<=W.heap.size)=>byte_any w.heap.size w.heap.size _ (s[k]'hlt) W hW (by simp only [List.length_cons,List.length_nil] at e2;rw [List.length_append,List.length_singleton];omega) hB
        rw [show (((92:UInt8).toNat:Nat):Int)=92 from rfl] at cA
        have e3:put (s.data.toList.take k)++[92]++[s[k]'hlt]=put (s.data.toList.take (k+1)):=by rw [<-e1];simp
        rw [e3] at cB
        have hd:(((((s[k]'hlt).toNat:Nat):Int)==92)=true\/(((((s[k]'hlt).toNat:Nat):Int)==92)=false/\((((s[k]'hlt).toNat:Nat):Int)==44)=true)\/(((((s[k]'hlt).toNat:Nat):Int)==92)=false/\((((s[k]'hlt).toNat:Nat):Int)==44)=false/\((((s[k]'hlt).toNat:Nat):Int)==59)=true)):=by
          by_cases c1:s[k]'hlt=92
          · exact .inl (ty (m:=92) rfl c1)
          · by_cases c2:s[k]'hlt=44
            · exact .inr (.inl ⟨tn (m:=92) rfl c1,ty (m:=44) rfl c2⟩)
            · refine .inr (.inr ⟨tn (m:=92) rfl c1,tn (m:=44) rfl c2,ty (m:=59) rfl ?_⟩)
              rcases c0 with h | h | h
              · exact absurd h c1
              · exact absurd h c2
              · exact h
        have cB':=Lib.hid cB
        clear c0 e1 e2 e3 hmore cB
        rcases hd with d1 | ⟨d1,d2⟩ | ⟨d1,d2,d3⟩
        all_goals
          go_wp2_with fail
          go_at_call 81
          refine cA.mono ?_
          rintro e w2 ⟨rfl,hbd2,hb2⟩
          go_wp2_with fail
          have hbw2:=hbw.trans hb2
          go_at_call 81
          refine (cB'.out w2 hbd2 hbw2.size).mono ?_
          rintro e w3 ⟨rfl,hbd3,hb3⟩
          go_wp2
          go_roundw
          case rel=>exact ⟨k+1,by go_num,by omega,hbd3,hbw2.trans hb3⟩
          case measure=>simp [RowKit.intOf];omega
      · have d1:((((s[k]'hlt).toNat:Nat):Int)==92)=false:=tn (m:=92) rfl (fun e=>c0 (.inl e))
        have d2:((((s[k]'hlt).toNat:Nat):Int)==44)=false:=tn (m:=44) rfl (fun e=>c0 (.inr (.inl e)))
        have d3:((((s[k]'hlt).toNat:Nat):Int)==59)=false:=tn (m:=59) rfl (fun e=>c0 (.inr (.inr e)))
        by_cases c1:s[k]'hlt=10
        · obtain ⟨e1,e2⟩:=hn.out k hlt [92,110] (by unfold put1;rw [if_neg c0,if_pos c1])
          have cW:=write_any w.heap.size w.heap.size _ ⟨#[92,110]⟩ wr hbd e2 hBr
          rw [show (⟨#[92,110]⟩:ByteArray).data.toList=[92,110] from rfl,e1] at cW
          have d4:((((s[k]'hlt).toNat:Nat):Int)==10)=true:=ty (m:=10) rfl c1
          clear c0 c1 e1 e2 hmore
          go_wp2_with (go_at_call 156;refine cW.mono ?_;rintro e w2 ⟨rfl,hbd2,hb2⟩)
          go_roundw
          case rel=>exact ⟨k+1,by go_num,by omega,hbd2,hbw.trans hb2⟩
          case measure=>simp [RowKit.intOf];omega
        · obtain ⟨e1,e2⟩:=hn.out k hlt [s[k]'hlt] (by unfold put1;rw [if_neg c0,if_neg c1])
          have cA:=byte_any w.heap.size w.heap.size _ (s[k]'hlt) wr hbd e2 hBr
          rw [e1] at cA
          have d4:((((s[k]'hlt).toNat:Nat):Int)==10)=false:=tn (m:=10) rfl c1
          clear c0 c1 e1 e2 hmore
          go_wp2_with (go_at_call 81;refine cA.mono ?_;rintro e w2 ⟨rfl,hbd2,hb2⟩)
          go_roundw
          case rel=>exact ⟨k+1,by go_num,by omega,hbd2,hbw.trans hb2⟩
          case measure=>simp [RowKit.intOf];omega
    · rw [List.take_of_length_le (by rw [<-Lib.size_eq];omega)] at hbd
      go_wp2_with (go_at_call 82;refine (Bu.text_any w.heap.size w.heap.size _ _ hbd hBr).mono ?_;rintro e w2 ⟨rfl,_,hb2⟩)
      go_ret
      exact ⟨⟨_,by simp,rfl⟩,hbw.trans hb2⟩
theorem jn_append_le (m:UInt8) (a b:List Row):(jn m a).length<=(jn m (a++b)).length:=by
  cases a with
  | nil=>simp [jn]
  | cons x a=>simp [jn,tl_append]
theorem jn_take {α:Type} (m:UInt8) (f:α->Row) (xs:List α) (k:Nat) (x:α) (h:xs[k]?=some x):jn m ((xs.take (k+1)).map f)=(if k=0 then [] else jn m ((xs.take k).map f)++[m])++f x:=by
  obtain ⟨hl,hv⟩:=List.getElem?_eq_some_iff.1 h
  rw [List.take_succ_eq_append_getElem hl,hv,List.map_append,List.map_singleton,jn_snoc]
  by_cases hk:k=0
  · subst hk;simp
  · have:¬ (xs.take k).map f=[]:=fun e=>by
      have:=congrArg List.length e
      rw [List.length_map,List.length_take,List.length_nil] at this
      omega
    rw [if_neg this,if_neg hk]
    simp
theorem jn_take_le {α:Type} (m:UInt8) (f:α->Row) (xs:List α) (k:Nat):(jn m ((xs.take k).map f)).length<=(jn m (xs.map f)).length:=by
  have:=jn_append_le m ((xs.take k).map f) ((xs.drop k).map f)
  rwa [<-List.map_append,List.take_append_drop] at this
theorem jn_mem_le {α:Type} (m:UInt8) (f:α->Row) (xs:List α) (k:Nat) (x:α) (h:xs[k]?=some x):(f x).length<=(jn m (xs.map f)).length:=by
  have h1:=jn_take m f xs k x h
  have h2:=jn_take_le m f xs (k+1)
  rw [h1,List.length_append] at h2
  omega
theorem join1_any (m:UInt8) (ls:List Row) (v:Value) (w:World) (h:StrsAt w v ls) (hlen:(jn m (ls.map put)).length<=140737488355328) :
    Calls Tryz.prog 217 #[v,.int .u8 (m.toNat:Int),.func (.func 192) #[] #[]] w fun e w'=>(∃ x:ByteArray,x.data.toList=jn m (ls.map put)/\e=.returned (.string x))/\Below w.heap.size w w':=by
  have eg:∀ args w,(callFunc 192 args).run Tryz.prog w=.ok (.enter 192 args) w:=enters_of Tryz.func192 (by kernel_rfl) rfl
  obtain ⟨A,b,off,c,rfl,h1,h2,h3,h4⟩:=h
  obtain ⟨n,hn⟩:∃ n,ls.length=n:=⟨_,rfl⟩
  have hput:∀ (k:Nat) (l:Row),ls[k]?=some l->(put l).length<=140737488355328:=fun k l hl=>by have:=jn_mem_le m put ls k l hl;omega
  have hnext:∀ (k:Nat) (l:Row),ls[k]?=some l->(if k=0 then [] else jn m ((ls.take k).map put)++[m])++put l=jn m ((ls.take (k+1)).map put)/\(if k=0 then [] else jn m ((ls.take k).map put)++[m]).length+(put l).length<=140737488355328:=fun k l hl=>by
    have e1:=jn_take m put ls k l hl
    have e2:=jn_take_le m put ls (k+1)
    rw [e1,List.length_append] at e2
    exact ⟨e1.symm,by omega⟩
  have hall:jn m ((ls.take n).map put)=jn m (ls.map put):=by rw [List.take_of_length_le (by omega)]
  rw [hn] at h1 h3 ⊢
  unfold maxLen at h2
  have hn':=Lib.hid hn
  have h3':=Lib.hid h3
  have h4':=Lib.hid h4
  have hput':=Lib.hid hput
  have hnext':=Lib.hid hnext
  have hall':=Lib.hid hall
  clear hn h3 h4 hput hnext hall hlen
  go_enter Tryz.func217,Tryz.ntmps217
  go_wp2
  go_loopw [12] (fun s12 wr=>∃ k:Nat,s12=.int .i64 (k:Int)/\k<=n/\Bd w.heap.size w.heap.size (jn m ((ls.take k).map put)) wr/\Below w.heap.size w wr) (fun s12 wr=>n - (RowKit.intOf s12).toNat)
  case atStart=>exact ⟨0,rfl,Nat.zero_le _,fresh w,(Below.refl _ _).alloc (Nat.le_refl _) _⟩
  case round =>
    obtain ⟨k,rfl,hk,hbd,hbw⟩:=hrel
    have hBr:=hbw.size
    by_cases hlt:k < n
    · have hl:ls[k]?=some (ls[k]'(by have:=hn'.out;omega)):=List.getElem?_eq_getElem _
      obtain ⟨l,hle⟩:∃ l,ls[k]'(by have:=hn'.out;omega)=l:=⟨_,rfl⟩
      rw [hle] at hl
      obtain ⟨rfl,hg⟩:=h3'.out (by omega)
      obtain ⟨u,hu,rfl⟩:=h4'.out k l hl
      obtain ⟨x,ex,hx⟩:=sv_some l
      rw [ex,<-hbw.cell (p:=⟨b,off+k,none⟩) hg] at hu
      obtain ⟨e1,e2⟩:=hnext'.out k l hl
      have hpl:=hput'.out k l hl
      have cP:=fun W=>putText_any x W (by rw [hx];exact hpl)
      rw [hx] at cP
      clear hle hl ex hpl
      by_cases hk0:k=0
      · rw [if_pos hk0] at e1 e2
        have hbd0:Bd w.heap.size w.heap.size [] wr:=by rw [hk0] at hbd;exact hbd
        have hk1:k<=0:=by omega
        have e1':=Lib.hid e1
        clear e1 hbd hk0
        go_wp2_with fail
        go_at_fn 192
        refine (cP _).mono ?_
        rintro e w2 ⟨⟨y,hy,rfl⟩,hb2⟩
        go_wp2_with fail
        have cW:=write_any w.heap.size w.heap.size _ y w2 (hbd0.kept hb2) (by rw [Lib.size_eq,hy];exact e2) (by have:=hb2.size;omega)
        rw [hy,e1'.out] at cW
        have hbw2:=below_then hbw hb2
        clear hy hb2
        go_at_call 156
        refine cW.mono ?_
        rintro e w3 ⟨rfl,hbd3,hb3⟩
        go_wp2
        go_roundw
        case rel=>exact ⟨k+1,by go_num,by omega,hbd3,hbw2.trans hb3⟩
        case measure=>simp [RowKit.intOf];omega
      · rw [if_neg hk0] at e1 e2
        have hk1:0 < k:=by omega
        have cB:=byte_any w.heap.size w.heap.size _ m wr hbd (by rw [List.length_append,List.length_singleton] at e2;omega) hBr
        have e1':=Lib.hid e1
        have e2':=Lib.hid e2
        clear e1 e2 hk0 hbd
        go_wp2_with fail
        go_at_call 81
        refine cB.mono ?_
        rintro e w1 ⟨rfl,hbd1,hb1⟩
        go_wp2_with fail
        have hbw1:=hbw.trans hb1
        go_at_fn 192
        refine (cP _).mono ?_
        rintro e w2 ⟨⟨y,hy,rfl⟩,hb2⟩
        have cW:=write_any w.heap.size w.heap.size _ y w2 (hbd1.kept hb2) (by rw [Lib.size_eq,hy];exact e2'.out) (by have:=hb2.size;have:=hbw1.size;omega)
        rw [hy,e1'.out] at cW
        have hbw2:=below_then hbw1 hb2
        clear hy hb2 hbd1 cB hb1 hbw1
        go_wp2_with fail
        go_at_call 156
        refine cW.mono ?_
        rintro e w3 ⟨rfl,hbd3,hb3⟩
        go_wp2
        go_roundw
        case rel=>exact ⟨k+1,by go_num,by omega,hbd3,hbw2.trans hb3⟩
        case measure=>simp [RowKit.intOf];omega
    · obtain rfl:k=n:=by omega
      rw [hall'.out] at hbd
      go_wp2_with (go_at_call 82;refine (Bu.text_any w.heap.size w.heap.size _ _ hbd hBr).mono ?_;rintro e w2 ⟨rfl,_,hb2⟩)
      go_ret
      exact ⟨⟨_,by simp,rfl⟩,hbw.trans hb2⟩
theorem putList_any (ls:List Row) (v:Value) (w:World) (h:StrsAt w v ls) (hlen:(putL ls).length<=140737488355328) :
    Calls Tryz.prog 194 #[v] w fun e w'=>(∃ x:ByteArray,x.data.toList=putL ls/\e=.returned (.string x))/\Below w.heap.size w w':=by
  have cJ:=join1_any 44 ls v w h hlen
  rw [show (((44:UInt8).toNat:Nat):Int)=44 from rfl] at cJ
  have hJ:jn 44 (ls.map put)=putL ls:=rfl
  rw [hJ] at cJ
  obtain ⟨A,b,off,c,rfl,_⟩:=h
  generalize putL ls=L at cJ ⊢
  clear hJ hlen
  go_enter Tryz.func194,Tryz.ntmps194
  go_wp2_with (go_at_call 217;refine cJ.mono ?_;rintro e w1 ⟨⟨x,hx,rfl⟩,hb⟩)
  go_ret
  exact ⟨⟨x,hx,rfl⟩,hb⟩
theorem putClos_any (ls:List Row) (v:Value) (w:World) (h:StrsAt w v ls) (hlen:(putL ls).length<=140737488355328) :
    Calls Tryz.prog 219 #[v] w fun e w'=>(∃ x:ByteArray,x.data.toList=putL ls/\e=.returned (.string x))/\Below w.heap.size w w':=by
  have cJ:=putList_any ls v w h hlen
  obtain ⟨A,b,off,c,rfl,_⟩:=h
  generalize putL ls=L at cJ ⊢
  clear hlen
  go_enter Tryz.func219,Tryz.ntmps219
  go_wp2_with (go_at_call 194;refine cJ.mono ?_;rintro e w1 ⟨⟨x,hx,rfl⟩,hb⟩)
  go_ret
  exact ⟨⟨x,hx,rfl⟩,hb⟩
theorem join2_any (m:UInt8) (fs:List (List Row)) (v:Value) (w:World) (h:ListsAt w v fs) (hlen:(jn m (fs.map putL)).length<=140737488355328) :
    Calls Tryz.prog 218 #[v,.int .u8 (m.toNat:Int),.func (.func 219) #[] #[]] w fun e w'=>(∃ x:ByteArray,x.data.toList=jn m (fs.map putL)/\e=.returned (.string x))/\Below w.heap.size w w':=by
  have eg:∀ args w,(callFunc 219 args).run Tryz.prog w=.ok (.enter 219 args) w:=enters_of Tryz.func219 (by kernel_rfl) rfl
  obtain ⟨A,b,off,c,rfl,h1,h2,h3,h4⟩:=h
  obtain ⟨n,hn⟩:∃ n,fs.length=n:=⟨_,rfl⟩
  have hput:∀ (k:Nat) (l:List Row),fs[k]?=some l->(putL l).length<=140737488355328:=fun k l hl=>by have:=jn_mem_le m putL fs k l hl;omega
  have hnext:∀ (k:Nat) (l:List Row),fs[k]?=some l->(if k=0 then [] else jn m ((fs.take k).map putL)++[m])++putL l=jn m ((fs.take (k+1)).map putL)/\(if k=0 then [] else jn m ((fs.take k).map putL)++[m]).length+(putL l).length<=140737488355328:=fun k l hl=>by
    have e1:=jn_take m putL fs k l hl
    have e2:=jn_take_le m putL fs (k+1)
    rw [e1,List.length_append] at e2
    exact ⟨e1.symm,by omega⟩
  have hall:jn m ((fs.take n).map putL)=jn m (fs.map putL):=by rw [List.take_of_length_le (by omega)]
  rw [hn] at h1 h3 ⊢
  unfold maxLen at h2
  have hn':=Lib.hid hn
  have h3':=Lib.hid h3
  have h4':=Lib.hid h4
  have hput':=Lib.hid hput
  have hnext':=Lib.hid hnext
  have hall':=Lib.hid hall
  clear hn h3 h4 hput hnext hall hlen
  go_enter Tryz.func218,Tryz.ntmps218
  go_wp2
  go_loopw [12] (fun s12 wr=>∃ k:Nat,s12=.int .i64 (k:Int)/\k<=n/\Bd w.heap.size w.heap.size (jn m ((fs.take k).map putL)) wr/\Below w.heap.size w wr) (fun s12 wr=>n - (RowKit.intOf s12).toNat)
  case atStart=>exact ⟨0,rfl,Nat.zero_le _,fresh w,(Below.refl _ _).alloc (Nat.le_refl _) _⟩
  case round =>
    obtain ⟨k,rfl,hk,hbd,hbw⟩:=hrel
    have hBr:=hbw.size
    by_cases hlt:k < n
    · have hl:fs[k]?=some (fs[k]'(by have:=hn'.out;omega)):=List.getElem?_eq_getElem _
      obtain ⟨l,hle⟩:∃ l,fs[k]'(by have:=hn'.out;omega)=l:=⟨_,rfl⟩
      rw [hle] at hl
      obtain ⟨rfl,hg⟩:=h3'.out (by omega)
      obtain ⟨u,hu,hs⟩:=h4'.out k l hl
      rw [<-hbw.cell (p:=⟨b,off+k,none⟩) hg] at hu
      obtain ⟨e1,e2⟩:=hnext'.out k l hl
      have hpl:=hput'.out k l hl
      have cP:=fun W (hW:Below w.heap.size w W)=>putClos_any l u W (hs.kept hW) hpl
      obtain ⟨A2,b2,o2,c2,rfl,_⟩:=hs
      generalize l.length=nl at hu cP
      have cP':=Lib.hid cP
      clear hle hl hpl cP
      by_cases hk0:k=0
      · rw [if_pos hk0] at e1 e2
        have hbd0:Bd w.heap.size w.heap.size [] wr:=by rw [hk0] at hbd;exact hbd
        have hk1:k<=0:=by omega
        have e1':=Lib.hid e1
        clear e1 hbd hk0
        go_wp2_with fail
        go_at_fn 219
        refine (cP'.out _ hbw).mono ?_
        rintro e w2 ⟨⟨y,hy,rfl⟩,hb2⟩
        go_wp2_with fail
        have cW:=write_any w.heap.size w.heap.size _ y w2 (hbd0.kept hb2) (by rw [Lib.size_eq,hy];exact e2) (by have:=hb2.size;omega)
        rw [hy,e1'.out] at cW
        have hbw2:=below_then hbw hb2
        clear hy hb2
        go_at_call 156
        refine cW.mono ?_
        rintro e w3 ⟨rfl,hbd3,hb3⟩
        go_wp2
        go_roundw
        case rel=>exact ⟨k+1,by go_num,by omega,hbd3,hbw2.trans hb3⟩
        case measure=>simp [RowKit.intOf];omega
      · rw [if_neg hk0] at e1 e2
        have hk1:0 < k:=by omega
        have cB:=byte_any w.heap.size w.heap.size _ m wr hbd (by rw [List.length_append,List.length_singleton] at e2;omega) hBr
        have e1':=Lib.hid e1
        have e2':=Lib.hid e2
        clear e1 e2 hk0 hbd
        go_wp2_with fail
        go_at_call 81
        refine cB.mono ?_
        rintro e w1 ⟨rfl,hbd1,hb1⟩
        go_wp2_with fail
        have hbw1:=hbw.trans hb1
        rw [<-hb1.cell (p:=⟨b,off+k,none⟩) hg] at hu
        go_at_fn 219
        refine (cP'.out _ hbw1).mono ?_
        rintro e w2 ⟨⟨y,hy,rfl⟩,hb2⟩
        have cW:=write_any w.heap.size w.heap.size _ y w2 (hbd1.kept hb2) (by rw [Lib.size_eq,hy];exact e2'.out) (by have:=hb2.size;have:=hbw1.size;omega)
        rw [hy,e1'.out] at cW
        have hbw2:=below_then hbw1 hb2
        clear hy hb2 hbd1 cB hb1 hbw1
        go_wp2_with fail
        go_at_call 156
        refine cW.mono ?_
        rintro e w3 ⟨rfl,hbd3,hb3⟩
        go_wp2
        go_roundw
        case rel=>exact ⟨k+1,by go_num,by omega,hbd3,hbw2.trans hb3⟩
        case measure=>simp [RowKit.intOf];omega
    · obtain rfl:k=n:=by omega
      rw [hall'.out] at hbd
      go_wp2_with (go_at_call 82;refine (Bu.text_any w.heap.size w.heap.size _ _ hbd hBr).mono ?_;rintro e w2 ⟨rfl,_,hb2⟩)
      go_ret
      exact ⟨⟨_,by simp,rfl⟩,hbw.trans hb2⟩
theorem putFields_any (fs:List (List Row)) (v:Value) (w:World) (h:ListsAt w v fs) (hlen:(putF fs).length<=140737488355328) :
    Calls Tryz.prog 195 #[v] w fun e w'=>(∃ x:ByteArray,x.data.toList=putF fs/\e=.returned (.string x))/\Below w.heap.size w w':=by
  have cJ:=join2_any 59 fs v w h hlen
  rw [show (((59:UInt8).toNat:Nat):Int)=59 from rfl] at cJ
  have hJ:jn 59 (fs.map putL)=putF fs:=rfl
  rw [hJ] at cJ
  obtain ⟨A,b,off,c,rfl,_⟩:=h
  generalize putF fs=L at cJ ⊢
  clear hJ hlen
  go_enter Tryz.func195,Tryz.ntmps195
  go_wp2_with (go_at_call 218;refine cJ.mono ?_;rintro e w1 ⟨⟨x,hx,rfl⟩,hb⟩)
  go_ret
  exact ⟨⟨x,hx,rfl⟩,hb⟩
theorem text_is (T x:ByteArray) (w:World) (hs:T.size<=1099511627776) (h:text T.data.toList=some x.data.toList) :
    Calls Tryz.prog 163 #[.string T] w fun e w'=>e=.returned (.tuple #[.string x,.int .i64 0])/\Below w.heap.size w w' :=
  (text_any T w hs).mono fun e w' ⟨h1,h2⟩=>⟨by
    rcases h1 with ⟨h3,_⟩ | ⟨y,h3,rfl⟩
    · rw [h] at h3;cases h3
    · rw [h] at h3;rw [data_eq (Option.some.inj h3)],h2⟩
theorem text_no (T:ByteArray) (w:World) (hs:T.size<=1099511627776) (h:text T.data.toList=none) :
    Calls Tryz.prog 163 #[.string T] w fun e w'=>e=.returned (.tuple #[.string ⟨#[]⟩,.int .i64 31])/\Below w.heap.size w w' :=
  (text_any T w hs).mono fun e w' ⟨h1,h2⟩=>⟨by
    rcases h1 with ⟨_,h3⟩ | ⟨y,h3,rfl⟩
    · exact h3
    · rw [h] at h3;exact absurd h3 (by simp),h2⟩
theorem list_is (T:ByteArray) (ls:List Row) (w:World) (hs:T.size<=1099511627776) (h:list T.data.toList=some ls) :
    Calls Tryz.prog 193 #[.string T] w fun e w'=>(∃ v,e=.returned (.tuple #[v,.int .i64 0])/\Own w.heap.size v ls w')/\Below w.heap.size w w' :=
  (list_any T w hs).mono fun e w' ⟨h1,h2⟩=>⟨by
    rcases h1 with ⟨h3,_⟩ | ⟨v,ms,h3,rfl,h4⟩
    · rw [h] at h3;cases h3
    · rw [h] at h3;obtain rfl:=Option.some.inj h3;exact ⟨v,rfl,h4⟩,h2⟩
theorem list_no (T:ByteArray) (w:World) (hs:T.size<=1099511627776) (h:list T.data.toList=none) :
    Calls Tryz.prog 193 #[.string T] w fun e w'=>e=.returned (.tuple #[.slice none 0 0,.int .i64 31])/\Below w.heap.size w w' :=
  (list_any T w hs).mono fun e w' ⟨h1,h2⟩=>⟨by
    rcases h1 with ⟨_,h3⟩ | ⟨v,ms,h3,rfl,h4⟩
    · exact h3
    · rw [h] at h3;exact absurd h3 (by simp),h2⟩
theorem fields_is (T:ByteArray) (fs:List (List Row)) (w:World) (hs:T.size<=1099511627776) (h:fields T.data.toList=some fs) :
    Calls Tryz.prog 162 #[.string T] w fun e w'=>(∃ v,e=.returned (.tuple #[v,.int .i64 0])/\LOwn w.heap.size v fs w')/\Below w.heap.size w w' :=
  (fields_any T w hs).mono fun e w' ⟨h1,h2⟩=>⟨by
    rcases h1 with ⟨h3,_⟩ | ⟨v,ms,h3,rfl,h4⟩
    · rw [h] at h3;cases h3
    · rw [h] at h3;obtain rfl:=Option.some.inj h3;exact ⟨v,rfl,h4⟩,h2⟩
theorem fields_no (T:ByteArray) (w:World) (hs:T.size<=1099511627776) (h:fields T.data.toList=none) :
    Calls Tryz.prog 162 #[.string T] w fun e w'=>e=.returned (.tuple #[.slice none 0 0,.int .i64 31])/\Below w.heap.size w w' :=
  (fields_any T w hs).mono fun e w' ⟨h1,h2⟩=>⟨by
    rcases h1 with ⟨_,h3⟩ | ⟨v,ms,h3,rfl,h4⟩
    · exact h3
    · rw [h] at h3;exact absurd h3 (by simp),h2⟩
def Left (w0:World) (base:Nat) (w':World):Prop:=∀ (B:Nat) (A:World),Below B A w0->B<=base->B<=w0.heap.size->Below B A w'
theorem left_of {w0 w':World} {base:Nat} {e:TypeId} {size n:Nat} {v:Value} {xs:List Value} {o:Obj} (hown:w0.ownsRow base e size v n xs) (hg:(w0.alloc o).grownBy w' v.ownBlock):Left w0 base w' :=
  fun B A hb h1 h2=>(hb.alloc h2 o).grown hg (by simp;omega) (fun k hk=>Nat.le_trans h1 (hown.lt k hk).1)
theorem append_str {w0:World} {ops:Array Oper} {rest:List Oper} {o:Oper} {a:Act} {Q:Exit->Act->World->Prop} (x:ByteArray) (hgd:o.guard=none) (s xo:Operand)
    (ho:o.op=.call { callee:=.builtin .append,args:=#[s,xo],argTypes:=#[32,32] }) (base:Nat) (v:Value) (ls:List Row) (g:Nat) (hgz:g=w0.heap.size) (hs:a.eval s=v) (hx:a.eval xo=.slice (some ⟨g,0,none⟩) 1 1)
    (hown:Own base v ls w0) (hl:ls.length<=1099511627776) (hbase:base<=w0.heap.size)
    (h:∀ v' w',Own base v' (ls++[x.data.toList]) w'->Left w0 base w'->wpList Tryz.prog ops Q rest (a.put o.dst v') w') :
    wpList Tryz.prog ops Q (o :: rest) a (w0.alloc (.cells #[.string x] 9)):=by
  obtain ⟨i0,hi,hz0,hz1,hz2⟩:=info_parts infoStr
  subst hgz
  refine wpList_append_own _ hgd s xo 32 ho base 9 i0 (.string ⟨#[]⟩) 1 16 Tryz.underlying32 hi hz0 hz1 hz2 rfl (by decide) v ls.length (ls.map sv) hs (World.ownsRow.alloc hown _) ⟨w0.heap.size,0,none⟩ 1 1 [.string x] hx rfl (fun j u hj=>?_) (fun u hu=>?_) (by unfold maxLen;omega) (by omega) (by simp;omega) (fun v' w' h5 h6 _=>h v' w' (Own.snoc h5) (left_of hown h6))
  · match j,hj with
    | 0,hj=>simp at hj;subst hj;simp [Addr.add]
  · simp at hu;subst hu;rfl
end Va
namespace Va
theorem pre_sum (x:Sg):∀ (ps:List (List Sg)),ps≠[]->((pre [x] ps).map List.length).sum=1+(ps.map List.length).sum
  | [],h=>absurd rfl h
  | p :: ps,_=>by simp [pre];omega
theorem parts_total (m:UInt8):∀ (l:List Sg),((parts m l).map List.length).sum+cnt m l=l.length
  | []=>by simp [parts,cnt]
  | x :: l=>by
    have ih:=parts_total m l
    by_cases h:x=(m,false)
    · subst h
      rw [parts_mark]
      have:cnt m ((m,false) :: l)=cnt m l+1:=by simp [cnt]
      rw [this]
      simp only [List.map_cons,List.sum_cons,List.length_nil,List.length_cons]
      omega
    · rw [parts_own m x l h,pre_sum x _ (parts_ne m l)]
      have:cnt m (x :: l)=cnt m l:=by simp [cnt,h]
      rw [this,List.length_cons]
      omega
theorem tl_sum (m:UInt8):∀ (xs:List Row),(tl m xs).length=(xs.map List.length).sum+xs.length
  | []=>rfl
  | x :: xs=>by have:=tl_sum m xs;simp only [tl,List.length_append,List.length_cons,List.map_cons,List.sum_cons];omega
theorem jn_sum (m:UInt8) (xs:List Row) (h:xs≠[]):(jn m xs).length+1=(xs.map List.length).sum+xs.length:=by
  cases xs with
  | nil=>exact absurd rfl h
  | cons x xs=>simp only [jn,List.length_append,tl_sum,List.map_cons,List.sum_cons,List.length_cons];omega
theorem sum_le {α:Type} (f g:α->Nat):∀ (xs:List α),(∀ x∈xs,f x<=g x)->(xs.map f).sum<=(xs.map g).sum
  | [],_=>Nat.le_refl _
  | x :: xs,h=>by
    have h0:=h x (by simp)
    have ih:=sum_le f g xs (fun y hy=>h y (by simp [hy]))
    simp only [List.map_cons,List.sum_cons];omega
theorem sum_two {α:Type} (g:α->Nat):∀ (xs:List α),(xs.map fun x=>2*g x).sum=2*(xs.map g).sum
  | []=>rfl
  | x :: xs=>by have:=sum_two g xs;simp only [List.map_cons,List.sum_cons];omega
theorem putL_listS (l:List Sg):(putL (listS l)).length<=2*l.length:=by
  have hne:(listS l).map put≠[]:=by
    intro e
    have:=congrArg List.length e
    rw [List.length_map,listS_len] at this
    simp at this
  have h1:=jn_sum 44 _ hne
  have h2:=parts_total 44 l
  have e1:((listS l).map put).map List.length=(parts 44 l).map fun p=>(put (plain p)).length:=by
    unfold listS;rw [List.map_map,List.map_map];rfl
  have h3:(((listS l).map put).map List.length).sum<=2*((parts 44 l).map List.length).sum:=by
    rw [e1,<-sum_two]
    exact sum_le _ _ _ (fun p _=>by have:=put_len (plain p);rw [plain_len] at this;exact this)
  rw [List.length_map,listS_len] at h1
  unfold putL
  omega
theorem putF_fldS (l:List Sg):(putF (fldS l)).length<=2*l.length:=by
  have hne:(fldS l).map putL≠[]:=by
    intro e
    have:=congrArg List.length e
    rw [List.length_map,fldS_len] at this
    simp at this
  have h1:=jn_sum 59 _ hne
  have h2:=parts_total 59 l
  have e1:((fldS l).map putL).map List.length=(parts 59 l).map fun p=>(putL (listS p)).length:=by
    unfold fldS;rw [List.map_map,List.map_map];rfl
  have h3:(((fldS l).map putL).map List.length).sum<=2*((parts 59 l).map List.length).sum:=by
    rw [e1,<-sum_two]
    exact sum_le _ _ _ (fun p _=>putL_listS p)
  rw [List.length_map,fldS_len] at h1
  unfold putF
  omega
end Va
end Go.Proofs.YtobfaibofhmpgaaGreatDoor
