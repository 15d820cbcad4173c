import Derived.Test.YtobfaibofhmpgaaGreatDoorAp22
import Derived.Lib.LaidU8T
set_option linter.unusedVariables false
set_option maxHeartbeats 8000000
set_option maxRecDepth 100000
namespace Go.Proofs.YtobfaibofhmpgaaGreatDoor
namespace Fo
open Go.Lib Go.RowKit Bu
def strLen:Value->Nat
  | .string t=>t.size
  | _=>0
theorem headBl_get (s:ByteArray) (h:0 < s.size):headBl s.data.toList=bl (s[0]'h):=by
  have hl:0 < s.data.toList.length:=by rw [<-Lib.size_eq];exact h
  have e:s.data.toList=(s[0]'h) :: s.data.toList.drop 1:=List.drop_eq_getElem_cons hl
  rw [e];rfl
theorem blank_is (x:UInt8) (v:Bool) (w:World) (hv:bl x=v):Calls Tryz.prog 155 #[.int .u8 (x.toNat:Int)] w fun e w'=>e=.returned (.bool v)/\w=w':=by
  subst hv;exact blank_any x w
def LineP (t:ByteArray) (e:Ending):Prop :=
  (e=.returned (.tuple #[.string ⟨#[]⟩,.string ⟨#[]⟩,.bool false])/\∀ out,(out=[]\/headBl t.data.toList=false)->R out t.data.toList=none)\/
  ∃ line rest:ByteArray,e=.returned (.tuple #[.string line,.string rest,.bool true])/\headBl rest.data.toList=false/\line.data.toList.length+rest.data.toList.length+1<=t.data.toList.length/\
    ∀ out,(out=[]\/headBl t.data.toList=false)->R out t.data.toList=R (out++[line.data.toList]) rest.data.toList
def LineRel (t:ByteArray) (B:Nat) (w:World) (s3:Value) (wr:World):Prop :=
  ∃ (rest:ByteArray) (l:Row),s3=.string rest/\Bd B B l wr/\Below w.heap.size w wr/\w.heap.size<=B/\l.length+rest.data.toList.length+1<=t.data.toList.length/\
    ∀ out,(out=[]\/headBl t.data.toList=false)->R out t.data.toList=R (out++[l]) rest.data.toList
theorem cutLine_any (t:ByteArray) (w:World) (hs:t.size<=140737488355328) (hne:t.data.toList≠[]) :
    Calls Tryz.prog 138 #[.string t] w fun e w'=>LineP t e/\Below w.heap.size w w':=by
  have hne':=Lib.hid hne
  clear hne
  have htl:t.size=t.data.toList.length:=Lib.size_eq t
  go_enter Tryz.func138,Tryz.ntmps138
  go_wp2_with fail
  go_at_call 154
  refine (cutRow_any t w hs hne'.out).mono ?_
  rintro e w1 ⟨hc,hb⟩
  rcases hc with ⟨rfl,h1⟩ | ⟨a,r,row,h1,h2,h3,h4,rfl⟩
  · have hfin:LineP t (.returned (.tuple #[.string ⟨#[]⟩,.string ⟨#[]⟩,.bool false])):=.inl ⟨rfl,fun out _=>h1 out⟩
    have hfin':=Lib.hid hfin
    have htl':=Lib.hid htl
    clear hfin h1 htl
    go_wp2
    go_ret3
    exact ⟨hfin'.out,hb⟩
  · have hrow : row.data.toList≠[]:=by
      intro h0
      rw [h0] at h4
      cases h4
    have hz:0 < row.size:=by rw [Lib.size_eq];exact List.length_pos_iff.2 hrow
    have hhd:=headBl_get row hz
    obtain ⟨hst,x0,r0,ha0,_⟩:=strip_head a.data.toList (by rw [<-h3];exact hrow)
    have hth:headBl t.data.toList=headBl row.data.toList:=by
      rw [h2,h3,hst,ha0];rfl
    have hlen:t.data.toList.length=a.data.toList.length+(r.data.toList.length+1):=by rw [h2];simp
    have hrl:row.data.toList.length<=a.data.toList.length:=by rw [h3];exact strip_len _
    have hRt:∀ out,R out t.data.toList=(gstep out row.data.toList).bind fun o=>R o r.data.toList:=fun out=>by rw [h2,R_cut out _ _ h1,<-h3]
    cases hv:bl (row[0]'hz)
    · have hRt2 : ∀ out,R out t.data.toList=R (out++[row.data.toList]) r.data.toList:=fun out=>by
        rw [hRt,gstep_new out _ h4 (by rw [hhd];exact hv)];rfl
      have hR':=Lib.hid hRt2
      have hrs:row.size<=140737488355328:=by rw [Lib.size_eq];omega
      have cB:=fun W=>blank_is (row[0]'hz) false W hv
      have hL:row.data.toList.length+r.data.toList.length+1<=t.data.toList.length:=by omega
      clear hRt2 hRt hv hhd hth hst ha0 h1 h2 h3 h4 hlen hrl hrow
      have htl':=Lib.hid htl
      clear htl
      go_wp2_with (first
        | (go_at_call 155;refine (cB _).mono ?_;rintro e w' ⟨rfl,rfl⟩)
        | (go_at_call 156;refine (write_any w1.heap.size w1.heap.size [] row _ (fresh w1) (by simpa using hrs) (by simp)).mono ?_;rintro e w2 ⟨rfl,hbd,hb2⟩))
      clear cB hrs
      have hbw:Below w.heap.size w w2:=(hb.alloc hb.size _).trans (hb2.mono hb.size)
      have hsz:w1.heap.size<=w2.heap.size:=by have:=hb2.size;simp at this;omega
      have hrel0:LineRel t w1.heap.size w (.string r) w2:=⟨r,row.data.toList,rfl,by simpa using hbd,hbw,hb.size,hL,fun out _=>hR'.out out⟩
      have hB1:w.heap.size<=w1.heap.size:=hb.size
      generalize w1.heap.size=B at hrel0 hB1 ⊢
      clear hbw hsz hR' hL hbd hb2 hb
      go_loopw [3] (fun s3 wr=>LineRel t B w s3 wr) (fun s3 wr=>strLen s3)
      case atStart=>exact hrel0
      case round =>
        obtain ⟨rest,l,rfl,hbd,hbw,_,hL,hR⟩:=hrel
        clear hrel0
        have hR':=Lib.hid hR
        clear hR
        have hBr:=hbd.lt
        have hw2:w2.heap.size<=wr.heap.size\/True:=.inr trivial
        clear hw2
        have hend:headBl rest.data.toList=false->LineP t (.returned (.tuple #[.string ⟨l.toArray⟩,.string rest,.bool true])):=fun hh =>
          .inr ⟨⟨l.toArray⟩,rest,rfl,hh,by simpa using hL,fun out ho=>by rw [hR'.out out ho]⟩
        have hend':=Lib.hid hend
        clear hend
        by_cases h0:rest.data.toList=[]
        · have he:=empty_of rest h0
          have hfin':=Lib.hid (hend'.out (by rw [h0];rfl))
          clear h0 hL
          go_wp2_with (go_at_call 82;refine (text_any B B l _ hbd (by omega)).mono ?_;rintro e w3 ⟨rfl,_,hb3⟩)
          go_ret3
          exact ⟨hfin'.out,hbw.trans (hb3.mono hB1)⟩
        · have he:=nonempty_of rest h0
          have hz2:0 < rest.size:=by rw [Lib.size_eq];exact List.length_pos_iff.2 h0
          have hhd:=headBl_get rest hz2
          cases hv2:bl (rest[0]'hz2)
          · have hfin':=Lib.hid (hend'.out (by rw [hhd];exact hv2))
            have cB2:=fun W=>blank_is (rest[0]'hz2) false W hv2
            clear hhd hv2 h0 hL
            go_wp2_with (first
              | (go_at_call 155;refine (cB2 _).mono ?_;rintro e w' ⟨rfl,rfl⟩)
              | (go_at_call 82;refine (text_any B B l _ hbd (by omega)).mono ?_;rintro e w3 ⟨rfl,_,hb3⟩))
            go_ret3
            exact ⟨hfin'.out,hbw.trans (hb3.mono hB1)⟩
          · have cB2:=fun W=>blank_is (rest[0]'hz2) true W hv2
            have h0':=Lib.hid h0
            have hhd':=Lib.hid (hhd.trans hv2)
            have htl2:rest.size<=140737488355328:=by rw [Lib.size_eq];have:=htl'.out;omega
            have hL':=Lib.hid hL
            clear hhd hv2 h0 hL hend'
            go_wp2_with (go_at_call 155;refine (cB2 _).mono ?_;rintro e w' ⟨rfl,rfl⟩)
            go_at_call 154
            refine (cutRow_any rest _ htl2 h0'.out).mono ?_
            rintro e w4 ⟨hc,hb4⟩
            rcases hc with ⟨rfl,h1⟩ | ⟨a2,r2,row2,h1,h2,h3,h4,rfl⟩
            · have hfin:LineP t (.returned (.tuple #[.string ⟨#[]⟩,.string ⟨#[]⟩,.bool false])):=.inl ⟨rfl,fun out ho=>by rw [hR'.out out ho,h1]⟩
              have hfin':=Lib.hid hfin
              clear hfin h1
              go_wp2
              go_ret3
              exact ⟨hfin'.out,below_then hbw hb4⟩
            · have hrow:row2.data.toList≠[]:=by
                intro h0
                rw [h0] at h4
                cases h4
              have hzr:0 < row2.size:=by rw [Lib.size_eq];exact List.length_pos_iff.2 hrow
              obtain ⟨hst,x0,r0,ha0,_⟩:=strip_head a2.data.toList (by rw [<-h3];exact hrow)
              have hth:headBl row2.data.toList=true:=by rw [<-hhd'.out,h2,h3,hst,ha0];rfl
              have hlen:rest.data.toList.length=a2.data.toList.length+(r2.data.toList.length+1):=by rw [h2];simp
              have hrl:row2.data.toList.length<=a2.data.toList.length:=by rw [h3];exact strip_len _
              have htt:(row2.extract 1 row2.size).data.toList=row2.data.toList.tail:=by rw [Lib.extract_to_end,List.drop_one]
              have htz:(row2.extract 1 row2.size).data.toList.length+1=row2.data.toList.length:=by
                rw [htt,List.length_tail];have:=List.length_pos_iff.2 hrow;omega
              have htz2:(row2.extract 1 row2.size).size=(row2.extract 1 row2.size).data.toList.length:=Lib.size_eq _
              have hL2:(l++(row2.extract 1 row2.size).data.toList).length+r2.data.toList.length+1<=t.data.toList.length:=by
                have:=hL'.out;rw [List.length_append];omega
              have hRn:∀ out,(out=[]\/headBl t.data.toList=false)->R out t.data.toList=R (out++[l++(row2.extract 1 row2.size).data.toList]) r2.data.toList:=fun out ho=>by
                rw [hR'.out out ho,h2,R_cut _ _ _ h1,<-h3,gstep_more _ _ _ h4 hth,htt];rfl
              have hlm:l.length+(row2.extract 1 row2.size).size<=140737488355328:=by
                have h5:=htl'.out;rw [List.length_append] at hL2;omega
              have hms:r2.size < rest.size:=by rw [Lib.size_eq,Lib.size_eq];omega
              have hRn':=Lib.hid hRn
              have hL2':=Lib.hid hL2
              have hbd4:Bd B B l w4:=hbd.kept hb4
              have hB4:B<=w4.heap.size:=by have:=hbd4.lt;omega
              have hbw4:=below_then hbw hb4
              clear hRn hL2 htt htz htz2 hrl hlen hth hst ha0 h1 h2 h3 h4 hrow hbd hb4 hbw hBr cB2
              go_wp2_with (go_at_call 156;refine (write_any B B l _ _ hbd4 hlm hB4).mono ?_;rintro e w5 ⟨rfl,hbd5,hb5⟩)
              go_roundw
              case rel=>exact ⟨r2,_,rfl,hbd5,hbw4.trans (hb5.mono hB1),hB1,hL2'.out,hRn'.out⟩
              case measure=>exact hms
    · have hfin:LineP t (.returned (.tuple #[.string ⟨#[]⟩,.string ⟨#[]⟩,.bool false])):=.inl ⟨rfl,fun out ho=>by
        rcases ho with rfl | ho
        · rw [hRt,gstep_none _ (by rw [hhd];exact hv)];rfl
        · rw [hth,hhd,hv] at ho;cases ho⟩
      have hfin':=Lib.hid hfin
      have cB:=fun W=>blank_is (row[0]'hz) true W hv
      clear hRt hv hhd hth hst ha0 h1 h2 h3 h4 hlen hrl hrow hfin htl
      go_wp2_with (go_at_call 155;refine (cB _).mono ?_;rintro e w' ⟨rfl,rfl⟩)
      go_ret3
      exact ⟨hfin'.out,hb⟩
def sv (l:Row):Value:=.string ⟨l.toArray⟩
theorem sv_data (s:ByteArray):sv s.data.toList=.string s:=by unfold sv;rw [Lib.mk_data]
def Own (B:Nat) (v:Value) (ls:List Row) (w:World):Prop:=w.ownsRow B 9 1 v ls.length (ls.map sv)
theorem Own.nil (B:Nat) (w:World):Own B (.slice none 0 0) [] w:=World.ownsRow_nil w B _ 1
theorem ownsRow_kept {w w':World} {B:Nat} {e:TypeId} {size:Nat} {v:Value} {n:Nat} {xs:List Value} (h:w.ownsRow B e size v n xs) (hb:Below w.heap.size w w'):w'.ownsRow B e size v n xs:=by
  refine ⟨h.1,?_⟩
  rcases h.2 with h | ⟨g,cap,cur,e1,e2,e3,e4⟩
  · exact .inl h
  · exact .inr ⟨g,cap,cur,e1,e2,by rw [hb.block g (Array.getElem?_eq_some_iff.1 e3).1];exact e3,e4⟩
theorem Own.kept {w w':World} {B:Nat} {v:Value} {ls:List Row} (h:Own B v ls w) (hb:Below w.heap.size w w'):Own B v ls w':=ownsRow_kept h hb
theorem infoStr:(Tryz.prog.info? 9).map (fun i=>(i.zero,i.size,i.bytes))=some (some (.string ⟨#[]⟩),1,16):=by kernel_rfl
def UnfP (B:Nat) (T:ByteArray) (e:Ending) (w':World):Prop :=
  (∃ v out,e=.returned (.tuple #[v,.int .i64 0])/\R [] T.data.toList=some out/\Own B v out w')\/
  (e=.returned (.tuple #[.slice none 0 0,.int .i64 20])/\R [] T.data.toList=none)
def UnfRel (T:ByteArray) (w:World) (s0 s4:Value) (wr:World):Prop :=
  ∃ (text:ByteArray) (out:List Row) (v:Value),s0=.string text/\v=s4/\Own w.heap.size s4 out wr/\Below w.heap.size w wr/\out.length+text.data.toList.length<=T.data.toList.length/\
    R [] T.data.toList=R out text.data.toList/\(out=[]\/headBl text.data.toList=false)
theorem unfold_any (T:ByteArray) (w:World) (hs:T.size<=1099511627776) :
    Calls Tryz.prog 112 #[.string T] w fun e w'=>UnfP w.heap.size T e w'/\Below w.heap.size w w':=by
  obtain ⟨i0,hi,hz0,hz1,hz2⟩:=info_parts infoStr
  have htl:=Lib.hid (Lib.size_eq T)
  go_enter Tryz.func112,Tryz.ntmps112
  go_wp2
  go_loopw [0,4] (fun s0 s4 wr=>UnfRel T w s0 s4 wr) (fun s0 s4 wr=>strLen s0)
  case atStart=>exact ⟨T,[],_,rfl,rfl,Own.nil _ _,Below.refl _ _,by simp,rfl,.inl rfl⟩
  case round =>
    obtain ⟨text,out,s4,rfl,rfl,hown,hbw,hL,hR,hH⟩:=hrel
    have hR':=Lib.hid hR
    have hL':=Lib.hid hL
    have hH':=Lib.hid hH
    clear hR hL hH
    by_cases h0:text.data.toList=[]
    · have he:=empty_of text h0
      have hfin:UnfP w.heap.size T (.returned (.tuple #[s4,.int .i64 0])) wr:=.inl ⟨s4,out,rfl,by rw [hR'.out,h0];rfl,hown⟩
      have hfin':=Lib.hid hfin
      clear hfin h0
      go_wp2
      go_ret2
      exact ⟨hfin'.out,hbw⟩
    · have he:=nonempty_of text h0
      have hts:text.size<=140737488355328:=by have h1:=htl.out;have h2:=hL'.out;rw [Lib.size_eq];omega
      have h0':=Lib.hid h0
      clear h0
      go_wp2_with fail
      go_at_call 138
      refine (cutLine_any text wr hts h0'.out).mono ?_
      rintro e w1 ⟨hc,hb1⟩
      rcases hc with ⟨rfl,h1⟩ | ⟨line,rest,rfl,h1,h2,h3⟩
      · have hfin:UnfP w.heap.size T (.returned (.tuple #[.slice none 0 0,.int .i64 20])) w1:=.inr ⟨rfl,by rw [hR'.out,h1 out hH'.out]⟩
        have hfin':=Lib.hid hfin
        clear hfin h1
        go_wp2
        go_ret2
        exact ⟨hfin'.out,below_then hbw hb1⟩
      · have hRn:=Lib.hid (hR'.out.trans (h3 out hH'.out))
        have hLn:(out++[line.data.toList]).length+rest.data.toList.length<=T.data.toList.length:=by have:=hL'.out;rw [List.length_append,List.length_singleton];omega
        have hms:rest.size < text.size:=by rw [Lib.size_eq,Lib.size_eq];omega
        have hol:out.length<=1099511627776:=by have h4:=htl.out;have h5:=hL'.out;omega
        have hLn':=Lib.hid hLn
        have hms':=Lib.hid hms
        have hown1:Own w.heap.size s4 out w1:=hown.kept hb1
        have hbw1:=below_then hbw hb1
        have hcell:([.string line]:List Value).map id=[.string line]:=rfl
        have h1':=Lib.hid h1
        clear h1 h2 h3 hLn hms hown hcell hR' hL' hH'
        unfold Own at hown1
        go_wp2_with (at_builtin;refine wpList_append_own _ rfl _ _ 32 rfl w.heap.size 9 i0 (.string ⟨#[]⟩) 1 16 Tryz.underlying32 hi hz0 hz1 hz2 rfl (by decide) _ _ _ rfl (hown1.alloc _) ⟨w1.heap.size,0,none⟩ 1 1 [.string line] rfl rfl ?c1 ?c2 ?c3 ?c4 ?c5 ?_)
        case c1 =>
          intro j u hj
          match j,hj with
          | 0,hj=>simp at hj;subst hj;simp [Addr.add]
        case c2=>intro u hu;simp at hu;subst hu;rfl
        case c3=>unfold maxLen;omega
        case c4=>omega
        case c5=>have:=hbw1.size;simp;omega
        intro v' w2 hown' hgrow _
        have hown2:Own w.heap.size v' (out++[line.data.toList]) w2:=by
          unfold Own
          rw [List.map_append,List.length_append]
          simpa [sv_data] using hown'
        have hbw2:Below w.heap.size w w2:=(hbw1.alloc hbw1.size _).grown hgrow (by have:=hbw1.size;simp;omega) (fun k hk=>(hown1.lt k hk).1)
        clear hown' hgrow hown1 hbw hbw1
        go_wp2
        go_roundw
        case rel=>exact ⟨rest,_,_,rfl,rfl,hown2,hbw2,hLn'.out,hRn.out,.inr h1'.out⟩
        case measure=>exact hms'.out
def Tabs (w:World):Prop:=Lib.Utf8Tabs 1 2 w
theorem tabs_below {w w':World} (h:Tabs w) (hb:Below w.heap.size w w'):Tabs w':=Utf8Tabs_below h hb
theorem decode_any (s:ByteArray) (n:Nat) (w:World) (hT:Tabs w) (hne:s.data.toList≠[]) (hn:sz s.data.toList=n) :
    Calls Tryz.prog 183 #[.string s] w fun e w'=>(∃ r:Int,e=.returned (.tuple #[.int .i32 r,.int .i64 (n:Int)]))/\Below w.heap.size w w':=by
  refine (Tryz.utf8_DecodeRuneInString s w hT).mono ?_
  rintro e w' ⟨rfl,hb⟩
  have hz:s.size≠0:=by rw [Lib.size_eq];exact fun h=>hne (List.eq_nil_of_length_eq_zero h)
  have e1:decodeGo s=decodeL s.data.toList:=by
    unfold decodeGo decodeL
    rw [Lib.mk_data]
    simp [hz]
  exact ⟨⟨(decodeGo s).1,by rw [<-hn,<-sz_decode _ hne,<-e1]⟩,hb⟩
theorem fit_any (t:ByteArray) (room:Nat) (w:World) (hT:Tabs w) (hs:t.size<=140737488355328) (hr:room<=100) :
    Calls Tryz.prog 231 #[.string t,.int .i64 (room:Int)] w fun e w'=>e=.returned (.int .i64 (fit t.data.toList room:Int))/\Below w.heap.size w w':=by
  obtain ⟨F,hF⟩:∃ F:Nat,fit t.data.toList room=F:=⟨_,rfl⟩
  rw [hF]
  unfold fit at hF
  have hT':=Lib.hid hT
  have hF':=Lib.hid hF
  clear hT hF
  go_enter Tryz.func231,Tryz.ntmps231
  go_wp2
  go_loopw [5] (fun s5 wr=>∃ n:Nat,s5=.int .i64 (n:Int)/\n<=t.size/\fitF t.data.toList.length t.data.toList room n=F/\Below w.heap.size w wr) (fun s5 wr=>t.size - (RowKit.intOf s5).toNat)
  case atStart=>exact ⟨0,rfl,Nat.zero_le _,hF'.out,Below.refl _ _⟩
  case round =>
    obtain ⟨n,rfl,hn,hf,hbw⟩:=hrel
    have hf':=Lib.hid hf
    clear hf
    by_cases hlt:n < t.size
    · have hd:(t.extract n t.size).data.toList=t.data.toList.drop n:=Lib.extract_to_end t n
      have hne:(t.extract n t.size).data.toList≠[]:=fun h=>by
        rw [hd] at h
        have:=List.drop_eq_nil_iff.1 h
        rw [<-Lib.size_eq] at this
        omega
      obtain ⟨k,hk⟩:∃ k:Nat,sz (t.extract n t.size).data.toList=k:=⟨_,rfl⟩
      have hkb:=sz_bd (t.extract n t.size).data.toList
      have hkl:=sz_len _ hne
      rw [hd,List.length_drop,<-Lib.size_eq] at hkl
      have cD:=fun W hW=>decode_any (t.extract n t.size) k W hW hne hk
      rw [hd] at hk hkb
      rw [hk] at hkb hkl
      have hk':=Lib.hid hk
      clear hd hne hk
      by_cases hfits:room < n+k
      · have hfin:F=n:=by rw [<-hf'.out];exact fitF_stop _ _ _ _ (fun _=>by rw [hk'.out];exact hfits)
        have hfin':=Lib.hid hfin
        clear hfin
        go_wp2_with (go_at_call 183;refine (cD _ (tabs_below hT'.out hbw)).mono ?_;rintro e w1 ⟨⟨r,rfl⟩,hb1⟩)
        go_ret
        exact ⟨by rw [hfin'.out];rfl,below_then hbw hb1⟩
      · have hnx:fitF t.data.toList.length t.data.toList room (n+k)=F:=by
          rw [<-hf'.out,fitF_next _ _ _ n (by omega) (by rw [<-Lib.size_eq];exact hlt) (by rw [hk'.out];exact hfits),hk'.out]
        have hnx':=Lib.hid hnx
        clear hnx
        go_wp2_with (go_at_call 183;refine (cD _ (tabs_below hT'.out hbw)).mono ?_;rintro e w1 ⟨⟨r,rfl⟩,hb1⟩)
        go_roundw
        case rel=>exact ⟨n+k,by go_num,by omega,hnx'.out,below_then hbw hb1⟩
        case measure=>simp [RowKit.intOf];omega
    · have hfin:F=n:=by rw [<-hf'.out];exact fitF_stop _ _ _ _ (fun h=>by rw [<-Lib.size_eq] at h;omega)
      have hfin':=Lib.hid hfin
      clear hfin
      go_wp2
      go_ret
      exact ⟨by rw [hfin'.out];rfl,hbw⟩
def FlRel (L:Row) (pre:Row) (B b:Nat) (w:World) (s1 s4:Value) (wr:World):Prop :=
  ∃ (t:ByteArray) (acc:Row) (room:Nat),s1=.string t/\s4=.int .i64 (room:Int)/\(room=75\/room=74)/\Bd B b acc wr/\Below B w wr/\w.heap.size<=wr.heap.size/\
    t.data.toList.length<=L.length/\acc++foldF t.data.toList.length t.data.toList room=pre++foldL L
theorem foldLine_any (t:ByteArray) (pre:Row) (B b:Nat) (w:World) (hT:∀ W,Below B w W->Tabs W) (hbd:Bd B b pre w) (hs:t.size<=1099511627776) (hp:pre.length+4*t.size<=70368744177664) (hBw:B<=w.heap.size) :
    Calls Tryz.prog 201 #[.pointer (some ⟨b,0,none⟩),.string t] w fun e w'=>e=.returned (.tuple #[])/\Bd B b (pre++foldL t.data.toList) w'/\Below B w w':=by
  have hT':=Lib.hid hT
  clear hT
  have hrel0:FlRel t.data.toList pre B b w (.string t) (.int .i64 (75:Int)) w:=⟨t,pre,75,rfl,rfl,.inl rfl,hbd,Below.refl _ _,Nat.le_refl _,Nat.le_refl _,rfl⟩
  have hLl:(foldL t.data.toList).length<=4*t.size:=by rw [Lib.size_eq];exact foldF_len _ _ 75 (by omega)
  obtain ⟨L,hL⟩:∃ L,t.data.toList=L:=⟨_,rfl⟩
  have hsL:L.length<=1099511627776:=by rw [<-hL,<-Lib.size_eq];exact hs
  rw [hL] at hrel0 hLl ⊢
  clear hL hbd
  go_enter Tryz.func201,Tryz.ntmps201
  go_wp2
  go_loopw [1,4] (fun s1 s4 wr=>FlRel L pre B b w s1 s4 wr) (fun s1 s4 wr=>strLen s1)
  case atStart=>exact hrel0
  case round =>
    obtain ⟨x,acc,room,rfl,rfl,hroom,hbd,hbw,hwz,hxl,hacc⟩:=hrel
    have hacc':=Lib.hid hacc
    have hxs:x.size=x.data.toList.length:=Lib.size_eq x
    have hxs':=Lib.hid hxs
    clear hacc hrel0 hxs
    by_cases h0:x.data.toList=[]
    · have he:=empty_of x h0
      have hfin:pre++foldL L=acc:=by rw [<-hacc'.out,h0];simp [foldF]
      have hfin':=Lib.hid hfin
      clear h0 hfin
      go_wp2
      go_end0
      exact ⟨rfl,by rw [hfin'.out];exact hbd,hbw⟩
    · have he:=nonempty_of x h0
      have hr74:74<=room:=by omega
      have hfb:=fit_bd x.data.toList room hr74 h0
      have hstep:=foldF_step x.data.toList.length x.data.toList room hr74 h0 (Nat.le_refl _)
      have hxz:x.size<=1099511627776:=by have:=hxs'.out;omega
      have cF:=fun W hW=>fit_any x room W hW (by omega) (by omega)
      obtain ⟨n,hn⟩:∃ n:Nat,fit x.data.toList room=n:=⟨_,rfl⟩
      rw [hn] at hfb hstep
      rw [hn] at cF
      have htk:(x.extract 0 n).data.toList=x.data.toList.take n:=by rw [Lib.extract_data];rfl
      have hdr:(x.extract n x.size).data.toList=x.data.toList.drop n:=Lib.extract_to_end x n
      have htz:(x.extract 0 n).size=n:=by rw [Lib.size_eq,htk,List.length_take];omega
      have hdz:(x.extract n x.size).size=x.size - n:=by rw [Lib.size_eq,hdr,List.length_drop,<-hxs'.out]
      have hn1:1<=n/\n<=x.size:=by have:=hxs'.out;omega
      have hal:acc.length<=pre.length+4*t.size:=by
        have:=congrArg List.length hacc'.out
        rw [List.length_append,List.length_append] at this
        omega
      have hdz':=Lib.hid hdz
      have htk':=Lib.hid htk
      have htz':=Lib.hid htz
      have hn':=Lib.hid hn
      have hfb':=Lib.hid hfb
      have hstep':=Lib.hid hstep
      clear hn hfb hstep htk htz hdz h0
      by_cases h2:x.data.toList.drop n=[]
      · have he2:=empty_of (x.extract n x.size) (hdr.trans h2)
        have hfin:acc++(x.extract 0 n).data.toList++(⟨#[13,10]⟩:ByteArray).data.toList++foldF (x.extract n x.size).data.toList.length (x.extract n x.size).data.toList room=pre++foldL L:=by
          rw [<-hacc'.out,hstep'.out,htk'.out,hdr,h2,if_pos rfl,foldF_nil];simp
        have hfin':=Lib.hid hfin
        have hdl:(x.extract n x.size).data.toList.length<=L.length:=by rw [hdr,List.length_drop];omega
        clear hfin hdr h2
        go_wp2_with (go_at_call 231;refine (cF _ (hT'.out _ hbw)).mono ?_;rintro e w1 ⟨rfl,hb1⟩)
        have hbd1:=hbd.kept hb1
        have hbw1:Below B w w1:=hbw.trans (hb1.mono (by have:=hbd.lt;omega))
        have hz1:w.heap.size<=w1.heap.size:=by have:=hb1.size;omega
        clear hbd hbw hb1
        go_at_call 156
        refine (write_any B b acc _ _ hbd1 (by have:=htz'.out;omega) (by have:=hbd1.lt;omega)).mono ?_
        rintro e w2 ⟨rfl,hbd2,hb2⟩
        have hz2:w.heap.size<=w2.heap.size:=by have:=hb2.size;omega
        go_wp2_with fail
        go_at_call 156
        refine (write_any B b _ _ _ hbd2 (by rw [List.length_append,<-Lib.size_eq,htz'.out,show (⟨#[13,10]⟩:ByteArray).size=2 from rfl];omega) (by have:=hbd2.lt;omega)).mono ?_
        rintro e w3 ⟨rfl,hbd3,hb3⟩
        have hz3:w.heap.size<=w3.heap.size:=by have:=hb3.size;omega
        have hbw3:=(hbw1.trans hb2).trans hb3
        clear hbw1 hbd1 hbd2 hb2 hb3
        go_wp2
        go_roundw
        case rel=>exact ⟨_,_,room,rfl,rfl,hroom,hbd3,hbw3,hz3,hdl,hfin'.out⟩
        case measure=>show (x.extract n x.size).size < x.size;rw [hdz'.out];omega
      · have he2:=nonempty_of (x.extract n x.size) (by rw [hdr];exact h2)
        have hfin:acc++(x.extract 0 n).data.toList++(⟨#[13,10]⟩:ByteArray).data.toList++[32]++foldF (x.extract n x.size).data.toList.length (x.extract n x.size).data.toList 74=pre++foldL L:=by
          rw [<-hacc'.out,hstep'.out,htk'.out,hdr,if_neg h2,foldF_more x.data.toList.length (x.data.toList.drop n).length _ 74 (by omega) (by rw [List.length_drop];omega) (Nat.le_refl _)];simp
        have hfin':=Lib.hid hfin
        have hdl:(x.extract n x.size).data.toList.length<=L.length:=by rw [hdr,List.length_drop];omega
        clear hfin hdr h2
        go_wp2_with (go_at_call 231;refine (cF _ (hT'.out _ hbw)).mono ?_;rintro e w1 ⟨rfl,hb1⟩)
        have hbd1:=hbd.kept hb1
        have hbw1:Below B w w1:=hbw.trans (hb1.mono (by have:=hbd.lt;omega))
        have hz1:w.heap.size<=w1.heap.size:=by have:=hb1.size;omega
        clear hbd hbw hb1
        go_at_call 156
        refine (write_any B b acc _ _ hbd1 (by have:=htz'.out;omega) (by have:=hbd1.lt;omega)).mono ?_
        rintro e w2 ⟨rfl,hbd2,hb2⟩
        have hz2:w.heap.size<=w2.heap.size:=by have:=hb2.size;omega
        go_wp2_with fail
        go_at_call 156
        refine (write_any B b _ _ _ hbd2 (by rw [List.length_append,<-Lib.size_eq,htz'.out,show (⟨#[13,10]⟩:ByteArray).size=2 from rfl];omega) (by have:=hbd2.lt;omega)).mono ?_
        rintro e w3 ⟨rfl,hbd3,hb3⟩
        have hz3:w.heap.size<=w3.heap.size:=by have:=hb3.size;omega
        have hbw3:=(hbw1.trans hb2).trans hb3
        clear hbw1 hbd1 hbd2 hb2 hb3
        go_wp2_with fail
        go_at_call 81
        refine (byte_any B b _ 32 _ hbd3 (by rw [List.length_append,List.length_append,<-Lib.size_eq,htz'.out,show (⟨#[13,10]⟩:ByteArray).data.toList.length=2 from rfl];omega) (by have:=hbd3.lt;omega)).mono ?_
        rintro e w4 ⟨rfl,hbd4,hb4⟩
        have hz4:w.heap.size<=w4.heap.size:=by have:=hb4.size;omega
        have hbw4:=hbw3.trans hb4
        clear hbw3 hbd3 hb4
        go_wp2
        go_roundw
        case rel=>exact ⟨_,_,74,rfl,rfl,.inr rfl,hbd4,hbw4,hz4,hdl,hfin'.out⟩
        case measure=>show (x.extract n x.size).size < x.size;rw [hdz'.out];omega
def Reads (w:World) (b off:Nat) (ls:List Row):Prop:=∀ j,j < ls.length->w.cell? ⟨b,off+j,none⟩=some (sv (ls.getD j []))
theorem Own.reads {B:Nat} {v:Value} {ls:List Row} {w:World} (h:Own B v ls w):(v=.slice none 0 0/\ls=[])\/∃ g cap,v=.slice (some ⟨g,0,none⟩) ls.length cap/\B<=g/\g < w.heap.size/\Reads w g 0 ls:=by
  obtain ⟨h1,h2 | ⟨g,cap,cur,e1,e2,e3,e4,e5,e6,e7⟩⟩:=h
  · exact .inl ⟨h2.1,List.eq_nil_of_length_eq_zero h2.2⟩
  · right
    refine ⟨g,cap,e1,e2,(Array.getElem?_eq_some_iff.1 e3).1,fun j hj=>?_⟩
    have hc:w.cell? ⟨g,0+j,none⟩=cur[j]?:=by
      rw [Lib.cell_of_heap e3,Nat.zero_add]
    rw [hc]
    have:(cur.toList.take (ls.length*1))[j]?=(ls.map sv)[j]?:=by rw [e7]
    rw [List.getElem?_take,if_pos (by omega),List.getElem?_map] at this
    rw [<-Array.getElem?_toList,this,List.getD_eq_getElem?_getD,List.getElem?_eq_getElem hj]
    rfl
theorem foldAll_take (ls:List Row) (k:Nat) (h:k < ls.length):foldAll (ls.take (k+1))=foldAll (ls.take k)++foldL (ls.getD k []):=by
  rw [List.take_succ_eq_append_getElem h,List.getD_eq_getElem?_getD,List.getElem?_eq_getElem h]
  unfold foldAll
  rw [List.map_append,List.flatten_append]
  simp only [List.map_cons,List.map_nil,List.flatten_cons,List.flatten_nil,List.append_nil]
  rfl
theorem tot_take (ls:List Row) (k:Nat) (h:k < ls.length):tot (ls.take k)+(ls.getD k []).length+1<=tot ls:=by
  have e:ls=ls.take k++(ls.getD k [] :: ls.drop (k+1)):=by
    conv=>lhs;rw [<-List.take_append_drop k ls,List.drop_eq_getElem_cons h]
    rw [List.getD_eq_getElem?_getD,List.getElem?_eq_getElem h];rfl
  conv=>rhs;rw [e,tot_append]
  have:tot (ls.getD k [] :: ls.drop (k+1))=(ls.getD k []).length+1+tot (ls.drop (k+1)):=by simp [tot]
  omega
theorem fold_some (b off cap:Nat) (ls:List Row) (w:World) (hT:Tabs w) (hb:b < w.heap.size) (hc:Reads w b off ls) (hs:tot ls<=17179869184) :
    Calls Tryz.prog 170 #[.slice (some ⟨b,off,none⟩) ls.length cap] w fun e w'=>e=.returned (.string ⟨(foldAll ls).toArray⟩)/\Below w.heap.size w w':=by
  have hT':=Lib.hid hT
  have hc':=Lib.hid hc
  obtain ⟨n,hn⟩:∃ n,ls.length=n:=⟨_,rfl⟩
  have hn9:n<=17179869184:=by have:=tot_len ls;omega
  rw [hn]
  have hn':=Lib.hid hn
  have hs':=Lib.hid hs
  clear hT hc hn hs
  go_enter Tryz.func170,Tryz.ntmps170
  go_wp2
  go_loopw [8] (fun s8 wr=>∃ k:Nat,s8=.int .i64 (k:Int)/\k<=n/\Bd w.heap.size w.heap.size (foldAll (ls.take k)) wr/\Below w.heap.size w wr) (fun s8 wr=>n - (RowKit.intOf s8).toNat)
  case atStart=>exact ⟨0,rfl,Nat.zero_le _,by simpa [foldAll] using fresh w,(Below.refl _ _).alloc (Nat.le_refl _) _⟩
  case round =>
    obtain ⟨k,rfl,hk,hbd,hbw⟩:=hrel
    by_cases hlt:k < n
    · have hkl:k < ls.length:=by rw [hn'.out];exact hlt
      have hcell:wr.cell? ⟨b,off+k,none⟩=some (sv (ls.getD k [])):=by rw [hbw.cell (p:=⟨b,off+k,none⟩) hb];exact hc'.out k hkl
      have htk:=tot_take ls k hkl
      have hfl:=foldAll_len (ls.take k)
      have hft:=foldAll_take ls k hkl
      obtain ⟨x,hx⟩:∃ x:ByteArray,(⟨(ls.getD k []).toArray⟩:ByteArray)=x:=⟨_,rfl⟩
      have hxd:x.data.toList=ls.getD k []:=by rw [<-hx]
      unfold sv at hcell
      rw [hx] at hcell
      rw [<-hxd] at htk hft
      rw [<-Lib.size_eq] at htk
      have hx1:x.size<=1099511627776:=by have:=hs'.out;omega
      have hx2:(foldAll (ls.take k)).length+4*x.size<=70368744177664:=by have:=hs'.out;omega
      have hft':=Lib.hid hft
      have hbr:=hbd.lt
      have cL:=foldLine_any x (foldAll (ls.take k)) w.heap.size w.heap.size wr (fun W hW=>tabs_below hT'.out (hbw.trans hW)) hbd hx1 hx2 (by omega)
      clear hx hxd htk hfl hft
      go_wp2_with (go_at_call 201;refine cL.mono ?_;rintro e w1 ⟨rfl,hbd1,hb1⟩)
      go_roundw
      case rel=>exact ⟨k+1,by go_num,by omega,by rw [hft'.out];exact hbd1,hbw.trans hb1⟩
      case measure=>simp [RowKit.intOf];omega
    · have hfin:ls.take k=ls:=List.take_of_length_le (by rw [hn'.out];omega)
      have hfin':=Lib.hid hfin
      have hbr:=hbd.lt
      clear hfin
      go_wp2_with (go_at_call 82;refine (text_any w.heap.size w.heap.size _ _ hbd (by omega)).mono ?_;rintro e w1 ⟨rfl,_,hb1⟩)
      go_ret
      exact ⟨by rw [hfin'.out];rfl,hbw.trans hb1⟩
end Fo
namespace Ca
open Go.Lib Go.RowKit
open Li (LD PD sv LineAt PrmsAt pr chk SmallL)
def rowsT (Ls:List LD):List Row:=[bBegin,bVersion]++Ls.map pr++[bEnd]
theorem cardT_fold (Ls:List LD):Fo.foldAll (rowsT Ls)=cardT Ls:=by
  unfold rowsT cardT body headT Fo.foldAll
  rw [List.take_length]
  simp only [List.map_append,List.map_cons,List.map_nil,List.flatten_append,List.flatten_cons,List.flatten_nil,List.append_nil,List.map_map]
  congr 2
theorem write_any (v:Value) (Ls:List LD) (w:World) (h:LinesAt w v Ls) (hck:∀ L∈Ls,chk L=0) (hp:∀ L∈Ls,(pr L).length<=68719476736) (hlen:Ls.length<=549755813888) (htot:Fo.tot (rowsT Ls)<=17179869184) (hT:Ch.Tabs w) :
    Calls Tryz.prog 146 #[.agg #[v]] w fun e w'=>(∃ x:ByteArray,x.data.toList=cardT Ls/\e=.returned (.string x))/\Below w.heap.size w w':=by
  obtain ⟨A,b,off,c,rfl,h1,h2,h3,h4⟩:=h
  obtain ⟨n,hn⟩:∃ n,Ls.length=n:=⟨_,rfl⟩
  rw [hn] at h1 h3 hlen ⊢
  unfold maxLen at h2
  have hn':=Lib.hid hn
  have h3':=Lib.hid h3
  have h4':=Lib.hid h4
  have hck':=Lib.hid hck
  have hp':=Lib.hid hp
  have hT':=Lib.hid hT
  have htot':=Lib.hid htot
  have hcd':=Lib.hid (cardT_fold Ls)
  obtain ⟨Z,hZ⟩:∃ Z,w.heap.size=Z:=⟨_,rfl⟩
  obtain ⟨wB,hwB⟩:∃ wB,(w.alloc (.cells #[.slice A n c] 143)).alloc (.cells #[.string ⟨#[66,69,71,73,78,58,86,67,65,82,68]⟩,.string ⟨#[86,69,82,83,73,79,78,58,52,46,48]⟩] 9)=wB:=⟨_,rfl⟩
  have B0:Below Z w wB:=by rw [<-hwB,<-hZ];exact ((Below.refl _ _).alloc (Nat.le_refl _) _).alloc (by simp) _
  have hszB:wB.heap.size=Z+2:=by rw [<-hwB,<-hZ];simp
  have hrow:wB.heap[Z+1]?=some (.cells #[.string ⟨#[66,69,71,73,78,58,86,67,65,82,68]⟩,.string ⟨#[86,69,82,83,73,79,78,58,52,46,48]⟩] 9 (0,0)):=by
    have:=heap_alloc_new (w.alloc (.cells #[.slice A n c] 143)) (.cells #[.string ⟨#[66,69,71,73,78,58,86,67,65,82,68]⟩,.string ⟨#[86,69,82,83,73,79,78,58,52,46,48]⟩] 9)
    rw [<-hwB,<-hZ];simpa using this
  have hO0:Va.Own (Z+1) (.slice (some ⟨Z+1,0,none⟩) 2 2) [bBegin,bVersion] wB:=⟨rfl,.inr ⟨Z+1,2,_,rfl,Nat.le_refl _,hrow,Nat.le_refl _,by decide,rfl,rfl⟩⟩
  have hbox:wB.cell? ⟨Z,0,none⟩=some (.slice A n c):=by
    rw [<-hwB,World.cell?_alloc_lt _ _ _ (by simp;omega),<-hZ];simp
  have hszB1:wB.heap.size<=Z+2:=by omega
  have hszB2:Z+2<=wB.heap.size:=by omega
  have hO0':=Lib.hid hO0
  have hZ':=Lib.hid hZ
  have hbB:Below (Z+1) wB wB:=Below.refl _ _
  clear hn h3 h4 hck hp hT htot hrow hO0 hszB
  go_enter Tryz.func146,Tryz.ntmps146
  go_wp2
  clear hwB hZ
  go_loopw [3,12] (fun s3 s12 wr=>∃ k:Nat,s12=.int .i64 (k:Int)/\k<=n/\Hid (Va.Own (Z+1) s3 ([bBegin,bVersion]++(Ls.take k).map pr) wr)/\Below (Z+1) wB wr) (fun s3 s12 wr=>n - (RowKit.intOf s12).toNat)
  case atStart=>exact ⟨0,rfl,Nat.zero_le _,Lib.hid (by have q:=hO0'.out;rw [List.take_zero];exact q),hbB⟩
  case round =>
    obtain ⟨k,rfl,hk,hown,hbw1⟩:=hrel
    have hbw:Below Z w wr:=B0.trans (hbw1.mono (by omega))
    have hszr:=hbw1.size
    by_cases hlt:k < n
    · have hl:Ls[k]?=some (Ls[k]'(by have:=hn'.out;omega)):=List.getElem?_eq_getElem _
      obtain ⟨L,hle⟩:∃ L,Ls[k]'(by have:=hn'.out;omega)=L:=⟨_,rfl⟩
      have hmem:L∈Ls:=by rw [<-hle];exact List.getElem_mem _
      rw [hle] at hl
      obtain ⟨rfl,hg⟩:=h3'.out (by omega)
      have hbwZ:Below w.heap.size w wr:=by rw [hZ'.out];exact hbw
      obtain ⟨a1,a2,a4,pA,pn,pc,e1,e2,e4,hpn,hpp,g0,g1,g2,g3⟩:=LinesAt.line h4'.out hg hbwZ hl
      have hLat:LineAt wr (.agg #[.string a1,.string a2,.slice pA pn pc,.string a4]) L:=⟨.slice pA pn pc,by rw [e1,e2,e4],hpp⟩
      have hbx:Below wr.heap.size wr (wr.alloc (.cells #[.string a1,.string a2,.slice pA pn pc,.string a4] 203)):=(Below.refl _ _).alloc (Nat.le_refl _) _
      have hprl:=hp'.out L hmem
      have hc0:=hck'.out L hmem
      have cP:=Li.print_any _ L _ (hLat.kept hbx) (Li.small_pr (by omega)) (by omega) (Ch.tabs_below hT'.out (belowThen hbwZ hbx))
      have cP2:=cP.mono (fun e w' h=>(show (∃ s:ByteArray,s.data.toList=pr L/\e=.returned (.tuple #[.string s,.int .i64 0]))/\Below (wr.alloc (.cells #[.string a1,.string a2,.slice pA pn pc,.string a4] 203)).heap.size (wr.alloc (.cells #[.string a1,.string a2,.slice pA pn pc,.string a4] 203)) w' from ⟨(by
        rcases h.1 with ⟨h,_⟩ | ⟨_,h⟩
        · exact absurd hc0 h
        · exact h),h.2⟩))
      have htk:(Ls.take (k+1)).map pr=(Ls.take k).map pr++[pr L]:=by
        have hlk:k < Ls.length:=(List.getElem?_eq_some_iff.1 hl).1
        rw [List.take_succ_eq_append_getElem hlk,hle,List.map_append];rfl
      have htk':=Lib.hid htk
      clear hle hl hmem e1 e2 e4 hpn hpp hLat hprl hc0 cP htk hbwZ
      go_wp2_with fail
      go_at_call 165
      refine cP2.mono ?_
      rintro e w3 ⟨⟨s,hs,rfl⟩,hb3⟩
      have hB3:=belowThen hbx hb3
      have hown3:=Lib.hid (hown.out.kept hB3)
      have hBB:=Lib.hid (hbw1.trans (hB3.mono (by omega)))
      have hs':=Lib.hid hs
      have sz3:Z+1<=w3.heap.size:=by have:=hB3.size;omega
      clear cP2 hb3 hs hB3 g0 g1 g2 g3
      go_wp2_with (at_builtin;refine Va.append_str (w0:=w3) s rfl _ _ rfl (Z+1) _ _ w3.heap.size rfl rfl rfl hown3.out ?c1 sz3 ?_)
      case c1=>simp;omega
      intro v7 w7 hown7 hleft7
      have hB7:Below (Z+1) wB w7:=hleft7 _ _ hBB.out (by omega) (by omega)
      have hown7':=Lib.hid hown7
      have hB7':=Lib.hid hB7
      clear hown7 hleft7 hB7
      go_wp2
      go_roundw
      case rel=>exact ⟨k+1,by go_num,by omega,Lib.hid (by rw [htk'.out,<-List.append_assoc];have q:=hown7'.out;rw [hs'.out] at q;first | exact q | (rw [<-List.map_take] at q;exact q)),hB7'.out⟩
      case measure=>simp [RowKit.intOf];omega
    · obtain rfl:k=n:=by omega
      have htk:Ls.take k=Ls:=List.take_of_length_le (by have:=hn'.out;omega)
      have hown2:=hown.out
      rw [htk] at hown2
      have hown3:=Lib.hid hown2
      have sz3:Z+1<=wr.heap.size:=by omega
      have hbw':=Lib.hid hbw
      clear htk hown hown2 hbw1
      go_wp2_with (at_builtin;refine Va.append_str (w0:=wr) ⟨#[69,78,68,58,86,67,65,82,68]⟩ rfl _ _ rfl (Z+1) _ _ wr.heap.size rfl rfl rfl hown3.out ?c1 sz3 ?_)
      case c1 =>
        have:=hn'.out
        simp
        omega
      intro v7 w7 hown7 hleft7
      have hB7:Below w.heap.size w w7:=by rw [hZ'.out];exact hleft7 _ _ hbw'.out (by omega) (by omega)
      have hown8:Va.Own (Z+1) v7 (rowsT Ls) w7:=hown7
      have hcall:Calls Tryz.prog 170 #[v7] w7 fun e w'=>e=.returned (.string ⟨(Fo.foldAll (rowsT Ls)).toArray⟩)/\Below w7.heap.size w7 w':=by
        rcases Fo.Own.reads (show Fo.Own (Z+1) v7 (rowsT Ls) w7 from hown8) with ⟨_,h⟩ | ⟨g,cap,rfl,_,hgl,hrd⟩
        · exact absurd h (by unfold rowsT;simp)
        · exact Fo.fold_some g 0 cap (rowsT Ls) w7 (Ch.tabs_below hT'.out hB7) hgl hrd htot'.out
      rw [hcd'.out] at hcall
      obtain ⟨x,hx⟩:∃ x:ByteArray,(⟨(cardT Ls).toArray⟩:ByteArray)=x:=⟨_,rfl⟩
      have hxd:=Lib.hid (show x.data.toList=cardT Ls by rw [<-hx])
      rw [hx] at hcall
      have hB7':=Lib.hid hB7
      clear hown7 hown8 hleft7 hB7 hx
      go_wp2_with fail
      go_at_call 170
      refine hcall.mono ?_
      rintro e w8 ⟨rfl,hb8⟩
      go_wp2
      go_ret
      exact ⟨⟨x,hxd.out,rfl⟩,belowThen hB7'.out hb8⟩
end Ca
end Go.Proofs.YtobfaibofhmpgaaGreatDoor
