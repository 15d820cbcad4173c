import Derived.Test.YtobfaibofhmpgaaGreatDoorAp26
import Derived.Shelf.Strings.SlTrimAscii
import Derived.RangeFuncBox
import Derived.OwnWalkIn
import Derived.RangeFuncWrites
import Derived.RangeFuncLeaves
import Derived.RangeFuncNested
import Derived.RangeFuncBound
import Derived.RangeFuncCalls
import Derived.Shelf.Abstract
import Derived.Shelf.RegionOpen
import Derived.TacticsInMore
import Derived.LoopNIn
import Derived.LoopIn
set_option linter.unusedVariables false
set_option maxHeartbeats 4000000
set_option maxRecDepth 100000
namespace Go.Proofs.YtobfaibofhmpgaaGreatDoor
namespace Ch
open Go.Lib Go.RowKit
theorem isEmpty_no (s:ByteArray) (h:s.size≠0):s.toList.isEmpty=false:=by
  rw [<-decide_eq_emptyBytes s]
  exact decide_eq_false (fun e=>h (by rw [e];rfl))
theorem isEmpty_yes (s:ByteArray) (h:s.size=0):s.toList.isEmpty=true:=by
  rw [<-decide_eq_emptyBytes s]
  exact decide_eq_true (ByteArray.ext (Array.eq_empty_of_size_eq_zero h))
def numE (p:Nat × Bool):Ending:=.returned (.tuple #[.int .u64 (p.1:Int),.bool p.2])
theorem isD_no {c:UInt8} (h:c.toNat < 48\/57 < c.toNat):isD c=false:=decide_eq_false (by omega)
theorem isD_yes {c:UInt8} (h1:48<=c.toNat) (h2:c.toNat<=57):isD c=true:=decide_eq_true ⟨h1,h2⟩
theorem number_any (s:ByteArray) (m:Nat) (w:World) (hs:s.size<=9223372036854775807) (hm:m<=18446744073709551615) :
    Calls Tryz.prog 24 #[.string s,.int .u64 (m:Int)] w fun e w'=>e=numE (numS s.data.toList m)/\w=w':=by
  have hsl:s.size=s.data.toList.length:=Lib.size_eq s
  by_cases h0:s.size=0
  · have hE:=isEmpty_yes s h0
    have hn:s.data.toList=[]:=List.eq_nil_of_length_eq_zero (by omega)
    rw [hn]
    clear hn hsl h0
    go_enter Tryz.func24,Tryz.ntmps24
    go_wp2
    go_ret2
    exact ⟨rfl,rfl⟩
  have hE:=isEmpty_no s h0
  have hne:s.data.toList≠[]:=fun h=>h0 (by rw [hsl,h];rfl)
  have h0z:0 < s.size:=by omega
  have hsl':=Lib.hid hsl
  have hfst:s.data.toList.getD 0 0=s[0]'h0z:=by
    simp only [List.getD_eq_getElem?_getD]
    rw [List.getElem?_eq_getElem (by omega)]
    rfl
  by_cases h1:lead0 s.data.toList=true
  · rw [numS_lead h1]
    have h2:1 < s.size/\(s[0]'h0z).toNat=48:=by
      have h:=of_decide_eq_true h1
      rw [hfst,<-hsl] at h
      exact h
    obtain ⟨h3,h4⟩:=h2
    have h5:(((s[0]'h0z).toNat:Int)==48)=true:=by simp;omega
    have h4':=Lib.hid h4
    clear h1 h4 hsl hfst hne h0
    go_enter Tryz.func24,Tryz.ntmps24
    go_wp2
    go_ret2
    exact ⟨rfl,rfl⟩
  have h2:¬ (1 < s.size/\(s[0]'h0z).toNat=48):=by
    intro h
    apply h1
    unfold lead0
    rw [hfst,<-hsl]
    exact decide_eq_true h
  have h2':=Lib.hid h2
  rw [Bool.not_eq_true] at h1
  have h1':=Lib.hid h1
  have hne':=Lib.hid hne
  have hcase:¬ 1 < s.size\/(1 < s.size/\(((s[0]'h0z).toNat:Int)==48)=false):=by
    by_cases h:1 < s.size
    · exact .inr ⟨h,by simp;omega⟩
    · exact .inl h
  clear h2 h1 hne hfst hsl
  rcases hcase with hc | ⟨hc,hc'⟩
  all_goals
    go_enter Tryz.func24,Tryz.ntmps24
    go_wp2
    go_loop [6,7] (fun v i=>∃ k:Nat,k<=s.size/\i=.int .i64 k/\v=.int .u64 (numV (s.data.toList.take k):Int)/\(s.data.toList.take k).all isD=true/\numV (s.data.toList.take k)<=m) (fun _ i=>s.size - (RowKit.intOf i).toNat)
    case atStart=>exact ⟨0,Nat.zero_le _,rfl,rfl,rfl,Nat.zero_le _⟩
    case round =>
      obtain ⟨k,hk,rfl,rfl,hd,hvm⟩:=hrel
      have hd':=Lib.hid hd
      clear hd
      obtain ⟨v,hv⟩:∃ v,numV (s.data.toList.take k)=v:=⟨_,rfl⟩
      rw [hv] at hvm ⊢
      have hv':=Lib.hid hv
      clear hv
      by_cases hlt:k < s.size
      · have hkl:k < s.data.toList.length:=by rw [<-hsl'.out];exact hlt
        obtain ⟨c,hc0⟩:∃ c,s[k]'hlt=c:=⟨_,rfl⟩
        have hsk:=Lib.hid (show s.data.toList[k]'hkl=c by rw [<-hc0];simp;rfl)
        have hcl:=c.toNat_lt
        by_cases d1:c.toNat < 48
        · have hres:=Lib.hid (numS_digit (most:=m) hkl (by rw [hsk.out];exact isD_no (.inl d1)))
          go_wp2
          go_ret2
          exact ⟨by rw [hres.out];rfl,rfl⟩
        by_cases d2:57 < c.toNat
        · have hres:=Lib.hid (numS_digit (most:=m) hkl (by rw [hsk.out];exact isD_no (.inr d2)))
          go_wp2
          go_ret2
          exact ⟨by rw [hres.out];rfl,rfl⟩
        by_cases d3:10*v+(c.toNat - 48)<=m
        · have hst:=Lib.hid (all_take_step s.data.toList k hkl hd'.out (by rw [hsk.out];exact isD_yes (by omega) (by omega)))
          have hsv:=Lib.hid (numV_step s.data.toList k hkl)
          go_wp2
          go_round
          case rel=>exact ⟨k+1,by omega,by go_num,by rw [hsv.out,hv'.out,hsk.out];go_num,hst.out,by rw [hsv.out,hv'.out,hsk.out];exact d3⟩
          case measure=>simp [RowKit.intOf];omega
        · have hres:=Lib.hid (numS_over (most:=m) hkl (by rw [hsk.out,hv'.out];omega))
          go_wp2
          all_goals
            go_ret2
            exact ⟨by rw [hres.out];rfl,rfl⟩
      · have hks:k=s.size:=by omega
        have hall:s.data.toList.take k=s.data.toList:=List.take_of_length_le (by rw [<-hsl'.out];omega)
        have hd2:=hd'.out
        have hv2:=hv'.out
        rw [hall] at hd2 hv2
        have hres:=Lib.hid (numS_yes (most:=m) hne'.out h1'.out hd2 (by rw [hv2];exact hvm))
        have hv3:=Lib.hid hv2
        clear hks hall hd2 hv2
        go_wp2
        go_ret2
        exact ⟨by rw [hres.out,hv3.out];rfl,rfl⟩
end Ch
namespace Co
open Go.Lib Go.RowKit Go.Shelf
theorem below_then {a b c:World} (h1:Below a.heap.size a b) (h2:Below b.heap.size b c):Below a.heap.size a c:=h1.trans (h2.mono h1.size)
def sv (l:Row):Value:=.string ⟨l.toArray⟩
theorem sv_some (l:Row):∃ x:ByteArray,sv l=.string x/\x.data.toList=l:=⟨⟨l.toArray⟩,rfl,by simp⟩
def PreP (s t:ByteArray) (b:Bool):Prop:=(b=true/\s.data.toList=34 :: t.data.toList)\/(b=false/\t=s/\∀ r,s.data.toList≠34 :: r)
def SufP (s t:ByteArray) (b:Bool):Prop:=(b=true/\s.data.toList=t.data.toList++[34])\/(b=false/\t=s/\∀ r,s.data.toList≠r++[34])
theorem PreP.size {s t:ByteArray} {b:Bool} (h:PreP s t b):t.size<=s.size:=by
  rcases h with ⟨_,h⟩ | ⟨_,rfl,_⟩
  · rw [Lib.size_eq,Lib.size_eq,h];simp
  · exact Nat.le_refl _
theorem SufP.size {s t:ByteArray} {b:Bool} (h:SufP s t b):t.size<=s.size:=by
  rcases h with ⟨_,h⟩ | ⟨_,rfl,_⟩
  · rw [Lib.size_eq,Lib.size_eq,h];simp
  · exact Nat.le_refl _
theorem par_pre {s t u:ByteArray} {b c:Bool} (h1:PreP s t b) (h2:SufP t u c):par s.data.toList=if (b && c)=true then (Ch.numS u.data.toList most).1 else 0:=by
  rcases h1 with ⟨rfl,h1⟩ | ⟨rfl,rfl,h1⟩
  · rcases h2 with ⟨rfl,h2⟩ | ⟨rfl,rfl,h2⟩
    · rw [h1,h2,par_marks];rfl
    · rcases par_form s.data.toList with ⟨d,e,_⟩ | ⟨_,e⟩
      · rw [h1] at e
        exact absurd (List.cons.inj e).2 (h2 d)
      · exact e
  · rcases par_form t.data.toList with ⟨d,e,_⟩ | ⟨_,e⟩
    · exact absurd e (h1 _)
    · exact e
theorem num_no {l:Row} {m n:Nat} (h:Ch.numS l m=(n,false)):n=0:=by
  unfold Ch.numS at h
  split at h
  · cases h
  · cases h;rfl
theorem preLite_any (s:ByteArray) (w:World) (hs:s.size<=9223372036854775807) :
    Calls Tryz.prog 48 #[.string s,.string ⟨#[34]⟩] w fun e w'=>(∃ (t:ByteArray) (b:Bool),PreP s t b/\e=.returned (.tuple #[.string t,.bool b]))/\w'=w:=by
  have cH:=Tryz.stringslite_HasPrefix s ⟨#[34]⟩ w
  rw [show (⟨#[34]⟩:ByteArray).data.toList=[34] from rfl] at cH
  by_cases hp:Lib.hasPrefix s.data.toList [34]=true
  · rw [hp] at cH
    obtain ⟨q,hq⟩:=List.isPrefixOf_iff_prefix.1 (show [34].isPrefixOf s.data.toList=true from hp)
    have h1:1<=s.size:=by rw [Lib.size_eq,<-hq];simp
    have h1':1<=s.size:=h1
    have hfin:PreP s (s.extract 1 s.size) true:=by
      left
      refine ⟨rfl,?_⟩
      rw [Lib.extract_to_end]
      rw [<-hq];rfl
    have hfin':=Lib.hid hfin
    clear hfin hp h1 hq
    go_enter Tryz.func48,Tryz.ntmps48
    go_wp2_with (go_at_call 73;refine cH.mono ?_;rintro e w' ⟨rfl,rfl⟩)
    go_ret2
    exact ⟨⟨_,_,hfin'.out,rfl⟩,rfl⟩
  · rw [Bool.eq_false_iff.2 hp] at cH
    have hfin:PreP s s false:=by
      right
      refine ⟨rfl,rfl,fun r hr=>hp ?_⟩
      rw [hr]
      unfold Lib.hasPrefix
      simp [List.isPrefixOf]
    have hfin':=Lib.hid hfin
    clear hfin hp
    go_enter Tryz.func48,Tryz.ntmps48
    go_wp2_with (go_at_call 73;refine cH.mono ?_;rintro e w' ⟨rfl,rfl⟩)
    go_ret2
    exact ⟨⟨_,_,hfin'.out,rfl⟩,rfl⟩
theorem sufLite_any (s:ByteArray) (w:World) (hs:s.size<=9223372036854775807) :
    Calls Tryz.prog 185 #[.string s,.string ⟨#[34]⟩] w fun e w'=>(∃ (t:ByteArray) (b:Bool),SufP s t b/\e=.returned (.tuple #[.string t,.bool b]))/\w'=w:=by
  have cH:=Tryz.stringslite_HasSuffix s ⟨#[34]⟩ w hs
  rw [show (⟨#[34]⟩:ByteArray).data.toList=[34] from rfl] at cH
  by_cases hp:Lib.hasSuffix s.data.toList [34]=true
  · rw [hp] at cH
    obtain ⟨r,hr⟩:=List.isSuffixOf_iff_suffix.1 (show [34].isSuffixOf s.data.toList=true from hp)
    have hl:s.size=r.length+1:=by rw [Lib.size_eq,<-hr];simp
    obtain ⟨N,hN⟩:∃ N,s.size - 1=N:=⟨_,rfl⟩
    have h1':(s.size:Int) - 1=(N:Int):=by omega
    have h2':N<=s.size:=by omega
    have hw:IntKind.i64.wrap (N:Int)=(N:Int):=IntWalk.i64_in _ (by omega)
    have hfin:SufP s (s.extract 0 N) true:=by
      left
      refine ⟨rfl,?_⟩
      have e:(s.extract 0 N).data.toList=s.data.toList.take N:=by rw [Lib.extract_data];rfl
      have hk:N=r.length:=by omega
      rw [e,<-hr,hk,List.take_left]
    have hfin':=Lib.hid hfin
    clear hfin hp hr hl
    go_enter Tryz.func185,Tryz.ntmps185
    go_wp2_with (go_at_call 211;refine cH.mono ?_;rintro e w' ⟨rfl,rfl⟩)
    go_ret2
    exact ⟨⟨_,_,hfin'.out,rfl⟩,rfl⟩
  · rw [Bool.eq_false_iff.2 hp] at cH
    have hfin:SufP s s false:=by
      right
      refine ⟨rfl,rfl,fun r hr=>hp ?_⟩
      show [34].isSuffixOf s.data.toList=true
      rw [List.isSuffixOf_iff_suffix]
      exact ⟨r,hr.symm⟩
    have hfin':=Lib.hid hfin
    clear hfin hp
    go_enter Tryz.func185,Tryz.ntmps185
    go_wp2_with (go_at_call 211;refine cH.mono ?_;rintro e w' ⟨rfl,rfl⟩)
    go_ret2
    exact ⟨⟨_,_,hfin'.out,rfl⟩,rfl⟩
theorem pre_any (s:ByteArray) (w:World) (hs:s.size<=9223372036854775807) :
    Calls Tryz.prog 22 #[.string s,.string ⟨#[34]⟩] w fun e w'=>(∃ (t:ByteArray) (b:Bool),PreP s t b/\e=.returned (.tuple #[.string t,.bool b]))/\w'=w:=by
  go_enter Tryz.func22,Tryz.ntmps22
  go_wp2_with fail
  go_at_call 48
  refine (preLite_any s w hs).mono ?_
  rintro e w1 ⟨⟨t,b,h,rfl⟩,rfl⟩
  have h':=Lib.hid h
  clear h
  go_wp2
  go_ret2
  exact ⟨⟨_,_,h'.out,rfl⟩,rfl⟩
theorem suf_any (s:ByteArray) (w:World) (hs:s.size<=9223372036854775807) :
    Calls Tryz.prog 153 #[.string s,.string ⟨#[34]⟩] w fun e w'=>(∃ (t:ByteArray) (b:Bool),SufP s t b/\e=.returned (.tuple #[.string t,.bool b]))/\w'=w:=by
  go_enter Tryz.func153,Tryz.ntmps153
  go_wp2_with fail
  go_at_call 185
  refine (sufLite_any s w hs).mono ?_
  rintro e w1 ⟨⟨t,b,h,rfl⟩,rfl⟩
  have h':=Lib.hid h
  clear h
  go_wp2
  go_ret2
  exact ⟨⟨_,_,h'.out,rfl⟩,rfl⟩
def parE (l:Row):Ending:=.returned (.tuple #[.int .i64 (par l:Int),.bool (decide (par l≠0))])
theorem parE_no {l:Row} (h:par l=0):parE l=.returned (.tuple #[.int .i64 0,.bool false]):=by unfold parE;rw [h];rfl
theorem parE_yes {l:Row} {n:Nat} (h:par l=n) (h0:n≠0):parE l=.returned (.tuple #[.int .i64 (n:Int),.bool true]):=by unfold parE;rw [h,decide_eq_true h0]
theorem parse_any (s:ByteArray) (w:World) (hs:s.size<=9223372036854775807) :
    Calls Tryz.prog 136 #[.string s] w fun e w'=>e=parE s.data.toList/\w'=w:=by
  obtain ⟨E,hE⟩:∃ E,parE s.data.toList=E:=⟨_,rfl⟩
  rw [hE]
  have hE':=Lib.hid hE
  clear hE
  go_enter Tryz.func136,Tryz.ntmps136
  go_wp2_with fail
  go_at_call 22
  refine (pre_any s w hs).mono ?_
  rintro e w1 ⟨⟨t,b,h1,rfl⟩,rfl⟩
  have ht:=h1.size
  have h1':=Lib.hid h1
  clear h1
  go_wp2_with fail
  go_at_call 153
  refine (suf_any t w1 (by omega)).mono ?_
  rintro e w2 ⟨⟨u,c,h2,rfl⟩,rfl⟩
  have hu:=h2.size
  have h2':=Lib.hid h2
  clear h2
  have cN:=Ch.number_any u 4611686018427387904 w2 (by omega) (by decide)
  rw [show ((4611686018427387904:Nat):Int)=4611686018427387904 from rfl] at cN
  obtain ⟨⟨n,ok⟩,hn⟩:∃ p,Ch.numS u.data.toList 4611686018427387904=p:=⟨_,rfl⟩
  rw [hn] at cN
  have hle:n<=4611686018427387904:=by have:=Ch.numS_le u.data.toList 4611686018427387904;rw [hn] at this;exact this
  have hp:par s.data.toList=if (b && c)=true then n else 0:=by rw [par_pre h1'.out h2'.out];unfold most;rw [hn]
  have h0:ok=false->n=0:=fun h=>num_no (by rw [hn,h])
  unfold Ch.numE at cN
  clear hn h1' h2'
  have hp':=Lib.hid hp
  have h0':=Lib.hid h0
  clear hp h0
  go_wp2_with fail
  go_at_call 24
  refine cN.mono ?_
  rintro e w3 ⟨rfl,rfl⟩
  have hno:par s.data.toList=0->E=.returned (.tuple #[.int .i64 0,.bool false]):=fun h=>by rw [<-hE'.out,parE_no h]
  have hno':=Lib.hid hno
  clear hno
  cases b with
  | false =>
    have hf:=Lib.hid (hno'.out (by rw [hp'.out];rfl))
    go_wp2
    go_ret2
    exact ⟨hf.out.symm,rfl⟩
  | true =>
    cases c with
    | false =>
      have hf:=Lib.hid (hno'.out (by rw [hp'.out];rfl))
      go_wp2
      go_ret2
      exact ⟨hf.out.symm,rfl⟩
    | true =>
      cases ok with
      | false =>
        have hf:=Lib.hid (hno'.out (by rw [hp'.out,h0'.out rfl];rfl))
        go_wp2
        go_ret2
        exact ⟨hf.out.symm,rfl⟩
      | true =>
        by_cases hz:n=0
        · have hf:=Lib.hid (hno'.out (by rw [hp'.out,hz];rfl))
          have hq:((n:Int)==0)=true:=by simp [hz]
          clear hz
          go_wp2
          go_ret2
          exact ⟨hf.out.symm,rfl⟩
        · have hf:E=.returned (.tuple #[.int .i64 (n:Int),.bool true]):=by rw [<-hE'.out,parE_yes (n:=n) (by rw [hp'.out];rfl) hz]
          have hf':=Lib.hid hf
          have hq:((n:Int)==0)=false:=by simp [hz]
          have hw:IntKind.i64.wrap (n:Int)=(n:Int):=IntWalk.i64_in _ (by omega)
          clear hz hf
          go_wp2
          go_ret2
          exact ⟨hf'.out.symm,rfl⟩
def blankS:ByteArray:=⟨#[32,9]⟩
theorem blankS_asc:∀ (j:Nat) (b:UInt8),blankS.data.toList[j]?=some b->b.toNat < 128:=by
  intro j b h
  have hm:=List.mem_of_getElem? h
  rw [show blankS.data.toList=[32,9] from rfl] at hm
  simp at hm
  rcases hm with rfl | rfl<;>decide
theorem sTrim_any (s:ByteArray) (w:World) (hs:s.size<=9223372036854775807):Calls Tryz.prog 151 #[.string s,.string ⟨#[32,9]⟩] w fun e w'=>e=.returned (sv (trim s.data.toList))/\Below w.heap.size w w':=by
  refine (Any.strings_Trim_laid Tryz.lays160 (by kernel_rfl) s blankS w hs (by decide) blankS_asc).mono ?_
  rintro e w' ⟨rfl,hb⟩
  refine ⟨?_,hb⟩
  rw [show blankS.data.toList=[32,9] from rfl,Ht.trimS_trim];rfl
theorem bare_any (s:ByteArray) (w:World) (hs:s.size<=9223372036854775807):Calls Tryz.prog 134 #[.string s] w fun e w'=>e=.returned (sv (trim s.data.toList))/\Below w.heap.size w w':=by
  have cT:=sTrim_any s w hs
  obtain ⟨x,hx,_⟩:=sv_some (trim s.data.toList)
  rw [hx] at cT ⊢
  clear hx
  go_enter Tryz.func134,Tryz.ntmps134
  go_wp2_with (go_at_call 151;refine cT.mono ?_;rintro e w' ⟨rfl,hb⟩)
  go_ret
  exact ⟨rfl,hb⟩
end Co
namespace Co
open Go.Lib Go.RowKit
def iv (n:Nat):Value:=.int .i64 (n:Int)
def NsAt (w:World) (v:Value) (ts:List Nat):Prop :=
  ∃ (A:Option Addr) (b off c:Nat),v=.slice A ts.length c/\ts.length<=c/\c<=maxLen/\(0 < ts.length->A=some ⟨b,off,none⟩/\b < w.heap.size)/\
    ∀ (j:Nat) (h:j < ts.length),w.cell? ⟨b,off+j,none⟩=some (iv ts[j])
theorem nsAt_nil (w:World):NsAt w (.slice none 0 0) []:=⟨none,0,0,0,rfl,by simp,by unfold maxLen;omega,fun h=>absurd h (by simp),fun j h=>absurd h (by simp)⟩
theorem ownsRow_at {w:World} {B:Nat} {e:TypeId} {v:Value} {ts:List Nat} (h:w.ownsRow B e 1 v ts.length (ts.map iv)):NsAt w v ts:=by
  obtain ⟨h1,h2 | ⟨g,cap,cur,e1,e2,e3,e4,e5,e6,e7⟩⟩:=h
  · obtain rfl:ts=[]:=List.eq_nil_of_length_eq_zero h2.2
    rw [h2.1];exact nsAt_nil w
  · refine ⟨_,g,0,cap,e1,e4,e5,fun _=>⟨rfl,(Array.getElem?_eq_some_iff.1 e3).1⟩,fun j hj=>?_⟩
    rw [Lib.cell_of_heap e3,Nat.zero_add]
    have:(cur.toList.take (ts.length*1))[j]?=(ts.map iv)[j]?:=by rw [e7]
    rw [List.getElem?_take,if_pos (by omega),List.getElem?_map,List.getElem?_eq_getElem hj] at this
    rw [<-Array.getElem?_toList,this];rfl
theorem ownsRow_form {w:World} {B:Nat} {e:TypeId} {size:Nat} {v:Value} {n:Nat} {xs:List Value} (h:w.ownsRow B e size v n xs):∃ ao c,v=.slice ao n c:=by
  rcases h.2 with ⟨hv,hn⟩ | ⟨g,cap,cur,e1,_⟩
  · exact ⟨none,0,by rw [hv,hn]⟩
  · exact ⟨_,_,e1⟩
theorem infoInt:(Tryz.prog.info? 3).map (fun i=>(i.zero,i.size,i.bytes))=some (some (.int .i64 0),1,8):=by kernel_rfl
def Res3 (n:Nat) (v b e:Value) (W:World):Prop:=Boxed W n 23 v/\Boxed W (n+1) 4 b/\Boxed W (n+2) 44 e
theorem load_box {W:World} {n:Nat} {t ty:TypeId} {v:Value} (h:Boxed W n t v) (hg:(isAgg ty).run Tryz.prog W=.ok false W):(loadVar ty ⟨n,0,none⟩).run Tryz.prog W=.ok v W:=by
  have hc:=h.cell
  simp only [loadVar,Sem.run_bind,hg,Result.andThen,load]
  simp [Sem.run,hc]
theorem res3 {fn:Func} {p q r:Tmp} (h:fn.results=#[.cell p 23,.cell q 4,.cell r 44]) (tmps:Array Value) {W:World} {n:Nat} {v b e:Value} (hR:Res3 n v b e W)
    (hp:tmps.getD p undef=.pointer (some ⟨n,0,none⟩)) (hq:tmps.getD q undef=.pointer (some ⟨n+1,0,none⟩)) (hr:tmps.getD r undef=.pointer (some ⟨n+2,0,none⟩)) :
    (results fn tmps).run Tryz.prog W=.ok (.tuple #[v,b,e]) W:=by
  have l1:=load_box hR.1 (ty:=23) (by simp [isAgg,go_sem])
  have l2:=load_box hR.2.1 (ty:=4) (by simp [isAgg,go_sem])
  have l3:=load_box hR.2.2 (ty:=44) (by simp [isAgg,go_sem])
  have hp':tmps[p]?.getD undef=.pointer (some ⟨n,0,none⟩):=by simpa using hp
  have hq':tmps[q]?.getD undef=.pointer (some ⟨n+1,0,none⟩):=by simpa using hq
  have hr':tmps[r]?.getD undef=.pointer (some ⟨n+2,0,none⟩):=by simpa using hr
  simp [results,h,hp',hq',hr',asAddr,Sem.run_bind,Result.andThen,l1,l2,l3]
end Co
namespace Sq
open Go.RowKit
section
variable {α:Type} {F:Fence} {n:Nat} {P:Program}
def Round (F:Fence) (n:Nat) (P:Program) (l:Nat) (encs:α->Array Value) (Kp:World->World->Prop) (Pr:List α->α->Prop) (J Jx:List α->World->Prop):Prop :=
  ∀ pre x W,J pre W->Pr pre x->YieldAt F n P l (encs x) W fun e W' =>
    (e=.returned (.bool true)/\J (pre++[x]) W'/\Kp W W')\/(e=.returned (.bool false)/\Jx (pre++[x]) W')
def Abide (T:World->World->Prop) (J:List α->World->Prop):Prop:=∀ pre A B,J pre A->T A B->J pre B
def Seq (F:Fence) (n:Nat) (P:Program) (gf:Nat) (lb:Array Value) (encs:α->Array Value) (T Kp:World->World->Prop) (Pr:List α->α->Prop) (K0:World->Prop) (S:List α->Prop):Prop :=
  ∀ (l:Nat) (J Jx:List α->World->Prop) (W:World),Abide T J->Abide T Jx->K0 W->Round F (n - 1) P l encs Kp Pr J Jx->J [] W->
    CallsIn F n P gf (#[.func (.yield l) #[] #[]]++lb) W fun e W'=>(∃ v,e=.returned v)/\((∃ xs,S xs/\J xs W')\/∃ pre,Jx pre W')
def Stands (rec:LoopState->Option Code->Loop) (D:Nat) (st:LoopState) (pe:Option Code) (W:World):Prop :=
  W.heap[D+1]?=some (.loop (rec st pe))/\W.heap[D]?=some (.deferred (some []))
theorem Stands.put {rec:LoopState->Option Code->Loop} {D:Nat} {st:LoopState} {pe:Option Code} {W:World} (h:Stands rec D st pe W) (st':LoopState) (pe':Option Code):Stands rec D st' pe' (W.putObj (D+1) (.loop (rec st' pe'))) :=
  ⟨World.putObj_heap_same (Array.getElem?_eq_some_iff.1 h.1).1,(World.putObj_heap_other (by omega)).trans h.2⟩
theorem Stands.from {rec:LoopState->Option Code->Loop} {D:Nat} {st:LoopState} {pe:Option Code} {W W':World} (h:Stands rec D st pe W) (k:KeepsFrom D W W'):Stands rec D st pe W' :=
  ⟨k.same _ _ (by omega) h.1 rfl,k.same _ _ (Nat.le_refl _) h.2 rfl⟩
theorem wpIn_iter {g:Operand} {ps:Array Tmp} {assign body:Code} {Q:Exit->Act->World->Prop} {a:Act} {w:World}
    (hro:F.round=none) (h1:1<=n) {gf:Nat} {lb:Array Value} (hg:a.eval g=.func (.func gf) #[] lb) (hFg:F.fn gf) (eg:∀ args w,(callFunc gf args).run P w=.ok (.enter gf args) w)
    {encs:α->Array Value} {T Kp:World->World->Prop} {Pr:List α->α->Prop} {K0:World->Prop} {S:List α->Prop} (hseq:Seq F (n - 1) P gf lb encs T Kp Pr K0 S)
    (hK0:∀ o o',K0 ((w.alloc o).alloc o'))
    (hT:∀ A B,T A B->∀ k o,w.heap.size<=k->A.heap[k]?=some o->B.heap[k]?=some o)
    (hKt:∀ {A B C:World},Kp A B->Kp B C->Kp A C)
    (hKb:∀ (W:World) (l:Nat) (o o':Obj),w.heap.size<=l->W.heap[l]?=some o->o.isCells=false->Kp W (W.putObj l o'))
    (hps:∀ x,(encs x).size=ps.size)
    (I:List α->World->Prop) (Ix:Code->List α->World->Prop) (hI:OwnFrom w.heap.size I) (hIx:∀ c,OwnFrom w.heap.size (Ix c)) (hIT:Abide T I) (hIxT:∀ c,Abide T (Ix c)) (h0:I [] w) (a₁:α->Act)
    (hassign:∀ (l:Nat) (x:α) (W:World) (K:Act->World->Prop),K (a₁ x) W->
      assign.wpIn (F.inRound l) (n - 1 - 1) P (Exit.then K (fun _ _ _=>False)) { tmps:=(ps.zip (encs x)).foldl (fun t (p,v)=>t.setIfInBounds p v) a.tmps,defers:=[] } W)
    (hbody:∀ (l:Nat) (pre:List α) (x:α) (W:World),I pre W->Pr pre x->body.wpIn (F.inRound l) (n - 1 - 1) P (ownPostG w.heap.size Kp I Ix (pre++[x]) W) (a₁ x) W)
    (hdone:∀ (D:Nat) (xs:List α) (W:World),w.heap.size<=D->S xs->I xs W->W.heap[D]?=some (.deferred (some []))->Q .normal { a with defers:={ target:=.collected D,args:=#[] } :: a.defers } W)
    (hstop:∀ (D:Nat) (c:Code) (pre:List α) (W:World),w.heap.size<=D->Ix c pre W->W.heap[D]?=some (.deferred (some []))->c.wpIn F n P Q { a with defers:={ target:=.collected D,args:=#[] } :: a.defers } W) :
    (Code.rangeFunc g ps assign body).wpIn F n P Q a w:=by
  obtain ⟨D,hD⟩:∃ D,w.heap.size=D:=⟨_,rfl⟩
  refine wpIn_rangeFunc fun fn hfn=>?_
  obtain ⟨rec,hrec⟩:∃ rec:LoopState->Option Code->Loop,rec=fun st pe=>{ state:=st,pending:=pe,fn,tmps:=a.tmps,params:=ps,assign,body,defers:=D }:=⟨_,rfl⟩
  have hst0:Stands rec D .ready none ((w.alloc (.deferred (some []))).alloc (.loop (rec .ready none))):=by
    subst hD
    refine ⟨?_,(Below.heap_alloc _ _ _ (by simp)).trans (World.alloc_heap_new w _)⟩
    have:=World.alloc_heap_new (w.alloc (.deferred (some []))) (.loop (rec .ready none))
    rwa [World.size_alloc] at this
  have hI0:I [] ((w.alloc (.deferred (some []))).alloc (.loop (rec .ready none))):=hI.alloc _ (hI.alloc _ h0)
  have hk0:=hK0 (.deferred (some [])) (.loop (rec .ready none))
  have hen:(Instr.enterLoop fn a.tmps ps assign body F.round).run P w=.ok (D+1,[{ target:=.collected D,args:=#[] }]) ((w.alloc (.deferred (some []))).alloc (.loop (rec .ready none))):=by
    rw [hro,hrec,<-hD]
    exact run_enterLoop_outer _ _ _ _ _
  generalize (w.alloc (.deferred (some []))).alloc (.loop (rec .ready none))=W1 at hst0 hI0 hk0 hen
  refine ⟨D+1,[{ target:=.collected D,args:=#[] }],W1,{ target:=.fn (.func gf) lb,args:=#[.func (.yield (D+1)) #[] #[]] },W1,gf,#[.func (.yield (D+1)) #[] #[]]++lb,W1,hen,?_,?_,?_,fun _=>h1,?_⟩
  · simp only [resolve,hg]
    simp [go_sem]
  · intro f' hf'
    simp [Target.leads] at hf'
    subst hf'
    exact hFg
  · simp [invoke,go_sem,eg]
  have hTS:∀ {st:LoopState} {pe:Option Code} {A B:World},T A B->Stands rec D st pe A->Stands rec D st pe B:=fun ht hs =>
    ⟨hT _ _ ht _ _ (by omega) hs.1,hT _ _ ht _ _ (by omega) hs.2⟩
  -- a round's end,by the way in which the body was left
  have hend:∀ (jump:Option Code) (W:World),Stands rec D .busy none W->(Instr.endRound (D+1) jump).run P W=.ok (.bool jump.isNone) (W.putObj (D+1) (.loop (rec (if jump.isNone then .ready else .done) jump))):=fun jump W hs=>by
    have h:=run_endRound (P:=P) jump hs.1
    rw [hrec] at h ⊢
    exact h
  refine (hseq (D+1) (fun pre W=>I pre W/\Stands rec D .ready none W) (fun pre W=>∃ c,Ix c pre W/\Stands rec D .done (some c) W) W1
    (fun pre A B hs ht=>⟨hIT pre A B hs.1 ht,hTS ht hs.2⟩) (fun pre A B ⟨c,hs,hk⟩ ht=>⟨c,hIxT c pre A B hs ht,hTS ht hk⟩) hk0 ?_ ⟨hI0,hst0⟩).mono ?_
  · rintro pre x W ⟨hi,hs⟩ hpr
    have hy:=run_yield (P:=P) (args:=encs x) hs.1 (by rw [hrec];exact hps x)
    rw [hrec] at hy
    obtain ⟨WB,hWB⟩:∃ WB,W.putObj (D+1) (.loop (rec .busy none))=WB:=⟨_,rfl⟩
    have hbg:(Instr.beginRound (D+1)).run P W=.ok () WB:=by
      have h:=run_beginRound (P:=P) hs.1 (by rw [hrec])
      rw [<-hWB]
      rw [hrec] at h ⊢
      exact h
    refine ⟨fn,_,assign,body,hy,roundIn_of_wpIn hfn (hassign _ x W _ ⟨_,hbg,?_⟩)⟩
    have hs2:=hs.put .busy none
    have hk2:Kp W (W.putObj (D+1) (.loop (rec .busy none))):=hKb _ _ _ _ (by omega) hs.1 rfl
    have hi2:I pre (W.putObj (D+1) (.loop (rec .busy none))):=hI.putObj _ hi (by omega) hs.1 rfl
    rw [hWB] at hs2 hk2 hi2
    have hb:=hbody (D+1) pre x _ hi2 hpr
    refine wpIn_mono hb ?_
    rw [hD]
    rintro e a3 W3 hp
    cases e with
    | normal =>
      obtain ⟨hk3,hkp3,hi3⟩:=hp
      have hs3:=hs2.from hk3
      exact ⟨_,_,hend none W3 hs3,.inl ⟨rfl,⟨hI.putObj _ hi3 (by omega) hs3.1 rfl,hs3.put _ _⟩,hKt (hKt hk2 hkp3) (hKb _ _ _ _ (by omega) hs3.1 rfl)⟩⟩
    | ret =>
      obtain ⟨hk3,hi3⟩:=hp
      have hs3:=hs2.from hk3
      exact ⟨_,_,hend (some .ret) W3 hs3,.inr ⟨rfl,.ret,(hIx _).putObj _ hi3 (by omega) hs3.1 rfl,hs3.put _ _⟩⟩
    | exit id =>
      obtain ⟨hk3,hi3⟩:=hp
      have hs3:=hs2.from hk3
      exact ⟨_,_,hend (some (.exit id)) W3 hs3,.inr ⟨rfl,.exit id,(hIx _).putObj _ hi3 (by omega) hs3.1 rfl,hs3.put _ _⟩⟩
    | goto t =>
      obtain ⟨hk3,hi3⟩:=hp
      have hs3:=hs2.from hk3
      exact ⟨_,_,hend (some (.goto t)) W3 hs3,.inr ⟨rfl,.goto t,(hIx _).putObj _ hi3 (by omega) hs3.1 rfl,hs3.put _ _⟩⟩
    | panic ch=>exact hp.elim
    | outgrown=>exact hp.elim
  · rintro e W2 ⟨⟨v,rfl⟩,(⟨xs,hS,hi,hs⟩ | ⟨pre,c,hi,hs⟩)⟩
    · have h:=run_endLoop (P:=P) hs.1 (by rw [hrec];simp)
      have h2:=hs.put .exhausted none
      have h3:I xs (W2.putObj (D+1) (.loop (rec .exhausted none))):=hI.putObj _ hi (by omega) hs.1 rfl
      rw [hrec] at h h2 h3
      exact ⟨none,_,h,hdone D xs _ (by omega) hS h3 h2.2⟩
    · have h:=run_endLoop (P:=P) hs.1 (by rw [hrec];simp)
      have h2:=hs.put .exhausted (some c)
      have h3:Ix c pre (W2.putObj (D+1) (.loop (rec .exhausted (some c)))):=(hIx c).putObj _ hi (by omega) hs.1 rfl
      rw [hrec] at h h2 h3
      exact ⟨some c,_,h,hstop D c pre _ (by omega) h3 h2.2⟩
end
end Sq
namespace Co
open Go.Lib Go.RowKit Go.Shelf Sq
attribute [local go_sem] Oper.semAt_some
theorem byte_at (l:List UInt8) (c:UInt8):(indexByte l c=-1/\c∉l)\/∃ k:Nat,indexByte l c=k/\k < l.length/\c∉l.take k/\l=l.take k++c :: l.drop (k+1):=by
  have hge:=indexByte_ge l c
  by_cases h:indexByte l c=-1
  · left
    refine ⟨h,fun hm=>?_⟩
    obtain ⟨k,hk⟩:=List.mem_iff_getElem?.1 hm
    exact indexByte_none h k hk
  · right
    obtain ⟨k,hk⟩:∃ k:Nat,indexByte l c=k:=⟨(indexByte l c).toNat,by omega⟩
    obtain ⟨h1,h2⟩:=indexByte_some hk
    obtain ⟨hlt,hv⟩:=List.getElem?_eq_some_iff.1 h1
    refine ⟨k,hk,hlt,fun hm=>?_,?_⟩
    · obtain ⟨j,hj⟩:=List.mem_iff_getElem?.1 hm
      rw [List.getElem?_take] at hj
      split at hj
      · exact h2 j ‹_› hj
      · cases hj
    · conv=>lhs;rw [<-List.take_append_drop k l,List.drop_eq_getElem_cons hlt,hv]
def TB (B:Nat) (X Y:World):Prop:=∃ v,Y=X.setCell ⟨B,0,none⟩ v
def KB (B:Nat) (X Y:World):Prop:=∀ k,B<=k->k < B+3->Y.heap[k]?=X.heap[k]?
def Box3 (B:Nat) (r:ByteArray) (W:World):Prop:=Boxed W B 9 (.string r)/\Boxed W (B+1) 9 (.string ⟨#[44]⟩)/\Boxed W (B+2) 3 (.int .i64 0)
theorem Box3.kept {B:Nat} {r:ByteArray} {X Y:World} (h:Box3 B r X) (k:KB B X Y):Box3 B r Y :=
  ⟨(k B (Nat.le_refl _) (by omega)).trans h.1,(k (B+1) (by omega) (by omega)).trans h.2.1,(k (B+2) (by omega) (by omega)).trans h.2.2⟩
theorem box_other {W:World} {B C:Nat} {t:TypeId} {v:Value} (h:Boxed W C t v) (hne:C≠B) (u:Value):Boxed (W.setCell ⟨B,0,none⟩ u) C t v:=(Below.heap_setCell W ⟨B,0,none⟩ u C hne).trans h
theorem Box3.set {B:Nat} {r:ByteArray} {X:World} (h:Box3 B r X) (r':ByteArray):Box3 B r' (X.setCell ⟨B,0,none⟩ (.string r')) :=
  ⟨h.1.set _,box_other h.2.1 (by omega) _,box_other h.2.2 (by omega) _⟩
def Pr (s:ByteArray) (pre:List ByteArray) (x:ByteArray):Prop:=x.size<=s.size/\∃ r,spl s.data.toList=(pre.map fun y=>y.data.toList)++x.data.toList :: r
def Sx (s:ByteArray) (xs:List ByteArray):Prop:=spl s.data.toList=xs.map fun y=>y.data.toList
def left (B:Nat) (W:World):Nat:=match W.cell? ⟨B,0,none⟩ with | some (.string r)=>r.size | _=>0
theorem left_eq {B:Nat} {r:ByteArray} {W:World} (h:Box3 B r W):left B W=r.size:=by unfold left;rw [h.1.cell]
theorem seq_in (B:Nat) (s:ByteArray) (hs:s.size<=140737488355328) :
    Seq Fence.wide 5 Tryz.prog 182 #[.pointer (some ⟨B+1,0,none⟩),.pointer (some ⟨B,0,none⟩),.pointer (some ⟨B+2,0,none⟩)] (fun x:ByteArray=>#[.string x]) (TB B) (KB B) (Pr s) (Box3 B s) (Sx s):=fun l J Jx W hJ hJx hK hR h0=>by
  have hJ':=Lib.hid hJ
  have hR':=Lib.hid hR
  have hcB:=hK.2.1.cell
  clear hJ hR hJx
  refine callsIn_of_wp Tryz.func182 rfl trivial ?_ rfl
  simp only [Tryz.ntmps182,List.size_toArray,List.length_cons,List.length_nil,Nat.reduceAdd,Nat.reduceSub,Array.replicate_succ,Array.replicate_zero,List.push_toArray,List.append_toArray,List.nil_append,List.cons_append]
  gi_wp2
  gi_loopw [7,8] (fun s7 s8 wr=>∃ (pre:List ByteArray) (r:ByteArray),Box3 B r wr/\r.size<=s.size/\spl s.data.toList=(pre.map fun y=>y.data.toList)++spl r.data.toList/\J pre wr) (fun s7 s8 wr=>left B wr)
  case atStart=>exact ⟨[],s,hK,Nat.le_refl _,rfl,h0⟩
  case round =>
    obtain ⟨pre,r,hB,hsz,hspl,hJs⟩:=hrel
    have c0:=hB.1.cell
    have c1:=hB.2.1.cell
    have c2:=hB.2.2.cell
    have cI:=fun W=>Tryz.strings_Index_one r 44 W
    rcases byte_at r.data.toList 44 with ⟨h1,h2⟩ | ⟨k,h1,h2,h3,h4⟩
    · rw [h1] at cI
      obtain ⟨fn,tmps,assign,body,hy,hRd⟩:=hR'.out pre r wr hJs ⟨hsz,[],by rw [hspl,spl_own h2]⟩
      have hfin:Sx s (pre++[r]):=by unfold Sx;rw [hspl,spl_own h2];simp
      have hfin':=Lib.hid hfin
      clear hfin h1 h2 hspl hJs
      dsimp only at hy
      gi_wp2_with (refine ⟨trivial,?_⟩;gi_at_call 184;refine (callsIn_wide.2 (cI _)).mono ?_;rintro e w' ⟨rfl,rfl⟩)
      refine hRd.mono ?_
      rintro e W3 (⟨rfl,hJ3,hk3⟩ | ⟨rfl,hJx3⟩)
      · gi_wp2
        go_end0
        exact ⟨⟨_,rfl⟩,.inl ⟨_,hfin'.out,hJ3⟩⟩
      · gi_wp2
        go_end0
        exact ⟨⟨_,rfl⟩,.inr ⟨_,hJx3⟩⟩
    · rw [h1] at cI
      rw [<-Lib.size_eq] at h2
      have hkz:(k:Int)<=(r.size:Int):=by omega
      have e1:(r.extract 0 k).data.toList=r.data.toList.take k:=by rw [Lib.extract_data];rfl
      have e2:(r.extract (k+1) r.size).data.toList=r.data.toList.drop (k+1):=Lib.extract_to_end r (k+1)
      have hsp2:spl s.data.toList=(pre.map fun y=>y.data.toList)++(r.extract 0 k).data.toList :: spl (r.extract (k+1) r.size).data.toList:=by
        rw [hspl,e1,e2]
        conv=>lhs;rw [h4]
        rw [spl_at _ h3]
      have hx1:(r.extract 0 k).size=k:=by rw [Lib.size_eq,e1,List.length_take,<-Lib.size_eq];omega
      have hx2:(r.extract (k+1) r.size).size=r.size - (k+1):=by rw [Lib.size_eq,e2,List.length_drop,<-Lib.size_eq]
      obtain ⟨fn,tmps,assign,body,hy,hRd⟩:=hR'.out pre (r.extract 0 k) wr hJs ⟨by omega,_,hsp2⟩
      have hx1':=Lib.hid hx1
      have hx2':=Lib.hid hx2
      have hsp2':=Lib.hid hsp2
      have hw0:IntKind.i64.wrap (k:Int)=(k:Int):=IntWalk.i64_in _ (by omega)
      have hw:IntKind.i64.wrap ((k:Int)+1)=(k:Int)+1:=IntWalk.i64_in _ (by omega)
      clear h1 h3 h4 hspl hJs hx1 hx2 hsp2 e1 e2
      dsimp only at hy
      gi_wp2_with (refine ⟨trivial,?_⟩;gi_at_call 184;refine (callsIn_wide.2 (cI _)).mono ?_;rintro e w' ⟨rfl,rfl⟩)
      refine hRd.mono ?_
      rintro e W3 (⟨rfl,hJ3,hk3⟩ | ⟨rfl,hJx3⟩)
      · have hB3:=hB.kept hk3
        have d0:=hB3.1.cell
        have d1:=hB3.2.1.cell
        have f0:=hB3.1.frozen
        gi_wp2
        go_roundw
        case rel=>exact ⟨pre++[r.extract 0 k],r.extract (k+1) r.size,hB3.set _,by rw [hx2'.out];omega,by rw [hsp2'.out];simp,hJ'.out _ _ _ hJ3 ⟨_,rfl⟩⟩
        case measure=>rw [left_eq (hB3.set _),left_eq hB,hx2'.out];omega
      · gi_wp2
        refine bodyPost_ret (results_none rfl _ _ _) rfl ?_
        exact ⟨⟨_,rfl⟩,.inr ⟨_,hJx3⟩⟩
end Co
end Go.Proofs.YtobfaibofhmpgaaGreatDoor
