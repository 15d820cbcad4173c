import Derived.Test.YtobfaibofhmpgaaGreatDoorAp24
import Derived.Test.YtobfaibofhmpgaaGreatDoorAp28
set_option linter.unusedVariables false
set_option maxHeartbeats 16000000
set_option maxRecDepth 100000
namespace Go.Proofs.YtobfaibofhmpgaaGreatDoor
namespace Sc
open Go.Lib Go.RowKit
theorem below_drewN {a w:World} (n:Nat) (h:Below a.heap.size a w):Below a.heap.size a (w.drewN n):=⟨h.os,h.tape,h.output,h.size,h.block⟩
def CutP (c:UInt8) (t:ByteArray) (e:Ending):Prop :=
  (c∉t.data.toList/\e=.returned (.tuple #[.string t,.string ⟨#[]⟩,.bool false]))\/
  ∃ a r:ByteArray,c∉a.data.toList/\t.data.toList=a.data.toList++c :: r.data.toList/\e=.returned (.tuple #[.string a,.string r,.bool true])
theorem byte_at (l:List UInt8) (c:UInt8):(indexByte l c=-1/\c∉l)\/∃ k:Nat,indexByte l c=k/\k < l.length/\c∉l.take k/\l=l.take k++c :: l.drop (k+1):=by
  have hge:=indexByte_ge l c
  by_cases h:indexByte l c=-1
  · left
    refine ⟨h,fun hm=>?_⟩
    obtain ⟨k,hk⟩:=List.mem_iff_getElem?.1 hm
    exact indexByte_none h k hk
  · right
    obtain ⟨k,hk⟩:∃ k:Nat,indexByte l c=k:=⟨(indexByte l c).toNat,by omega⟩
    obtain ⟨h1,h2⟩:=indexByte_some hk
    obtain ⟨hlt,hv⟩:=List.getElem?_eq_some_iff.1 h1
    refine ⟨k,hk,hlt,fun hm=>?_,?_⟩
    · obtain ⟨j,hj⟩:=List.mem_iff_getElem?.1 hm
      rw [List.getElem?_take] at hj
      split at hj
      · exact h2 j ‹_› hj
      · cases hj
    · conv=>lhs;rw [<-List.take_append_drop k l,List.drop_eq_getElem_cons hlt,hv]
theorem cutLite_any (c:UInt8) (t:ByteArray) (w:World) (hs:t.size<=140737488355328) :
    Calls Tryz.prog 49 #[.string t,.string ⟨#[c]⟩] w fun e w'=>CutP c t e/\Below w.heap.size w w':=by
  have cI:=fun W=>Tryz.stringslite_Index_one t c W
  rcases byte_at t.data.toList c with ⟨h1,h2⟩ | ⟨k,h1,h2,h3,h4⟩
  · rw [h1] at cI
    have hfin:CutP c t (.returned (.tuple #[.string t,.string ⟨#[]⟩,.bool false])):=.inl ⟨h2,rfl⟩
    clear h1 h2
    have hfin':=Lib.hid hfin
    clear hfin
    go_enter Tryz.func49,Tryz.ntmps49
    go_wp2_with (go_at_call 74;refine (cI _).mono ?_;rintro e w' ⟨rfl,rfl⟩)
    go_ret3
    exact ⟨hfin'.out,Below.refl _ _⟩
  · rw [h1] at cI
    rw [<-Lib.size_eq] at h2
    have e1:(t.extract 0 k).data.toList=t.data.toList.take k:=by rw [Lib.extract_data];rfl
    have e2:(t.extract (k+1) t.size).data.toList=t.data.toList.drop (k+1):=Lib.extract_to_end t (k+1)
    have hfin:CutP c t (.returned (.tuple #[.string (t.extract 0 k),.string (t.extract (k+1) t.size),.bool true])) :=
      .inr ⟨_,_,by rw [e1];exact h3,by rw [e1,e2];exact h4,rfl⟩
    clear h1 h3 h4 e1 e2
    have hfin':=Lib.hid hfin
    clear hfin
    have hw:IntKind.i64.wrap ((k:Int)+1)=(k:Int)+1:=IntWalk.i64_in _ (by omega)
    go_enter Tryz.func49,Tryz.ntmps49
    go_wp2_with (go_at_call 74;refine (cI _).mono ?_;rintro e w' ⟨rfl,rfl⟩)
    go_quiet (fail)
    go_wp2
    go_ret3
    exact ⟨hfin'.out,below_drewN _ (Below.refl _ _)⟩
theorem sCut_any (c:UInt8) (t:ByteArray) (w:World) (hs:t.size<=140737488355328) :
    Calls Tryz.prog 23 #[.string t,.string ⟨#[c]⟩] w fun e w'=>CutP c t e/\Below w.heap.size w w':=by
  go_enter Tryz.func23,Tryz.ntmps23
  go_wp2_with fail
  go_at_call 49
  refine (cutLite_any c t w hs).mono ?_
  rintro e w1 ⟨hc,hb⟩
  rcases hc with ⟨h1,rfl⟩ | ⟨a,r,h1,h2,rfl⟩
  · have hfin:CutP c t (.returned (.tuple #[.string t,.string ⟨#[]⟩,.bool false])):=.inl ⟨h1,rfl⟩
    have hfin':=Lib.hid hfin
    clear hfin h1
    go_wp2
    go_ret3
    exact ⟨hfin'.out,hb⟩
  · have hfin:CutP c t (.returned (.tuple #[.string a,.string r,.bool true])):=.inr ⟨a,r,h1,h2,rfl⟩
    have hfin':=Lib.hid hfin
    clear hfin h1 h2
    go_wp2
    go_ret3
    exact ⟨hfin'.out,hb⟩
end Sc
namespace To
open Go.Lib Go.RowKit
theorem right_any (b a:Int) (w:World):Calls Tryz.prog 25 #[tokV b a] w fun e w'=>e=.returned (.bool (rightI b a))/\Below w.heap.size w w':=by
  have hB:Below w.heap.size w (w.alloc (.cells #[.int .i64 b,.int .i64 a] 43)):=(Below.refl _ _).alloc (Nat.le_refl _) _
  unfold rightI
  rw [show decide (0 < b)=decide (1<=b) from decide_eq_decide.2 (by omega)]
  by_cases h1:1<=b
  · by_cases h2:b<=a
    · by_cases h3:a<=4611686018427387904
      · rw [decide_eq_true h1,decide_eq_true h2,decide_eq_true h3]
        go_enter Tryz.func25,Tryz.ntmps25
        go_wp2
        go_ret
        exact ⟨rfl,hB⟩
      · rw [decide_eq_true h1,decide_eq_true h2,decide_eq_false h3]
        go_enter Tryz.func25,Tryz.ntmps25
        go_wp2
        go_ret
        exact ⟨rfl,hB⟩
    · rw [decide_eq_true h1,decide_eq_false h2]
      go_enter Tryz.func25,Tryz.ntmps25
      go_wp2
      go_ret
      exact ⟨rfl,hB⟩
  · rw [decide_eq_false h1]
    go_enter Tryz.func25,Tryz.ntmps25
    go_wp2
    go_ret
    exact ⟨rfl,hB⟩
theorem print_any:PrintC:=by
  intro b a w hb64 ha64 hP
  have cR:=right_any b a
  by_cases hr:1<=b/\b<=a/\a<=(most:Int)
  rotate_left
  · have e1:prT b a=[]:=by unfold prT;rw [if_neg hr]
    have e2:rightI b a=false:=by rw [rightI_is,decide_eq_false hr]
    rw [e1]
    rw [e2] at cR
    clear hr e1 e2 hP
    go_enter Tryz.func89,Tryz.ntmps89
    go_wp2_with fail
    go_at_call 25
    refine (cR _).mono ?_
    rintro e w1 ⟨rfl,hb⟩
    go_wp2
    go_ret
    exact ⟨rfl,below_box hb⟩
  have e1:prT b a=txtT b.toNat a.toNat:=by unfold prT;rw [if_pos hr]
  have e2:rightI b a=true:=by rw [rightI_is,decide_eq_true hr]
  rw [e1]
  rw [e2] at cR
  obtain ⟨n,rfl⟩:∃ n:Nat,b=(n:Int):=⟨b.toNat,by omega⟩
  obtain ⟨m,rfl⟩:∃ m:Nat,a=(m:Int):=⟨a.toNat,by omega⟩
  rw [Int.toNat_natCast,Int.toNat_natCast]
  unfold most at hr
  have cA:=Lib.hid (fun W hW=>Ch.decimal_any n (by omega) W hW)
  have cB:=Lib.hid (fun W hW=>Ch.decimal_any m (by omega) W hW)
  have l1:=dec_len (n:=n) (by unfold most;omega)
  have l2:=dec_len (n:=m) (by unfold most;omega)
  have hj:=Lib.hid (join_txt n m)
  have w1:IntKind.u64.wrap (n:Int)=(n:Int):=IntWalk.u64_in _ (by omega)
  have w2:IntKind.u64.wrap (m:Int)=(m:Int):=IntWalk.u64_in _ (by omega)
  have s1:(⟨(decDigits n).toArray⟩:ByteArray).size<=20:=by rw [Lib.size_eq];simpa using l1
  have s2:(⟨(decDigits m).toArray⟩:ByteArray).size<=20:=by rw [Lib.size_eq];simpa using l2
  generalize (⟨(decDigits n).toArray⟩:ByteArray)=x at cA hj s1
  generalize (⟨(decDigits m).toArray⟩:ByteArray)=y at cB hj s2
  have z1:(⟨#[117,114,110,58,99,97,108,101,112,105,110,58]⟩:ByteArray).size=12:=rfl
  have z2:(⟨#[46]⟩:ByteArray).size=1:=rfl
  obtain ⟨p1,hp1⟩:∃ p,(⟨#[117,114,110,58,99,97,108,101,112,105,110,58]⟩:ByteArray)++x=p:=⟨_,rfl⟩
  obtain ⟨p2,hp2⟩:∃ p,p1++(⟨#[46]⟩:ByteArray)=p:=⟨_,rfl⟩
  obtain ⟨p3,hp3⟩:∃ p,p2++y=p:=⟨_,rfl⟩
  have q1:p1.size=12+x.size:=by rw [<-hp1,ByteArray.size_append];omega
  have q2:p2.size=p1.size+1:=by rw [<-hp2,ByteArray.size_append];omega
  have f1:¬ 9223372036854775807 < (⟨#[117,114,110,58,99,97,108,101,112,105,110,58]⟩:ByteArray).size+x.size:=by omega
  have f1':¬ 9223372036854775807 < 12+x.size:=by omega
  have f2:¬ 9223372036854775807 < p1.size+(⟨#[46]⟩:ByteArray).size:=by omega
  have f2':¬ 9223372036854775807 < p1.size+1:=by omega
  have f3:¬ 9223372036854775807 < p2.size+y.size:=by omega
  rw [hp1,hp2,hp3] at hj
  have hP':=Lib.hid hP
  clear hr e1 e2 l1 l2 s1 s2 z1 z2 q1 q2 hP hb64 ha64
  go_enter Tryz.func89,Tryz.ntmps89
  go_wp2_with fail
  go_at_call 25
  refine (cR _).mono ?_
  rintro e wb ⟨rfl,hb⟩
  have hB:=Lib.hid (below_box hb)
  obtain ⟨x0,x1⟩:=box_two hb
  have hlt:w.heap.size < wb.heap.size:=World.block_lt_of_cell? _ _ x0
  have hpow:=Lib.hid (fun (W:World) (h:Below wb.heap.size wb W)=>Ch.pow_below hP'.out (below_then hB.out h))
  have hSS:=Lib.hid (fun (W:World) (h:Below wb.heap.size wb W)=>(⟨h,(h.cell (p:=⟨w.heap.size,0,none⟩) hlt).trans x0,(h.cell (p:=⟨w.heap.size,1,none⟩) hlt).trans x1⟩:Below wb.heap.size wb W/\W.cell? ⟨w.heap.size,0,none⟩=some (.int .i64 (n:Int))/\W.cell? ⟨w.heap.size,1,none⟩=some (.int .i64 (m:Int))))
  clear hb cR hlt
  go_wp2_with fail
  go_region_held3 (fun W=>Below wb.heap.size wb W/\W.cell? ⟨w.heap.size,0,none⟩=some (.int .i64 (n:Int))/\W.cell? ⟨w.heap.size,1,none⟩=some (.int .i64 (m:Int)))
    (refine hSS.out _ ?_<;>first | exact Below.drew (Below.refl _ _) | exact below_then (And.left (by assumption)) (by assumption) | exact below_then (Below.drew (Below.refl _ _)) (by assumption) | assumption)
    (first | (go_at_call 122;(first | ((with_reducible refine (cA.out _ (hpow.out _ (And.left (by assumption)))).mono ?_);rintro e wx ⟨rfl,hbx⟩) | ((with_reducible refine (cB.out _ (hpow.out _ (And.left (by assumption)))).mono ?_);rintro e wy ⟨rfl,hby⟩))))
  all_goals
    go_wp2
    go_ret
    exact ⟨by rw [hj.out];rfl,below_then hB.out (by first | exact And.left (by assumption) | exact below_then (And.left (by assumption)) (by assumption) | assumption)⟩
theorem check_any:CheckC:=by
  intro b a book lo hi w
  have hB:Below w.heap.size w (w.alloc (.cells #[.int .i64 b,.int .i64 a] 43)):=(Below.refl _ _).alloc (Nat.le_refl _) _
  unfold fitsT
  by_cases h1:b=book
  · have e1:(b==book)=true:=by simp [h1]
    have e1':(b != book)=false:=by simp [h1]
    rw [decide_eq_true h1]
    clear h1
    by_cases h2:lo<=a
    · by_cases h3:a<=hi
      · rw [decide_eq_true h2,decide_eq_true h3,if_pos (by decide)]
        go_enter Tryz.func68,Tryz.ntmps68
        go_wp2
        go_ret
        exact ⟨rfl,hB⟩
      · rw [decide_eq_true h2,decide_eq_false h3,if_neg (by decide)]
        go_enter Tryz.func68,Tryz.ntmps68
        go_wp2
        go_ret
        exact ⟨rfl,hB⟩
    · rw [decide_eq_false h2,if_neg (by simp)]
      go_enter Tryz.func68,Tryz.ntmps68
      go_wp2
      go_ret
      exact ⟨rfl,hB⟩
  · have e1:(b==book)=false:=by simp [h1]
    have e1':(b != book)=true:=by simp [h1]
    rw [decide_eq_false h1,if_neg (by simp)]
    clear h1
    go_enter Tryz.func68,Tryz.ntmps68
    go_wp2
    go_ret
    exact ⟨rfl,hB⟩
def PreP (s t:ByteArray) (b:Bool):Prop:=(b=true/\s.data.toList=pre++t.data.toList)\/(b=false/\t=s/\s.data.toList.take 12≠pre)
theorem preLite_any (s:ByteArray) (w:World) (hs:s.size<=9223372036854775807) :
    Calls Tryz.prog 48 #[.string s,.string ⟨#[117,114,110,58,99,97,108,101,112,105,110,58]⟩] w fun e w'=>(∃ (t:ByteArray) (b:Bool),PreP s t b/\t.size<=s.size/\e=.returned (.tuple #[.string t,.bool b]))/\w'=w:=by
  have cH:=Tryz.stringslite_HasPrefix s ⟨#[117,114,110,58,99,97,108,101,112,105,110,58]⟩ w
  rw [show (⟨#[117,114,110,58,99,97,108,101,112,105,110,58]⟩:ByteArray).data.toList=pre from rfl] at cH
  by_cases hp:Lib.hasPrefix s.data.toList pre=true
  · rw [hp] at cH
    obtain ⟨q,hq⟩:=List.isPrefixOf_iff_prefix.1 (show pre.isPrefixOf s.data.toList=true from hp)
    have h1:12<=s.size:=by rw [Lib.size_eq,<-hq,List.length_append];have:pre.length=12:=rfl;omega
    have h1z:(12:Int)<=(s.size:Int):=by omega
    have hfin:PreP s (s.extract 12 s.size) true:=by
      left
      refine ⟨rfl,?_⟩
      rw [Lib.extract_to_end,<-hq,drop_pre]
    have hsz:(s.extract 12 s.size).size<=s.size:=by simp
    have hfin':=Lib.hid hfin
    have hsz':=Lib.hid hsz
    clear hfin hp hq hsz
    go_enter Tryz.func48,Tryz.ntmps48
    go_wp2_with (go_at_call 73;refine cH.mono ?_;rintro e w ⟨rfl,rfl⟩)
    go_ret2
    exact ⟨⟨_,_,hfin'.out,hsz'.out,rfl⟩,rfl⟩
  · rw [Bool.eq_false_iff.2 hp] at cH
    have hfin:PreP s s false:=by
      right
      refine ⟨rfl,rfl,fun hr=>hp ?_⟩
      show pre.isPrefixOf s.data.toList=true
      rw [List.isPrefixOf_iff_prefix]
      exact ⟨s.data.toList.drop 12,by conv=>rhs;rw [<-List.take_append_drop 12 s.data.toList,hr]⟩
    have hfin':=Lib.hid hfin
    clear hfin hp
    go_enter Tryz.func48,Tryz.ntmps48
    go_wp2_with (go_at_call 73;refine cH.mono ?_;rintro e w ⟨rfl,rfl⟩)
    go_ret2
    exact ⟨⟨_,_,hfin'.out,Nat.le_refl _,rfl⟩,rfl⟩
theorem pre_any (s:ByteArray) (w:World) (hs:s.size<=9223372036854775807) :
    Calls Tryz.prog 22 #[.string s,.string ⟨#[117,114,110,58,99,97,108,101,112,105,110,58]⟩] w fun e w'=>(∃ (t:ByteArray) (b:Bool),PreP s t b/\t.size<=s.size/\e=.returned (.tuple #[.string t,.bool b]))/\w'=w:=by
  go_enter Tryz.func22,Tryz.ntmps22
  go_wp2_with fail
  go_at_call 48
  refine (preLite_any s w hs).mono ?_
  rintro e w1 ⟨⟨t,b,h,hz,rfl⟩,rfl⟩
  have h':=Lib.hid h
  have hz':=Lib.hid hz
  clear h hz
  go_wp2
  go_ret2
  exact ⟨⟨_,_,h'.out,hz'.out,rfl⟩,rfl⟩
theorem numE_is (x:Row) {n:Nat} {ok:Bool} (h:Ch.numS x most=(n,ok)):Ch.numE (Ch.numS x most)=.returned (.tuple #[.int .u64 (n:Int),.bool ok]):=by rw [h];rfl
theorem bool_way (a c d:Bool):a=false\/(a=true/\c=false)\/(a=true/\c=true/\d=false)\/(a=true/\c=true/\d=true):=by
  cases a<;>cases c<;>cases d<;>simp
theorem parse_any:ParseC:=by
  intro s w hs
  obtain ⟨E,hE⟩:∃ E,parE (paT s.data.toList)=E:=⟨_,rfl⟩
  rw [hE]
  obtain ⟨wb,hwb⟩:∃ wb,w.alloc (.cells #[.int .i64 0,.int .i64 0] 43)=wb:=⟨_,rfl⟩
  have hB:Below w.heap.size w wb:=by rw [<-hwb];exact (Below.refl _ _).alloc (Nat.le_refl _) _
  have hk:Zb w.heap.size wb:=by unfold Zb;rw [<-hwb];exact heap_alloc_new w _
  have hno':=Lib.hid (fun (h:paT s.data.toList=none)=>show E=.returned (.tuple #[tokV 0 0,.int .i64 110]) by rw [<-hE,h];rfl)
  have hyes':=Lib.hid (fun (n m:Nat) (h:paT s.data.toList=some (n,m))=>show E=.returned (.tuple #[tokV (n:Int) (m:Int),.int .i64 0]) by rw [<-hE,h];rfl)
  have hB':=Lib.hid hB
  have hk':=Lib.hid hk
  clear hE hB hk
  go_enter Tryz.func10,Tryz.ntmps10
  go_wp2_with fail
  go_at_call 22
  refine (pre_any s wb (by omega)).mono ?_
  rintro e w1 ⟨⟨t,bm,hpre,hts,rfl⟩,hw⟩
  subst hw
  have hpa:(bm=true/\paT s.data.toList=two t.data.toList)\/(bm=false/\paT s.data.toList=none):=by
    rcases hpre with ⟨rfl,h⟩ | ⟨rfl,rfl,h⟩
    · left
      refine ⟨rfl,?_⟩
      unfold paT
      rw [h,take_pre,if_pos rfl,drop_pre]
    · right
      refine ⟨rfl,?_⟩
      unfold paT
      rw [if_neg h]
  clear hpre
  have hpa':=Lib.hid hpa
  clear hpa
  go_wp2_with fail
  go_at_call 23
  refine (Sc.sCut_any 46 t w1 (by omega)).mono ?_
  rintro e w2 ⟨hcut,hb2⟩
  obtain ⟨x,y,bd,rfl,hxy,hxs,hys⟩:∃ (x y:ByteArray) (bd:Bool),e=.returned (.tuple #[.string x,.string y,.bool bd])/\((bd=false/\two t.data.toList=none/\y.data.toList=[])\/(bd=true/\two t.data.toList=if (Ch.numS x.data.toList most).2=true/\(Ch.numS y.data.toList most).2=true/\right (Ch.numS x.data.toList most).1 (Ch.numS y.data.toList most).1 then some ((Ch.numS x.data.toList most).1,(Ch.numS y.data.toList most).1) else none))/\x.size<=t.size/\y.size<=t.size:=by
    rcases hcut with ⟨h,rfl⟩ | ⟨a,r,h,h2,rfl⟩
    · exact ⟨_,_,_,rfl,.inl ⟨rfl,two_none h,rfl⟩,Nat.le_refl _,Nat.zero_le _⟩
    · refine ⟨_,_,_,rfl,.inr ⟨rfl,by rw [h2];exact two_at h⟩,?_,?_⟩
      · rw [Lib.size_eq,Lib.size_eq,h2];simp
      · rw [Lib.size_eq,Lib.size_eq,h2];simp;omega
  clear hcut
  have hxy':=Lib.hid hxy
  clear hxy
  obtain ⟨⟨n,okn⟩,hn⟩:∃ p,Ch.numS x.data.toList most=p:=⟨_,rfl⟩
  obtain ⟨⟨m,okm⟩,hm⟩:∃ p,Ch.numS y.data.toList most=p:=⟨_,rfl⟩
  have ln:=num_le x.data.toList
  have lm:=num_le y.data.toList
  have cN:=Ch.number_any x most w2 (by omega) (by decide)
  have cM:=Ch.number_any y most w2 (by omega) (by decide)
  rw [numE_is _ hn] at cN
  rw [numE_is _ hm] at cM
  rw [hn] at ln
  rw [hm] at lm
  have hall:(bm && (okn && okm))=false->paT s.data.toList=none:=fun h=>by
    rcases hpa'.out with ⟨rfl,hp⟩ | ⟨rfl,hp⟩
    · rw [hp]
      rcases hxy'.out with ⟨_,h2,_⟩ | ⟨_,h2⟩
      · exact h2
      · rw [h2,hn,hm]
        simp at h
        rw [if_neg]
        rintro ⟨h3,h4,_⟩
        simp at h3 h4
        exact absurd h4 (by simpa using h h3)
    · exact hp
  have hyes:bm=true->okn=true->okm=true->paT s.data.toList=if right n m then some (n,m) else none:=fun h1 h3 h4=>by
    rcases hpa'.out with ⟨_,hp⟩ | ⟨h,_⟩
    · rw [hp]
      rcases hxy'.out with ⟨_,_,h⟩ | ⟨_,h5⟩
      · rw [h] at hm
        have h6:(Ch.numS [] most).2=false:=by decide
        rw [hm] at h6
        exact absurd (h6.symm.trans h4) (by decide)
      · rw [h5,hn,hm]
        simp [h3,h4]
    · rw [h] at h1;cases h1
  have hall':=Lib.hid hall
  have hyes2:=Lib.hid hyes
  unfold most at cN cM ln lm
  simp only at ln lm
  rw [show ((4611686018427387904:Nat):Int)=4611686018427387904 from rfl] at cN cM
  have wn:IntKind.i64.wrap (n:Int)=(n:Int):=IntWalk.i64_in _ (by omega)
  have wm:IntKind.i64.wrap (m:Int)=(m:Int):=IntWalk.i64_in _ (by omega)
  have cR:=right_any (n:Int) (m:Int)
  have hrI:rightI (n:Int) (m:Int)=decide (right n m):=by
    rw [rightI_is]
    exact decide_eq_decide.2 (by unfold right most;omega)
  rw [hrI] at cR
  have hk2:=hk'.out.kept hb2
  have hB2:=Lib.hid (below_then hB'.out hb2)
  have hk2':=Lib.hid hk2
  obtain ⟨x0,x1,f0,f1⟩:=zb_cells hk2
  clear hall hyes hn hm hrI hb2 hk2
  have hbA:Below w2.heap.size w2 (w2.alloc (.cells #[.int .i64 (n:Int),.int .i64 (m:Int)] 43)):=(Below.refl _ _).alloc (Nat.le_refl _) _
  have hbA':=Lib.hid hbA
  have hlb:w.heap.size < w2.heap.size:=(Array.getElem?_eq_some_iff.1 hk2'.out).1
  clear hbA
  rcases bool_way bm okn okm with h | ⟨h1,h3⟩ | ⟨h1,h3,h4⟩ | ⟨h1,h3,h4⟩
  case' inl=>have hf:=Lib.hid (hno'.out (hall'.out (by rw [h];rfl)));subst h
  case' inr.inl=>have hf:=Lib.hid (hno'.out (hall'.out (by rw [h1,h3];rfl)));subst h1;subst h3
  case' inr.inr.inl=>have hf:=Lib.hid (hno'.out (hall'.out (by rw [h1,h3,h4];rfl)));subst h1;subst h3;subst h4
  case' inr.inr.inr =>
    have hP:=hyes2.out h1 h3 h4
    subst h1;subst h3;subst h4
    have hP:(decide (right n m)=true/\E=.returned (.tuple #[tokV (n:Int) (m:Int),.int .i64 0]))\/(decide (right n m)=false/\E=.returned (.tuple #[tokV 0 0,.int .i64 110])):=by
      by_cases hr:right n m
      · exact .inl ⟨decide_eq_true hr,hyes'.out n m (by rw [hP,if_pos hr])⟩
      · exact .inr ⟨decide_eq_false hr,hno'.out (by rw [hP,if_neg hr])⟩
    rcases hP with ⟨hr,hf⟩ | ⟨hr,hf⟩
    all_goals
      rw [hr] at cR
      have hf':=Lib.hid hf
      clear hr hf
      go_wp2_with fail
      go_at_call 24
      refine cN.mono ?_
      rintro e w3 ⟨rfl,hw3⟩
      subst hw3
      go_wp2_with fail
      go_at_call 24
      refine cM.mono ?_
      rintro e w4 ⟨rfl,hw4⟩
      subst hw4
      go_wp2_with fail
      go_at_call 25
      refine (cR _).mono ?_
      rintro e w5 ⟨rfl,hb5⟩
      obtain ⟨u0,u1⟩:=box_two hb5
      have hk3:=Lib.hid ((hk2'.out.kept hbA'.out).kept hb5)
      obtain ⟨y0,y1,g0,g1⟩:=zb_cells hk3.out
      have hB3:=Lib.hid (below_then hB2.out (below_then hbA'.out hb5))
      clear hb5
    · go_wp2
      refine bodyPost_ret (v:=.tuple #[tokV (n:Int) (m:Int),.int .i64 0]) ?_ rfl ⟨hf'.out.symm,below_two hB3.out (Nat.le_refl _) _ _⟩
      rw [results_cell_tmp rfl]
      simp [asAddr,Result.andThen,load_two (stored_two hk3.out)]
    · go_wp2
      refine bodyPost_ret (v:=.tuple #[tokV 0 0,.int .i64 110]) ?_ rfl ⟨hf'.out.symm,below_two hB3.out (Nat.le_refl _) _ _⟩
      rw [results_cell_tmp rfl]
      simp [asAddr,Result.andThen,load_two (stored_two hk3.out)]
  all_goals
    clear cR
    go_wp2_with fail
    go_at_call 24
    refine cN.mono ?_
    rintro e w3 ⟨rfl,hw3⟩
    subst hw3
    go_wp2_with fail
    go_at_call 24
    refine cM.mono ?_
    rintro e w4 ⟨rfl,hw4⟩
    subst hw4
    go_wp2
    refine bodyPost_ret (v:=.tuple #[tokV 0 0,.int .i64 110]) ?_ rfl ⟨hf.out.symm,below_two_alloc hB2.out (Nat.le_refl _) (Nat.le_refl _) _ _ _⟩
    rw [results_cell_tmp rfl]
    simp [asAddr,Result.andThen,load_two (stored_alloc hk2'.out _)]
end To
namespace Bo
open Go.Lib Go.RowKit
def envP:Env:=⟨Pa.fits,normE,fun m n t=>Co.hol m n (t:Int),fun m k=>To.prT (m:Int) (k:Int),To.paT⟩
theorem envOk:EnvOk envP:=⟨fun n h=>by have:=Pa.fits_len h;omega,fun d t h=>normE_ok h,fun d c h=>normE_codes h⟩
structure Grd (w0 w:World):Prop where
  tabs:Ch.Tabs w0
  pow:Ch.Pow w0
  low:Below w0.heap.size w0 w
theorem Grd.t {w0 w:World} (h:Grd w0 w):Ch.Tabs w:=Ch.tabs_below h.tabs h.low
theorem Grd.p {w0 w:World} (h:Grd w0 w):Ch.Pow w:=Ch.pow_below h.pow h.low
theorem Grd.below {w0 w w':World} (h:Grd w0 w) (hb:Below w.heap.size w w'):Grd w0 w':=⟨h.tabs,h.pow,h.low.trans (hb.mono h.low.size)⟩
theorem Grd.kp {w0 w w':World} {F:List Nat} (h:Grd w0 w) (hk:Kp F w w') (hF:∀ k∈F,w0.heap.size<=k):Grd w0 w':=⟨h.tabs,h.pow,hk.below h.low hF h.low.size⟩
def ec:List Ent->List Value
  | []=>[]
  | e :: r=>sv e.name :: .int .i64 (e.tag:Int) :: sv e.data :: .bool e.gone :: ec r
def RepIs (B:Nat) (w:World) (v:Value) (r:Rep):Prop:=∃ ev,v=repV (r.st:Int) (r.tag:Int) ⟨r.data.toArray⟩ ev ⟨r.tok.toArray⟩/\w.ownsRow B 38 4 ev r.ents.length (ec r.ents)
theorem rep_st {B:Nat} {w:World} {st:Nat}:RepIs B w (repV (st:Int) 0 noS noE noS) { st:=st }:=⟨noE,rfl,World.ownsRow_nil _ _ _ 4⟩
theorem rep_tag {B:Nat} {w:World} {st tag:Nat}:RepIs B w (repV (st:Int) (tag:Int) noS noE noS) { st:=st,tag:=tag }:=⟨noE,rfl,World.ownsRow_nil _ _ _ 4⟩
def ShDid (w w':World) (sb bm:Nat) (L:Bks) (v:Value) (o:Sh × Rep):Prop :=
  RepIs w.heap.size w' v o.2/\∃ L',ShIs w' sb bm L' o.1.chg/\L'.map Prod.fst=o.1.books/\Kp (fpS sb bm L) w w'/\(∀ k∈fpS sb bm L',k∈fpS sb bm L\/w.heap.size<=k)/\∀ st tag data ev tok,v=repV st tag data ev tok->∀ k,ev.ownBlock=some k->k∉fpS sb bm L'
theorem nilE {st tag:Int} {data tok:ByteArray} {F:List Nat}:∀ st' tag' data' ev tok',repV st tag data noE tok=repV st' tag' data' ev tok'->∀ k,ev.ownBlock=some k->k∉F:=fun _ _ _ ev _ h k hk=>by
  injection h with h
  simp only [Array.mk.injEq,List.cons.injEq] at h
  rw [<-h.2.2.2.1] at hk
  cases hk
theorem ShDid.same {w w':World} {sb bm:Nat} {L:Bks} {s:Sh} {st:Nat} (h:ShIs w sb bm L s.chg) (hL:L.map Prod.fst=s.books) (hb:Below w.heap.size w w'):ShDid w w' sb bm L (repV (st:Int) 0 noS noE noS) (s,{ st:=st }) :=
  ⟨rep_st,L,h.kept hb,hL,Kp.of_below hb,fun k hk=>.inl hk,nilE⟩
theorem sh2 {w:World} {sb bm:Nat} {n:Nat} (h:w.heap[sb]?=some (.cells #[.int .i64 (n:Int),.map (some bm)] 61 (0,0))) {W:World} (hW:W.heap[sb]?=w.heap[sb]?):W.cell? ⟨sb,0,none⟩=some (.int .i64 (n:Int))/\W.cell? ⟨sb,1,none⟩=some (.map (some bm))/\W.frozen? ⟨sb,0,none⟩=false :=
  ⟨Lib.cell_of_heap (hW.trans h) 0,Lib.cell_of_heap (hW.trans h) 1,Lib.frozen_of_heap (hW.trans h) 0⟩
theorem turned_kp {w w':World} {b:Nat} (h:w.mapTurned w' b):Kp [b] w w':=by
  have:=h.grown
  exact (Kp.refl [b] w).grown this fun k hk=>by cases hk;exact .inl (by simp)
abbrev repO:Obj:=.cells #[.int .i64 0,.int .i64 0,.string ⟨#[]⟩,.slice none 0 0,.string ⟨#[]⟩] 29
theorem drop_any (w:World) (sb bm:Nat) (L:Bks) (s:Sh) (b:Bk) (n:ByteArray) (h:ShIs w sb bm L s.chg) (hL:L.map Prod.fst=s.books) (hb:bkAt s n.data.toList=some b) (hn:n.size<=maxLen) (hchg:s.chg < 4611686018427387904) :
    Calls Tryz.prog 40 #[pv sb,.string n] w fun e w'=>∃ v,e=.returned v/\ShDid w w' sb bm L v (dropC s b):=by
  have hbn:=bkAt_name hb
  have hk:=keyOf_str Tryz.underlying9 n hn
  obtain ⟨wB,hwB⟩:∃ wB,w.alloc repO=wB:=⟨_,rfl⟩
  have hB0:Below w.heap.size w wB:=by rw [<-hwB];exact (Below.refl _ _).alloc (Nat.le_refl _) _
  have hres:wB.heap[w.heap.size]?=some (.cells #[.int .i64 0,.int .i64 0,.string ⟨#[]⟩,.slice none 0 0,.string ⟨#[]⟩] 29 (0,0)):=by rw [<-hwB];exact heap_alloc_new w _
  have hlts:=h.lt sb (by simp [fpS])
  have hltm:=h.lt bm (by simp [fpS])
  have hsm:sb≠bm:=by have:=h.apart;unfold fpS at this;rw [List.nodup_cons] at this;exact fun e=>this.1 (by rw [e];simp)
  have cN:=next_any wB sb bm s.chg ((hB0.block sb hlts).trans h.blk) hchg
  obtain ⟨w1,hw1⟩:∃ w1,wB.setCell ⟨sb,0,none⟩ (.int .i64 ((s.chg+1:Nat):Int))=w1:=⟨_,rfl⟩
  rw [hw1] at cN
  have hK1:Kp [sb,bm] w w1:=by rw [<-hw1];exact (Kp.of_below hB0).setCell (.inl (by simp)) _
  have hs1:w1.heap[sb]?=some (.cells #[.int .i64 ((s.chg+1:Nat):Int),.map (some bm)] 61 (0,0)):=by
    rw [<-hw1];exact set_heap ((hB0.block sb hlts).trans h.blk) 0 _
  have hm1:MapIs Tryz.prog 9 w1 bm (bM L):=h.map.block (by
    rw [<-hw1,Below.heap_setCell _ _ _ _ (by show bm≠sb;exact fun e=>hsm e.symm)]
    exact hB0.block bm hltm)
  obtain ⟨_,x1,_⟩:=sh2 hs1 (W:=w1) rfl
  have hr1:w1.heap[w.heap.size]?=some (.cells #[.int .i64 0,.int .i64 0,.string ⟨#[]⟩,.slice none 0 0,.string ⟨#[]⟩] 29 (0,0)):=by
    rw [<-hw1,Below.heap_setCell _ _ _ _ (by show w.heap.size≠sb;omega)]
    exact hres
  have cS:=fun W=>status_any 204 W
  have hfin:∀ w2 w3,MapIs Tryz.prog 9 w2 bm (delM (bM L) n.data.toList)->w1.mapTurned w2 bm->Below w2.heap.size w2 w3->w3.heap[w.heap.size]?=some (.cells #[.int .i64 0,.int .i64 0,.string ⟨#[]⟩,.slice none 0 0,.string ⟨#[]⟩] 29 (0,0))/\ShDid w (put5 w3 w.heap.size 204 0 noS noE noS) sb bm L (repV 204 0 noS noE noS) (dropC s b):=fun w2 w3 h2 ht h3=>by
    have hk2:=turned_kp ht
    have hK2:Kp [sb,bm] w w2:=hK1.trans (hk2.mono fun k hk=>by simp at hk;simp [hk])
    have hK3:=hK2.belowThen h3
    have hs2:w2.heap[sb]?=some (.cells #[.int .i64 ((s.chg+1:Nat):Int),.map (some bm)] 61 (0,0)):=(hk2.block sb (Array.getElem?_eq_some_iff.1 hs1).1 (by simp [hsm])).trans hs1
    have hr2:=(hk2.block w.heap.size (Array.getElem?_eq_some_iff.1 hr1).1 (by simp;omega)).trans hr1
    have hr3:=(h3.block w.heap.size (Array.getElem?_eq_some_iff.1 hr2).1).trans hr2
    refine ⟨hr3,rep_st (st:=204),L.filter (fun x=>decide (x.1.name≠n.data.toList)),?_⟩
    have hs3:=(h3.block sb (Array.getElem?_eq_some_iff.1 hs2).1).trans hs2
    have hK4:Kp [sb,bm] w (put5 w3 w.heap.size 204 0 noS noE noS):=hK3.put5 (Nat.le_refl _) _ _ _ _ _
    have hF:=h.fewer (n:=n.data.toList) (w':=put5 w3 w.heap.size 204 0 noS noE noS) (chg':=s.chg+1) hK4 (by rw [put5_block _ _ _ _ _ _ _ (by omega)];exact hs3) (by
      have:MapIs Tryz.prog 9 w3 bm (delM (bM L) n.data.toList):=h2.block (h3.block bm h2.lt)
      exact this.block (put5_block _ _ _ _ _ _ _ (by omega)))
    refine ⟨hF.1,?_,hK4.mono fun k hk=>by simp at hk;rcases hk with rfl | rfl<;>simp [fpS],fun k hk=>.inl (hF.2 k hk),nilE⟩
    show _=s.books.filter fun x=>decide (x.name≠b.name)
    rw [hbn]
    exact delL_fst hL _
  have hfin':=Lib.hid hfin
  clear hfin hK1 hs1 hr1 hres hB0 hL hb
  go_enter Tryz.func40,Tryz.ntmps40
  go_wp2_with fail
  go_at_call 38
  refine cN.mono ?_
  rintro e w1' ⟨rfl,rfl⟩
  clear cN hw1
  go_wp2_with (first | (at_delete;refine wp_drop _ rfl _ _ 59 9 rfl 62 keyed Tryz.underlying59 bm _ rfl hm1 _ _ rfl hk ?_;intro w2 hm2 ht2) | fail)
  go_at_call 18
  refine (cS w2).mono ?_
  rintro e w3 ⟨rfl,hb3⟩
  obtain ⟨hr3,hX⟩:=hfin'.out w2 w3 hm2 ht2 hb3
  have hX':=Lib.hid hX
  obtain ⟨p0,p1,p2,p3,p4,f0,f1,f2,f3,f4⟩:=res5 hr3
  clear hX hm1 hm2 ht2 hb3 cS
  go_wp2
  exact rep_fin rfl rfl hr3 ⟨_,rfl,hX'.out⟩
def cardL (l:UInt8):Row:=[66,69,71,73,78,58,86,67,65,82,68,13,10,86,69,82,83,73,79,78,58,52,46,48,13,10,70,78,58]++([l]++[13,10,69,78,68,58,86,67,65,82,68,13,10])
def normIs (t:Row):Bool:=normC t==0 && normT t==t
theorem cards_are:((List.range 26).all fun i=>normIs (cardL (UInt8.ofNat (97+i))))=true:=by kernel_rfl
def cardN (n:Nat):Row:=cardL (UInt8.ofNat (97+n))
theorem cardN_len (n:Nat):(cardN n).length=43:=rfl
theorem cardN_norm {n:Nat} (h:n < 26):normE (cardN n)=.ok (cardN n):=by
  have:=List.all_eq_true.1 cards_are n (List.mem_range.2 h)
  unfold normIs at this
  simp only [Bool.and_eq_true,beq_iff_eq] at this
  unfold normE cardN
  rw [this.1,if_neg (by decide),if_neg (by decide),this.2]
def letN (z:Int):Nat:=(IntKind.u64.wrap z % 26).toNat
theorem letN_lt (z:Int):letN z < 26:=by unfold letN;omega
theorem wrap_pos (z:Int):0<=IntKind.u64.wrap z:=by
  unfold IntKind.wrap
  simp only [IntKind.bits,IntKind.signed]
  simp
  omega
theorem letN_is (z:Int):(IntKind.u64.wrap z).tmod 26=(letN z:Int):=by
  have h0:=wrap_pos z
  have h1:=Int.emod_nonneg (IntKind.u64.wrap z) (b:=26) (by omega)
  unfold letN
  rw [Int.tmod_eq_emod_of_nonneg h0,Int.toNat_of_nonneg h1]
theorem wrap8_small {n:Nat} (h:n < 26):IntKind.u8.wrap (97+(n:Int))=((UInt8.ofNat (97+n)).toNat:Int):=by
  have h2:(UInt8.ofNat (97+n)).toNat=97+n:=by
    rw [UInt8.toNat_ofNat']
    omega
  rw [h2]
  unfold IntKind.wrap
  simp only [IntKind.bits,IntKind.signed,Bool.false_and,Bool.false_eq_true,if_false]
  omega
theorem wrapU_small {n:Nat} (h:n < 26):IntKind.u64.wrap (97+(n:Int))=97+(n:Int):=by
  unfold IntKind.wrap
  simp only [IntKind.bits,IntKind.signed,Bool.false_and,Bool.false_eq_true,if_false]
  omega
theorem card_any (z:Int) (w:World):Calls Tryz.prog 12 #[.int .i64 z] w fun e w'=>e=.returned (.string ⟨(cardN (letN z)).toArray⟩)/\Below w.heap.size w w':=by
  have hm:=letN_is z
  have hl:=letN_lt z
  generalize letN z=n at hm hl ⊢
  have p1:=wrapU_small hl
  have p2:=wrap8_small hl
  unfold cardN
  generalize UInt8.ofNat (97+n)=x at p2 ⊢
  go_enter Tryz.func12,Tryz.ntmps12
  clear hl
  have hcv:(convert 56 9 (.slice (some ⟨w.heap.size,0,none⟩) 1 1)).run Tryz.prog (w.alloc (.cells #[.int .u8 (x.toNat:Int)] 5))=.ok (.string ⟨#[x]⟩) (w.alloc (.cells #[.int .u8 (x.toNat:Int)] 5)):=by
    refine run_convert_bytes_back _ 56 9 5 ⟨w.heap.size,0,none⟩ 1 [x] Tryz.underlying56 Tryz.underlying5 Tryz.underlying9 fun j hj=>?_
    obtain rfl:j=0:=by simp at hj;omega
    rw [show ((⟨w.heap.size,0,none⟩:Addr).add 0)=⟨w.heap.size,0,none⟩ from rfl,Lib.cell_of_heap (heap_alloc_new w _)]
    rfl
  go_wp2
  go_ret
  refine ⟨?_,(Below.refl _ _).alloc (Nat.le_refl _) _⟩
  rfl
end Bo
namespace Bo
open Ca (Sorted Same)
def comp1 (p:Row):List Note->List Note
  | []=>[]
  | n :: r=>if n.name=p then comp1 p r else n :: comp1 n.name r
def compN:List Note->List Note
  | []=>[]
  | n :: r=>n :: comp1 n.name r
def nameN (n:Note):Row:=n.name
theorem not_less {a b:Row} (h:less b a=false):a=b\/less a b=true:=by
  by_cases e:a=b
  · exact .inl e
  · exact .inr (less_total h (fun e'=>e e'.symm))
theorem comp1_spec:∀ (p:Row) (L:List Note),Sorted nameN L->(∀ n∈L,less n.name p=false)->
    (∀ n∈comp1 p L,less p n.name=true)/\Rise ((comp1 p L).map (·.name))/\∀ n,n∈comp1 p L↔n.name≠p/\L.find? (fun x=>decide (x.name=n.name))=some n
  | p,[],_,_=>⟨fun n h=>(by cases h),List.Pairwise.nil,fun n=>by simp [comp1]⟩
  | p, a :: r,hs,hp=>by
    obtain ⟨h1,h2⟩:=List.pairwise_cons.1 hs
    unfold comp1
    split
    · rename_i ha
      obtain ⟨i1,i2,i3⟩:=comp1_spec p r h2 (fun n hn=>hp n (List.mem_cons_of_mem _ hn))
      refine ⟨i1,i2,fun n=>?_⟩
      rw [i3 n]
      constructor
      · rintro ⟨g1,g2⟩
        exact ⟨g1,by rw [List.find?_cons_of_neg (by simp;rw [ha];exact fun e=>g1 e.symm)];exact g2⟩
      · rintro ⟨g1,g2⟩
        rw [List.find?_cons_of_neg (by simp;rw [ha];exact fun e=>g1 e.symm)] at g2
        exact ⟨g1,g2⟩
    · rename_i ha
      have hpa:less p a.name=true:=by
        rcases not_less (hp a (by simp)) with e | e
        · exact absurd e.symm ha
        · exact e
      obtain ⟨i1,i2,i3⟩:=comp1_spec a.name r h2 (fun n hn=>h1 n hn)
      refine ⟨fun n hn=>?_,List.pairwise_cons.2 ⟨fun y hy=>?_,i2⟩,fun n=>?_⟩
      · rcases List.mem_cons.1 hn with rfl | hn
        · exact hpa
        · exact less_trans hpa (i1 n hn)
      · obtain ⟨z,hz,rfl⟩:=List.mem_map.1 hy
        exact i1 z hz
      · rw [List.mem_cons,i3 n]
        by_cases hn:a.name=n.name
        · rw [List.find?_cons_of_pos (by simpa using hn)]
          constructor
          · rintro (rfl | ⟨g,_⟩)
            · exact ⟨ha,rfl⟩
            · exact absurd hn.symm g
          · rintro ⟨_,g⟩
            exact .inl (by injection g with g;exact g.symm)
        · rw [List.find?_cons_of_neg (by simpa using hn)]
          constructor
          · rintro (rfl | ⟨_,g⟩)
            · exact absurd rfl hn
            · refine ⟨fun e=>?_,g⟩
              have:=h1 n (List.mem_of_find?_eq_some g)
              rw [show nameN n=p from e] at this
              exact absurd hpa (by rw [show less p a.name=false from this];simp)
          · rintro ⟨_,g⟩
            exact .inr ⟨fun e=>hn e.symm,g⟩
theorem compN_spec {L:List Note} (h:Sorted nameN L):Rise ((compN L).map (·.name))/\∀ n,n∈compN L↔L.find? (fun x=>decide (x.name=n.name))=some n:=by
  cases L with
  | nil=>exact ⟨List.Pairwise.nil,fun n=>by simp [compN]⟩
  | cons a r =>
    obtain ⟨h1,h2⟩:=List.pairwise_cons.1 h
    obtain ⟨i1,i2,i3⟩:=comp1_spec a.name r h2 (fun n hn=>h1 n hn)
    refine ⟨List.pairwise_cons.2 ⟨fun y hy=>?_,i2⟩,fun n=>?_⟩
    · obtain ⟨z,hz,rfl⟩:=List.mem_map.1 hy
      exact i1 z hz
    · show n∈a :: comp1 a.name r↔_
      rw [List.mem_cons,i3 n]
      by_cases hn:a.name=n.name
      · rw [List.find?_cons_of_pos (by simpa using hn)]
        constructor
        · rintro (rfl | ⟨g,_⟩)
          · rfl
          · exact absurd hn.symm g
        · intro g
          exact .inl (by injection g with g;exact g.symm)
      · rw [List.find?_cons_of_neg (by simpa using hn)]
        constructor
        · rintro (rfl | ⟨_,g⟩)
          · exact absurd rfl hn
          · exact g
        · intro g
          exact .inr ⟨fun e=>hn e.symm,g⟩
theorem find_filter {α:Type} (p:α->Bool):∀ l:List α,l.find? p=(l.filter p).head?
  | []=>rfl
  | a :: l=>by
    cases h:p a
    · rw [List.find?_cons_of_neg (by simp [h]),List.filter_cons_of_neg (by simp [h]),find_filter p l]
    · rw [List.find?_cons_of_pos h,List.filter_cons_of_pos h];rfl
theorem since_rise (b:Bk) (k:Nat):Rise ((since b k).map (·.name)):=by
  have key:∀ (es acc:List Ent),Rise (acc.map (·.name))->((acc++es).map (·.name)).Nodup->Rise ((es.foldl (fun l e=>insBy (fun x=>x.name) e l) acc).map (·.name)):=fun es=>by
    induction es with
    | nil=>intro acc h _;exact h
    | cons e es ih =>
      intro acc h hn
      refine ih _ (rise_ins h fun x hx he=>?_) ?_
      · rw [List.map_append] at hn
        exact (List.nodup_append.1 hn).2.2 _ (List.mem_map_of_mem hx) _ (List.mem_map_of_mem (by simp)) he
      · refine (List.Perm.nodup_iff (List.Perm.map _ ?_)).1 hn
        refine List.perm_middle.trans ?_
        exact ((insBy_perm (fun x:Ent=>x.name) e acc).append_right es).symm
  exact key _ [] List.Pairwise.nil (by rw [List.nil_append];exact since_names b k)
theorem nodup_of {α β:Type} {f:α->β} (l:List α) (h:(l.map f).Nodup):l.Nodup:=by
  unfold List.Nodup at *
  rw [List.pairwise_map] at h
  exact h.imp fun hne e=>hne (by rw [e])
theorem since_eq {b:Bk} {k:Nat} {L:List Note} (hs:Sorted nameN L) (hm:Same nameN L (b.notes.filter fun n=>decide (k < n.chg))):(compN L).filterMap (entOf b)=since b k:=by
  obtain ⟨h1,h2⟩:=compN_spec hs
  have hf:∀ x,L.find? (fun n=>decide (n.name=x))=fst k x b.notes:=fun x=>by
    rw [find_filter]
    have hmx:=hm x
    unfold nameN at hmx
    rw [hmx]
    unfold fst
    rw [find_filter,List.filter_filter]
    congr 1
    refine List.filter_congr fun n _=>?_
    show (decide (n.name=x) && decide (k < n.chg))=decide (k < n.chg/\n.name=x)
    by_cases e1:n.name=x<;>by_cases e2:k < n.chg<;>simp [e1,e2]
  have hmem:∀ n,n∈compN L↔n∈firsts k [] b.notes:=fun n=>by
    rw [h2 n,hf,firsts_mem]
    simp
  have hp:(compN L).Perm (firsts k [] b.notes):=by
    refine (List.perm_ext_iff_of_nodup ?_ ?_).2 hmem
    · exact nodup_of _ h1.nodup
    · exact nodup_of _ (firsts_nodup k [] b.notes)
  refine rise_uniq_by (key:=fun e:Ent=>e.name) ?_ (since_rise b k) ((hp.filterMap _).trans (since_perm b k).symm)
  unfold Rise at *
  rw [List.pairwise_map] at *
  rw [List.pairwise_filterMap]
  refine h1.imp fun {x y} hxy e he e' he'=>?_
  rw [entOf_name he,entOf_name he']
  exact hxy
end Bo
end Go.Proofs.YtobfaibofhmpgaaGreatDoor
