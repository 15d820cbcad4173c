import Derived.Test.YtobfaibofhmpgaaGreatDoorRm41
import Derived.Laws.DeepStrings4
import Derived.Test.YtobfaibofhmpgaaGreatDoorCards
import Derived.Test.YtobfaibofhmpgaaGreatDoorTie
import Derived.PinnedBridge
import Derived.Lib.LaidIn
import Derived.Deep.DeepHandedRow
import Derived.Deep.DeepWitnessRowRef
import Derived.ProofKit
import Derived.OpenShut
import Derived.Test.YtobfaibofhmpgaaGreatDoorRows
import Derived.JoinedCond
set_option linter.unusedVariables false
set_option maxHeartbeats 16000000
set_option maxRecDepth 100000
namespace Go.Proofs.YtobfaibofhmpgaaGreatDoor
namespace Bo
open Go.Lib Go.RowKit
def modL (z:Int) (m:Nat):Nat:=(IntKind.u64.wrap z % (m:Int)).toNat
theorem modL_lt (z:Int) {m:Nat} (h:0 < m):modL z m < m:=by
  unfold modL
  have h1:=Int.emod_nonneg (IntKind.u64.wrap z) (b:=(m:Int)) (by omega)
  have h2:=Int.emod_lt_of_pos (IntKind.u64.wrap z) (b:=(m:Int)) (by omega)
  omega
theorem modL_is (z:Int) {m:Nat} (h:0 < m):(IntKind.u64.wrap z).tmod (m:Int)=(modL z m:Int):=by
  have h0:=wrap_pos z
  have h1:=Int.emod_nonneg (IntKind.u64.wrap z) (b:=(m:Int)) (by omega)
  unfold modL
  rw [Int.tmod_eq_emod_of_nonneg h0,Int.toNat_of_nonneg h1]
def tagB (n:Nat):Row:=34 :: (digF 6 n++[34])
theorem dig8 {n:Nat} (h:n < 10):IntKind.u8.wrap (48+(n:Int))=((UInt8.ofNat (48+n)).toNat:Int):=by
  have h2:(UInt8.ofNat (48+n)).toNat=48+n:=by
    rw [UInt8.toNat_ofNat']
    omega
  rw [h2]
  unfold IntKind.wrap
  simp only [IntKind.bits,IntKind.signed,Bool.false_and,Bool.false_eq_true,if_false]
  omega
theorem cat_rows (a b:Row):(⟨a.toArray⟩:ByteArray)++⟨b.toArray⟩=⟨(a++b).toArray⟩:=by
  apply ByteArray.ext
  apply Array.toList_inj.1
  simp
theorem tag_any (n:Nat) (w:World) (hn:n < 100000):Calls Tryz.prog 13 #[.int .i64 (n:Int)] w fun e w'=>e=.returned (.string ⟨(tagB n).toArray⟩)∧Below w.heap.size w w':=by
  go_enter Tryz.func13,Tryz.ntmps13
  go_wp2
  go_loopw [0,3] (fun s0 s3 wr=>∃ (f m:Nat) (acc:Row),s0=.int .i64 (m:Int)∧s3=.string ⟨acc.toArray⟩∧f≤5∧acc.length+f≤5∧m < 10 ^ (f+1)∧digF (f+1) m++acc=digF 6 n∧Below w.heap.size w wr) (fun s0 s3 wr=>(RowKit.intOf s0).toNat)
  case atStart=>exact ⟨5,n,[],rfl,rfl,Nat.le_refl _,by simp,by omega,List.append_nil _,Below.refl _ _⟩
  case round =>
    obtain ⟨f,m,acc,rfl,rfl,hf,hfl,hm,hd,hbw⟩:=hrel
    have hlen:acc.length≤5:=by omega
    have hlen2:((acc.length:Nat):Int)≤5:=by omega
    have hsz:(⟨acc.toArray⟩:ByteArray).size≤5:=by show acc.toArray.size≤5;rw [List.size_toArray];omega
    have hfl':=Lib.hid hfl
    have hmm:m < 1000000:=Nat.lt_of_lt_of_le hm (Nat.le_trans (Nat.pow_le_pow_right (by decide) (show f+1≤6 by omega)) (by decide))
    have h10:m % 10 < 10:=Nat.mod_lt _ (by decide)
    have p1:((m:Int)).tmod 10=((m % 10:Nat):Int):=by rw [Int.tmod_eq_emod_of_nonneg (by omega)];omega
    have p2:((m:Int)).tdiv 10=((m / 10:Nat):Int):=by rw [Int.tdiv_eq_ediv_of_nonneg (by omega)];omega
    have p3:=dig8 h10
    obtain ⟨x,hx⟩:∃ x,UInt8.ofNat (48+m % 10)=x:=⟨_,rfl⟩
    obtain ⟨r,hr⟩:∃ r,m % 10=r:=⟨_,rfl⟩
    obtain ⟨q,hq⟩:∃ q,m / 10=q:=⟨_,rfl⟩
    rw [hx] at p3
    rw [hr] at p1 p3 h10
    rw [hq] at p2
    have hqm:q≤m:=by omega
    have hcv:(convert 56 9 (.slice (some ⟨wr.heap.size,0,none⟩) 1 1)).run Tryz.prog (wr.alloc (.cells #[.int .u8 (x.toNat:Int)] 5))=.ok (.string ⟨#[x]⟩) (wr.alloc (.cells #[.int .u8 (x.toNat:Int)] 5)):=by
      refine run_convert_bytes_back _ 56 9 5 ⟨wr.heap.size,0,none⟩ 1 [x] Tryz.underlying56 Tryz.underlying5 Tryz.underlying9 fun j hj=>?_
      obtain rfl:j=0:=by simp at hj;omega
      rw [show ((⟨wr.heap.size,0,none⟩:Addr).add 0)=⟨wr.heap.size,0,none⟩ from rfl,Lib.cell_of_heap (heap_alloc_new wr _)]
      rfl
    have hal:Below w.heap.size w (wr.alloc (.cells #[.int .u8 (x.toNat:Int)] 5)):=hbw.alloc hbw.size _
    have hal':=Lib.hid hal
    have hx':=Lib.hid hx
    have hr':=Lib.hid hr
    have hq':=Lib.hid hq
    have hd':=Lib.hid hd
    have hm':=Lib.hid hm
    clear hal hbw hx hr hq hd hm hfl
    by_cases h0:q=0
    · have d0:((q:Int)==0)=true:=by simp;exact h0
      subst h0
      go_wp2
      go_ret
      refine ⟨congrArg (fun x=>Ending.returned (Value.string x)) ?_,hal'.out⟩
      have hdm:digF (f+1) m=[x]:=by
        rw [←hx'.out]
        have hm10:m < 10:=by have:=hq'.out;omega
        show (if m < 10 then _ else _)=_
        rw [if_pos hm10,Nat.mod_eq_of_lt hm10]
      have e:=hd'.out
      rw [hdm] at e
      show (⟨([34]:Row).toArray⟩:ByteArray)++(⟨([x]:Row).toArray⟩++⟨acc.toArray⟩)++⟨([34]:Row).toArray⟩=_
      rw [cat_rows,cat_rows,cat_rows]
      unfold tagB
      rw [←e]
      simp
    · have d0:((q:Int)==0)=false:=by simp;exact h0
      have hm10:¬ m < 10:=fun h=>h0 (by rw [←hq'.out];omega)
      obtain ⟨f',rfl⟩:∃ f',f=f'+1:=by
        cases f with
        | zero=>have:=hm'.out;exact absurd this (by simpa using hm10)
        | succ f'=>exact ⟨f',rfl⟩
      have hdm:digF (f'+1+1) m=digF (f'+1) q++[x]:=by
        rw [←hx'.out,←hq'.out]
        show (if m < 10 then _ else _)=_
        rw [if_neg hm10]
      have e:=hd'.out
      rw [hdm,List.append_assoc] at e
      have hq10:q < 10 ^ (f'+1):=by
        have:=hm'.out
        rw [Nat.pow_succ] at this
        rw [←hq'.out]
        exact Nat.div_lt_of_lt_mul (by rw [Nat.mul_comm];exact this)
      have hcat:=cat_rows [x] acc
      have hlt:q < m:=by have:=hq'.out;omega
      have e':=Lib.hid e
      have hq10':=Lib.hid hq10
      have hcat':=Lib.hid hcat
      clear e hq10 hcat hdm
      go_wp2
      refine ⟨⟨f',q,[x]++acc,rfl,congrArg Value.string hcat'.out,by omega,by have:=hfl'.out;simp;omega,hq10'.out,e'.out,hal'.out⟩,by simp [RowKit.intOf];omega⟩
def At (B sb:Nat) (w:World) (s:Sh) (wr:World):Prop:=∃ F,Shf B sb F s wr∧Grd w wr∧Below w.heap.size w wr
theorem At.kept {B sb:Nat} {w wr w':World} {s:Sh} (h:At B sb w s wr) (hb:Below wr.heap.size wr w'):At B sb w s w':=by
  obtain ⟨F,h1,h2,h3⟩:=h
  exact ⟨F,h1.kept hb,h2.below hb,h3.trans (hb.mono h3.size)⟩
theorem At.doN {B sb:Nat} {w wr:World} {s:Sh} (h:At B sb w s wr) (hB:w.heap.size≤B) (op:Int) (bk nm dt mt nn tk:ByteArray) (pos:Int) (hl:bk.size≤1048576∧nm.size≤1048576∧dt.size≤1048576∧mt.size≤1048576∧nn.size≤1048576∧tk.size≤1048576∧0≤pos∧pos≤1048576) (hchg:s.chg < 4611686018427387904) :
    Calls Tryz.prog 9 #[pv sb,.agg #[.int .i64 op,.string bk,.string nm,.string dt,.string mt,.string nn,.string tk,.slice none 0 0,.int .i64 pos,.int .i64 0,.int .i64 0]] wr fun e w'=>(∃ data tok ao m c,e=.returned (repV ((doC envP s (cmdD op bk nm dt mt nn tk [] pos)).2.st:Int) ((doC envP s (cmdD op bk nm dt mt nn tk [] pos)).2.tag:Int) data (.slice ao m c) tok))∧At B sb w (doC envP s (cmdD op bk nm dt mt nn tk [] pos)).1 w':=by
  obtain ⟨F,h1,h2,h3⟩:=h
  refine (Bo.doN w wr B sb F s op bk nm dt mt nn tk pos h2 h1 hB hl hchg).mono ?_
  rintro e w' ⟨v,rfl,⟨ev,rfl,hrow⟩,F',k1,k2,k3,k4,_⟩
  obtain ⟨ao,m,c,rfl⟩:=row_form hrow
  exact ⟨⟨_,_,_,_,_,rfl⟩,F',k1,k4,k3.below h3 (fun k hk=>Nat.le_trans hB (h1.low k hk)) h3.size⟩
theorem digF_len:∀ f n,(digF f n).length≤f
  | 0,n=>Nat.le_refl _
  | f + 1,n=>by
    unfold digF
    split
    · simp
    · have:=digF_len f (n / 10)
      rw [List.length_append]
      simp;omega
end Bo
namespace Bo
def colN (i:Nat):Row:=[98]++(((tagB i).drop 1).take 1++tagB i)
theorem cols_are:(((List.range 20).map colN).Nodup):=by decide +kernel
theorem cols_fit:((List.range 20).all fun i=>Pa.fits (colN i) && decide ((colN i).length≤64))=true:=by kernel_rfl
theorem tags_are:(((List.range 262).map tagB).Nodup):=by decide +kernel
theorem tags_fit:((List.range 262).all fun i=>Pa.fits (tagB i))=true:=by kernel_rfl
theorem col_fits {i:Nat} (h:i < 20):Pa.fits (colN i)=true:=by
  have:=List.all_eq_true.1 cols_fit i (List.mem_range.2 h)
  simp only [Bool.and_eq_true] at this
  exact this.1
theorem tag_fits {i:Nat} (h:i < 262):Pa.fits (tagB i)=true:=List.all_eq_true.1 tags_fit i (List.mem_range.2 h)
def news (f:Nat→Row):Nat→List Row
  | 0=>[]
  | n+1=>f n :: news f n
theorem news_mem {f:Nat→Row} {x:Row}:∀ {n:Nat},x∈news f n↔∃ j,j < n∧f j=x
  | 0=>by simp [news]
  | n + 1=>by
    rw [news,List.mem_cons,news_mem]
    constructor
    · rintro (rfl | ⟨j,h1,h2⟩)
      · exact ⟨n,by omega,rfl⟩
      · exact ⟨j,by omega,h2⟩
    · rintro ⟨j,h1,h2⟩
      by_cases e:j=n
      · exact .inl (by rw [←h2,e])
      · exact .inr ⟨j,by omega,h2⟩
theorem news_len (f:Nat→Row):∀ n,(news f n).length=n
  | 0=>rfl
  | n+1=>by rw [news,List.length_cons,news_len f n]
theorem nodup_ne {f:Nat→Row} {m:Nat} (h:((List.range m).map f).Nodup) {i j:Nat} (hi:i < m) (hj:j < i):f j≠f i:=fun e=>by
  have h1:((List.range m).map f)[i]?=some (f i):=by rw [List.getElem?_map,List.getElem?_range hi];rfl
  have h2:((List.range m).map f)[j]?=some (f j):=by rw [List.getElem?_map,List.getElem?_range (by omega)];rfl
  have:=(List.getElem?_inj (by rw [List.length_map,List.length_range];omega) h).1 (h2.trans (by rw [e,←h1]))
  omega
structure RoomB (s:Sh) (i:Nat):Prop where
  named:Named s (news colN (min i 16))
  bare:∀ b∈s.books,b.cards=[]
  chg:s.chg≤i
theorem roomB_start:RoomB ⟨0,[]⟩ 0:=⟨List.Perm.refl _,fun b h=>(by cases h),Nat.le_refl _⟩
theorem roomB_make {s:Sh} {i:Nat} (h:RoomB s i) (hi:i < 20) {c:Cmd} (h1:c.op=1) (hc:c.book=colN i):∃ s' r,doC envP s c=(s',r)∧RoomB s' (i+1)∧(i < 16→r.st=201)∧(¬ i < 16→r.st=507):=by
  have hf:envP.fits c.book=true:=by rw [hc];exact col_fits hi
  have hn:bkAt s c.book=none:=named_none h.named fun hm=>by
    rw [hc] at hm
    obtain ⟨j,hj,e⟩:=news_mem.1 hm
    exact nodup_ne cols_are hi (by omega) e
  have hl:s.books.length=min i 16:=by rw [named_len h.named,news_len]
  by_cases h16:i < 16
  · refine ⟨_,_,make_new h1 hf hn (by omega),⟨?_,fun b hb=>?_,?_⟩,fun _=>rfl,fun k=>absurd h16 k⟩
    · have:=named_make h.named ⟨c.book,s.chg+1,s.chg+1,[],[]⟩ (s.chg+1)
      rw [show min (i+1) 16=min i 16+1 by omega]
      show Named _ (colN (min i 16) :: _)
      rw [show min i 16=i by omega] at this ⊢
      rw [←hc]
      exact this
    · have hb':=((insBy_perm (fun b:Bk=>b.name) _ s.books).mem_iff.1 hb)
      rcases List.mem_cons.1 hb' with rfl | hb'
      · rfl
      · exact h.bare b hb'
    · show s.chg+1≤i+1
      have:=h.chg
      omega
  · refine ⟨_,_,make_full h1 hf hn (by omega),⟨?_,h.bare,Nat.le_succ_of_le h.chg⟩,fun k=>absurd k h16,fun _=>rfl⟩
    rw [show min (i+1) 16=min i 16 by omega]
    exact h.named
structure RoomC (n:Row) (s:Sh) (b:Bk) (i:Nat):Prop where
  at_:bkAt s n=some b
  cards:Cards b (news tagB (min i 256))
  chg:s.chg≤20+i
theorem roomC_put {n:Row} {s:Sh} {b:Bk} {i:Nat} (h:RoomC n s b i) (hi:i < 262) {c:Cmd} (hm:May envP c) (hb:c.book=n) (hx:c.name=tagB i):∃ s' b' r,doC envP s c=(s',r)∧RoomC n s' b' (i+1)∧(i < 256→r.st=201)∧(¬ i < 256→r.st=507):=by
  have h1:=h.at_
  rw [←hb] at h1
  have hl:lfAt b c.name=none:=cards_none h.cards fun hm=>by
    rw [hx] at hm
    obtain ⟨j,hj,e⟩:=news_mem.1 hm
    exact nodup_ne tags_are hi (by omega) e
  have hlen:b.cards.length=min i 256:=by rw [cards_len h.cards,news_len]
  by_cases h256:i < 256
  · obtain ⟨b',e1,e2,e3⟩:=put_new h1 hm hl (by omega)
    refine ⟨_,b',_,e1,⟨by rw [←hb];exact e2,?_,by show s.chg+1≤_;have:=h.chg;omega⟩,fun _=>rfl,fun k=>absurd h256 k⟩
    have:=cards_put (l:=⟨c.name,s.chg+1,c.data⟩) (b':=b') h.cards (by rw [e3])
    rw [show min (i+1) 256=min i 256+1 by omega]
    show Cards b' (tagB (min i 256) :: _)
    rw [show min i 256=i by omega] at this ⊢
    rw [←hx]
    exact this
  · refine ⟨s,b,_,put_full h1 hm hl (by omega),⟨h.at_,?_,by have:=h.chg;omega⟩,fun k=>absurd k h256,fun _=>rfl⟩
    rw [show min (i+1) 256=min i 256 by omega]
    exact h.cards
theorem roomC_again {n:Row} {s:Sh} {b:Bk} {i:Nat} (h:RoomC n s b i) (hi:5 < i) {c:Cmd} (hm:May envP c) (hb:c.book=n) (hx:c.name=tagB 5):∃ s' r,doC envP s c=(s',r)∧r.st=204:=by
  have h1:=h.at_
  rw [←hb] at h1
  obtain ⟨l,hl⟩:=cards_some h.cards (n:=c.name) (by rw [hx];exact news_mem.2 ⟨5,by omega,rfl⟩)
  obtain ⟨b',e1,_⟩:=put_old h1 hm hl
  exact ⟨_,_,e1,rfl⟩
theorem roomC_start {s:Sh} {i:Nat} (h:RoomB s i) (h1:1≤i) (h2:i≤20):∃ b rest,s.books=b :: rest∧RoomC b.name s b 0∧b.name.length≤64:=by
  have hl:s.books.length=min i 16:=by rw [named_len h.named,news_len]
  cases hs:s.books with
  | nil=>rw [hs] at hl;simp at hl;omega
  | cons b rest =>
    have hb:b∈s.books:=by rw [hs];simp
    have hn:b.name∈news colN (min i 16):=h.named.mem_iff.1 (List.mem_map_of_mem hb)
    obtain ⟨j,hj,e⟩:=news_mem.1 hn
    refine ⟨b,rest,rfl,⟨?_,?_,by have:=h.chg;omega⟩,?_⟩
    · unfold bkAt
      rw [hs,List.find?_cons_of_pos (by simp)]
    · unfold Cards
      rw [h.bare b hb]
      exact List.Perm.refl _
    · have:=List.all_eq_true.1 cols_fit j (List.mem_range.2 (by omega))
      simp only [Bool.and_eq_true] at this
      rw [←e]
      exact of_decide_eq_true this.2
theorem tagT_may (i:Int) {k:Nat} (h:k < 262) (bk:ByteArray) (ht:Pa.fits (tagB k)=true):May envP (cmdD 3 bk ⟨(tagB k).toArray⟩ ⟨(cardN (letN i)).toArray⟩ zB zB zB [] 0):=by
  have e1:envP.fits=Pa.fits:=rfl
  have e2:envP.norm=normE:=rfl
  refine ⟨rfl,?_,fun t=>hol_none t,?_⟩
  · rw [e1];exact ht
  · rw [e2];exact cardN_norm (letN_lt i)
end Bo
namespace Bo
open Go.Lib Go.RowKit
theorem tagB_len (n:Nat):(tagB n).length≤8:=by
  unfold tagB
  have:=digF_len 6 n
  simp;omega
theorem tagB_two (n:Nat):2≤(tagB n).length:=by unfold tagB;simp
theorem size_of (l:Row):(⟨l.toArray⟩:ByteArray).size=l.length:=by show l.toArray.size=_;exact List.size_toArray
theorem cut_of (l:Row) (a b:Nat):(⟨l.toArray⟩:ByteArray).extract a b=⟨((l.take b).drop a).toArray⟩:=by
  apply ByteArray.ext
  rw [ByteArray.data_extract]
  apply Array.toList_inj.1
  simp [List.extract,List.drop_take]
theorem fld_st (st tag:Int) (d t:ByteArray) (ev:Value) (w:World):(Instr.field 29 (.agg #[.int .i64 st,.int .i64 tag,.string d,ev,.string t]) 0).run Tryz.prog w=.ok (.int .i64 st) w:=by kernel_rfl
theorem At.doE {B sb:Nat} {w wr:World} {s:Sh} (h:At B sb w s wr) (hB:w.heap.size≤B) (op:Int) (bk nm dt mt nn tk:ByteArray) (pos:Int) (hl:bk.size≤1048576∧nm.size≤1048576∧dt.size≤1048576∧mt.size≤1048576∧nn.size≤1048576∧tk.size≤1048576∧0≤pos∧pos≤1048576) (hchg:s.chg < 4611686018427387904) :
    Calls Tryz.prog 9 #[pv sb,.agg #[.int .i64 op,.string bk,.string nm,.string dt,.string mt,.string nn,.string tk,.slice none 0 0,.int .i64 pos,.int .i64 0,.int .i64 0]] wr fun e w'=>(∃ data tok ev,e=.returned (repV ((doC envP s (cmdD op bk nm dt mt nn tk [] pos)).2.st:Int) ((doC envP s (cmdD op bk nm dt mt nn tk [] pos)).2.tag:Int) data ev tok)∧w'.ownsRow wr.heap.size 38 4 ev (doC envP s (cmdD op bk nm dt mt nn tk [] pos)).2.ents.length (ec (doC envP s (cmdD op bk nm dt mt nn tk [] pos)).2.ents))∧At B sb w (doC envP s (cmdD op bk nm dt mt nn tk [] pos)).1 w':=by
  obtain ⟨F,h1,h2,h3⟩:=h
  refine (Bo.doN w wr B sb F s op bk nm dt mt nn tk pos h2 h1 hB hl hchg).mono ?_
  rintro e w' ⟨v,rfl,⟨ev,rfl,hrow⟩,F',k1,k2,k3,k4,_⟩
  exact ⟨⟨_,_,_,rfl,hrow⟩,F',k1,k4,k3.below h3 (fun k hk=>Nat.le_trans hB (h1.low k hk)) h3.size⟩
theorem At.doK {B sb:Nat} {w wr:World} {s:Sh} (h:At B sb w s wr) (hB:w.heap.size≤B) (op:Int) (bk nm dt mt nn tk:ByteArray) (pos:Int) (hl:bk.size≤1048576∧nm.size≤1048576∧dt.size≤1048576∧mt.size≤1048576∧nn.size≤1048576∧tk.size≤1048576∧0≤pos∧pos≤1048576) (hchg:s.chg < 4611686018427387904) (W:World) (b:Nat) (o:Obj) (hb:Below wr.heap.size wr W) (hbb:wr.heap.size≤b) (ho:W.heap[b]?=some o) :
    Calls Tryz.prog 9 #[pv sb,.agg #[.int .i64 op,.string bk,.string nm,.string dt,.string mt,.string nn,.string tk,.slice none 0 0,.int .i64 pos,.int .i64 0,.int .i64 0]] W fun e w'=>(∃ data tok ao m c,e=.returned (repV ((doC envP s (cmdD op bk nm dt mt nn tk [] pos)).2.st:Int) ((doC envP s (cmdD op bk nm dt mt nn tk [] pos)).2.tag:Int) data (.slice ao m c) tok))∧At B sb w (doC envP s (cmdD op bk nm dt mt nn tk [] pos)).1 w'∧w'.heap[b]?=some o∧∀ w2,Kp [b] w' w2→At B sb w (doC envP s (cmdD op bk nm dt mt nn tk [] pos)).1 w2:=by
  obtain ⟨F,h1,h2,h3⟩:=h
  have hlt:∀ k∈F,k < wr.heap.size:=h1.lt
  have hbl:b < W.heap.size:=(Array.getElem?_eq_some_iff.1 ho).1
  have hwr:=h3.size
  have hWr:=hb.size
  refine (Bo.doN w W B sb F s op bk nm dt mt nn tk pos (h2.below hb) (h1.kept hb) hB hl hchg).mono ?_
  rintro e w' ⟨v,rfl,⟨ev,rfl,hrow⟩,F',k1,k2,k3,k4,_⟩
  obtain ⟨ao,m,c,rfl⟩:=row_form hrow
  have hlo:Below w.heap.size w w':=k3.below (h3.trans (hb.mono hwr)) (fun k hk=>Nat.le_trans hB (h1.low k hk)) (by omega)
  refine ⟨⟨_,_,_,_,_,rfl⟩,⟨F',k1,k4,hlo⟩,?_,fun w2 hE=>⟨F',k1.beside hE fun k hk hm=>?_,k4.kp hE fun k hk=>?_,hE.below hlo (fun k hk=>?_) hlo.size⟩⟩
  · rw [k3.block b hbl (fun hm=>by have:=hlt _ hm;omega)]
    exact ho
  · have hm:=List.mem_singleton.1 hm
    rcases k2 k hk with hf | hf
    · have:=hlt k hf;omega
    · omega
  · have hk:=List.mem_singleton.1 hk;omega
  · have hk:=List.mem_singleton.1 hk;omega
theorem kp5 (b:Nat) (w:World) (v0 v1 v2 v3 v4:Value):Kp [b] w (((((w.setCell ⟨b,0,none⟩ v0).setCell ⟨b,1,none⟩ v1).setCell ⟨b,2,none⟩ v2).setCell ⟨b,3,none⟩ v3).setCell ⟨b,4,none⟩ v4) :=
  (((((Kp.refl [b] w).setCell (ad:=⟨b,0,none⟩) (.inl (List.mem_singleton.2 rfl)) v0).setCell (ad:=⟨b,1,none⟩) (.inl (List.mem_singleton.2 rfl)) v1).setCell (ad:=⟨b,2,none⟩) (.inl (List.mem_singleton.2 rfl)) v2).setCell (ad:=⟨b,3,none⟩) (.inl (List.mem_singleton.2 rfl)) v3).setCell (ad:=⟨b,4,none⟩) (.inl (List.mem_singleton.2 rfl)) v4
theorem row_first {w:World} {B size n:Nat} {ty:TypeId} {v x:Value} {xs:List Value} (h:w.ownsRow B ty size v n (x :: xs)) (hn:0 < n) (hs:0 < size):∃ g cap,v=.slice (some ⟨g,0,none⟩) n cap∧w.cell? ⟨g,0,none⟩=some x∧g < w.heap.size∧n≤cap∧cap≤maxLen:=by
  rcases h.2 with ⟨_,h0⟩ | ⟨g,cap,cur,e1,e2,e3,e4,e5,e6,e7⟩
  · omega
  · refine ⟨g,cap,e1,?_,(Array.getElem?_eq_some_iff.1 e3).1,e4,e5⟩
    rw [Lib.cell_of_heap e3]
    have hp:0 < n*size:=Nat.mul_pos hn hs
    have:(cur.toList.take (n*size))[0]?=(x :: xs)[0]?:=by rw [e7]
    rw [List.getElem?_take,if_pos hp] at this
    rw [←Array.getElem?_toList,this]
    rfl
theorem room_walk (nn mm:Int) (w:World) (hG:Grd w w) :
    Calls Tryz.prog 6 #[.int .i64 nn,.int .i64 mm] w fun e w'=>e=.returned (.bool true)∧Below w.heap.size w w':=by
  have cF:=first_any w w hG
  have hG':=Lib.hid hG
  clear hG
  go_enter Tryz.func6,Tryz.ntmps6
  go_wp2_with fail
  go_at_call 7
  refine cF.mono ?_
  rintro e w1 ⟨rfl,hb1⟩
  have cN:=newS w w1 (hG'.out.below hb1)
  have hB:=hb1.size
  have hb1':=Lib.hid hb1
  clear cF hb1
  go_wp2_with fail
  go_at_call 8
  refine cN.mono ?_
  rintro e w2 ⟨sb,F2,rfl,hS2,hb2,hG2⟩
  have hA2:At w1.heap.size sb w ⟨0,[]⟩ w2:=⟨F2,hS2,hG2,hb1'.out.trans (hb2.mono hB)⟩
  obtain ⟨B,hBe⟩:∃ B,w1.heap.size=B:=⟨_,rfl⟩
  rw [hBe] at hA2 hB
  have hA2':=Lib.hid hA2
  have hB':=Lib.hid hB
  have hm:(IntKind.u64.wrap nn).tmod 8=(modL nn 8:Int):=modL_is nn (m:=8) (by decide)
  have hn:=modL_lt nn (m:=8) (by decide)
  obtain ⟨n,hne⟩:∃ n,modL nn 8=n:=⟨_,rfl⟩
  rw [hne] at hm hn
  clear cN hS2 hb2 hG2 hA2 hB hBe hb1' hne
  go_wp2
  go_loopw [22] (fun s22 wr=>∃ (i:Nat) (s:Sh),s22=.int .i64 (i:Int)∧i≤12+n∧RoomB s i∧At B sb w s wr) (fun s22 wr=>12+n - (RowKit.intOf s22).toNat)
  case atStart=>exact ⟨0,_,rfl,Nat.zero_le _,roomB_start,hA2'.out⟩
  case round =>
    obtain ⟨i,s,rfl,hi,hI,hA⟩:=hrel
    have hI':=Lib.hid hI
    have hA':=Lib.hid hA
    by_cases hlt:i < 12+n
    · have cT:=fun W=>tag_any i W (by omega)
      obtain ⟨X,hX⟩:∃ X:ByteArray,(⟨(tagB i).toArray⟩:ByteArray)=X:=⟨_,rfl⟩
      have hXs:X.size=(tagB i).length:=by rw [←hX];exact size_of _
      have hXl:=tagB_len i
      have hX2:=tagB_two i
      have hsl:∀ W,(Instr.slice 9 (.string X) (some (.int .i64 1)) (some (.int .i64 2)) none).run Tryz.prog W=.ok (.string ⟨(((tagB i).drop 1).take 1).toArray⟩) W:=fun W=>by
        rw [run_slice_string_if W 9 X .i64 .i64 1 2 Tryz.underlying9,if_pos ⟨by omega,by omega⟩,if_pos ⟨by omega,by omega⟩]
        congr 2
        show X.extract 1 2=_
        rw [←hX,cut_of]
        rfl
      obtain ⟨Y,hY⟩:∃ Y:ByteArray,(⟨(((tagB i).drop 1).take 1).toArray⟩:ByteArray)=Y:=⟨_,rfl⟩
      have hYs:Y.size≤1:=by rw [←hY,size_of];simp;omega
      have hN:(⟨#[98]⟩:ByteArray)++Y++X=⟨(colN i).toArray⟩:=by
        rw [←hX,←hY,show (⟨#[98]⟩:ByteArray)=⟨([98]:Row).toArray⟩ from rfl,cat_rows,cat_rows]
        unfold colN
        rw [List.append_assoc]
      have hNs:((⟨#[98]⟩:ByteArray)++Y++X).size≤1048576:=by
        rw [hN,size_of]
        unfold colN
        simp
        omega
      have cK:=hA.doK hB'.out 1 ((⟨#[98]⟩:ByteArray)++Y++X) zB zB zB zB zB 0 ⟨hNs,by decide,by decide,by decide,by decide,by decide,by decide,by decide⟩ (by have:=hI.chg;omega)
      have cD:=fun W (hW:At B sb w s W)=>hW.doN hB'.out 1 ((⟨#[98]⟩:ByteArray)++Y++X) zB zB zB zB zB 0 ⟨hNs,by decide,by decide,by decide,by decide,by decide,by decide,by decide⟩ (by have:=hI.chg;omega)
      obtain ⟨s',r,e1,hI2,hr1,hr2⟩:=roomB_make hI (by omega) (c:=cmdD 1 ((⟨#[98]⟩:ByteArray)++Y++X) zB zB zB zB zB [] 0) rfl (by show ((⟨#[98]⟩:ByteArray)++Y++X).data.toList=colN i;rw [hN])
      rw [e1] at cD cK
      rw [hX] at cT
      simp only [hY] at hsl
      have cD':=Lib.hid cD
      have cK':=Lib.hid cK
      have hI2':=Lib.hid hI2
      have hr1':=Lib.hid (And.intro hr1 hr2)
      have hN':=Lib.hid (And.intro hN (And.intro hX hY))
      clear hI hA e1 hI2 hr1 hr2 hN hX hY hNs cD cK
      have q1:¬ 9223372036854775807 < 1+Y.size:=by omega
      have q2:¬ 9223372036854775807 < 1+Y.size+(tagB i).length:=by omega
      go_wp2_with fail
      go_region_held3 (fun _=>True)
        (exact trivial)
        (first
          | (go_at_call 13;have hoo:=hox;refine (cT _).mono ?_;rintro e wy ⟨rfl,hby⟩;have hby2:Below wr.heap.size wr wy:=hbx2.trans (hby.mono hbx2.size);have hoy:=(hby.block _ (Array.getElem?_eq_some_iff.1 hox).1).trans hox;have hle:wr.heap.size≤wr.heap.size:=Nat.le_refl _)
          | (go_at_call 13;have hxx:=hbx2;refine (cT (World.alloc _ _)).mono ?_;rintro e wy ⟨rfl,hby⟩;have hby2:Below wr.heap.size wr wy:=(hbx2.alloc hbx2.size _).trans (hby.mono (hbx2.alloc hbx2.size _).size);have hoy:=(hby.block _ (Array.getElem?_eq_some_iff.1 (heap_alloc_new _ _)).1).trans (heap_alloc_new _ _);have hle:=hbx2.size)
          | (go_at_call 13;have hxx:=hbx2;refine (cT _).mono ?_;rintro e wy ⟨rfl,hby⟩;have hby2:Below wr.heap.size wr wy:=hbx2.trans (hby.mono hbx2.size))
          | (go_at_call 13;refine (cT _).mono ?_;rintro e wx ⟨rfl,hbx⟩;have hbx2:Below wr.heap.size wr wx:=⟨hbx.os,hbx.tape,hbx.output,hbx.size,hbx.block⟩)
          | (go_at_call 9;refine (cK'.out _ _ _ hby2 hle hoy).mono ?_;rintro e wz ⟨⟨dz,tz,az,mz,cz,rfl⟩,hAz,hcz,hAz2⟩;obtain ⟨p0,p1,p2,p3,p4,f0,f1,f2,f3,f4⟩:=res5 hcz)
          | (go_at_call 9;refine (cD'.out _ (hA'.out.kept hby2)).mono ?_;rintro e wz ⟨⟨dz,tz,az,mz,cz,rfl⟩,hAz⟩)
          | (go_at_call 9;refine (cK'.out (World.alloc _ _) _ _ (hby2.alloc hby2.size _) hby2.size (heap_alloc_new _ _)).mono ?_;rintro e wz ⟨⟨dz,tz,az,mz,cz,rfl⟩,hAz,hcz,hAz2⟩;obtain ⟨p0,p1,p2,p3,p4,f0,f1,f2,f3,f4⟩:=res5 hcz)
          | (go_at_call 13;refine (cT (World.drew (World.alloc _ _))).mono ?_;rintro e wx ⟨rfl,hbx⟩;have hbx2:Below wr.heap.size wr wx:=(Below.drew ((Below.refl _ _).alloc (Nat.le_refl _) _)).trans (hbx.mono (Below.drew ((Below.refl wr.heap.size wr).alloc (Nat.le_refl _) _)).size);have hal:=heap_alloc_new wr (Obj.cells #[.int .i64 0,.int .i64 0,.string ⟨#[]⟩,.slice none 0 0,.string ⟨#[]⟩] 29);have hox:=(hbx.block wr.heap.size (Array.getElem?_eq_some_iff.1 hal).1).trans hal))
      · have hc:=hr1'.out
        have hA7:=Lib.hid (hAz.kept ((Below.refl wz.heap.size wz).alloc (Nat.le_refl _) (Obj.cells #[.int .i64 (r.st:Int),.int .i64 (r.tag:Int),.string dz,.slice az mz cz,.string tz] 29)))
        obtain ⟨st,hst⟩:∃ st,r.st=st:=⟨_,rfl⟩
        rw [hst] at hc hA7 ⊢
        clear hst hAz hr1' hN' cK' cD' cT hsl hXs hXl hX2 hYs q1 q2 hby hby2 hbx hbx2 hA' hI'
        by_cases h16:i < 16
        · obtain rfl:st=201:=hc.1 h16
          have d0:(i:Int) < 16:=by omega
          have d1:decide ((i:Int) < 16)=true:=decide_eq_true d0
          clear hc h16
          go_wp2
          all_goals first
            | exact ⟨⟨i+1,s',by go_num,by omega,hI2'.out,hA7.out⟩,by simp [RowKit.intOf];omega⟩
            | (exfalso;simp_all;done)
            | trace_state
        · obtain rfl:st=507:=hc.2 h16
          have d0:¬ (i:Int) < 16:=by omega
          have d2:(16:Int)≤(i:Int):=by omega
          have d1:decide ((i:Int) < 16)=false:=decide_eq_false d0
          have d3:decide ((16:Int)≤(i:Int))=true:=decide_eq_true d2
          clear hc h16
          go_wp2
          all_goals first
            | exact ⟨⟨i+1,s',by go_num,by omega,hI2'.out,hA7.out⟩,by simp [RowKit.intOf];omega⟩
            | (exfalso;simp_all;done)
            | trace_state
      all_goals
        have hc:=hr1'.out
        obtain ⟨st,hst⟩:∃ st,r.st=st:=⟨_,rfl⟩
        rw [hst] at hc ⊢
        clear hst hAz hr1' hN' cK' cD' cT hsl hXs hXl hX2 hYs q1 q2 hA' hI' hcz
        have hAz2':=Lib.hid hAz2
        clear hAz2
        by_cases h16:i < 16
        · obtain rfl:st=201:=hc.1 h16
          have d0:(i:Int) < 16:=by omega
          have d1:decide ((i:Int) < 16)=true:=decide_eq_true d0
          clear hc h16
          go_wp2
          all_goals first
            | exact ⟨⟨i+1,s',by go_num,by omega,hI2'.out,hAz2'.out _ (kp5 _ _ _ _ _ _ _)⟩,by simp [RowKit.intOf];omega⟩
            | (exfalso;simp_all;done)
            | trace_state
        · obtain rfl:st=507:=hc.2 h16
          have d0:¬ (i:Int) < 16:=by omega
          have d2:(16:Int)≤(i:Int):=by omega
          have d1:decide ((i:Int) < 16)=false:=decide_eq_false d0
          have d3:decide ((16:Int)≤(i:Int))=true:=decide_eq_true d2
          clear hc h16
          go_wp2
          all_goals first
            | exact ⟨⟨i+1,s',by go_num,by omega,hI2'.out,hAz2'.out _ (kp5 _ _ _ _ _ _ _)⟩,by simp [RowKit.intOf];omega⟩
            | (exfalso;simp_all;done)
            | trace_state
    · obtain rfl:i=12+n:=by omega
      have cL:=hA.doE hB'.out 6 zB zB zB zB zB zB 0 ⟨by decide,by decide,by decide,by decide,by decide,by decide,by decide,by decide⟩ (by have:=hI.chg;omega)
      have hcm:cmdD 6 zB zB zB zB zB zB [] 0={ cmd0 with op:=6 }:=rfl
      rw [hcm,list_books] at cL
      have hlen:(s.books.map fun b=>(⟨b.name,b.made,[],false⟩:Ent)).length=min (12+n) 16:=by
        rw [List.length_map,named_len hI.named,news_len]
      have hI0:=hI'.out
      obtain ⟨b0,rest,hbk,hC,hbl⟩:=roomC_start hI0 (by omega) (by omega)
      obtain ⟨L,hL⟩:∃ L,(s.books.map fun b=>(⟨b.name,b.made,[],false⟩:Ent)).length=L:=⟨_,rfl⟩
      obtain ⟨X,hX⟩:∃ X,ec (s.books.map fun b=>(⟨b.name,b.made,[],false⟩:Ent))=sv b0.name :: X:=⟨_,by rw [hbk];rfl⟩
      rw [hL] at hlen
      have hL0:0 < L:=by omega
      obtain ⟨N,hN⟩:∃ N:ByteArray,(⟨b0.name.toArray⟩:ByteArray)=N:=⟨_,rfl⟩
      have hNs:N.size≤1048576:=by rw [←hN,size_of];omega
      have hNl:N.data.toList=b0.name:=by rw [←hN]
      have hmin:min ((12:Int)+(n:Int)) 16=(L:Int):=by omega
      have hC':=Lib.hid hC
      have hNl':=Lib.hid hNl
      have hB1:=hB'.out
      have hb0:=Lib.hid hN
      clear hA hcm hA' hI hI0 hbk hbl hC hN hNl hlen hI'
      go_wp2_with fail
      go_at_call 9
      refine cL.mono ?_
      rintro e w4 ⟨⟨d4,t4,ev,rfl,hrow⟩,hA4⟩
      have hrow2:w4.ownsRow wr.heap.size 38 4 ev L (sv b0.name :: X):=by
        have h1:=hrow
        simp only [hL,hX] at h1
        exact h1
      obtain ⟨g,cap,rfl,hg0,hgl,hgc,hgm⟩:=row_first hrow2 hL0 (by decide)
      have hg1:w4.cell? ⟨g,0,none⟩=some (.string N):=by rw [hg0,←hb0.out];rfl
      have hal4:Below w4.heap.size w4 (w4.alloc (.cells #[.int .i64 207,.int .i64 0,.string d4,.slice (some ⟨g,0,none⟩) L cap,.string t4] 29)):=(Below.refl _ _).alloc (Nat.le_refl _) _
      have hA5:=Lib.hid (hA4.kept hal4)
      clear cL hrow hrow2 hg0 hA4 hal4 hX
      have hm2:(IntKind.u64.wrap mm).tmod 12=(modL mm 12:Int):=modL_is mm (m:=12) (by decide)
      have hm3:=modL_lt mm (m:=12) (by decide)
      obtain ⟨m,hme⟩:∃ m,modL mm 12=m:=⟨_,rfl⟩
      rw [hme] at hm2 hm3
      clear hme
      go_wp2
      go_loopw [71] (fun s71 wr=>∃ (i:Nat) (s:Sh) (b:Bk),s71=.int .i64 (i:Int)∧i≤250+m∧RoomC b0.name s b i∧At B sb w s wr) (fun s71 wr=>250+m - (RowKit.intOf s71).toNat)
      case atStart=>exact ⟨0,_,_,rfl,Nat.zero_le _,hC'.out,hA5.out⟩
      case round =>
        obtain ⟨i,s,b,rfl,hi,hI,hA⟩:=hrel
        have hI':=Lib.hid hI
        have hA':=Lib.hid hA
        by_cases hlt:i < 250+m
        · have cG:=tag_any i wr (by omega)
          clear hI hA hA5 hC' hmin hg1 hgl hgc hgm hm hn hm2
          go_wp2_with fail
          go_at_call 13
          refine cG.mono ?_
          rintro e w5 ⟨rfl,hb5⟩
          have hA6:=Lib.hid (hA'.out.kept hb5)
          have cC:=card_any (i:Int) w5
          clear cG hb5
          go_wp2_with fail
          go_at_call 12
          refine cC.mono ?_
          rintro e w6 ⟨rfl,hb6⟩
          have hTl:=tagB_len i
          have cD:=(hA6.out.kept hb6).doN hB1 3 N ⟨(tagB i).toArray⟩ ⟨(cardN (letN (i:Int))).toArray⟩ zB zB zB 0 ⟨hNs,by rw [size_of];omega,by rw [size_of,cardN_len];decide,by decide,by decide,by decide,by decide,by decide⟩ (by have:=hI'.out.chg;omega)
          obtain ⟨s',b',r,e1,hI2,hr1,hr2⟩:=roomC_put hI'.out (by omega) (tagT_may (i:Int) (by omega) N (tag_fits (by omega))) hNl'.out rfl
          rw [e1] at cD
          have hI2':=Lib.hid hI2
          have hr':=Lib.hid (And.intro hr1 hr2)
          generalize (⟨(tagB i).toArray⟩:ByteArray)=nm at cD ⊢
          generalize (⟨(cardN (letN (i:Int))).toArray⟩:ByteArray)=dt at cD ⊢
          clear cC hb6 e1 hI2 hr1 hr2 hTl
          go_wp2_with fail
          go_at_call 9
          refine cD.mono ?_
          rintro e w7 ⟨⟨d7,t7,ao7,m7,c7,rfl⟩,hA7⟩
          have hal7:Below w7.heap.size w7 (w7.alloc (.cells #[.int .i64 (r.st:Int),.int .i64 (r.tag:Int),.string d7,.slice ao7 m7 c7,.string t7] 29)):=(Below.refl _ _).alloc (Nat.le_refl _) _
          have hA8:=Lib.hid (hA7.kept hal7)
          have hc:=hr'.out
          obtain ⟨st,hst⟩:∃ st,r.st=st:=⟨_,rfl⟩
          rw [hst] at hA8 hc ⊢
          clear cD hA7 hal7 hst hr'
          by_cases h16:i < 256
          · obtain rfl:st=201:=hc.1 h16
            have d0:(i:Int) < 256:=by omega
            have d1:decide ((i:Int) < 256)=true:=decide_eq_true d0
            clear hc h16
            go_wp2
            exact ⟨⟨i+1,s',b',by go_num,by omega,hI2'.out,hA8.out⟩,by simp [RowKit.intOf];omega⟩
          · obtain rfl:st=507:=hc.2 h16
            have d0:¬ (i:Int) < 256:=by omega
            have d2:(256:Int)≤(i:Int):=by omega
            have d1:decide ((i:Int) < 256)=false:=decide_eq_false d0
            have d3:decide ((256:Int)≤(i:Int))=true:=decide_eq_true d2
            clear hc h16
            go_wp2
            exact ⟨⟨i+1,s',b',by go_num,by omega,hI2'.out,hA8.out⟩,by simp [RowKit.intOf];omega⟩
        · obtain rfl:i=250+m:=by omega
          have cG:=tag_any 5 wr (by decide)
          rw [show ((5:Nat):Int)=5 from rfl] at cG
          clear hI hA hA5 hC' hmin hg1 hgl hgc hgm hm hn hm2
          go_wp2_with fail
          go_at_call 13
          refine cG.mono ?_
          rintro e w5 ⟨rfl,hb5⟩
          have hA6:=Lib.hid (hA'.out.kept hb5)
          have cC:=card_any 1 w5
          clear cG hb5
          go_wp2_with fail
          go_at_call 12
          refine cC.mono ?_
          rintro e w6 ⟨rfl,hb6⟩
          have cD:=(hA6.out.kept hb6).doN hB1 3 N ⟨(tagB 5).toArray⟩ ⟨(cardN (letN 1)).toArray⟩ zB zB zB 0 ⟨hNs,by decide,by rw [size_of,cardN_len];decide,by decide,by decide,by decide,by decide,by decide⟩ (by have:=hI'.out.chg;omega)
          obtain ⟨s',r,e1,hr1⟩:=roomC_again hI'.out (by omega) (tagT_may 1 (by decide) N (tag_fits (by decide))) hNl'.out rfl
          rw [e1] at cD
          generalize (⟨(tagB 5).toArray⟩:ByteArray)=nm at cD ⊢
          generalize (⟨(cardN (letN 1)).toArray⟩:ByteArray)=dt at cD ⊢
          clear cC hb6 e1
          go_wp2_with fail
          go_at_call 9
          refine cD.mono ?_
          rintro e w7 ⟨⟨d7,t7,ao7,m7,c7,rfl⟩,hA7⟩
          obtain ⟨_,_,_,hbw⟩:=hA7
          have hbw':=Lib.hid hbw
          rw [hr1]
          unfold repV
          have hfd:=fld_st 204 (r.tag:Int) d7 t7 (.slice ao7 m7 c7)
          clear cD hbw hr1
          go_wp2
          go_ret
          exact ⟨rfl,hbw'.out⟩
end Bo
namespace Ch
open Go.Lib Go.RowKit Go.Shelf Go.ChangeShapes Go.WideShapes Go.ChangeAt
theorem own:ownKnob Tryz.prog.godebug=none:=by kernel_rfl
theorem accept_eq:Rows.laid_unicode_utf8_acceptRanges=Lib.acceptData:=by kernel_rfl
theorem first_eq:Rows.laid_unicode_utf8_first=Lib.firstData:=Pinned.utf8First_eq
theorem tabs_of {W : World} (h1 : VarReads Tryz.prog W "unicode/utf8.first" Lib.firstData) (h2 : VarReads Tryz.prog W "unicode/utf8.acceptRanges" Lib.acceptData) : Tabs W :=
  utf8Tabs_of_readsT (U8Types.of196 Tryz.laysValid) ⟨by kernel_rfl,by kernel_rfl,by kernel_rfl,by kernel_rfl,by kernel_rfl,by kernel_rfl,by kernel_rfl⟩ h1 h2
theorem gPow : Tryz.prog.globalNamed "internal/strconv.uint64pow10" = some 3 := by kernel_rfl
theorem tPow:(Tryz.prog.globals[3]?).map (·.type)=some 276:=by kernel_rfl
theorem cPow:Tryz.prog.cellsOf 276=20:=by kernel_rfl
theorem cU64:Tryz.prog.cellsOf 71=1:=by kernel_rfl
theorem pow_eq:(Rows.laid_internal_strconv_uint64pow10:DataW Unit)=Lib.tabData .u64 Lib.pow10Tab:=by kernel_rfl
theorem pow_of {W : World} (h : VarReads Tryz.prog W "internal/strconv.uint64pow10" (Lib.tabData .u64 Lib.pow10Tab)) : Pow W := by
  obtain ⟨g,t,cs,fuel,p,hg,hty,hvar,hd⟩:=h
  obtain rfl:=Option.some.inj (gPow.symm.trans hg)
  obtain rfl:=Option.some.inj (tPow.symm.trans hty)
  unfold Pow Lib.TabIs
  rw [hvar,←cells_of_tab Tryz.underlying276 Tryz.underlying71 cU64 cPow hd]
def de32:List Int:=[0,1,28,2,29,14,24,3,30,22,20,15,25,17,4,8,31,27,13,23,21,19,16,7,26,12,18,6,11,5,10,9]
def de64:List Int:=[0,1,56,2,57,49,28,3,61,58,42,50,38,29,17,4,62,47,59,36,45,43,51,22,53,39,33,30,24,18,12,5,63,55,48,27,60,41,37,16,46,35,44,21,52,32,23,11,54,26,40,15,34,20,31,10,25,14,19,9,13,8,7,6]
end Ch
namespace lawBookRoom
open Go.Lib Go.RowKit Go.Shelf Go.ChangeShapes Go.WideShapes Go.ChangeAt Ch Bo
open Go.ChangeMaps (open_string shut_string)
theorem laid_tabs {W:World} (hL:laidMetH Tryz.prog Rows.bookRoomRow.laid W):Tabs W :=
  tabs_of (first_eq▸Lib.laidMet.reads hL (.tail _ (.tail _ (.tail _ (.tail _ (.head _)))))) (accept_eq▸Lib.laidMet.reads hL (.tail _ (.tail _ (.tail _ (.head _)))))
theorem laid_pow {W:World} (hL:laidMetH Tryz.prog Rows.bookRoomRow.laid W):Pow W :=
  pow_of (pow_eq▸Lib.laidMet.reads hL (.tail _ (.tail _ (.head _))))
noncomputable def laidWorld (os:Os):World :=
  let w0:=World.holding Tryz.prog os ⟨#[],#[],[]⟩
  let put (h:Array Obj) (g:Nat) (cs:Array Value):Array Obj:=h.modify g fun
    | .cells _ t frozen=>.cells cs t frozen
    | o=>o
  let h1:=put w0.heap 1 (Lib.firstTab.map fun z=>Value.int .u8 z).toArray
  let h2:=put h1 2 ((List.range 16).flatMap fun i=>[Value.int .u8 (Lib.accLo i),Value.int .u8 (Lib.accHi i)]).toArray
  let h3:=put h2 3 (Lib.pow10Tab.map fun z=>Value.int .u64 z).toArray
  let h4:=put h3 4 (de32.map fun z=>Value.int .u8 z).toArray
  let h5:=put h4 5 (de64.map fun z=>Value.int .u8 z).toArray
  { w0 with heap:=h5 }
theorem laid_met (os:Os) (args:Array Value):laidMet Tryz.prog Rows.bookRoomRow.laid ((laidWorld os).forCall (fun _ _=>0) ⟨#[],args,[]⟩).memory :=
  (LaidIn.of_run (l:=Rows.bookRoomRow.laid) [4,5,3,2,1] 8 (by kernel_rfl) (by kernel_rfl) (by kernel_rfl) (by kernel_rfl)).met
theorem witness_row (os:Os) {H:Type} (enc:TypeId × Value→H) :
    (OpenSpec.ofChange Rows.bookRoomSpec).preRow enc Tryz.prog Tryz.f6 Rows.bookRoomRow.domain false Rows.bookRoomRow.laid ((laidWorld os).forCall (fun _ _=>0) ⟨#[],#[.int .i64 0,.int .i64 0],[]⟩).memory #[.int .i64 0,.int .i64 0]:=by
  have hw:(DataW.whole enc Tryz.prog ((laidWorld os).forCall (fun _ _=>0) ⟨#[],#[.int .i64 0,.int .i64 0],[]⟩).memory Tryz.f6.params.toList Rows.bookRoomSpec.vars false (#[Value.int .i64 0,Value.int .i64 0]:Array Value).toList 8).map (fun x=>(x.1,x.2.1)) =
      some ([.lit (.int .i64 0),.lit (.int .i64 0)],[]):=by kernel_rfl
  obtain ⟨⟨x1,x2,x3⟩,hx,hx1⟩:=Option.map_eq_some_iff.1 hw
  simp only [Prod.mk.injEq] at hx1
  obtain ⟨rfl,rfl⟩:=hx1
  exact OpenSpec.preRow_of_cond 8 hx (by kernel_rfl) (fun k hk=>by cases hk) (by kernel_rfl) (laid_met os _)
theorem lifted (os:Os) (started:os.Started) (H:Type) (enc:TypeId × Value→H) (F:Stop.Interp) :
    ReturnsInHanded {} Tryz.checked os 6 .any ((OpenSpec.ofChange Rows.bookRoomSpec).preRow enc Tryz.prog Tryz.f6 Rows.bookRoomRow.domain false Rows.bookRoomRow.laid) (((OpenSpec.ofChange Rows.bookRoomSpec).at F).post enc Tryz.prog Tryz.f6 false true false false):=by
  refine returnsInHanded_of_row (C:=Tryz.checked) (s:=(OpenSpec.ofChange Rows.bookRoomSpec)) own started (by kernel_rfl) Tryz.func6
    (witness_row_atRef (enc:=enc) (C:=Tryz.checked) false (laidWorld os) #[.int .i64 0,.int .i64 0] rfl (by kernel_rfl) (by kernel_rfl) (by kernel_rfl) (witness_row os enc)) ?_
  intro W base args ds gs before hval0 hW _ hcond hsz hL hsh _
  have hval:∀ (j:Nat) t v,Tryz.f6.params[j]?=some t→args[j]?=some v→Value.okWide Tryz.prog W .any base t v:=hval0
  have hW':=hW
  obtain ⟨p,q,hA0,hV0,rfl,_,_⟩:=hW
  have hA:DataW.TrodAll enc Tryz.prog W 0 (fun _=>true) true Tryz.f6.params.toList args.toList ds p:=hA0
  rw [Tryz.params6] at hA hval
  obtain ⟨v0,v1,d0,d1,p0,p1,rfl,rfl,rfl,h0,h1⟩:=trodAll_two hA
  obtain ⟨rfl,rfl⟩:=trodVars_none hV0
  obtain ⟨s0,rfl,rfl,rfl,ws0⟩:=open_int Tryz.underlying3 (hval 0 3 v0 rfl rfl) h0
  obtain ⟨s1,rfl,rfl,rfl,ws1⟩:=open_int Tryz.underlying3 (hval 1 3 v1 rfl rfl) h1
  clear hA0 hV0 hval0 hsz
  refine (room_walk s0 s1 W ⟨laid_tabs hL,laid_pow hL,Below.refl _ _⟩).mono ?_
  rintro e W' ⟨rfl,bel⟩
  have e1:((OpenSpec.ofChange Rows.bookRoomSpec).at F).fn H ([.lit (.int .i64 s0),.lit (.int .i64 s1)]++[])={ results:=[.lit (.bool true)],args:=[.lit (.int .i64 s0),.lit (.int .i64 s1)] }:=rfl
  refine ⟨_,rfl,_,_,_,[],[],[],hW',?_,?_,?_,bel.frame _,fun h=>by cases h⟩
  · rw [e1];exact trodAll_mk1 (shut_bool Tryz.underlying4 _)
  · rw [e1];exact trodAll_mk2 (shut_int Tryz.underlying3 ws0) (shut_int Tryz.underlying3 ws1)
  · rw [e1];rfl
end lawBookRoom
namespace lawBookRoom
theorem fact_inPlace:(Rows.bookRoomRow.inPlace==Tryz.pinned.checked.prog.inPlace 6)=true:=by kernel_rfl
theorem fact_unfollowed:(Rows.bookRoomRow.unfollowed==Tryz.pinned.checked.prog.unfollowed 6)=true:=by kernel_rfl
theorem fact_recurses:(Rows.bookRoomRow.recurses==Tryz.pinned.checked.prog.recurses 6)=true:=by kernel_rfl
theorem fact_named:(Rows.bookRoomRow.named==Tryz.pinned.checked.prog.varsNamed 6)=true:=by kernel_rfl
end lawBookRoom
namespace lawBookRoom
open Go.Lib Go.RowKit Go.Shelf Go.ChangeShapes Go.WideShapes Go.ChangeAt Ch Bo
open Go.ChangeMaps (open_string shut_string)
theorem closed:joinedFacts Tryz.pinned.checked.prog 6 Tryz.f6 (OpenSpec.ofChange Rows.bookRoomSpec).bare Rows.bookRoomRow=true:=by
  unfold joinedFacts
  rw [fact_inPlace,fact_unfollowed,fact_recurses,fact_named]
  kernel_rfl
theorem said:Rows.BookRoomSaid :=
  OpenClaim.holds_of_cond 6 Tryz.f6 rfl rfl rfl rfl rfl rfl rfl ⟨rfl,rfl,rfl,rfl,rfl⟩ rfl rfl rfl rfl rfl (by kernel_rfl) Tryz.func6 closed
    (of_decide_eq_true (by kernel_rfl)) (by unfold Func.isWrapper;rw [if_neg (of_decide_eq_false (by kernel_rfl))];exact ⟨rfl,rfl⟩)
    (fun os started H enc _ F=>by rw [OpenClaim.pre_eq_preRow];exact lifted os started H enc F)
end lawBookRoom
end Go.Proofs.YtobfaibofhmpgaaGreatDoor
