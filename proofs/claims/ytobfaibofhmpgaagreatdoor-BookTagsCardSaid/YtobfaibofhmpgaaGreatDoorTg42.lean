import Derived.Test.YtobfaibofhmpgaaGreatDoorTg41
import Derived.Laws.DeepStrings4
import Derived.ChangeSame
import Derived.ChangeSlices
import Derived.Test.YtobfaibofhmpgaaGreatDoorCards
import Derived.Test.YtobfaibofhmpgaaGreatDoorTie
import Derived.PinnedBridge
import Derived.Lib.LaidIn
import Derived.Deep.DeepHandedRow
import Derived.Deep.DeepWitnessRowRef
import Derived.ProofKit
import Derived.OpenShut
set_option linter.unusedVariables false
set_option maxHeartbeats 16000000
set_option maxRecDepth 100000
namespace Go.Proofs.YtobfaibofhmpgaaGreatDoor
namespace Bo
open Go.Lib Go.RowKit
def modL (z:Int) (m:Nat):Nat:=(IntKind.u64.wrap z % (m:Int)).toNat
theorem modL_lt (z:Int) {m:Nat} (h:0 < m):modL z m < m:=by
  unfold modL
  have h1:=Int.emod_nonneg (IntKind.u64.wrap z) (b:=(m:Int)) (by omega)
  have h2:=Int.emod_lt_of_pos (IntKind.u64.wrap z) (b:=(m:Int)) (by omega)
  omega
theorem modL_is (z:Int) {m:Nat} (h:0 < m):(IntKind.u64.wrap z).tmod (m:Int)=(modL z m:Int):=by
  have h0:=wrap_pos z
  have h1:=Int.emod_nonneg (IntKind.u64.wrap z) (b:=(m:Int)) (by omega)
  unfold modL
  rw [Int.tmod_eq_emod_of_nonneg h0,Int.toNat_of_nonneg h1]
def tagB (n:Nat):Row:=34 :: (digF 6 n++[34])
theorem dig8 {n:Nat} (h:n < 10):IntKind.u8.wrap (48+(n:Int))=((UInt8.ofNat (48+n)).toNat:Int):=by
  have h2:(UInt8.ofNat (48+n)).toNat=48+n:=by
    rw [UInt8.toNat_ofNat']
    omega
  rw [h2]
  unfold IntKind.wrap
  simp only [IntKind.bits,IntKind.signed,Bool.false_and,Bool.false_eq_true,if_false]
  omega
theorem cat_rows (a b:Row):(⟨a.toArray⟩:ByteArray)++⟨b.toArray⟩=⟨(a++b).toArray⟩:=by
  apply ByteArray.ext
  apply Array.toList_inj.1
  simp
theorem tag_any (n:Nat) (w:World) (hn:n < 100000):Calls Tryz.prog 13 #[.int .i64 (n:Int)] w fun e w'=>e=.returned (.string ⟨(tagB n).toArray⟩)∧Below w.heap.size w w':=by
  go_enter Tryz.func13,Tryz.ntmps13
  go_wp2
  go_loopw [0,3] (fun s0 s3 wr=>∃ (f m:Nat) (acc:Row),s0=.int .i64 (m:Int)∧s3=.string ⟨acc.toArray⟩∧f≤5∧acc.length+f≤5∧m < 10 ^ (f+1)∧digF (f+1) m++acc=digF 6 n∧Below w.heap.size w wr) (fun s0 s3 wr=>(RowKit.intOf s0).toNat)
  case atStart=>exact ⟨5,n,[],rfl,rfl,Nat.le_refl _,by simp,by omega,List.append_nil _,Below.refl _ _⟩
  case round =>
    obtain ⟨f,m,acc,rfl,rfl,hf,hfl,hm,hd,hbw⟩:=hrel
    have hlen:acc.length≤5:=by omega
    have hlen2:((acc.length:Nat):Int)≤5:=by omega
    have hsz:(⟨acc.toArray⟩:ByteArray).size≤5:=by show acc.toArray.size≤5;rw [List.size_toArray];omega
    have hfl':=Lib.hid hfl
    have hmm:m < 1000000:=Nat.lt_of_lt_of_le hm (Nat.le_trans (Nat.pow_le_pow_right (by decide) (show f+1≤6 by omega)) (by decide))
    have h10:m % 10 < 10:=Nat.mod_lt _ (by decide)
    have p1:((m:Int)).tmod 10=((m % 10:Nat):Int):=by rw [Int.tmod_eq_emod_of_nonneg (by omega)];omega
    have p2:((m:Int)).tdiv 10=((m / 10:Nat):Int):=by rw [Int.tdiv_eq_ediv_of_nonneg (by omega)];omega
    have p3:=dig8 h10
    obtain ⟨x,hx⟩:∃ x,UInt8.ofNat (48+m % 10)=x:=⟨_,rfl⟩
    obtain ⟨r,hr⟩:∃ r,m % 10=r:=⟨_,rfl⟩
    obtain ⟨q,hq⟩:∃ q,m / 10=q:=⟨_,rfl⟩
    rw [hx] at p3
    rw [hr] at p1 p3 h10
    rw [hq] at p2
    have hqm:q≤m:=by omega
    have hcv:(convert 56 9 (.slice (some ⟨wr.heap.size,0,none⟩) 1 1)).run Tryz.prog (wr.alloc (.cells #[.int .u8 (x.toNat:Int)] 5))=.ok (.string ⟨#[x]⟩) (wr.alloc (.cells #[.int .u8 (x.toNat:Int)] 5)):=by
      refine run_convert_bytes_back _ 56 9 5 ⟨wr.heap.size,0,none⟩ 1 [x] Tryz.underlying56 Tryz.underlying5 Tryz.underlying9 fun j hj=>?_
      obtain rfl:j=0:=by simp at hj;omega
      rw [show ((⟨wr.heap.size,0,none⟩:Addr).add 0)=⟨wr.heap.size,0,none⟩ from rfl,Lib.cell_of_heap (heap_alloc_new wr _)]
      rfl
    have hal:Below w.heap.size w (wr.alloc (.cells #[.int .u8 (x.toNat:Int)] 5)):=hbw.alloc hbw.size _
    have hal':=Lib.hid hal
    have hx':=Lib.hid hx
    have hr':=Lib.hid hr
    have hq':=Lib.hid hq
    have hd':=Lib.hid hd
    have hm':=Lib.hid hm
    clear hal hbw hx hr hq hd hm hfl
    by_cases h0:q=0
    · have d0:((q:Int)==0)=true:=by simp;exact h0
      subst h0
      go_wp2
      go_ret
      refine ⟨congrArg (fun x=>Ending.returned (Value.string x)) ?_,hal'.out⟩
      have hdm:digF (f+1) m=[x]:=by
        rw [←hx'.out]
        have hm10:m < 10:=by have:=hq'.out;omega
        show (if m < 10 then _ else _)=_
        rw [if_pos hm10,Nat.mod_eq_of_lt hm10]
      have e:=hd'.out
      rw [hdm] at e
      show (⟨([34]:Row).toArray⟩:ByteArray)++(⟨([x]:Row).toArray⟩++⟨acc.toArray⟩)++⟨([34]:Row).toArray⟩=_
      rw [cat_rows,cat_rows,cat_rows]
      unfold tagB
      rw [←e]
      simp
    · have d0:((q:Int)==0)=false:=by simp;exact h0
      have hm10:¬ m < 10:=fun h=>h0 (by rw [←hq'.out];omega)
      obtain ⟨f',rfl⟩:∃ f',f=f'+1:=by
        cases f with
        | zero=>have:=hm'.out;exact absurd this (by simpa using hm10)
        | succ f'=>exact ⟨f',rfl⟩
      have hdm:digF (f'+1+1) m=digF (f'+1) q++[x]:=by
        rw [←hx'.out,←hq'.out]
        show (if m < 10 then _ else _)=_
        rw [if_neg hm10]
      have e:=hd'.out
      rw [hdm,List.append_assoc] at e
      have hq10:q < 10 ^ (f'+1):=by
        have:=hm'.out
        rw [Nat.pow_succ] at this
        rw [←hq'.out]
        exact Nat.div_lt_of_lt_mul (by rw [Nat.mul_comm];exact this)
      have hcat:=cat_rows [x] acc
      have hlt:q < m:=by have:=hq'.out;omega
      have e':=Lib.hid e
      have hq10':=Lib.hid hq10
      have hcat':=Lib.hid hcat
      clear e hq10 hcat hdm
      go_wp2
      refine ⟨⟨f',q,[x]++acc,rfl,congrArg Value.string hcat'.out,by omega,by have:=hfl'.out;simp;omega,hq10'.out,e'.out,hal'.out⟩,by simp [RowKit.intOf];omega⟩
def At (B sb:Nat) (w:World) (s:Sh) (wr:World):Prop:=∃ F,Shf B sb F s wr∧Grd w wr∧Below w.heap.size w wr
theorem At.doN {B sb:Nat} {w wr:World} {s:Sh} (h:At B sb w s wr) (hB:w.heap.size≤B) (op:Int) (bk nm dt mt nn tk:ByteArray) (pos:Int) (hl:bk.size≤1048576∧nm.size≤1048576∧dt.size≤1048576∧mt.size≤1048576∧nn.size≤1048576∧tk.size≤1048576∧0≤pos∧pos≤1048576) (hchg:s.chg < 4611686018427387904) :
    Calls Tryz.prog 9 #[pv sb,.agg #[.int .i64 op,.string bk,.string nm,.string dt,.string mt,.string nn,.string tk,.slice none 0 0,.int .i64 pos,.int .i64 0,.int .i64 0]] wr fun e w'=>(∃ data tok ao m c,e=.returned (repV ((doC envP s (cmdD op bk nm dt mt nn tk [] pos)).2.st:Int) ((doC envP s (cmdD op bk nm dt mt nn tk [] pos)).2.tag:Int) data (.slice ao m c) tok))∧At B sb w (doC envP s (cmdD op bk nm dt mt nn tk [] pos)).1 w':=by
  obtain ⟨F,h1,h2,h3⟩:=h
  refine (Bo.doN w wr B sb F s op bk nm dt mt nn tk pos h2 h1 hB hl hchg).mono ?_
  rintro e w' ⟨v,rfl,⟨ev,rfl,hrow⟩,F',k1,k2,k3,k4,_⟩
  obtain ⟨ao,m,c,rfl⟩:=row_form hrow
  exact ⟨⟨_,_,_,_,_,rfl⟩,F',k1,k4,k3.below h3 (fun k hk=>Nat.le_trans hB (h1.low k hk)) h3.size⟩
theorem digF_len:∀ f n,(digF f n).length≤f
  | 0,n=>Nat.le_refl _
  | f + 1,n=>by
    unfold digF
    split
    · simp
    · have:=digF_len f (n / 10)
      rw [List.length_append]
      simp;omega
end Bo
namespace Bo
theorem hol_all:((List.range 61).all fun o=>(List.range 43).all fun t=>decide (o=0) || decide (t=0) || decide (Co.hol (tagB o) [] (t:Int)=some (decide (o=t))))=true:=by kernel_rfl
theorem star_all:((List.range 45).all fun t=>decide (t=0) || decide (Co.hol [] [42] (t:Int)=some false))=true:=by kernel_rfl
theorem hol_tag {o t:Nat} (ho:o≤60) (ho1:1≤o) (h1:1≤t) (h2:t≤42):envP.hol (tagB o) [] t=some (decide (o=t)):=by
  have h:=List.all_eq_true.1 (List.all_eq_true.1 hol_all o (List.mem_range.2 (by omega))) t (List.mem_range.2 (by omega))
  rw [Bool.or_eq_true,Bool.or_eq_true] at h
  rcases h with (h | h) | h
  · have:=of_decide_eq_true h;omega
  · have:=of_decide_eq_true h;omega
  · exact of_decide_eq_true h
theorem hol_star {t:Nat} (h1:1≤t) (h2:t≤44):envP.hol [] [42] t=some false:=by
  have h:=List.all_eq_true.1 star_all t (List.mem_range.2 (by omega))
  rw [Bool.or_eq_true] at h
  rcases h with h | h
  · have:=of_decide_eq_true h;omega
  · exact of_decide_eq_true h
theorem doC_four {E:Env} {s:Sh} {b:Bk} {c:Cmd} (hb:bkAt s c.book=some b) (h:c.op=4):doC E s c=match deleteB E s.chg b c with
    | (none,r)=>(s,r)
    | (some b',r)=>({ chg:=s.chg+1,books:=setBk s b' },r):=by
  unfold doC
  rw [if_neg (by omega),if_neg (by omega),if_neg (by rintro ⟨h6,_⟩;omega),hb]
  simp only
  rw [if_neg (by omega),if_neg (by omega)]
  unfold onB
  rw [if_neg (by omega),if_pos h]
  rfl
theorem doC_five {E:Env} {s:Sh} {b:Bk} {c:Cmd} (hb:bkAt s c.book=some b) (h:c.op=5) {l:Leaf} (hl:lfAt b c.name=some l):doC E s c=(s,{ st:=200,tag:=l.tag,data:=l.text }):=by
  unfold doC
  rw [if_neg (by omega),if_neg (by omega),if_neg (by rintro ⟨h6,_⟩;omega),hb]
  simp only
  rw [if_neg (by omega),if_neg (by omega)]
  unfold onB
  rw [if_neg (by omega),if_neg (by omega),if_pos h,hl]
theorem tag_gone {s:Sh} {b:Bk} {x d:Row} (h:TagInv s b x d 0) {c:Cmd} (hop:c.op=4) (hb:c.book=aN):doC envP s c=(s,{ st:=404 }):=by
  obtain ⟨h1,h2,h3⟩:=h
  rw [←hb] at h1
  have hc:b.cards=[]:=by rcases h3 with h | h;exact h.2;exact absurd h.1 (by decide)
  have hl:lfAt b c.name=none:=by unfold lfAt;rw [hc];rfl
  rw [doC_four h1 hop]
  unfold deleteB
  rw [hl]
theorem tag_leaf {s:Sh} {b:Bk} {x d:Row} {m:Nat} (h:TagInv s b x d m) (h0:0 < m):lfAt b x=some ⟨x,m+1,d⟩:=by
  obtain ⟨h1,h2,h3⟩:=h
  have hc:b.cards=[⟨x,m+1,d⟩]:=by rcases h3 with h | h;exact absurd h.1 (by omega);exact h.2
  unfold lfAt
  rw [hc,List.find?_cons_of_pos (by simp)]
theorem tag_get {s:Sh} {b:Bk} {x d:Row} {m:Nat} (h:TagInv s b x d m) (h0:0 < m) {c:Cmd} (hop:c.op=5) (hb:c.book=aN) (hx:c.name=x):doC envP s c=(s,{ st:=200,tag:=m+1,data:=d }):=by
  have h1:=h.1
  rw [←hb] at h1
  rw [doC_five h1 hop (by rw [hx];exact tag_leaf h h0)]
structure TagS (s:Sh) (x:Row):Prop where
  at_:∃ b l,bkAt s aN=some b∧lfAt b x=some l∧1≤l.tag∧l.tag≤44
  chg:s.chg≤60
theorem tag_match {s:Sh} {b:Bk} {x d:Row} {m:Nat} (h:TagInv s b x d m) (h0:0 < m) (hm:m≤40) {o:Nat} (ho:o≤60) (ho1:1≤o) {c:Cmd} (hop:c.op=3) (hf:envP.fits c.name=true) (hmat:c.mat=tagB o) (hnon:c.non=[]) (hnorm:envP.norm c.data=.ok c.data) (hb:c.book=aN) (hx:c.name=x) :
    ∃ s' r,doC envP s c=(s',r)∧((o=m+1∧r.st=204)∨(o≠m+1∧r.st=412))∧TagS s' x:=by
  have h1:=h.1
  have hl:=tag_leaf h h0
  have hchg:=h.2.1
  rw [←hb] at h1
  rw [←hx] at hl
  by_cases e:o=m+1
  · have hp:putB envP s.chg b c=(some { noteB b ⟨s.chg+1,c.name,true⟩ with cards:=b.cards.map fun x=>if x.name=c.name then ⟨c.name,s.chg+1,c.data⟩ else x },{ st:=204,tag:=s.chg+1 }):=by
      unfold putB
      rw [hf,if_neg (by decide),hmat,hnon,hl]
      show (match envP.hol (tagB o) [] (m+1) with | none=>_ | some h=>_)=_
      rw [hol_tag ho ho1 (by omega) (by omega),decide_eq_true e,hnorm]
      rfl
    refine ⟨_,_,by rw [doC_three h1 hop,hp],.inl ⟨e,rfl⟩,⟨_,⟨c.name,s.chg+1,c.data⟩,by rw [←hb];exact bkAt_set h1 (by show (noteB b _).name=_;rw [noteB_name,bkAt_name h1]) _,?_,by show 1≤s.chg+1;omega,by show s.chg+1≤44;omega⟩,by show s.chg+1≤60;omega⟩
    unfold lfAt at hl ⊢
    show (b.cards.map _).find? _=_
    obtain ⟨g1,g2⟩:=h.2.2.resolve_left (by omega)
    rw [g2,List.map_singleton,if_pos hx.symm,List.find?_cons_of_pos (by simp [hx])]
  · have hp:putB envP s.chg b c=(none,{ st:=412 }):=by
      unfold putB
      rw [hf,if_neg (by decide),hmat,hnon,hl]
      show (match envP.hol (tagB o) [] (m+1) with | none=>_ | some h=>_)=_
      rw [hol_tag ho ho1 (by omega) (by omega),decide_eq_false e,hnorm]
      rfl
    refine ⟨s,_,by rw [doC_three h1 hop,hp],.inr ⟨e,rfl⟩,⟨b,_,h.1,by rw [←hx];exact hl,by show 1≤m+1;omega,by show m+1≤44;omega⟩,by omega⟩
theorem tag_star {s:Sh} {x:Row} (h:TagS s x) {c:Cmd} (hop:c.op=3) (hf:envP.fits c.name=true) (hmat:c.mat=[]) (hnon:c.non=[42]) (hnorm:envP.norm c.data=.ok c.data) (hb:c.book=aN) (hx:c.name=x):doC envP s c=(s,{ st:=412 }):=by
  obtain ⟨b,l,h1,hl,k1,k2⟩:=h.at_
  rw [←hb] at h1
  rw [←hx] at hl
  have hp:putB envP s.chg b c=(none,{ st:=412 }):=by
    unfold putB
    rw [hf,if_neg (by decide),hmat,hnon,hl]
    simp only [Option.map_some,Option.getD_some]
    rw [hol_star k1 k2,hnorm]
    rfl
  rw [doC_three h1 hop,hp]
theorem xx_may (i:Int):May envP (cmdD 3 aB ⟨#[120]⟩ ⟨(cardN (letN i)).toArray⟩ zB zB zB [] 0):=by
  have e1:envP.fits=Pa.fits:=rfl
  have e2:envP.norm=normE:=rfl
  refine ⟨rfl,?_,fun t=>hol_none t,?_⟩
  · rw [e1]
    show Pa.fits [120]=true
    decide +kernel
  · rw [e2];exact cardN_norm (letN_lt i)
end Bo
namespace Bo
open Go.Lib Go.RowKit
theorem tagB_len (n:Nat):(tagB n).length≤8:=by
  unfold tagB
  have:=digF_len 6 n
  simp;omega
theorem size_of (l:Row):(⟨l.toArray⟩:ByteArray).size=l.length:=by show l.toArray.size=_;exact List.size_toArray
theorem fld_st (st tag:Int) (d t:ByteArray) (ev:Value) (w:World):(Instr.field 29 (.agg #[.int .i64 st,.int .i64 tag,.string d,ev,.string t]) 0).run Tryz.prog w=.ok (.int .i64 st) w:=by kernel_rfl
def AtX (B sb:Nat) (X:List Nat) (w:World) (s:Sh) (wr:World):Prop:=∃ F,Shf B sb F s wr∧Grd w wr∧Below w.heap.size w wr∧∀ k∈X,k∉F∧k < wr.heap.size
section
variable {B sb:Nat} {X:List Nat} {w wr w':World} {s:Sh}
theorem At.x (h:At B sb w s wr):AtX B sb [] w s wr:=by
  obtain ⟨F,h1,h2,h3⟩:=h
  exact ⟨F,h1,h2,h3,fun k hk=>by cases hk⟩
theorem AtX.below (h:AtX B sb X w s wr):Below w.heap.size w wr:=by
  obtain ⟨F,h1,h2,h3,_⟩:=h
  exact h3
theorem AtX.kept (h:AtX B sb X w s wr) (hb:Below wr.heap.size wr w'):AtX B sb X w s w':=by
  obtain ⟨F,h1,h2,h3,h4⟩:=h
  exact ⟨F,h1.kept hb,h2.below hb,h3.trans (hb.mono h3.size),fun k hk=>⟨(h4 k hk).1,Nat.lt_of_lt_of_le (h4 k hk).2 hb.size⟩⟩
theorem AtX.add (h:AtX B sb X w s wr) (o:Obj):AtX B sb (wr.heap.size :: X) w s (wr.alloc o):=by
  have hb:Below wr.heap.size wr (wr.alloc o):=(Below.refl _ _).alloc (Nat.le_refl _) _
  obtain ⟨F,h1,h2,h3,h4⟩:=h
  refine ⟨F,h1.kept hb,h2.below hb,h3.trans (hb.mono h3.size),fun k hk=>?_⟩
  rcases List.mem_cons.1 hk with rfl | hk
  · exact ⟨fun hm=>by have:=h1.lt _ hm;omega,by simp⟩
  · exact ⟨(h4 k hk).1,Nat.lt_of_lt_of_le (h4 k hk).2 hb.size⟩
theorem AtX.doN (h:AtX B sb X w s wr) (hB:w.heap.size≤B) (op:Int) (bk nm dt mt nn tk:ByteArray) (pos:Int) (hl:bk.size≤1048576∧nm.size≤1048576∧dt.size≤1048576∧mt.size≤1048576∧nn.size≤1048576∧tk.size≤1048576∧0≤pos∧pos≤1048576) (hchg:s.chg < 4611686018427387904) :
    Calls Tryz.prog 9 #[pv sb,.agg #[.int .i64 op,.string bk,.string nm,.string dt,.string mt,.string nn,.string tk,.slice none 0 0,.int .i64 pos,.int .i64 0,.int .i64 0]] wr fun e w'=>(∃ tok ao m c,e=.returned (repV ((doC envP s (cmdD op bk nm dt mt nn tk [] pos)).2.st:Int) ((doC envP s (cmdD op bk nm dt mt nn tk [] pos)).2.tag:Int) ⟨(doC envP s (cmdD op bk nm dt mt nn tk [] pos)).2.data.toArray⟩ (.slice ao m c) tok))∧AtX B sb X w (doC envP s (cmdD op bk nm dt mt nn tk [] pos)).1 w'∧∀ k∈X,w'.heap[k]?=wr.heap[k]?:=by
  obtain ⟨F,h1,h2,h3,h4⟩:=h
  refine (Bo.doN w wr B sb F s op bk nm dt mt nn tk pos h2 h1 hB hl hchg).mono ?_
  rintro e w' ⟨v,rfl,⟨ev,rfl,hrow⟩,F',k1,k2,k3,k4,_⟩
  obtain ⟨ao,m,c,rfl⟩:=row_form hrow
  refine ⟨⟨_,_,_,_,rfl⟩,⟨F',k1,k4,k3.below h3 (fun k hk=>Nat.le_trans hB (h1.low k hk)) h3.size,fun k hk=>⟨fun hm=>?_,Nat.lt_of_lt_of_le (h4 k hk).2 k3.size⟩⟩,fun k hk=>k3.block k (h4 k hk).2 (h4 k hk).1⟩
  rcases k2 k hm with hf | hf
  · exact (h4 k hk).1 hf
  · have:=(h4 k hk).2;omega
end
end Bo
namespace La
open Go.Lib Go.RowKit Go.Shelf Go.ChangeShapes Go.WideShapes Go.ChangeAt
theorem bulk_one {H:Type} (d:DataW H):1≤Rows.uptoBulk d:=by
  cases d with
  | lit l=>cases l<;>simp [Rows.uptoBulk]
  | _=>simp [Rows.uptoBulk]
theorem bulk_len {H:Type} (l:List (DataW H)):l.length≤Rows.uptoBulkAll l:=by
  induction l with
  | nil=>simp [Rows.uptoBulkAll]
  | cons d r ih=>have:=bulk_one d;simp [Rows.uptoBulkAll];omega
variable {H:Type} {enc:TypeId × Value→H}
def IntsAt (W:World) (v:Value) (zs:List Int):Prop :=
  ∃ (p0:Option Addr) (b off cap:Nat),v=.slice p0 zs.length cap∧zs.length≤9223372036854775807∧(zs≠[]→p0=some ⟨b,off,none⟩∧b < W.heap.size)∧
    (∀ j,j < zs.length→W.cell? ⟨b,off+j,none⟩=some (.int .i64 (zs.getD j 0)))∧(∀ n∈zs,-9223372036854775808≤n∧n≤9223372036854775807)
theorem spot_none {W:World} {a:Addr} {v:Value} (h:W.cell? a=some v):a.spot=none:=by
  cases hs:a.spot with
  | none=>rfl
  | some x =>
    exfalso
    unfold World.cell? at h
    rw [hs] at h
    split at h<;>simp at h
theorem add_block (a:Addr) (i:Nat):(a.add i).block=a.block:=by unfold Addr.add;split<;>rfl
theorem ints_open {base:Nat} {W:World} {v:Value} {d:DataW H} {ps:List MemPlace} (hval:Value.okWide Tryz.prog W .any base 23 v) (h:DataW.Trod enc Tryz.prog W 0 (fun _=>true) true 23 v d ps)
    (hlt:∀ q∈ps,q.block < W.heap.size) :
    ∃ zs,IntsAt W v zs∧zs.length≤Rows.uptoBulk d∧
      ∀ (W':World) (sp:Nat→Bool),Below W.heap.size W W'→(∀ q∈ps,sp q.block=true)→DataW.Trod enc Tryz.prog W' 0 sp true 23 v d ps:=by
  obtain ⟨a,len,cap,rfl⟩:=okWide_slice Tryz.underlying23 hval
  obtain ⟨fuel,hf⟩:=h
  have hce:Tryz.prog.cellsOf 3=1:=by kernel_rfl
  rcases open_ints Tryz.underlying23 Tryz.underlying3 hce hf with ⟨hcs,hx⟩ | ⟨a',len',cap',zs,hcs,_,hl,hm,hz,hx,hcell,hwz⟩
  · simp [Value.cells] at hcs
    obtain ⟨rfl,rfl,rfl⟩:=hcs
    simp only [Prod.mk.injEq] at hx
    obtain ⟨rfl,rfl⟩:=hx
    exact ⟨[],⟨none,0,0,0,rfl,by simp,fun h=>absurd rfl h,fun j hj=>absurd hj (Nat.not_lt_zero _),fun n hn=>by simp at hn⟩,Nat.zero_le _,
      fun W' sp _ _=>⟨1,by simp [DataW.trod,Value.cells,Tryz.underlying23]⟩⟩
  · simp [Value.cells] at hcs
    obtain ⟨rfl,rfl,rfl⟩:=hcs
    simp only [Prod.mk.injEq] at hx
    obtain ⟨rfl,rfl⟩:=hx
    simp only [if_true] at hz
    have hlen:(zs.take len).length=len:=by rw [List.length_take];omega
    have hbig:∀ n∈zs,-9223372036854775808≤n∧n≤9223372036854775807:=fun n hn=>bounds_i64 (hwz n hn)
    have hblk:∀ i,i < zs.length→a'.block < W.heap.size:=fun i hi=>by rw [←add_block a' i];exact World.block_lt_of_cell? W (a'.add i) (hcell i hi)
    refine ⟨zs.take len,?_,?_,?_⟩
    · rcases Nat.eq_zero_or_pos zs.length with h0 | h0
      · have hl0:len=0:=by omega
        subst hl0
        exact ⟨_,0,0,cap,by rw [hlen],by rw [hlen];omega,fun h=>absurd (by simp) h,fun j hj=>by simp at hj,fun n hn=>by simp at hn⟩
      · have hs:=spot_none (hcell 0 h0)
        obtain ⟨b,off,spot⟩:=a'
        have hs2:spot=none:=by
          unfold Addr.add at hs
          split at hs<;>simp_all
        subst hs2
        refine ⟨_,b,off,cap,by rw [hlen],by rw [hlen];unfold maxLen at hm;omega,fun _=>⟨rfl,hblk 0 h0⟩,fun j hj=>?_,fun n hn=>hbig n (List.mem_of_mem_take hn)⟩
        have hj2:j < len:=by omega
        have:=hcell j (by omega)
        rw [Lib.add_plain] at this
        rw [this,List.getD_eq_getElem?_getD,List.getD_eq_getElem?_getD,List.getElem?_take,if_pos hj2]
    · rw [Rows.uptoBulk]
      have:=bulk_len (lits (H:=H) .i64 (zs.take len))
      rw [show (lits (H:=H) .i64 (zs.take len)).length=(zs.take len).length by simp [lits]] at this
      omega
    · intro W' sp hb hsp
      refine ⟨0+2,shut_ints 0 Tryz.underlying23 Tryz.underlying3 hce (Nat.zero_le _) hl hm ?_ (fun i hi=>?_) hwz⟩
      · rcases Nat.eq_zero_or_pos zs.length with h0 | h0
        · rw [h0] at hz ⊢
          split<;>omega
        · have:=hsp (.cell a'.block (a'.off+0)) (MemPlace.mem_row.2 ⟨0,h0,rfl⟩)
          have h2:sp a'.block=true:=this
          rw [if_pos h2]
          exact hz
      · have h1:=hblk i hi
        have h2:(a'.add i).block < W.heap.size:=World.block_lt_of_cell? W (a'.add i) (hcell i hi)
        rw [hb.cell h2]
        exact hcell i hi
theorem post_below {P:Program} {f:Func} {s:OpenSpec} {F:Stop.Interp} {apart fresh handsOn again:Bool} {W W':World} {args:Array Value} {v:Value} {ds gs:List (DataW H)} {before pa pv:List MemPlace}
    (hW:DataW.Whole enc P f.params.toList s.vars apart W args.toList ds gs before)
    (hres:∀ (b:Nat) (sp:Nat→Bool) (hd:Bool),DataW.TrodAll enc P W' b sp hd f.resultTypes.toList (v.resultList f.resultTypes.size) ((s.at F).fn H (ds++gs)).results [])
    (hargs:∀ sp:Nat→Bool,(∀ p∈before,sp p.block=true)→DataW.TrodAll enc P W' 0 sp true f.params.toList args.toList ((s.at F).fn H (ds++gs)).args pa)
    (hvars:∀ sp:Nat→Bool,(∀ p∈before,sp p.block=true)→DataW.TrodVars enc P W' sp s.vars ((s.at F).fn H (ds++gs)).vars pv)
    (hps:before=pa++pv) (hb:Below W.heap.size W W') (hag:again=false) :
    (s.at F).post enc P f apart fresh handsOn again W args v W':=by
  have hlt:∀ p∈before,p.block < W.heap.size:=fun p hp=>hW.lt p hp
  have hold:∀ p∈before,(fun b=>decide (b < W.heap.size)) p.block=true:=fun p hp=>by simpa using hlt p hp
  subst hag
  exact ⟨ds,gs,before,[],pa,pv,hW,hres _ _ _,hargs _ hold,hvars _ hold,World.keptBut_mono (fun p hp=>⟨hp,by rw [hps,List.mem_append] at hp;exact Or.inr hp⟩) (hb.frame (·∈before)),fun h=>by cases h⟩
end La
namespace Bo
open Go.Lib Go.RowKit
def xN:Row:=[120]
theorem tags_walk (v:Value) (zs:List Int) (ot:Int) (w:World) (hv:La.IntsAt w v zs) (hG:Grd w w) :
    Calls Tryz.prog 4 #[v,.int .i64 ot] w fun e w'=>e=.returned (.bool true)∧Below w.heap.size w w':=by
  have cF:=first_any w w hG
  have hG':=Lib.hid hG
  obtain ⟨p0,pb,off,cap,rfl,hlen,hp0,hcell,hzb⟩:=hv
  have hzc:=Lib.hid (And.intro hp0 hcell)
  obtain ⟨n,hne⟩:∃ n,zs.length=n:=⟨_,rfl⟩
  rw [hne] at hlen ⊢
  have hne':=Lib.hid hne
  clear hG hp0 hcell hzb hne
  go_enter Tryz.func4,Tryz.ntmps4
  go_wp2_with fail
  go_at_call 7
  refine cF.mono ?_
  rintro e w1 ⟨rfl,hb1⟩
  have cN:=newS w w1 (hG'.out.below hb1)
  have hB:=hb1.size
  have hb1':=Lib.hid hb1
  clear cF hb1
  go_wp2_with fail
  go_at_call 8
  refine cN.mono ?_
  rintro e w2 ⟨sb,F2,rfl,hS2,hb2,hG2⟩
  have hA2:At w1.heap.size sb w ⟨0,[]⟩ w2:=⟨F2,hS2,hG2,hb1'.out.trans (hb2.mono hB)⟩
  obtain ⟨B,hBe⟩:∃ B,w1.heap.size=B:=⟨_,rfl⟩
  rw [hBe] at hA2 hB
  have cM:=hA2.doN hB 1 aB zB zB zB zB zB 0 (by decide) (by decide)
  rw [f_make] at cM
  have hB':=Lib.hid hB
  clear cN hS2 hb2 hG2 hA2 hB hBe hb1'
  go_wp2_with fail
  go_at_call 9
  refine cM.mono ?_
  rintro e w3 ⟨⟨_,_,_,_,_,rfl⟩,hA3⟩
  have hA3':=Lib.hid hA3.x
  have hlen':=Lib.hid hlen
  clear cM hA3
  go_wp2
  go_loopw [6,21] (fun s6 s21 wr=>∃ (k L:Nat) (s:Sh) (b:Bk),s21=.int .i64 (k:Int)∧s6=.int .i64 (L:Int)∧(k=0→L=0)∧(0 < k→L=k+1)∧k≤n∧k≤40∧TagInv s b xN (cardN (letN (zs.getD (k - 1) 0))) k∧AtX B sb [] w s wr) (fun _ s21 wr=>n - (RowKit.intOf s21).toNat)
  case atStart=>exact ⟨0,0,sh1,bk1,by rfl,by rfl,fun _=>rfl,fun h=>absurd h (by decide),Nat.zero_le _,by decide,⟨rfl,rfl,.inl ⟨rfl,rfl⟩⟩,hA3'.out⟩
  case round =>
    obtain ⟨k,L,s,b,rfl,rfl,hL0,hL1,hkn,hk40,hI,hA⟩:=hrel
    have hI':=Lib.hid hI
    have hA':=Lib.hid hA
    have hL':=Lib.hid (And.intro hL0 hL1)
    have hchg:s.chg=k+1:=hI.2.1
    have hchg':=Lib.hid hchg
    clear hI hA hL0 hL1 hchg
    by_cases hgo:k < n∧k < 40
    · obtain ⟨hlt,hlt4⟩:=hgo
      obtain ⟨rfl,hpb⟩:=hzc.out.1 (by intro h;rw [h] at hne';have:=hne'.out;simp at this;omega)
      have hck:wr.cell? ⟨pb,off+k,none⟩=some (.int .i64 (zs.getD k 0)):=by rw [hA'.out.below.cell (p:=⟨pb,off+k,none⟩) hpb];exact hzc.out.2 k (by rw [hne'.out];exact hlt)
      obtain ⟨z,hz⟩:∃ z,zs.getD k 0=z:=⟨_,rfl⟩
      rw [hz] at hck
      have d40:¬ (40:Int)≤(k:Int):=by omega
      go_wp2_with fail
      go_at_call 12
      refine (card_any z wr).mono ?_
      rintro e w4 ⟨rfl,hb4⟩
      have cD:=(hA'.out.kept hb4).doN hB'.out 3 aB xB ⟨(cardN (letN z)).toArray⟩ zB zB zB 0 ⟨by decide,by decide,by rw [size_of,cardN_len];decide,by decide,by decide,by decide,by decide,by decide⟩ (by rw [hchg'.out];omega)
      obtain ⟨s',b',e1,hI2⟩:=tag_put hI'.out (xx_may z) rfl rfl
      rw [e1] at cD
      have hI2':=Lib.hid hI2
      generalize (⟨(cardN (letN z)).toArray⟩:ByteArray)=dt at cD ⊢
      have hz':=Lib.hid hz
      clear hb4 e1 hI2 hck hz
      go_wp2_with fail
      go_at_call 9
      refine cD.mono ?_
      rintro e w5 ⟨⟨t5,ao5,m5,c5,rfl⟩,hA5,_⟩
      have hI3:Hid (TagInv s' b' xN (cardN (letN (zs.getD (k+1 - 1) 0))) (k+1)):=Lib.hid (by rw [Nat.add_sub_cancel,hz'.out];exact hI2'.out)
      have hA6:=Lib.hid (hA5.kept ((Below.refl w5.heap.size w5).alloc (Nat.le_refl _) (.cells #[.int .i64 ((if k=0 then 201 else 204:Nat):Int),.int .i64 ((k+2:Nat):Int),.string ⟨#[]⟩,.slice ao5 m5 c5,.string t5] 29)))
      obtain ⟨hL0,hL1⟩:=hL'.out
      have dT:¬ ((k+2:Nat):Int)≤(L:Int):=by
        rcases Nat.eq_zero_or_pos k with h | h
        · have:=hL0 h;omega
        · have:=hL1 h;omega
      clear cD hA5 hL0 hL1 hL' hI'
      by_cases h0:k=0
      · rw [if_pos h0] at hA6 ⊢
        have e0:((k:Int)==0)=true:=by rw [beq_iff_eq];omega
        have e1:¬ (0:Int) < (k:Int):=by omega
        have h0':=Lib.hid h0
        clear h0
        go_wp2
        go_roundw
        case rel=>exact ⟨k+1,k+2,s',b',by go_num,by go_num,fun h=>absurd h (by omega),fun _=>rfl,by omega,by omega,hI3.out,hA6.out⟩
        case measure=>simp [RowKit.intOf];omega
      · rw [if_neg h0] at hA6 ⊢
        have e0:((k:Int)==0)=false:=by rw [beq_eq_false_iff_ne];omega
        have e1:(0:Int) < (k:Int):=by omega
        go_wp2
        go_roundw
        case rel=>exact ⟨k+1,k+2,s',b',by go_num,by go_num,fun h=>absurd h (by omega),fun _=>rfl,by omega,by omega,hI3.out,hA6.out⟩
        case measure=>simp [RowKit.intOf];omega
    · by_cases h0:k=0
      · subst h0
        have hn0:n=0:=by omega
        obtain rfl:L=0:=hL'.out.1 rfl
        have cD:=hA'.out.doN hB'.out 4 aB xB zB zB zB zB 0 ⟨by decide,by decide,by decide,by decide,by decide,by decide,by decide,by decide⟩ (by rw [hchg'.out];omega)
        rw [tag_gone hI'.out rfl rfl] at cD
        have hn1:¬ (0:Int) < (n:Int):=by omega
        clear hgo hn0 hI' hL' hchg'
        go_wp2_with fail
        go_at_call 9
        refine cD.mono ?_
        rintro e w4 ⟨⟨t4,ao4,m4,c4,rfl⟩,hA4,_⟩
        have hbw:=Lib.hid hA4.below
        have hfd:=fld_st 404 0 ⟨#[]⟩ t4 (.slice ao4 m4 c4)
        unfold repV
        clear cD hA4
        go_wp2
        go_ret
        exact ⟨rfl,hbw.out⟩
      · have hk0:0 < k:=by omega
        have hLk:=hL'.out.2 hk0
        obtain ⟨j,hj⟩:∃ j,j+1=k:=⟨k - 1,by omega⟩
        have hjk:(k:Int) - 1=(j:Int):=by omega
        have hmin:min (n:Int) 40=(k:Int):=by omega
        have hj39:j < 40:=by omega
        have hjn:(j:Int) < (n:Int):=by omega
        have hj0:(0:Int)≤(j:Int):=by omega
        have hjw:IntKind.i64.wrap (j:Int)=(j:Int):=by rw [IntKind.wrap_i64];omega
        have hzj:zs.getD (k - 1) 0=zs.getD j 0:=by rw [show k - 1=j by omega]
        obtain ⟨pz,hpz⟩:∃ pz,zs.getD j 0=pz:=⟨_,rfl⟩
        have hI0:=hI'.out
        rw [hzj,hpz] at hI0
        obtain ⟨rfl,hpb⟩:=hzc.out.1 (by intro h;rw [h] at hne';have:=hne'.out;simp at this;omega)
        have hcj:w.cell? ⟨pb,off+j,none⟩=some (.int .i64 pz):=by rw [←hpz];exact hzc.out.2 j (by rw [hne'.out];omega)
        have hcj':=Lib.hid hcj
        obtain ⟨D,hD⟩:∃ D:ByteArray,(⟨(cardN (letN pz)).toArray⟩:ByteArray)=D:=⟨_,rfl⟩
        obtain ⟨tg,htg⟩:∃ tg:Int,((k+1:Nat):Int)=tg:=⟨_,rfl⟩
        have hltg:(tg==(L:Int))=true:=by rw [beq_iff_eq];omega
        have hL00:((L:Int)==0)=false:=by rw [beq_eq_false_iff_ne];omega
        have cG:=hA'.out.doN hB'.out 5 aB xB zB zB zB zB 0 ⟨by decide,by decide,by decide,by decide,by decide,by decide,by decide,by decide⟩ (by rw [hchg'.out];omega)
        rw [tag_get hI0 hk0 rfl rfl rfl] at cG
        simp only [hD,htg] at cG
        have cC:=fun W=>card_any pz W
        rw [hD] at cC
        have cC':=Lib.hid cC
        have hm:(IntKind.u64.wrap ot).tmod 60=(modL ot 60:Int):=modL_is ot (m:=60) (by decide)
        have hq:=modL_lt ot (m:=60) (by decide)
        obtain ⟨q,hqe⟩:∃ q,modL ot 60=q:=⟨_,rfl⟩
        rw [hqe] at hm hq
        have cT:=fun W=>tag_any (q+1) W (by omega)
        rw [show ((q+1:Nat):Int)=1+(q:Int) by omega] at cT
        obtain ⟨D1,hD1⟩:∃ D:ByteArray,(⟨(cardN (letN 1)).toArray⟩:ByteArray)=D:=⟨_,rfl⟩
        have hD1s:D1.size≤1048576:=by rw [←hD1,size_of,cardN_len];decide
        have c1:=fun W=>card_any 1 W
        rw [hD1] at c1
        have c1':=Lib.hid c1
        obtain ⟨T,hT⟩:∃ T:ByteArray,(⟨(tagB (q+1)).toArray⟩:ByteArray)=T:=⟨_,rfl⟩
        have hTs:T.size≤1048576:=by rw [←hT,size_of];have:=tagB_len (q+1);omega
        rw [hT] at cT
        have cT':=Lib.hid cT
        obtain ⟨s',r,e1,hr,hS⟩:=tag_match hI0 hk0 hk40 (o:=q+1) (by omega) (by omega) (c:=cmdD 3 aB xB D1 T zB zB [] 0) rfl (xx_may 1).fits (by rw [←hT];rfl) rfl (by rw [←hD1];exact (xx_may 1).norm) rfl rfl
        have e2:=tag_star hS (c:=cmdD 3 aB xB D1 zB ⟨#[42]⟩ zB [] 0) rfl (xx_may 1).fits rfl rfl (by rw [←hD1];exact (xx_may 1).norm) rfl rfl
        have hr':=Lib.hid hr
        have cS:∀ X W,AtX B sb X w s' W→Calls Tryz.prog 9 #[pv sb,.agg #[.int .i64 3,.string aB,.string xB,.string D1,.string zB,.string ⟨#[42]⟩,.string zB,.slice none 0 0,.int .i64 0,.int .i64 0,.int .i64 0]] W fun e w'=>(∃ tok ao m c,e=.returned (.agg #[.int .i64 412,.int .i64 0,.string ⟨#[]⟩,.slice ao m c,.string tok]))∧AtX B sb X w s' w'∧∀ k∈X,w'.heap[k]?=W.heap[k]?:=fun X W hW=>by
          have h:=hW.doN hB'.out 3 aB xB D1 zB ⟨#[42]⟩ zB 0 ⟨by decide,by decide,hD1s,by decide,by decide,by decide,by decide,by decide⟩ (by have:=hS.chg;omega)
          rw [e2] at h
          exact h
        have cS':=Lib.hid cS
        have hLk':=Lib.hid (And.intro hLk htg)
        have hpb':=Lib.hid hpb
        have cPut:∀ X W,AtX B sb X w s W→_:=fun X W hW=>hW.doN hB'.out 3 aB xB D1 T zB zB 0 ⟨by decide,by decide,hD1s,hTs,by decide,by decide,by decide,by decide⟩ (by rw [hchg'.out];omega)
        simp only [e1] at cPut
        have cPut':=Lib.hid cPut
        have hj':=Lib.hid hj
        have hways:((40:Int)≤(k:Int)∧(k:Int) < (n:Int)∧wr.cell? ⟨pb,off+k,none⟩=some (.int .i64 (zs.getD k 0)))∨¬ (k:Int) < (n:Int):=by
          rcases Nat.lt_or_ge k n with hlt | hge
          · exact .inl ⟨by omega,by omega,by rw [hA'.out.below.cell (p:=⟨pb,off+k,none⟩) hpb];exact hzc.out.2 k (by rw [hne'.out];exact hlt)⟩
          · exact .inr (by omega)
        clear hgo hI' hL' hchg' hI0 hzj hpz hcj hD hLk htg cC hqe cT hD1 c1 hT e1 hr hS e2 cS cPut hj
        rcases hways with ⟨h40,hlt,hck⟩ | hge
        all_goals
          go_wp2_with fail
          go_at_call 9
          refine cG.mono ?_
          rintro e w4 ⟨⟨t4,ao4,m4,c4,rfl⟩,hA4,_⟩
          obtain ⟨bg,hbg⟩:∃ bg,w4.heap.size=bg:=⟨_,rfl⟩
          obtain ⟨w5,hw5⟩:∃ w5,w4.alloc (.cells #[.int .i64 200,.int .i64 tg,.string D,.slice ao4 m4 c4,.string t4] 29)=w5:=⟨_,rfl⟩
          have hA5:=hA4.add (.cells #[.int .i64 200,.int .i64 tg,.string D,.slice ao4 m4 c4,.string t4] 29)
          have hg5:=heap_alloc_new w4 (.cells #[.int .i64 200,.int .i64 tg,.string D,.slice ao4 m4 c4,.string t4] 29)
          rw [hw5,hbg] at hA5 hg5
          have hA5':=Lib.hid hA5
          have hg5':=Lib.hid hg5
          clear hA4 hA5 hg5
          go_wp2_with fail
          go_at_call 12
          refine (c1'.out w5).mono ?_
          rintro e w6 ⟨rfl,hb6⟩
          have hA6:=Lib.hid (hA5'.out.kept hb6)
          have hg6:=Lib.hid ((hb6.block bg (Array.getElem?_eq_some_iff.1 hg5'.out).1).trans hg5'.out)
          clear hb6
          go_wp2_with fail
          go_at_call 13
          refine (cT'.out w6).mono ?_
          rintro e w7 ⟨rfl,hb7⟩
          have hA7:=Lib.hid (hA6.out.kept hb7)
          have hg7:=Lib.hid ((hb7.block bg (Array.getElem?_eq_some_iff.1 hg6.out).1).trans hg6.out)
          clear hb7
          go_wp2_with fail
          go_at_call 9
          refine (cPut'.out _ w7 hA7.out).mono ?_
          rintro e w8 ⟨⟨t8,ao8,m8,c8,rfl⟩,hA8,hX8⟩
          have hg8:=Lib.hid ((hX8 bg (by simp)).trans hg7.out)
          obtain ⟨st,hst⟩:∃ st:Int,(r.st:Int)=st:=⟨_,rfl⟩
          obtain ⟨rt,hrt⟩:∃ rt:Int,(r.tag:Int)=rt:=⟨_,rfl⟩
          obtain ⟨rd,hrd⟩:∃ rd:ByteArray,(⟨r.data.toArray⟩:ByteArray)=rd:=⟨_,rfl⟩
          rw [hst,hrt,hrd]
          unfold repV
          obtain ⟨ba,hba⟩:∃ ba,w8.heap.size=ba:=⟨_,rfl⟩
          obtain ⟨w9,hw9⟩:∃ w9,w8.alloc (.cells #[.int .i64 st,.int .i64 rt,.string rd,.slice ao8 m8 c8,.string t8] 29)=w9:=⟨_,rfl⟩
          have hA9:=hA8.add (.cells #[.int .i64 st,.int .i64 rt,.string rd,.slice ao8 m8 c8,.string t8] 29)
          have ha9:=heap_alloc_new w8 (.cells #[.int .i64 st,.int .i64 rt,.string rd,.slice ao8 m8 c8,.string t8] 29)
          have hg9:w9.heap[bg]?=some (.cells #[.int .i64 200,.int .i64 tg,.string D,.slice ao4 m4 c4,.string t4] 29 (0,0)):=by
            rw [←hw9]
            exact (heap_alloc_old _ _ _ (Array.getElem?_eq_some_iff.1 hg8.out).1).trans hg8.out
          rw [hw9,hba] at hA9 ha9
          have hlb:bg < w9.heap.size:=(Array.getElem?_eq_some_iff.1 hg9).1
          have hla:ba < w9.heap.size:=(Array.getElem?_eq_some_iff.1 ha9).1
          have hlp:pb < w9.heap.size:=Nat.lt_of_lt_of_le hpb hA9.below.size
          have g1:=Lib.cell_of_heap hg9 1
          have g2:=Lib.cell_of_heap hg9 2
          have a0:=Lib.cell_of_heap ha9 0
          have p9:w9.cell? ⟨pb,off+j,none⟩=some (.int .i64 pz):=by rw [hA9.below.cell (p:=⟨pb,off+j,none⟩) hpb];exact hcj'.out
          have hSS:=Lib.hid (show ∀ W,Below w9.heap.size w9 W→(W.cell? ⟨bg,1,none⟩=some (.int .i64 tg)∧W.cell? ⟨bg,2,none⟩=some (.string D)∧W.cell? ⟨ba,0,none⟩=some (.int .i64 st)∧W.cell? ⟨pb,off+j,none⟩=some (.int .i64 pz)) from fun W h =>
            ⟨(h.cell (p:=⟨bg,1,none⟩) hlb).trans g1,(h.cell (p:=⟨bg,2,none⟩) hlb).trans g2,(h.cell (p:=⟨ba,0,none⟩) hla).trans a0,(h.cell (p:=⟨pb,off+j,none⟩) hlp).trans p9⟩)
          have hSZ:=Lib.hid (show ∀ W Z,Below w9.heap.size w9 W→Below w.heap.size w Z→(∀ k∈[ba,bg],Z.heap[k]?=W.heap[k]?)→(Z.cell? ⟨bg,1,none⟩=some (.int .i64 tg)∧Z.cell? ⟨bg,2,none⟩=some (.string D)∧Z.cell? ⟨ba,0,none⟩=some (.int .i64 st)∧Z.cell? ⟨pb,off+j,none⟩=some (.int .i64 pz)) from fun W Z h hz hk=>by
            have eb:=(hk bg (by simp)).trans ((h.block bg hlb).trans hg9)
            have ea:=(hk ba (by simp)).trans ((h.block ba hla).trans ha9)
            exact ⟨Lib.cell_of_heap eb 1,Lib.cell_of_heap eb 2,Lib.cell_of_heap ea 0,(hz.cell (p:=⟨pb,off+j,none⟩) hpb).trans hcj'.out⟩)
          have hA9':=Lib.hid hA9
          have hrr:((st==204)=true∧(st==412)=false∧((1:Int)+(q:Int)==(L:Int))=true)∨((st==204)=false∧(st==412)=true∧((1:Int)+(q:Int)==(L:Int))=false):=by
            obtain ⟨x1,x2⟩:=hLk'.out
            rcases hr'.out with ⟨y1,y2⟩ | ⟨y1,y2⟩
            · exact .inl ⟨by rw [beq_iff_eq];omega,by rw [beq_eq_false_iff_ne];omega,by rw [beq_iff_eq];omega⟩
            · exact .inr ⟨by rw [beq_eq_false_iff_ne];omega,by rw [beq_iff_eq];omega,by rw [beq_eq_false_iff_ne];omega⟩
          have hfd:=fun (d t:ByteArray) (ev:Value)=>fld_st 412 0 d t ev
          clear hA8 hX8 hA9 hst hrt hrd g1 g2 a0 p9 hg9 ha9
          rcases hrr with ⟨s1,s2,ho⟩ | ⟨s1,s2,ho⟩
          all_goals
            have ho2:((1:Int)+(q:Int) != (L:Int))=!((1:Int)+(q:Int)==(L:Int)):=rfl
            rw [ho] at ho2
            simp only [Bool.not_true,Bool.not_false] at ho2
            go_wp2_with fail
            go_region_held3 (fun W=>W.cell? ⟨bg,1,none⟩=some (.int .i64 tg)∧W.cell? ⟨bg,2,none⟩=some (.string D)∧W.cell? ⟨ba,0,none⟩=some (.int .i64 st)∧W.cell? ⟨pb,off+j,none⟩=some (.int .i64 pz))
              (first | exact hSS.out _ (Below.drew (Below.refl _ _)) | assumption)
              (first
                | (go_at_call 12;(with_reducible refine (cC'.out _).mono ?_);rintro e wx ⟨rfl,hbx⟩;have hbx2:Below w9.heap.size w9 wx:=⟨hbx.os,hbx.tape,hbx.output,hbx.size,hbx.block⟩;have hSx:=hSS.out _ hbx2)
                | (go_at_call 12;(with_reducible refine (c1'.out _).mono ?_);rintro e wy ⟨rfl,hby⟩;have hby2:Below w9.heap.size w9 wy:=hbx2.trans (hby.mono hbx2.size);have hSy:=hSS.out _ hby2)
                | (go_at_call 9;refine (cS'.out _ _ (hA9'.out.kept hby2)).mono ?_;rintro e wz ⟨⟨tz,az,mz,cz,rfl⟩,hAz,hXz⟩;have hSz:=hSZ.out _ _ hby2 hAz.below hXz))
            go_wp2
            go_ret
            exact ⟨rfl,hAz.below⟩
end Bo
namespace Ch
open Go.Lib Go.RowKit Go.Shelf Go.ChangeShapes Go.WideShapes Go.ChangeAt
theorem own:ownKnob Tryz.prog.godebug=none:=by kernel_rfl
theorem accept_eq:Rows.laid_unicode_utf8_acceptRanges=Lib.acceptData:=by kernel_rfl
theorem first_eq:Rows.laid_unicode_utf8_first=Lib.firstData:=Pinned.utf8First_eq
theorem tabs_of {W : World} (h1 : VarReads Tryz.prog W "unicode/utf8.first" Lib.firstData) (h2 : VarReads Tryz.prog W "unicode/utf8.acceptRanges" Lib.acceptData) : Tabs W :=
  utf8Tabs_of_readsT (U8Types.of196 Tryz.laysValid) ⟨by kernel_rfl,by kernel_rfl,by kernel_rfl,by kernel_rfl,by kernel_rfl,by kernel_rfl,by kernel_rfl⟩ h1 h2
theorem gPow : Tryz.prog.globalNamed "internal/strconv.uint64pow10" = some 3 := by kernel_rfl
theorem tPow:(Tryz.prog.globals[3]?).map (·.type)=some 276:=by kernel_rfl
theorem cPow:Tryz.prog.cellsOf 276=20:=by kernel_rfl
theorem cU64:Tryz.prog.cellsOf 71=1:=by kernel_rfl
theorem pow_eq:(Rows.laid_internal_strconv_uint64pow10:DataW Unit)=Lib.tabData .u64 Lib.pow10Tab:=by kernel_rfl
theorem pow_of {W : World} (h : VarReads Tryz.prog W "internal/strconv.uint64pow10" (Lib.tabData .u64 Lib.pow10Tab)) : Pow W := by
  obtain ⟨g,t,cs,fuel,p,hg,hty,hvar,hd⟩:=h
  obtain rfl:=Option.some.inj (gPow.symm.trans hg)
  obtain rfl:=Option.some.inj (tPow.symm.trans hty)
  unfold Pow Lib.TabIs
  rw [hvar,←cells_of_tab Tryz.underlying276 Tryz.underlying71 cU64 cPow hd]
def de32:List Int:=[0,1,28,2,29,14,24,3,30,22,20,15,25,17,4,8,31,27,13,23,21,19,16,7,26,12,18,6,11,5,10,9]
def de64:List Int:=[0,1,56,2,57,49,28,3,61,58,42,50,38,29,17,4,62,47,59,36,45,43,51,22,53,39,33,30,24,18,12,5,63,55,48,27,60,41,37,16,46,35,44,21,52,32,23,11,54,26,40,15,34,20,31,10,25,14,19,9,13,8,7,6]
end Ch
end Go.Proofs.YtobfaibofhmpgaaGreatDoor
