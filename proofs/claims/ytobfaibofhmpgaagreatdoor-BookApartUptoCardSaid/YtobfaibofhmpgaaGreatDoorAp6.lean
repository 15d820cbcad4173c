import Derived.Test.YtobfaibofhmpgaaGreatDoorAp1
import Derived.Test.YtobfaibofhmpgaaGreatDoorAp5
import Derived.LoopTactic
import Derived.BigQuiet
import Derived.Deep.QuietTactic
import Derived.IntWalk
set_option linter.unusedVariables false
set_option maxHeartbeats 2000000
set_option maxRecDepth 100000
namespace Go.Proofs.YtobfaibofhmpgaaGreatDoor
namespace Li
open Go.Lib
abbrev Row:=List UInt8
def inB (b:UInt8):Bool:=decide ((97<=b.toNat/\b.toNat<=122)\/(65<=b.toNat/\b.toNat<=90)\/(48<=b.toNat/\b.toNat<=57)\/b.toNat=45)
def sgB (b:UInt8):Bool:=b==44 || b==59 || b==58
def sepB (b:UInt8):Bool:=b==44 || b==59 || b==58 || b==34
def ends (l:Row):Bool:=l.contains 13 || l.contains 10
theorem ends_mem (l:Row):ends l=true↔13∈l\/10∈l:=by unfold ends;simp
theorem ends_false (l:Row):ends l=false↔13∉l/\10∉l:=by unfold ends;simp
theorem ends_append (a b:Row):ends (a++b)=(ends a || ends b):=by
  rw [Bool.eq_iff_iff,Bool.or_eq_true,ends_mem,ends_mem,ends_mem]
  simp only [List.mem_append]
  constructor
  · rintro ((h | h) | (h | h))<;>simp [h]
  · rintro ((h | h) | (h | h))<;>simp [h]
theorem span_take {p:UInt8->Bool} {l:Row} (k:Nat) (hk:k<=l.length) (h1:∀ j,j < k->p (l.getD j 0)=true) (h2:k < l.length->p (l.getD k 0)=false):l.takeWhile p=l.take k/\l.dropWhile p=l.drop k:=by
  induction l generalizing k with
  | nil=>simp at hk;subst hk;exact ⟨rfl,rfl⟩
  | cons x r ih =>
    match k with
    | 0 =>
      have:=h2 (by simp)
      simp only [List.getD_cons_zero] at this
      simp [this]
    | k+1 =>
      have h0:=h1 0 (by omega)
      simp only [List.getD_cons_zero] at h0
      have:=ih k (by simpa using hk) (fun j hj=>by simpa using h1 (j+1) (by omega)) (fun hlt=>by simpa using h2 (by simpa using hlt))
      simp [h0,this]
def nlen (l:Row):Nat:=(l.takeWhile inB).length
def nameB (l:Row):Bool:=l.all inB && decide (1<=l.length) && decide (l.length<=64)
def nameC (l:Row):Option (Row × Row):=if nlen l=0\/64 < nlen l then none else some (l.take (nlen l),l.drop (nlen l))
theorem nlen_le (l:Row):nlen l<=l.length:=by unfold nlen;exact (List.takeWhile_sublist _).length_le
theorem nlen_at (l:Row) (k:Nat) (hk:k<=l.length) (h1:∀ j,j < k->inB (l.getD j 0)=true) (h2:k < l.length->inB (l.getD k 0)=false):nlen l=k:=by
  unfold nlen
  rw [(span_take k hk h1 h2).1,List.length_take]
  omega
theorem nlen_all (l:Row):∀ x∈l.take (nlen l),inB x=true:=by
  have e:l.take (nlen l)=l.takeWhile inB:=(List.prefix_iff_eq_take.1 (List.takeWhile_prefix inB)).symm
  rw [e]
  have:=List.all_takeWhile (p:=inB) (l:=l)
  rwa [List.all_eq_true] at this
theorem nameC_front (n r:Row) (h:nameB n=true) (hr:∀ x,r.head?=some x->inB x=false):nameC (n++r)=some (n,r):=by
  unfold nameB at h
  simp only [Bool.and_eq_true,decide_eq_true_eq,List.all_eq_true] at h
  obtain ⟨⟨h1,h2⟩,h3⟩:=h
  have hn:nlen (n++r)=n.length:=by
    refine nlen_at _ _ (by simp) (fun j hj=>?_) (fun hlt=>?_)
    · rw [Ch.getD_append _ _ _ hj,List.getD_eq_getElem?_getD,List.getElem?_eq_getElem hj]
      exact h1 _ (List.getElem_mem hj)
    · rw [List.getD_eq_getElem?_getD,List.getElem?_append_right (Nat.le_refl _),Nat.sub_self,<-List.head?_eq_getElem?]
      cases r with
      | nil=>simp at hlt
      | cons x t=>exact hr x rfl
  unfold nameC
  rw [hn,if_neg (by omega),List.take_left,List.drop_left]
theorem nameC_some {l n r:Row} (h:nameC l=some (n,r)):l=n++r/\nameB n=true:=by
  unfold nameC at h
  split at h
  · cases h
  · have h:=Option.some.inj h
    simp only [Prod.mk.injEq] at h
    obtain ⟨rfl,rfl⟩:=h
    refine ⟨(List.take_append_drop _ _).symm,?_⟩
    unfold nameB
    have:=nlen_le l
    simp only [Bool.and_eq_true,decide_eq_true_eq,List.all_eq_true,List.length_take]
    exact ⟨⟨nlen_all l,by omega⟩,by omega⟩
theorem nameC_name (l:Row):nameB l=true↔nameC l=some (l,[]):=by
  constructor
  · intro h
    have:=nameC_front l [] h (fun x hx=>by cases hx)
    rwa [List.append_nil] at this
  · intro h
    exact (nameC_some h).2
theorem name_of_cut (l:Row):nameB l=match nameC l with | none=>false | some (_,r)=>r.isEmpty:=by
  cases h:nameC l with
  | none =>
    cases hb:nameB l
    · rfl
    · rw [(nameC_name l).1 hb] at h;cases h
  | some p =>
    obtain ⟨n,r⟩:=p
    obtain ⟨e,hn⟩:=nameC_some h
    cases r with
    | nil=>simp at e;subst e;simp [hn]
    | cons x t =>
      cases hb:nameB l
      · rfl
      · rw [(nameC_name l).1 hb] at h;simp at h
theorem inB_lt (b:UInt8) (h:inB b=true):b.toNat < 128:=by unfold inB at h;have:=of_decide_eq_true h;omega
def cut1 (c:UInt8):Row->Option (Row × Row)
  | []=>none
  | x :: r=>if x=c then some ([],r) else (cut1 c r).map fun p=>(x :: p.1,p.2)
theorem cut1_none {c:UInt8}:∀ {l:Row},c∉l->cut1 c l=none
  | [],_=>rfl
  | x :: r,h=>by
    have:x≠c:=fun e=>h (by simp [e])
    rw [cut1,if_neg this,cut1_none (fun hm=>h (by simp [hm]))]
    rfl
theorem cut1_some {c:UInt8}:∀ {a:Row} (r:Row),c∉a->cut1 c (a++c :: r)=some (a,r)
  | [],r,_=>by simp [cut1]
  | x :: a,r,h=>by
    have:x≠c:=fun e=>h (by simp [e])
    rw [List.cons_append,cut1,if_neg this,cut1_some r (fun hm=>h (by simp [hm]))]
    rfl
theorem cut1_tells {c:UInt8}:∀ {t a r:Row},cut1 c t=some (a,r)->t=a++c :: r/\c∉a
  | [],a,r,h=>by cases h
  | y :: u,a,r,h=>by
    rw [cut1] at h
    split at h
    · have h:=Option.some.inj h
      simp only [Prod.mk.injEq] at h
      obtain ⟨rfl,rfl⟩:=h
      rename_i hy;rw [hy];exact ⟨rfl,by simp⟩
    · obtain ⟨⟨p1,p2⟩,hp,he⟩:=Option.map_eq_some_iff.1 h
      simp only [Prod.mk.injEq] at he
      obtain ⟨rfl,rfl⟩:=he
      obtain ⟨h1,h2⟩:=cut1_tells hp
      rename_i hy
      rw [h1]
      refine ⟨rfl,?_⟩
      simp only [List.mem_cons,not_or]
      exact ⟨fun e=>hy e.symm,h2⟩
def rawC (l:Row):Option (Row × Row):=if l.head?=some 34 then cut1 34 l.tail else some (l.takeWhile (fun b=>!sepB b),l.dropWhile (fun b=>!sepB b))
def mean:Row->Row
  | []=>[]
  | [x]=>[x]
  | x :: y :: r=>if x=94/\y=110 then 10 :: mean r else if x=94/\y=94 then 94 :: mean r else if x=94/\y=39 then 34 :: mean r else x :: mean (y :: r)
theorem mean_bare (x:UInt8) (r:Row) (h:x≠94):mean (x :: r)=x :: mean r:=by
  cases r with
  | nil=>rfl
  | cons y t=>rw [mean,if_neg (fun h'=>h h'.1),if_neg (fun h'=>h h'.1),if_neg (fun h'=>h h'.1)]
theorem mean_len:∀ l:Row,(mean l).length<=l.length
  | []=>Nat.le_refl _
  | [x]=>Nat.le_refl _
  | x :: y :: r=>by
    have h1:=mean_len r
    have h2:=mean_len (y :: r)
    rw [mean]
    simp only [List.length_cons] at h2 ⊢
    split
    · simp only [List.length_cons];omega
    · split
      · simp only [List.length_cons];omega
      · split
        · simp only [List.length_cons];omega
        · simp only [List.length_cons];omega
def esc1 (c:UInt8):Row:=if c=10 then [94,110] else if c=94 then [94,94] else if c=34 then [94,39] else [c]
def esc (l:Row):Row:=l.flatMap esc1
theorem esc_cons (c:UInt8) (l:Row):esc (c :: l)=esc1 c++esc l:=by simp [esc]
theorem esc_append (a b:Row):esc (a++b)=esc a++esc b:=by simp [esc]
theorem mean_esc:∀ l:Row,mean (esc l)=l
  | []=>rfl
  | c :: l=>by
    have ih:=mean_esc l
    rw [esc_cons]
    unfold esc1
    by_cases h1:c=10
    · subst h1;simp [mean,ih]
    · by_cases h2:c=94
      · subst h2;simp [mean,ih]
      · by_cases h3:c=34
        · subst h3;simp [mean,ih]
        · rw [if_neg h1,if_neg h2,if_neg h3]
          show mean (c :: esc l)=_
          rw [mean_bare _ _ h2,ih]
theorem esc1_len (c:UInt8):1<=(esc1 c).length/\(esc1 c).length<=2:=by
  unfold esc1
  split
  · simp
  · split
    · simp
    · split<;>simp
theorem esc_len:∀ l:Row,(esc l).length<=2*l.length
  | []=>by simp [esc]
  | c :: l=>by
    have:=esc_len l
    have:=(esc1_len c).2
    rw [esc_cons,List.length_append,List.length_cons]
    omega
theorem esc_mem {x:UInt8} {l:Row} (h:x∈esc l):x≠10/\x≠34/\(x∈l\/x=94\/x=110\/x=39):=by
  unfold esc at h
  obtain ⟨c,hc,hx⟩:=List.mem_flatMap.1 h
  unfold esc1 at hx
  split at hx
  · simp at hx;rcases hx with rfl | rfl<;>simp
  · split at hx
    · simp at hx;subst hx;simp
    · split at hx
      · simp at hx;rcases hx with rfl | rfl<;>simp
      · simp at hx;subst hx;exact ⟨‹_›,‹_›,.inl hc⟩
def sgn (l:Row):Bool:=l.any sgB
theorem sgn_esc (l:Row):sgn (esc l)=sgn l:=by
  unfold sgn
  rw [Bool.eq_iff_iff,List.any_eq_true,List.any_eq_true]
  constructor
  · rintro ⟨x,hx,h⟩
    obtain ⟨_,_,h1 | rfl | rfl | rfl⟩:=esc_mem hx
    · exact ⟨x,h1,h⟩
    · exact absurd h (by decide)
    · exact absurd h (by decide)
    · exact absurd h (by decide)
  · rintro ⟨x,hx,h⟩
    refine ⟨x,List.mem_flatMap.2 ⟨x,hx,?_⟩,h⟩
    unfold esc1
    have h1:x≠10:=fun e=>by subst e;revert h;decide
    have h2:x≠94:=fun e=>by subst e;revert h;decide
    have h3:x≠34:=fun e=>by subst e;revert h;decide
    rw [if_neg h1,if_neg h2,if_neg h3]
    simp
def wval (v:Row):Row:=if sgn v=true then 34 :: (esc v++[34]) else esc v
theorem wval_len (v:Row):(wval v).length<=2*v.length+2:=by
  have:=esc_len v
  unfold wval
  split
  · simp;omega
  · omega
theorem rawC_bare (a r:Row) (h:∀ x∈a,sepB x=false) (hr:∀ x,r.head?=some x->sepB x=true) (h34:r.head?≠some 34):rawC (a++r)=some (a,r):=by
  have hh:(a++r).head?≠some 34:=by
    cases a with
    | nil=>exact h34
    | cons x t =>
      intro e
      simp at e
      have:=h x (by simp)
      subst e
      revert this;decide
  unfold rawC
  rw [if_neg hh]
  have hs:=span_take (p:=fun b=>!sepB b) (l:=a++r) a.length (by simp) (fun j hj=>by
    rw [Ch.getD_append _ _ _ hj,List.getD_eq_getElem?_getD,List.getElem?_eq_getElem hj]
    have:=h _ (List.getElem_mem hj)
    simp [this]) (fun hlt=>by
    rw [List.getD_eq_getElem?_getD,List.getElem?_append_right (Nat.le_refl _),Nat.sub_self,<-List.head?_eq_getElem?]
    cases r with
    | nil=>simp at hlt
    | cons x t=>have:=hr x rfl;simp [this])
  rw [hs.1,hs.2,List.take_left,List.drop_left]
theorem rawC_quoted (a r:Row) (h:34∉a):rawC (34 :: (a++34 :: r))=some (a,r):=by
  unfold rawC
  rw [if_pos (show (34 :: (a++34 :: r)).head?=some 34 from rfl)]
  exact cut1_some r h
theorem esc_bare (v:Row) (h:sgn v=false):∀ x∈esc v,sepB x=false:=by
  intro x hx
  have h1:=esc_mem hx
  have h2:sgB x=false:=by
    rw [<-sgn_esc] at h
    unfold sgn at h
    rw [List.any_eq_false] at h
    simpa using h x hx
  unfold sepB
  unfold sgB at h2
  rw [h2]
  simpa using h1.2.1
theorem raw_wval (v r:Row) (x:UInt8) (hx:sgB x=true):rawC (wval v++x :: r)=some (esc v,x :: r):=by
  unfold wval
  cases h:sgn v
  · rw [if_neg (by decide)]
    refine rawC_bare _ _ (esc_bare v h) (fun y hy=>?_) (fun e=>?_)
    · simp at hy;subst hy;unfold sepB;unfold sgB at hx;rw [hx];rfl
    · simp at e;subst e;revert hx;decide
  · rw [if_pos rfl]
    have:(34 :: (esc v++[34]))++x :: r=34 :: (esc v++34 :: (x :: r)):=by simp
    rw [this]
    exact rawC_quoted _ _ (fun hm=>(esc_mem hm).2.1 rfl)
theorem rawC_tells {l a r:Row} (h:rawC l=some (a,r)):(∃ p q:Row,l=p++(a++(q++r))/\((p=[]/\q=[])\/(p=[34]/\q=[34])))/\r.length<=l.length:=by
  unfold rawC at h
  split at h
  · rename_i hq
    cases l with
    | nil=>cases hq
    | cons x t =>
      simp at hq;subst hq
      have e:=(cut1_tells h).1
      simp only [List.tail_cons] at e
      rw [e]
      exact ⟨⟨[34],[34],by simp,.inr ⟨rfl,rfl⟩⟩,by simp;omega⟩
  · have h:=Option.some.inj h
    simp only [Prod.mk.injEq] at h
    obtain ⟨rfl,rfl⟩:=h
    refine ⟨⟨[],[],?_,.inl ⟨rfl,rfl⟩⟩,(List.dropWhile_sublist _).length_le⟩
    simp [List.takeWhile_append_dropWhile]
def valsF:Nat->Row->Option (List Row × Row)
  | 0,_=>none
  | f+1,l=>match rawC l with
    | none=>none
    | some (a,r)=>if r.head?=some 44 then (valsF f r.tail).map fun p=>(mean a :: p.1,p.2) else some ([mean a],r)
theorem tail_lt {r:Row} {c:UInt8} (h:r.head?=some c):r.tail.length < r.length:=by
  cases r with
  | nil=>cases h
  | cons x t=>simp
theorem valsF_more:∀ (f g:Nat) (l:Row),l.length < f->l.length < g->valsF f l=valsF g l
  | 0,g,l,h,_=>absurd h (Nat.not_lt_zero _)
  | f+1,0,l,_,h=>absurd h (Nat.not_lt_zero _)
  | f + 1,g+1,l,h1,h2=>by
    unfold valsF
    cases hr:rawC l with
    | none=>rfl
    | some p =>
      obtain ⟨a,r⟩:=p
      have hl:=(rawC_tells hr).2
      dsimp only
      split
      · have:=tail_lt ‹_›
        rw [valsF_more f g r.tail (by omega) (by omega)]
      · rfl
def vals (l:Row):Option (List Row × Row):=valsF (l.length+1) l
theorem vals_step (l:Row):vals l=match rawC l with
    | none=>none
    | some (a,r)=>if r.head?=some 44 then (vals r.tail).map fun p=>(mean a :: p.1,p.2) else some ([mean a],r):=by
  unfold vals
  rw [valsF]
  cases hr:rawC l with
  | none=>rfl
  | some p =>
    obtain ⟨a,r⟩:=p
    have hl:=(rawC_tells hr).2
    dsimp only
    split
    · have:=tail_lt ‹_›
      rw [valsF_more l.length (r.tail.length+1) r.tail (by omega) (by omega)]
    · rfl
theorem vals_none {l:Row} (h:rawC l=none):vals l=none:=by rw [vals_step,h]
theorem vals_more {l a r:Row} (h:rawC l=some (a,r)) (hc:r.head?=some 44):vals l=(vals r.tail).map fun p=>(mean a :: p.1,p.2):=by
  rw [vals_step,h];dsimp only;rw [if_pos hc]
theorem vals_last {l a r:Row} (h:rawC l=some (a,r)) (hc:r.head?≠some 44):vals l=some ([mean a],r):=by
  rw [vals_step,h];dsimp only;rw [if_neg hc]
theorem vals_len:∀ (n:Nat) {l r:Row} {vs:List Row},l.length<=n->vals l=some (vs,r)->r.length+vs.length<=l.length+1/\vs≠[]
  | n, l, r,vs,hn,h=>by
    cases hr:rawC l with
    | none=>rw [vals_none hr] at h;cases h
    | some p =>
      obtain ⟨a,q⟩:=p
      have hl:=(rawC_tells hr).2
      by_cases hc:q.head?=some 44
      · have hlt:=tail_lt hc
        rw [vals_more hr hc] at h
        obtain ⟨⟨us,u⟩,hu,he⟩:=Option.map_eq_some_iff.1 h
        simp only [Prod.mk.injEq] at he
        obtain ⟨rfl,rfl⟩:=he
        match n,hn with
        | 0,hn=>omega
        | n+1,hn =>
          have:=(vals_len n (by omega) hu).1
          exact ⟨by simp only [List.length_cons];omega,by simp⟩
      · rw [vals_last hr hc] at h
        have h:=Option.some.inj h
        simp only [Prod.mk.injEq] at h
        obtain ⟨rfl,rfl⟩:=h
        exact ⟨by simp;omega,by simp⟩
structure PD where
  name:Row
  vals:List Row
structure LD where
  group:Row
  name:Row
  params:List PD
  value:Row
inductive PR where
  | bad (e:Nat)
  | ok (ps:List PD) (r:Row)
def PR.more (p:PD):PR->PR
  | .bad e=>.bad e
  | .ok ps r=>.ok (p :: ps) r
def prmsF : Nat->Row->PR
  | 0,_=>.bad 0
  | f + 1,l=>if l.head?=some 59 then
      match nameC l.tail with
      | none=>.bad 30
      | some (n,r)=>if r.head?=some 61 then
          match vals r.tail with
          | none=>.bad 31
          | some (vs,r2)=>(prmsF f r2).more ⟨n,vs⟩
        else .bad 31
    else .ok [] l
theorem prmsF_more:∀ (f g:Nat) (l:Row),l.length < f->l.length < g->prmsF f l=prmsF g l
  | 0,g,l,h,_=>absurd h (Nat.not_lt_zero _)
  | f+1,0,l,_,h=>absurd h (Nat.not_lt_zero _)
  | f + 1,g+1,l,h1,h2=>by
    unfold prmsF
    split
    · have ht:=tail_lt ‹_›
      cases hn:nameC l.tail with
      | none=>rfl
      | some p =>
        obtain ⟨n,r⟩:=p
        have hn1:=congrArg List.length (nameC_some hn).1
        rw [List.length_append] at hn1
        dsimp only
        split
        · have ht2:=tail_lt ‹r.head?=_›
          cases hv:vals r.tail with
          | none=>rfl
          | some q =>
            obtain ⟨vs,r2⟩:=q
            obtain ⟨hl,hne⟩:=vals_len _ (Nat.le_refl _) hv
            have:=List.length_pos_iff.2 hne
            dsimp only
            rw [prmsF_more f g r2 (by omega) (by omega)]
        · rfl
    · rfl
def prms (l:Row):PR:=prmsF (l.length+1) l
theorem prms_step (l:Row):prms l=if l.head?=some 59 then
      match nameC l.tail with
      | none=>.bad 30
      | some (n,r)=>if r.head?=some 61 then
          match vals r.tail with
          | none=>.bad 31
          | some (vs,r2)=>(prms r2).more ⟨n,vs⟩
        else .bad 31
    else .ok [] l:=by
  unfold prms
  rw [prmsF]
  split
  · have ht:=tail_lt ‹_›
    cases hn:nameC l.tail with
    | none=>rfl
    | some p =>
      obtain ⟨n,r⟩:=p
      have hn1:=congrArg List.length (nameC_some hn).1
      rw [List.length_append] at hn1
      dsimp only
      split
      · have ht2:=tail_lt ‹r.head?=_›
        cases hv:vals r.tail with
        | none=>rfl
        | some q =>
          obtain ⟨vs,r2⟩:=q
          obtain ⟨hl,hne⟩:=vals_len _ (Nat.le_refl _) hv
          have:=List.length_pos_iff.2 hne
          dsimp only
          rw [prmsF_more l.length (r2.length+1) r2 (by omega) (by omega)]
      · rfl
  · rfl
theorem prms_end {l:Row} (h:l.head?≠some 59):prms l=.ok [] l:=by rw [prms_step,if_neg h]
theorem prms_bad1 {l:Row} (h:l.head?=some 59) (h1:nameC l.tail=none):prms l=.bad 30:=by rw [prms_step,if_pos h,h1]
theorem prms_bad2 {l n r:Row} (h:l.head?=some 59) (h1:nameC l.tail=some (n,r)) (h2:r.head?≠some 61):prms l=.bad 31:=by
  rw [prms_step,if_pos h,h1];dsimp only;rw [if_neg h2]
theorem prms_bad3 {l n r:Row} (h:l.head?=some 59) (h1:nameC l.tail=some (n,r)) (h2:r.head?=some 61) (h3:vals r.tail=none):prms l=.bad 31:=by
  rw [prms_step,if_pos h,h1];dsimp only;rw [if_pos h2,h3]
theorem prms_more {l n r r2:Row} {vs:List Row} (h:l.head?=some 59) (h1:nameC l.tail=some (n,r)) (h2:r.head?=some 61) (h3:vals r.tail=some (vs,r2)):prms l=(prms r2).more ⟨n,vs⟩:=by
  rw [prms_step,if_pos h,h1];dsimp only;rw [if_pos h2,h3]
inductive LR where
  | bad (e:Nat)
  | ok (L:LD)
def namesC (l:Row):Option (Row × Row × Row) :=
  match nameC l with
  | none=>none
  | some (n,r)=>if r.head?=some 46 then (nameC r.tail).map fun p=>(n,p.1,p.2) else some ([],n,r)
def fin (g n:Row) (acc:List PD) (l:Row):LR :=
  match prms l with
  | .bad e=>.bad e
  | .ok ps r=>if r.head?=some 58 then .ok ⟨g,n,acc++ps,r.tail⟩ else .bad 31
def parse (s:Row):LR :=
  if Ch.valid s=true/\ends s=false then
    match namesC s with
    | none=>.bad 30
    | some (g,n,r)=>fin g n [] r
  else .bad 10
theorem parse_text {s:Row} (h:¬ (Ch.valid s=true/\ends s=false)):parse s=.bad 10:=if_neg h
theorem parse_name {s:Row} (h:Ch.valid s=true/\ends s=false) (h1:namesC s=none):parse s=.bad 30:=by unfold parse;rw [if_pos h,h1]
theorem parse_fin {s g n r:Row} (h:Ch.valid s=true/\ends s=false) (h1:namesC s=some (g,n,r)):parse s=fin g n [] r:=by unfold parse;rw [if_pos h,h1]
theorem fin_more {g n:Row} {acc:List PD} {l m r r2:Row} {vs:List Row} (h:l.head?=some 59) (h1:nameC l.tail=some (m,r)) (h2:r.head?=some 61) (h3:vals r.tail=some (vs,r2)):fin g n acc l=fin g n (acc++[⟨m,vs⟩]) r2:=by
  unfold fin
  rw [prms_more h h1 h2 h3]
  cases prms r2 with
  | bad e=>rfl
  | ok ps r=>simp [PR.more]
theorem fin_end {g n:Row} {acc:List PD} {l:Row} (h:l.head?≠some 59):fin g n acc l=if l.head?=some 58 then .ok ⟨g,n,acc,l.tail⟩ else .bad 31:=by
  unfold fin
  rw [prms_end h]
  simp
theorem fin_bad1 {g n:Row} {acc:List PD} {l:Row} (h:l.head?=some 59) (h1:nameC l.tail=none):fin g n acc l=.bad 30:=by unfold fin;rw [prms_bad1 h h1]
theorem fin_bad2 {g n:Row} {acc:List PD} {l m r:Row} (h:l.head?=some 59) (h1:nameC l.tail=some (m,r)) (h2:r.head?≠some 61):fin g n acc l=.bad 31:=by unfold fin;rw [prms_bad2 h h1 h2]
theorem fin_bad3 {g n:Row} {acc:List PD} {l m r:Row} (h:l.head?=some 59) (h1:nameC l.tail=some (m,r)) (h2:r.head?=some 61) (h3:vals r.tail=none):fin g n acc l=.bad 31:=by unfold fin;rw [prms_bad3 h h1 h2 h3]
def wvs (m:UInt8):List Row->Row
  | []=>[]
  | v :: vs=>m :: (wval v++wvs 44 vs)
def wprm (p:PD):Row:=59 :: (p.name++wvs 61 p.vals)
def wprms (ps:List PD):Row:=ps.flatMap wprm
def pr (L:LD):Row:=(if L.group=[] then L.name else L.group++46 :: L.name)++(wprms L.params++58 :: L.value)
def okV (v:Row):Bool:=Ch.valid v && !v.contains 13
def okT (v:Row):Bool:=Ch.valid v && !ends v
def badN (L:LD):Bool:=(!L.group.isEmpty && !nameB L.group) || !nameB L.name || L.params.any fun p=>!nameB p.name
def badF (L:LD):Bool:=L.params.any fun p=>p.vals.isEmpty
def badT (L:LD):Bool:=!okT L.value || L.params.any fun p=>p.vals.any fun v=>!okV v
def chk (L:LD):Nat:=if badN L=true then 30 else if badF L=true then 31 else if badT L=true then 10 else 0
structure Good (L:LD):Prop where
  group:L.group=[]\/nameB L.group=true
  name:nameB L.name=true
  params:∀ p∈L.params,nameB p.name=true/\p.vals≠[]/\∀ v∈p.vals,okV v=true
  value:okT L.value=true
theorem valid_one (x:UInt8) (h:x.toNat < 128) (hc:Ch.ctl x=false):Ch.valid [x]=true:=by
  have:=Ch.byte_all (P:=fun x=>x.toNat < 128->Ch.ctl x=false->Ch.valid [x]=true) (by decide +kernel) x
  exact this h hc
theorem valid_cons (x:UInt8) (l:Row) (h:x.toNat < 128) (hc:Ch.ctl x=false):Ch.valid (x :: l)=Ch.valid l:=Ch.valid_join [x] l (valid_one x h hc)
theorem ctl_mem {l:Row} (h:Ch.valid l=true) {x:UInt8} (hx:x∈l):Ch.ctl x=false:=by
  unfold Ch.valid at h
  have h2:=(Bool.and_eq_true_iff.1 h).2
  unfold Ch.clean at h2
  rw [List.all_eq_true] at h2
  simpa using h2 x hx
theorem valid_mid (a:Row) (x:UInt8) (b:Row) (h:Ch.valid (a++x :: b)=true) (hx:x.toNat < 128):Ch.valid a=true/\Ch.valid b=true:=by
  have hc:=ctl_mem h (x:=x) (by simp)
  obtain ⟨h1,h2⟩:=Ch.valid_cut _ h a.length (by simp)
  have hb:Ch.between (a++x :: b) a.length=true:=by
    unfold Ch.between
    refine decide_eq_true (.inr (.inl ?_))
    rw [List.getD_eq_getElem?_getD,List.getElem?_append_right (Nat.le_refl _),Nat.sub_self]
    exact hx
  rw [hb,List.take_left] at h1
  rw [hb,List.drop_left,valid_cons x b hx hc] at h2
  exact ⟨h1,h2⟩
theorem valid_names:∀ (n:Row),(∀ x∈n,inB x=true)->Ch.valid n=true
  | [],_=>rfl
  | x :: n,h=>by
    have hx:=h x (by simp)
    rw [valid_cons x n (inB_lt x hx) ?_]
    · exact valid_names n (fun y hy=>h y (by simp [hy]))
    · exact Ch.byte_all (P:=fun x=>inB x=true->Ch.ctl x=false) (by decide +kernel) x hx
theorem nameB_all {n:Row} (h:nameB n=true):∀ x∈n,inB x=true:=by
  unfold nameB at h
  simp only [Bool.and_eq_true,List.all_eq_true] at h
  exact h.1.1
theorem nameB_valid {n:Row} (h:nameB n=true):Ch.valid n=true:=valid_names n (nameB_all h)
theorem inB_ends (x:UInt8) (h:inB x=true):x≠13/\x≠10:=Ch.byte_all (P:=fun x=>inB x=true->x≠13/\x≠10) (by decide +kernel) x h
theorem nameB_ends {n:Row} (h:nameB n=true):ends n=false:=by
  rw [ends_false]
  exact ⟨fun hm=>(inB_ends _ (nameB_all h _ hm)).1 rfl,fun hm=>(inB_ends _ (nameB_all h _ hm)).2 rfl⟩
theorem valid_flat (f:UInt8->Row) (hf:∀ c,128<=c.toNat->f c=[c]) (hv:∀ c,c.toNat < 128->Ch.ctl c=false->Ch.valid (f c)=true) :
    ∀ (n:Nat) (l:Row),l.length<=n->Ch.valid l=true->Ch.valid (l.flatMap f)=true
  | 0,l,h,_=>by obtain rfl:l=[]:=List.eq_nil_of_length_eq_zero (by omega);rfl
  | n + 1, l, h,hl=>by
    have hhi:∀ a:Row,(∀ x∈a,128<=x.toNat)->a.flatMap f=a:=by
      intro a
      induction a with
      | nil=>intro _;rfl
      | cons x a ih=>intro ha;rw [List.flatMap_cons,hf x (ha x (by simp)),ih (fun y hy=>ha y (by simp [hy]))];rfl
    by_cases hall:∀ x∈l,128<=x.toNat
    · rw [hhi l hall];exact hl
    · have:∃ a x b,l=a++x :: b/\(∀ y∈a,128<=y.toNat)/\x.toNat < 128:=by
        clear h hl hhi
        induction l with
        | nil=>exact absurd (fun x hx=>by simp at hx) hall
        | cons y t ih =>
          by_cases hy:y.toNat < 128
          · exact ⟨[],y,t,rfl,fun _ h=>by simp at h,hy⟩
          · obtain ⟨a,x,b,rfl,h1,h2⟩:=ih (fun h=>hall fun z hz=>by
              rcases List.mem_cons.1 hz with rfl | hz
              · omega
              · exact h z hz)
            exact ⟨y :: a,x,b,rfl,fun z hz=>by
              rcases List.mem_cons.1 hz with rfl | hz
              · omega
              · exact h1 z hz,h2⟩
      obtain ⟨a,x,b,rfl,h1,h2⟩:=this
      have hc:=ctl_mem hl (x:=x) (by simp)
      obtain ⟨va,vb⟩:=valid_mid a x b hl h2
      have hb:=valid_flat f hf hv n b (by simp at h;omega) vb
      rw [List.flatMap_append,List.flatMap_cons,hhi a h1,Ch.valid_join a _ va,Ch.valid_join _ _ (hv x h2 hc)]
      exact hb
theorem esc_valid (l:Row) (h:Ch.valid l=true):Ch.valid (esc l)=true:=by
  refine valid_flat esc1 (fun c hc=>?_) (fun c hc hk=>?_) _ l (Nat.le_refl _) h
  · unfold esc1
    have h1:c≠10:=fun e=>by subst e;revert hc;decide
    have h2:c≠94:=fun e=>by subst e;revert hc;decide
    have h3:c≠34:=fun e=>by subst e;revert hc;decide
    rw [if_neg h1,if_neg h2,if_neg h3]
  · exact Ch.byte_all (P:=fun c=>c.toNat < 128->Ch.ctl c=false->Ch.valid (esc1 c)=true) (by decide +kernel) c hc hk
theorem esc_ends {l:Row} (h:13∉l):ends (esc l)=false:=by
  rw [ends_false]
  refine ⟨fun hm=>?_,fun hm=>(esc_mem hm).1 rfl⟩
  obtain ⟨_,_,h1 | h1 | h1 | h1⟩:=esc_mem hm
  · exact h h1
  all_goals revert h1;decide
theorem vals_wvs:∀ (vs:List Row) (r:Row) (x:UInt8),vs≠[]->(x=59\/x=58)->∀ m,vals ((wvs m vs).tail++x :: r)=some (vs,x :: r)
  | [],_,_,h,_,_=>absurd rfl h
  | [v],r,x,_,hx,m=>by
    have hs:sgB x=true:=by rcases hx with rfl | rfl<;>decide
    have hc:(x :: r).head?≠some 44:=by rcases hx with rfl | rfl<;>simp
    have e:(wvs m [v]).tail=wval v:=by simp [wvs]
    rw [e,vals_last (raw_wval v r x hs) hc,mean_esc]
  | v :: u :: vs,r,x,_,hx,m=>by
    have e:(wvs m (v :: u :: vs)).tail++x :: r=wval v++44 :: ((wvs 44 (u :: vs)).tail++x :: r):=by simp [wvs]
    rw [e,vals_more (raw_wval v _ 44 (by decide)) rfl,List.tail_cons,vals_wvs (u :: vs) r x (by simp) hx 44,mean_esc]
    rfl
theorem wvs_head (vs:List Row) (h:vs≠[]) (m:UInt8):wvs m vs=m :: (wvs m vs).tail:=by
  cases vs with
  | nil=>exact absurd rfl h
  | cons v vs=>simp [wvs]
theorem wprms_cons (p:PD) (ps:List PD):wprms (p :: ps)=wprm p++wprms ps:=by simp [wprms]
theorem wprms_front (ps:List PD) (v:Row):∃ x r,wprms ps++58 :: v=x :: r/\(x=59\/x=58):=by
  cases ps with
  | nil=>exact ⟨58,v,rfl,.inr rfl⟩
  | cons p ps=>exact ⟨59,_,by rw [wprms_cons];rfl,.inl rfl⟩
theorem prms_wprms:∀ (ps:List PD) (v:Row),(∀ p∈ps,nameB p.name=true/\p.vals≠[])->prms (wprms ps++58 :: v)=.ok ps (58 :: v)
  | [],v,_=>prms_end (by simp [wprms])
  | p :: ps,v,h=>by
    obtain ⟨h1,h2⟩:=h p (by simp)
    obtain ⟨x,r,hxr,hx⟩:=wprms_front ps v
    have e:wprms (p :: ps)++58 :: v=59 :: (p.name++61 :: ((wvs 61 p.vals).tail++x :: r)):=by
      rw [wprms_cons,List.append_assoc,hxr]
      unfold wprm
      rw [wvs_head p.vals h2 61]
      simp
    rw [e,prms_more (n:=p.name) (r:=61 :: ((wvs 61 p.vals).tail++x :: r)) (r2:=x :: r) (vs:=p.vals) rfl (nameC_front _ _ h1 (fun y hy=>by simp at hy;subst hy;decide)) rfl (vals_wvs p.vals r x h2 hx 61),<-hxr,prms_wprms ps v (fun q hq=>h q (by simp [hq]))]
    rfl
theorem names_pr (L:LD) (h:Good L):namesC (pr L)=some (L.group,L.name,wprms L.params++58 :: L.value):=by
  obtain ⟨x,r,hxr,hx⟩:=wprms_front L.params L.value
  unfold pr namesC
  rw [hxr]
  have hin:inB x=false:=by rcases hx with rfl | rfl<;>decide
  have h46:(x :: r).head?≠some 46:=by rcases hx with rfl | rfl<;>simp
  rcases h.group with hg | hg
  · rw [hg,if_pos rfl,nameC_front _ _ h.name (fun y hy=>by simp at hy;subst hy;exact hin)]
    dsimp only
    rw [if_neg h46]
  · have hne:L.group≠[]:=fun e=>by rw [e] at hg;revert hg;decide
    rw [if_neg hne,List.append_assoc,nameC_front _ _ hg (fun y hy=>by simp at hy;subst hy;decide)]
    dsimp only
    rw [List.cons_append,if_pos (show (46 :: (L.name++x :: r)).head?=some 46 from rfl),List.tail_cons,nameC_front _ _ h.name (fun y hy=>by simp at hy;subst hy;exact hin)]
    rfl
def tx (l:Row):Prop:=Ch.valid l=true/\ends l=false
theorem tx_app {a b:Row} (ha:tx a) (hb:tx b):tx (a++b):=⟨by rw [Ch.valid_join a b ha.1];exact hb.1,by rw [ends_append,ha.2,hb.2];rfl⟩
theorem tx_cons {x:UInt8} {l:Row} (hx:x.toNat < 128/\Ch.ctl x=false/\x≠13/\x≠10) (hl:tx l):tx (x :: l) :=
  ⟨by rw [valid_cons x l hx.1 hx.2.1];exact hl.1,by
    have:=hl.2
    rw [ends_false] at this ⊢
    simp only [List.mem_cons,not_or]
    exact ⟨⟨hx.2.2.1.symm,this.1⟩,⟨hx.2.2.2.symm,this.2⟩⟩⟩
theorem tx_name {n:Row} (h:nameB n=true):tx n:=⟨nameB_valid h,nameB_ends h⟩
theorem okV_tx {v:Row} (h:okV v=true):Ch.valid v=true/\13∉v:=by
  unfold okV at h
  simpa using h
theorem tx_wval {v:Row} (h:okV v=true):tx (wval v):=by
  obtain ⟨h1,h2⟩:=okV_tx h
  have he:tx (esc v):=⟨esc_valid v h1,esc_ends h2⟩
  unfold wval
  split
  · exact tx_cons (by decide) (tx_app he (tx_cons (by decide) ⟨rfl,rfl⟩))
  · exact he
theorem tx_wvs:∀ (vs:List Row) (m:UInt8),(m=44\/m=61)->(∀ v∈vs,okV v=true)->tx (wvs m vs)
  | [],m,_,_=>⟨rfl,rfl⟩
  | v :: vs,m,hm,h=>tx_cons (by rcases hm with rfl | rfl<;>decide) (tx_app (tx_wval (h v (by simp))) (tx_wvs vs 44 (.inl rfl) fun u hu=>h u (by simp [hu])))
theorem tx_wprms:∀ (ps:List PD),(∀ p∈ps,nameB p.name=true/\∀ v∈p.vals,okV v=true)->tx (wprms ps)
  | [],_=>⟨rfl,rfl⟩
  | p :: ps,h=>by
    obtain ⟨h1,h2⟩:=h p (by simp)
    rw [wprms_cons]
    exact tx_app (tx_cons (by decide) (tx_app (tx_name h1) (tx_wvs _ _ (.inr rfl) h2))) (tx_wprms ps fun q hq=>h q (by simp [hq]))
theorem okT_tx {v:Row} (h:okT v=true):tx v:=by
  unfold okT at h
  simp only [Bool.and_eq_true,Bool.not_eq_true'] at h
  exact h
theorem tx_pr (L:LD) (h:Good L):tx (pr L):=by
  have h1:tx (wprms L.params++58 :: L.value):=tx_app (tx_wprms _ fun p hp=>⟨(h.params p hp).1,(h.params p hp).2.2⟩) (tx_cons (by decide) (okT_tx h.value))
  unfold pr
  refine tx_app ?_ h1
  split
  · exact tx_name h.name
  · rename_i hne
    rcases h.group with hg | hg
    · exact absurd hg hne
    · exact tx_app (tx_name hg) (tx_cons (by decide) (tx_name h.name))
theorem parse_pr (L:LD) (h:Good L):parse (pr L)=.ok L:=by
  rw [parse_fin (tx_pr L h) (names_pr L h)]
  unfold fin
  rw [prms_wprms _ _ fun p hp=>⟨(h.params p hp).1,(h.params p hp).2.1⟩]
  simp
end Li
namespace Li
open Go.Lib Go.RowKit
theorem below_then {a b c:World} (h1:Below a.heap.size a b) (h2:Below b.heap.size b c):Below a.heap.size a c:=h1.trans (h2.mono h1.size)
theorem below_drewN {a w:World} (n:Nat) (h:Below a.heap.size a w):Below a.heap.size a (w.drewN n):=⟨h.os,h.tape,h.output,h.size,h.block⟩
theorem below_drew (w:World) (n:Nat):Below w.heap.size w (w.drewN n):=below_drewN n (Below.refl _ _)
theorem ret_bool {a b:Bool} (h:a=b):Ending.returned (.bool a)=.returned (.bool b):=by rw [h]
theorem inB_of (b:UInt8) (v:Nat) (h:b.toNat=v):Hid (∀ r:Bool,(r=true↔((97<=v/\v<=122)\/(65<=v/\v<=90)\/(48<=v/\v<=57)\/v=45))->r=inB b):=Lib.hid fun r hr=>by
  unfold inB
  rw [h,Bool.eq_iff_iff,hr,decide_eq_true_iff]
theorem inName_any (b:UInt8) (w:World):Calls Tryz.prog 214 #[.int .u8 (b.toNat:Int)] w fun e w'=>e=.returned (.bool (inB b))/\w=w':=by
  have H:=inB_of b b.toNat rfl
  generalize inB b=R at H ⊢
  generalize b.toNat=v at H ⊢
  go_enter Tryz.func214,Tryz.ntmps214
  go_wp2
  all_goals
    go_ret
    exact ⟨ret_bool (H.out _ (by first | omega | (simp;omega))),rfl⟩
def CutNameP (t:Row) (e:Ending):Prop :=
  (nameC t=none/\e=.returned (.tuple #[.string ⟨#[]⟩,.string ⟨#[]⟩,.bool false]))\/
  ∃ n r:ByteArray,nameC t=some (n.data.toList,r.data.toList)/\e=.returned (.tuple #[.string n,.string r,.bool true])
theorem data_at (s:ByteArray) (k:Nat) (h:k < s.size):s.data.toList.getD k 0=s[k]'h:=by
  rw [List.getD_eq_getElem?_getD,Lib.data_getElem? s k h];rfl
theorem cutName_fin (s:ByteArray) (k:Nat) (hk:k<=s.size) (h1:∀ j,j < k->inB (s.data.toList.getD j 0)=true) (h2:k < s.size->inB (s.data.toList.getD k 0)=false) :
    nlen s.data.toList=k:=nlen_at _ _ (by rw [<-Lib.size_eq];exact hk) h1 (fun h=>h2 (by rw [<-Lib.size_eq] at h;exact h))
theorem cutName_any (s:ByteArray) (w:World) (hs:s.size<=9223372036854775807) :
    Calls Tryz.prog 189 #[.string s] w fun e w'=>CutNameP s.data.toList e/\Below w.heap.size w w':=by
  go_enter Tryz.func189,Tryz.ntmps189
  go_wp2
  go_loop [5] (fun i=>∃ k:Nat,k<=s.size/\i=.int .i64 k/\∀ j,j < k->inB (s.data.toList.getD j 0)=true) (fun i=>s.size - (RowKit.intOf i).toNat)
  case atStart=>exact ⟨0,Nat.zero_le _,rfl,fun j hj=>absurd hj (Nat.not_lt_zero _)⟩
  case round =>
    obtain ⟨k,hk,rfl,hall⟩:=hrel
    have hall':=Lib.hid hall
    clear hall
    have hout:nlen s.data.toList=k->((k=0\/64 < k)->CutNameP s.data.toList (.returned (.tuple #[.string ⟨#[]⟩,.string ⟨#[]⟩,.bool false])))/\(¬ (k=0\/64 < k)->CutNameP s.data.toList (.returned (.tuple #[.string (s.extract 0 k),.string (s.extract k s.size),.bool true]))):=fun hn =>
      ⟨fun h=>.inl ⟨by unfold nameC;rw [hn,if_pos h],rfl⟩,fun h=>.inr ⟨_,_,by
        unfold nameC
        rw [hn,if_neg h,Lib.extract_to_end,Lib.extract_data];rfl,rfl⟩⟩
    by_cases hgo:k < s.size/\inB (s.data.toList.getD k 0)=true
    · obtain ⟨hlt,hin⟩:=hgo
      have hnext:∀ j,j < k+1->inB (s.data.toList.getD j 0)=true:=fun j hj=>by
        rcases Nat.lt_succ_iff_lt_or_eq.1 hj with h | h
        · exact hall'.out j h
        · rw [h];exact hin
      have hnext':=Lib.hid hnext
      have cI:=fun W=>inName_any (s[k]'hlt) W
      rw [<-data_at s k hlt,hin,data_at s k hlt] at cI
      clear hnext hin hout
      go_wp2_with (go_at_call 214;refine (cI _).mono ?_;rintro e w' ⟨rfl,rfl⟩)
      go_round
      case rel=>exact ⟨k+1,by omega,by go_num,hnext'.out⟩
      case measure=>simp [RowKit.intOf];omega
    · have hn:nlen s.data.toList=k:=cutName_fin s k hk hall'.out (fun h=>by
        rw [Bool.eq_false_iff];exact fun h'=>hgo ⟨h,h'⟩)
      obtain ⟨f1,f2⟩:=hout hn
      have f1':=Lib.hid f1
      have f2':=Lib.hid f2
      clear f1 f2 hn hout
      by_cases hlt:k < s.size
      · have hin:inB (s.data.toList.getD k 0)=false:=by rw [Bool.eq_false_iff];exact fun h'=>hgo ⟨hlt,h'⟩
        have cI:=fun W=>inName_any (s[k]'hlt) W
        rw [<-data_at s k hlt,hin,data_at s k hlt] at cI
        clear hin hgo
        rcases Nat.lt_or_ge 64 k with h64 | h64
        · have d0:((k:Int)==0)=false:=beq_eq_false_iff_ne.2 (by omega)
          go_wp2_with (go_at_call 214;refine (cI _).mono ?_;rintro e w' ⟨rfl,rfl⟩)
          go_ret3
          exact ⟨f1'.out (.inr h64),Below.refl _ _⟩
        · by_cases h0:k=0
          · subst h0
            go_wp2_with (go_at_call 214;refine (cI _).mono ?_;rintro e w' ⟨rfl,rfl⟩)
            go_ret3
            exact ⟨f1'.out (by simp),Below.refl _ _⟩
          · have d0:((k:Int)==0)=false:=beq_eq_false_iff_ne.2 (by omega)
            go_wp2_with (go_at_call 214;refine (cI _).mono ?_;rintro e w' ⟨rfl,rfl⟩)
            go_quiet (fail)
            go_wp2
            go_ret3
            exact ⟨f2'.out (by omega),below_drew _ _⟩
      · clear hgo
        rcases Nat.lt_or_ge 64 k with h64 | h64
        · have d0:((k:Int)==0)=false:=beq_eq_false_iff_ne.2 (by omega)
          go_wp2
          go_ret3
          exact ⟨f1'.out (.inr h64),Below.refl _ _⟩
        · by_cases h0:k=0
          · subst h0
            go_wp2
            go_ret3
            exact ⟨f1'.out (by simp),Below.refl _ _⟩
          · have d0:((k:Int)==0)=false:=beq_eq_false_iff_ne.2 (by omega)
            go_wp2
            go_quiet (fail)
            go_wp2
            go_ret3
            exact ⟨f2'.out (by omega),below_drew _ _⟩
theorem nonempty_of (s:ByteArray) (h:s.data.toList≠[]):s.toList.isEmpty=false:=by
  rw [Lib.toList_data]
  cases h':s.data.toList with
  | nil=>exact absurd h' h
  | cons _ _=>rfl
theorem empty_of (s:ByteArray) (h:s.data.toList=[]):s.toList.isEmpty=true:=by rw [Lib.toList_data,h];rfl
theorem size_pos (s:ByteArray) {c:UInt8} (h:s.data.toList.head?=some c):1<=s.size:=by
  rw [Lib.size_eq]
  cases h':s.data.toList with
  | nil=>rw [h'] at h;cases h
  | cons x t=>simp
theorem cut_tail (s:ByteArray):(s.extract 1 s.size).data.toList=s.data.toList.tail:=by rw [Lib.extract_to_end,List.drop_one]
theorem name_any (s:ByteArray) (w:World) (hs:s.size<=9223372036854775807) :
    Calls Tryz.prog 222 #[.string s] w fun e w'=>e=.returned (.bool (nameB s.data.toList))/\Below w.heap.size w w':=by
  have hN:=Lib.hid (name_of_cut s.data.toList)
  generalize nameB s.data.toList=R at hN ⊢
  go_enter Tryz.func222,Tryz.ntmps222
  go_wp2_with fail
  go_at_call 189
  refine (cutName_any s w hs).mono ?_
  rintro e w1 ⟨hc,hb⟩
  rcases hc with ⟨h1,rfl⟩ | ⟨n,r,h1,rfl⟩
  · have hR:=hN.out
    rw [h1] at hR
    have hR':=Lib.hid hR
    clear hR h1
    go_wp2
    go_ret
    exact ⟨ret_bool hR'.out.symm,hb⟩
  · have hR:=hN.out
    rw [h1] at hR
    have hR':=Lib.hid hR
    clear hR h1
    by_cases h0:r.data.toList=[]
    · have he:=empty_of r h0
      have hR2:=hR'.out
      dsimp only at hR2
      rw [h0] at hR2
      have hR3:=Lib.hid hR2
      clear h0 hR2
      go_wp2
      go_ret
      exact ⟨ret_bool hR3.out.symm,hb⟩
    · have he:=nonempty_of r h0
      have hR2:=hR'.out
      dsimp only at hR2
      rw [List.isEmpty_eq_false_iff.2 h0] at hR2
      have hR3:=Lib.hid hR2
      clear h0 hR2
      go_wp2
      go_ret
      exact ⟨ret_bool hR3.out.symm,hb⟩
theorem pre_one (l:Row) (c:UInt8):Lib.hasPrefix l [c]=decide (l.head?=some c):=by
  unfold Lib.hasPrefix
  cases l with
  | nil=>rfl
  | cons x t=>rw [Bool.eq_iff_iff];simp;exact eq_comm
theorem hasPre_any (s:ByteArray) (c:UInt8) (w:World) :
    Calls Tryz.prog 190 #[.string s,.string ⟨#[c]⟩] w fun e w'=>e=.returned (.bool (decide (s.data.toList.head?=some c)))/\w=w' :=
  (Tryz.strings_HasPrefix s ⟨#[c]⟩ w).mono fun e w' ⟨h1,h2⟩=>⟨by
    rw [h1]
    refine ret_bool ?_
    exact pre_one _ c,h2.symm⟩
theorem hasPre_is (s:ByteArray) (c:UInt8) (v:Bool) (w:World) (h:decide (s.data.toList.head?=some c)=v) :
    Calls Tryz.prog 190 #[.string s,.string ⟨#[c]⟩] w fun e w'=>e=.returned (.bool v)/\w=w':=by
  have:=hasPre_any s c w
  rwa [h] at this
def CutPreP (c:UInt8) (s:ByteArray) (e:Ending):Prop :=
  (s.data.toList.head?≠some c/\e=.returned (.tuple #[.string s,.bool false]))\/
  (s.data.toList.head?=some c/\∃ r:ByteArray,r.data.toList=s.data.toList.tail/\e=.returned (.tuple #[.string r,.bool true]))
theorem cutPre_any (s:ByteArray) (c:UInt8) (w:World) :
    Calls Tryz.prog 22 #[.string s,.string ⟨#[c]⟩] w fun e w'=>CutPreP c s e/\w=w' :=
  (Tryz.strings_CutPrefix s ⟨#[c]⟩ w).mono fun e w' ⟨h1,h2⟩=>⟨by
    have e1:(⟨#[c]⟩:ByteArray).data.toList=[c]:=rfl
    rw [h1,e1]
    unfold Lib.trimPrefix
    rw [pre_one]
    by_cases h:s.data.toList.head?=some c
    · rw [decide_eq_true h,if_pos rfl]
      exact .inr ⟨h,_,by simp,rfl⟩
    · rw [decide_eq_false h,if_neg (by decide),Lib.mk_data]
      exact .inl ⟨h,rfl⟩,h2.symm⟩
end Li
end Go.Proofs.YtobfaibofhmpgaaGreatDoor
