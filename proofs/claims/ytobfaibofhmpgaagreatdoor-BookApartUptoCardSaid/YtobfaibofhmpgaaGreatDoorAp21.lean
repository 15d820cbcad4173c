import Derived.Test.YtobfaibofhmpgaaGreatDoorAp20
import Derived.Lib.Strings
import Derived.Lib.IndexMore
set_option linter.unusedVariables false
set_option maxHeartbeats 4000000
set_option maxRecDepth 100000
namespace Go.Proofs.YtobfaibofhmpgaaGreatDoor
namespace Ca
open Go.Lib Go.RowKit
def isB (L:Li.LD) (name v:Row):Bool:=decide (L.group=[]) && (decide (L.params=[]) && (decide (Ch.up L.name=name) && decide (Ch.up L.value=v)))
end Ca
namespace Fo
open Go.Lib
abbrev Row:=List UInt8
def bl (x:UInt8):Bool:=decide (x.toNat=32\/x.toNat=9)
def headBl:Row->Bool
  | []=>false
  | x :: _=>bl x
def stripR (l:Row):Row:=trimSuffix l [13]
def okRow (r:Row):Bool:=!r.isEmpty && !r.contains 13
def gstep (out:List Row) (r:Row):Option (List Row) :=
  if okRow r=true then (if headBl r=true then (if out=[] then none else some (out.dropLast++[out.getLast?.getD []++r.tail])) else some (out++[r])) else none
def rowsStep (p:List Row × Row) (x:UInt8):List Row × Row:=if x=10 then (p.1++[stripR p.2],[]) else (p.1,p.2++[x])
def rows (t:Row):List Row × Row:=t.foldl rowsStep ([],[])
def run (out:List Row):List Row->Option (List Row)
  | []=>some out
  | r :: rs=>(gstep out r).bind fun o=>run o rs
def R (out:List Row) (t:Row):Option (List Row):=if (rows t).2=[] then run out (rows t).1 else none
theorem fold_rows (p:List Row) (c t:Row):t.foldl rowsStep (p,c)=(p++(t.foldl rowsStep ([],c)).1,(t.foldl rowsStep ([],c)).2):=by
  induction t generalizing p c with
  | nil=>simp
  | cons x t ih =>
    simp only [List.foldl_cons]
    by_cases h:x=10
    · simp only [rowsStep,h,if_true,List.nil_append]
      rw [ih (p++[stripR c]) [],ih [stripR c] []]
      simp
    · simp only [rowsStep,h,if_false]
      exact ih p (c++[x])
theorem fold_free (p:List Row) (c a:Row) (h:10∉a):a.foldl rowsStep (p,c)=(p,c++a):=by
  induction a generalizing c with
  | nil=>simp
  | cons x a ih =>
    have hx:x≠10:=fun e=>h (by simp [e])
    simp only [List.foldl_cons,rowsStep,hx,if_false]
    rw [ih (c++[x]) (fun hm=>h (by simp [hm]))]
    simp
theorem rows_cut (a t:Row) (h:10∉a):rows (a++10 :: t)=(stripR a :: (rows t).1,(rows t).2):=by
  unfold rows
  rw [List.foldl_append,fold_free _ _ _ h,List.foldl_cons]
  simp only [rowsStep,if_true,List.nil_append]
  rw [fold_rows]
  rfl
theorem R_cut (out:List Row) (a t:Row) (h:10∉a):R out (a++10 :: t)=(gstep out (stripR a)).bind fun o=>R o t:=by
  unfold R
  rw [rows_cut a t h]
  by_cases hr:(rows t).2=[]
  · simp only [hr,if_true,run]
  · simp only [hr,if_false]
    cases gstep out (stripR a)<;>rfl
theorem R_free (out:List Row) (t:Row) (h:10∉t) (hne:t≠[]):R out t=none:=by
  unfold R rows
  rw [fold_free _ _ _ h]
  simp [hne]
theorem strip_cases (a:Row):stripR a=a\/a=stripR a++[13]:=by
  unfold stripR trimSuffix hasSuffix
  by_cases h:([13]:Row).isSuffixOf a=true
  · right
    rw [if_pos h]
    obtain ⟨b,hb⟩:=List.isSuffixOf_iff_suffix.1 h
    subst hb
    simp
  · left;rw [if_neg h]
theorem strip_head (a:Row) (h:stripR a≠[]):headBl (stripR a)=headBl a/\∃ x r,a=x :: r/\headBl (stripR a)=bl x:=by
  rcases strip_cases a with e | e
  · rw [e] at h ⊢
    cases a with
    | nil=>exact absurd rfl h
    | cons x r=>exact ⟨rfl,x,r,rfl,rfl⟩
  · generalize stripR a=b at e h
    subst e
    cases b with
    | nil=>exact absurd rfl h
    | cons x r=>exact ⟨rfl,x,r++[13],rfl,rfl⟩
theorem strip_len (a:Row):(stripR a).length<=a.length:=trimSuffix_le a [13]
theorem gstep_bad (out:List Row) (r:Row) (h:okRow r=false):gstep out r=none:=by unfold gstep;rw [h];rfl
theorem gstep_new (out:List Row) (r:Row) (h:okRow r=true) (hb:headBl r=false):gstep out r=some (out++[r]):=by unfold gstep;rw [h,hb];rfl
theorem gstep_none (r:Row) (hb:headBl r=true):gstep [] r=none:=by
  unfold gstep
  rw [hb]
  cases okRow r<;>rfl
theorem gstep_more (out:List Row) (l r:Row) (h:okRow r=true) (hb:headBl r=true):gstep (out++[l]) r=some (out++[l++r.tail]):=by
  unfold gstep
  rw [h,hb]
  simp
def tot (ls:List Row):Nat:=(ls.map fun l=>l.length+1).sum
theorem tot_append (a b:List Row):tot (a++b)=tot a+tot b:=by simp [tot]
theorem gstep_tot (out o:List Row) (r:Row) (h:gstep out r=some o):tot o<=tot out+r.length+1:=by
  unfold gstep at h
  by_cases h1:okRow r=true
  · rw [if_pos h1] at h
    by_cases h2:headBl r=true
    · rw [if_pos h2] at h
      by_cases h3:out=[]
      · rw [if_pos h3] at h;cases h
      · rw [if_neg h3] at h
        obtain rfl:=Option.some.inj h
        rw [List.getLast?_eq_some_getLast h3]
        have e:tot out=tot out.dropLast+((out.getLast h3).length+1):=by
          conv=>lhs;rw [<-List.dropLast_concat_getLast h3]
          rw [tot_append];simp [tot]
        rw [tot_append,e]
        have:r.tail.length<=r.length:=by simp
        simp [tot]
        omega
    · rw [if_neg h2] at h
      obtain rfl:=Option.some.inj h
      rw [tot_append]
      simp [tot]
      omega
  · rw [if_neg h1] at h;cases h
theorem run_tot:∀ (rs:List Row) (out o:List Row),run out rs=some o->tot o<=tot out+tot rs
  | [],out,o,h=>by obtain rfl:=Option.some.inj h;omega
  | r :: rs,out,o,h=>by
    unfold run at h
    cases hg:gstep out r with
    | none=>rw [hg] at h;cases h
    | some o1 =>
      rw [hg] at h
      have h1:=gstep_tot out o1 r hg
      have h2:=run_tot rs o1 o h
      have:tot (r :: rs)=r.length+1+tot rs:=by simp [tot]
      omega
theorem fold_tot (t:Row):∀ (p:List Row) (c:Row),tot (t.foldl rowsStep (p,c)).1+(t.foldl rowsStep (p,c)).2.length<=tot p+c.length+t.length:=by
  induction t with
  | nil=>intro p c;simp
  | cons x t ih =>
    intro p c
    simp only [List.foldl_cons,List.length_cons]
    by_cases hx:x=10
    · simp only [rowsStep,hx,if_true]
      have h:=ih (p++[stripR c]) []
      have hl:=strip_len c
      have e:tot (p++[stripR c])=tot p+((stripR c).length+1):=by rw [tot_append];simp [tot]
      simp only [List.length_nil] at h
      omega
    · simp only [rowsStep,hx,if_false]
      have h:=ih p (c++[x])
      simp only [List.length_append,List.length_cons,List.length_nil] at h
      omega
theorem R_tot (t:Row) (o:List Row) (h:R [] t=some o):tot o<=t.length:=by
  unfold R at h
  by_cases hc:(rows t).2=[]
  · rw [if_pos hc] at h
    have h1:=run_tot _ _ _ h
    have h2:tot (rows t).1+(rows t).2.length<=tot []+0+t.length:=fold_tot t [] []
    have h3:tot ([]:List Row)=0:=rfl
    omega
  · rw [if_neg hc] at h;cases h
theorem tot_len (o:List Row):o.length<=tot o:=by
  induction o with
  | nil=>simp
  | cons x o ih =>
    have:tot (x :: o)=x.length+1+tot o:=by simp [tot]
    simp only [List.length_cons]
    omega
theorem tot_get (o:List Row) (l:Row) (h:l∈o):l.length+1<=tot o:=by
  induction o with
  | nil=>simp at h
  | cons x o ih =>
    have e:tot (x :: o)=x.length+1+tot o:=by simp [tot]
    rcases List.mem_cons.1 h with rfl | h
    · omega
    · have:=ih h;omega
def sz (l:Row):Nat:=if (Ch.rune l).2=0 then 1 else (Ch.rune l).2
theorem rune_four (l:Row):(Ch.rune l).2<=4:=by
  unfold Ch.rune
  by_cases h:l=[]
  · rw [if_pos h];decide
  · rw [if_neg h]
    generalize l.length=n
    have hb0:=(l.getD 0 0).toNat_lt
    generalize (l.getD 0 0).toNat=b0 at hb0 ⊢
    generalize (l.getD 1 0).toNat=b1
    generalize (l.getD 2 0).toNat=b2
    generalize (l.getD 3 0).toNat=b3
    by_cases c1:b0 < 128
    · rw [Ch.runeN_one _ _ _ _ _ c1];simp
    by_cases c2:b0 < 192\/248<=b0
    · rw [Ch.runeN_none _ _ _ _ _ (by omega)];simp
    by_cases c3:b0 < 224
    · rcases Ch.runeN_two n b0 b1 b2 b3 (by omega) c3 with h | h<;>simp [h]
    by_cases c4:b0 < 240
    · rcases Ch.runeN_three n b0 b1 b2 b3 (by omega) c4 with h | h<;>simp [h]
    · rcases Ch.runeN_four n b0 b1 b2 b3 (by omega) (by omega) with h | h<;>simp [h]
theorem sz_bd (l:Row):1<=sz l/\sz l<=4:=by
  have:=rune_four l
  unfold sz
  split<;>omega
theorem sz_len (l:Row) (h:l≠[]):sz l<=l.length:=by
  have hp:=Ch.pos_of_ne h
  unfold sz
  split
  · omega
  · exact (Ch.rune_tells h ‹_›).1
theorem sz_decode (l:Row) (h:l≠[]):(decodeL l).2=sz l:=by
  unfold sz
  rw [Ch.rune_eq l h,decodeL_N]
  unfold Ch.runeN
  have hw:=decodeL_width l
  rw [decodeL_N] at hw
  generalize decodeN l.length (l.getD 0 0).toNat (l.getD 1 0).toNat (l.getD 2 0).toNat (l.getD 3 0).toNat=d at hw ⊢
  by_cases hd:d=(65533,1)
  · rw [if_pos hd,hd];rfl
  · rw [if_neg hd,if_neg (by omega)]
def fitF:Nat->Row->Nat->Nat->Nat
  | 0,_,_,n=>n
  | f+1,l,room,n=>if n < l.length then (if room < n+sz (l.drop n) then n else fitF f l room (n+sz (l.drop n))) else n
def fit (l:Row) (room:Nat):Nat:=fitF l.length l room 0
theorem fitF_more:∀ (f g:Nat) (l:Row) (room n:Nat),l.length<=n+f->l.length<=n+g->fitF f l room n=fitF g l room n
  | 0,0,_,_,_,_,_=>rfl
  | 0,g+1,l,room,n,h,_=>by unfold fitF;rw [if_neg (by omega)]
  | f+1,0,l,room,n,_,h=>by unfold fitF;rw [if_neg (by omega)]
  | f + 1,g+1,l,room,n,hf,hg=>by
    have hs:=(sz_bd (l.drop n)).1
    unfold fitF
    by_cases h1:n < l.length
    · rw [if_pos h1,if_pos h1]
      by_cases h2:room < n+sz (l.drop n)
      · rw [if_pos h2,if_pos h2]
      · rw [if_neg h2,if_neg h2]
        exact fitF_more f g l room _ (by omega) (by omega)
    · rw [if_neg h1,if_neg h1]
theorem fitF_next (f:Nat) (l:Row) (room n:Nat) (h:l.length<=n+f) (h1:n < l.length) (h2:¬ room < n+sz (l.drop n)):fitF f l room n=fitF f l room (n+sz (l.drop n)):=by
  have hs:=(sz_bd (l.drop n)).1
  obtain ⟨g,rfl⟩:∃ g,f=g+1:=⟨f - 1,by omega⟩
  conv=>lhs;unfold fitF
  rw [if_pos h1,if_neg h2]
  exact fitF_more _ _ l room _ (by omega) (by omega)
theorem fitF_stop (f:Nat) (l:Row) (room n:Nat) (h:n < l.length->room < n+sz (l.drop n)):fitF f l room n=n:=by
  cases f with
  | zero=>rfl
  | succ f =>
    unfold fitF
    by_cases h1:n < l.length
    · rw [if_pos h1,if_pos (h h1)]
    · rw [if_neg h1]
theorem fitF_bd:∀ (f:Nat) (l:Row) (room n:Nat),n<=l.length->n<=room->l.length<=n+f->
    n<=fitF f l room n/\fitF f l room n<=l.length/\fitF f l room n<=room/\(fitF f l room n=l.length\/room < fitF f l room n+sz (l.drop (fitF f l room n)))
  | 0,l,room,n,h1,h2,h3=>by unfold fitF;exact ⟨Nat.le_refl _,h1,h2,.inl (by omega)⟩
  | f + 1,l,room,n,h1,h2,h3=>by
    unfold fitF
    by_cases c1:n < l.length
    · rw [if_pos c1]
      by_cases c2:room < n+sz (l.drop n)
      · rw [if_pos c2]
        exact ⟨Nat.le_refl _,h1,h2,.inr c2⟩
      · rw [if_neg c2]
        have hne:l.drop n≠[]:=fun h=>by have:=List.drop_eq_nil_iff.1 h;omega
        have hs:=sz_len _ hne
        rw [List.length_drop] at hs
        have hs1:=(sz_bd (l.drop n)).1
        obtain ⟨i1,i2,i3,i4⟩:=fitF_bd f l room (n+sz (l.drop n)) (by omega) (by omega) (by omega)
        exact ⟨by omega,i2,i3,i4⟩
    · rw [if_neg c1]
      exact ⟨Nat.le_refl _,h1,h2,.inl (by omega)⟩
theorem fit_bd (l:Row) (room:Nat) (hr:74<=room) (hne:l≠[]) :
    1<=fit l room/\fit l room<=l.length/\fit l room<=room/\(l.drop (fit l room)≠[]->4<=fit l room/\room < fit l room+sz (l.drop (fit l room))):=by
  obtain ⟨i1,i2,i3,i4⟩:=fitF_bd l.length l room 0 (Nat.zero_le _) (Nat.zero_le _) (by omega)
  have hp:=Ch.pos_of_ne hne
  unfold fit
  generalize fitF l.length l room 0=n at i1 i2 i3 i4
  have hs:=sz_bd (l.drop n)
  refine ⟨?_,i2,i3,fun h=>?_⟩
  · omega
  · have:¬ n=l.length:=fun e=>h (by rw [e];simp)
    omega
def foldF:Nat->Row->Nat->Row
  | 0,_,_=>[]
  | f+1,l,room=>if l=[] then [] else l.take (fit l room)++13 :: 10 :: (if l.drop (fit l room)=[] then [] else 32 :: foldF f (l.drop (fit l room)) 74)
def foldL (l:Row):Row:=foldF l.length l 75
theorem foldF_more:∀ (f g:Nat) (l:Row) (room:Nat),74<=room->l.length<=f->l.length<=g->foldF f l room=foldF g l room
  | 0,0,_,_,_,_,_=>rfl
  | 0,g+1,l,room,_,h,_=>by
    obtain rfl:l=[]:=List.eq_nil_of_length_eq_zero (by omega)
    rfl
  | f+1,0,l,room,_,_,h=>by
    obtain rfl:l=[]:=List.eq_nil_of_length_eq_zero (by omega)
    rfl
  | f + 1,g+1,l,room,hr,hf,hg=>by
    unfold foldF
    by_cases h:l=[]
    · rw [if_pos h,if_pos h]
    · rw [if_neg h,if_neg h]
      have hb:=fit_bd l room hr h
      by_cases h2:l.drop (fit l room)=[]
      · rw [if_pos h2,if_pos h2]
      · rw [if_neg h2,if_neg h2,foldF_more f g (l.drop (fit l room)) 74 (by omega) (by rw [List.length_drop];omega) (by rw [List.length_drop];omega)]
theorem foldF_nil (f room:Nat):foldF f [] room=[]:=by cases f<;>rfl
theorem foldF_step (f:Nat) (l:Row) (room:Nat) (hr:74<=room) (hne:l≠[]) (h:l.length<=f) :
    foldF f l room=l.take (fit l room)++13 :: 10 :: (if l.drop (fit l room)=[] then [] else 32 :: foldF f (l.drop (fit l room)) 74):=by
  have hp:=Ch.pos_of_ne hne
  have hb:=fit_bd l room hr hne
  obtain ⟨g,rfl⟩:∃ g,f=g+1:=⟨f - 1,by omega⟩
  conv=>lhs;unfold foldF
  rw [if_neg hne,foldF_more g (g+1) (l.drop (fit l room)) 74 (by omega) (by rw [List.length_drop];omega) (by rw [List.length_drop];omega)]
theorem foldF_len:∀ (f:Nat) (l:Row) (room:Nat),74<=room->(foldF f l room).length<=4*l.length
  | 0,l,_,_=>by simp [foldF]
  | f + 1,l,room,hr=>by
    unfold foldF
    by_cases h:l=[]
    · rw [if_pos h];simp
    · rw [if_neg h]
      have hb:=fit_bd l room hr h
      by_cases h2:l.drop (fit l room)=[]
      · rw [if_pos h2]
        simp only [List.length_append,List.length_cons,List.length_nil,List.length_take]
        omega
      · rw [if_neg h2]
        have:=foldF_len f (l.drop (fit l room)) 74 (by omega)
        rw [List.length_drop] at this
        have h4:=(hb.2.2.2 h2).1
        simp only [List.length_append,List.length_cons,List.length_take]
        omega
def foldAll (ls:List Row):Row:=(ls.map foldL).flatten
theorem foldAll_len (ls:List Row):(foldAll ls).length<=4*tot ls:=by
  induction ls with
  | nil=>simp [foldAll]
  | cons l ls ih =>
    have e:foldAll (l :: ls)=foldL l++foldAll ls:=by simp [foldAll]
    have e2:tot (l :: ls)=l.length+1+tot ls:=by simp [tot]
    have h1:(foldL l).length<=4*l.length:=foldF_len _ l 75 (by omega)
    rw [e,List.length_append]
    omega
end Fo
namespace Ca
open Go.Lib Go.RowKit
open Li (LD PD sv LineAt PrmsAt pr)
def bBegin:Row:=[66,69,71,73,78,58,86,67,65,82,68]
def bVersion:Row:=[86,69,82,83,73,79,78,58,52,46,48]
def bEnd:Row:=[69,78,68,58,86,67,65,82,68]
def body (Ls:List LD) (k:Nat):Row:=(Ls.take k).flatMap fun L=>Fo.foldL (pr L)
def headT:Row:=Fo.foldL bBegin++Fo.foldL bVersion
def cardT (Ls:List LD):Row:=headT++body Ls Ls.length++Fo.foldL bEnd
end Ca
namespace Ca
open Li (LD PD chk pr okT ends nameB parse)
def wBEGIN:Row:=[66,69,71,73,78]
def wVCARD:Row:=[86,67,65,82,68]
def wVERSION:Row:=[86,69,82,83,73,79,78]
def w40:Row:=[52,46,48]
def wEND:Row:=[69,78,68]
theorem low_cut:∀ (N V r:Row),Ch.low r=N++58 :: V->∃ n v,r=n++58 :: v/\Ch.low n=N/\Ch.low v=V
  | [],V,r,h=>by
    cases r with
    | nil=>cases h
    | cons c r =>
      simp only [Ch.low,List.map_cons,List.nil_append,List.cons.injEq] at h
      have hc:c=58:=Ch.byte_all (P:=fun c=>Ch.lowB c=58->c=58) (by decide +kernel) c h.1
      exact ⟨[],r,by rw [hc];rfl,rfl,h.2⟩
  | a :: N,V,r,h=>by
    cases r with
    | nil=>cases h
    | cons c r =>
      simp only [Ch.low,List.map_cons,List.cons_append,List.cons.injEq] at h
      obtain ⟨n,v,rfl,h1,h2⟩:=low_cut N V r h.2
      exact ⟨c :: n,v,rfl,by simp only [Ch.low,List.map_cons] at h1 ⊢;rw [h.1,h1],h2⟩
theorem more_ne {p:PD} {q:Li.PR} {ps:List PD} {r:Row} (h:q.more p=.ok ps r):ps≠[]:=by
  cases q with
  | bad e=>cases h
  | ok ps' r'=>simp only [Li.PR.more,Li.PR.ok.injEq] at h;rw [<-h.1];simp
theorem prms_none {l r:Row} (h:Li.prms l=.ok [] r):r=l:=by
  rw [Li.prms_step] at h
  split at h
  · split at h
    · cases h
    · split at h
      · split at h
        · cases h
        · exact absurd rfl (more_ne h)
      · cases h
  · cases h;rfl
theorem parse_bare {r:Row} {L:LD} (h:parse r=.ok L) (hg:L.group=[]) (hp:L.params=[]):r=L.name++58 :: L.value:=by
  unfold Li.parse at h
  split at h
  · split at h
    · cases h
    · rename_i g n rest hn
      unfold Li.fin at h
      split at h
      · cases h
      · rename_i ps r2 hps
        split at h
        · rename_i h58
          simp only [Li.LR.ok.injEq] at h
          subst h
          simp only [List.nil_append] at hp
          subst hp
          have e:=prms_none hps
          subst e
          simp only at hg
          subst hg
          unfold Li.namesC at hn
          split at hn
          · cases hn
          · rename_i m q hm
            have hm2:=Li.nameC_some hm
            split at hn
            · obtain ⟨p,hp1,hp2⟩:=Option.map_eq_some_iff.1 hn
              simp only [Prod.mk.injEq] at hp2
              have hmn:m≠[]:=fun e=>by
                have q:=hm2.2
                rw [e] at q
                revert q;decide
              exact absurd hp2.1 hmn
            · simp only [Option.some.injEq,Prod.mk.injEq] at hn
              obtain ⟨_,rfl,rfl⟩:=hn
              rw [hm2.1]
              cases q with
              | nil=>cases h58
              | cons c q=>simp at h58;subst h58;rfl
        · cases h
  · cases h
theorem parse_tx {r:Row} {L:LD} (h:parse r=.ok L):Ch.valid r=true/\ends r=false:=by
  unfold Li.parse at h
  split at h
  · rename_i ht;exact ht
  · cases h
theorem up_low' {a b:Row} (h:Ch.low a=Ch.low b):Ch.up a=Ch.up b:=by rw [<-Ch.up_low a,h,Ch.up_low]
theorem frame_iff {r N V:Row} {L:LD} (h:parse r=.ok L) (hN:Ch.up N=N) (hV:Ch.up V=V) (hb:nameB N=true):(Ch.low r==Ch.low (N++58 :: V))=isB L N V:=by
  have hl:Ch.low (N++58 :: V)=Ch.low N++58 :: Ch.low V:=by rw [Ch.low_append];rfl
  rw [hl]
  cases hq:isB L N V with
  | true =>
    unfold isB at hq
    simp only [Bool.and_eq_true,decide_eq_true_eq] at hq
    obtain ⟨h1,h2,h3,h4⟩:=hq
    rw [parse_bare h h1 h2,Ch.low_append,beq_iff_eq]
    have e1:Ch.low L.name=Ch.low N:=by rw [<-h3,Ch.low_up]
    have e2:Ch.low L.value=Ch.low V:=by rw [<-h4,Ch.low_up]
    show Ch.low L.name++58 :: Ch.low L.value=_
    rw [e1,e2]
  | false =>
    rw [beq_eq_false_iff_ne]
    intro e
    obtain ⟨n,v,rfl,h1,h2⟩:=low_cut _ _ r e
    obtain ⟨t1,t2⟩:=parse_tx h
    have hn:Ch.up n=N:=by rw [up_low' h1,hN]
    have hv:Ch.up v=V:=by rw [up_low' h2,hV]
    have vv:=(Li.valid_mid n 58 v t1 (by decide)).2
    have ve:ends v=false:=by
      rw [Li.ends_false] at t2 ⊢
      exact ⟨fun hm=>t2.1 (by simp [hm]),fun hm=>t2.2 (by simp [hm])⟩
    have hG:Li.Good ⟨[],n,[],v⟩:=⟨.inl rfl,by rw [<-nameB_up,hn];exact hb,fun p hp=>by simp at hp,by unfold Li.okT;rw [vv,ve];rfl⟩
    have hp:=Li.parse_pr _ hG
    have epr:pr ⟨[],n,[],v⟩=n++58 :: v:=by unfold Li.pr;rw [if_pos rfl];rfl
    rw [epr,h] at hp
    injection hp with hp
    rw [hp] at hq
    unfold isB at hq
    rw [decide_eq_true hn,decide_eq_true hv] at hq
    cases hq
def lnF:List LD->List Row->Nat × List LD
  | acc,[]=>(0,acc)
  | acc,r :: rs=>match parse r with
    | .bad n=>(n,[])
    | .ok L=>lnF (acc++[L]) rs
theorem lnF_bad {acc:List LD} {r:Row} {rs:List Row} {n:Nat} (h:parse r=.bad n):lnF acc (r :: rs)=(n,[]):=by rw [lnF,h]
theorem lnF_ok {acc:List LD} {r:Row} {rs:List Row} {L:LD} (h:parse r=.ok L):lnF acc (r :: rs)=lnF (acc++[L]) rs:=by rw [lnF,h]
def AllP (rows:List Row) (Ls:List LD):Prop:=rows.length=Ls.length/\∀ i (h:i < rows.length) (h':i < Ls.length),parse rows[i]=.ok Ls[i]
theorem AllP.snoc {rows:List Row} {Ls:List LD} {r:Row} {L:LD} (h:AllP rows Ls) (hr:parse r=.ok L):AllP (rows++[r]) (Ls++[L]):=by
  refine ⟨by simp [h.1],fun i h1 h2=>?_⟩
  by_cases hi:i < rows.length
  · rw [List.getElem_append_left hi,List.getElem_append_left (by have:=h.1;omega)]
    exact h.2 i hi (by have:=h.1;omega)
  · rw [List.getElem_append_right (by omega),List.getElem_append_right (by have:=h.1;omega)]
    simp only [List.getElem_singleton]
    exact hr
def framedL (Ls:List LD):Bool:=decide (3<=Ls.length) && (isB (Ls.getD 0 default) wBEGIN wVCARD && (isB (Ls.getD 1 default) wVERSION w40 && isB (Ls.getD (Ls.length - 1) default) wEND wVCARD))
def framedR (rows:List Row):Bool:=decide (3<=rows.length) && ((Ch.low (rows.getD 0 [])==Ch.low bBegin) && ((Ch.low (rows.getD 1 [])==Ch.low bVersion) && (Ch.low (rows.getD (rows.length - 1) [])==Ch.low bEnd)))
theorem framed_eq {rows:List Row} {Ls:List LD} (h:AllP rows Ls):framedR rows=framedL Ls:=by
  unfold framedR framedL
  rw [h.1]
  by_cases h3:3<=Ls.length
  · have g:∀ i,i < Ls.length->parse (rows.getD i [])=.ok (Ls.getD i default):=fun i hi=>by
      have:=h.2 i (by have:=h.1;omega) hi
      rw [List.getD_eq_getElem?_getD,List.getD_eq_getElem?_getD,List.getElem?_eq_getElem (by have:=h.1;omega),List.getElem?_eq_getElem hi]
      exact this
    have e1:=frame_iff (N:=wBEGIN) (V:=wVCARD) (g 0 (by omega)) (by decide) (by decide) (by decide)
    have e2:=frame_iff (N:=wVERSION) (V:=w40) (g 1 (by omega)) (by decide) (by decide) (by decide)
    have e3:=frame_iff (N:=wEND) (V:=wVCARD) (g (Ls.length - 1) (by omega)) (by decide) (by decide) (by decide)
    rw [<-e1,<-e2,<-e3];rfl
  · rw [decide_eq_false h3];rfl
def midL (Ls:List LD):List LD:=(Ls.drop 2).take (Ls.length - 1 - 2)
def pc2 (p:Nat × List LD):Nat × List LD:=if p.1=0 then (if framedL p.2=true/\rightB (midL p.2)=true then (0,midL p.2) else (50,[])) else (p.1,[])
def pcR:Option (List Row)->Nat × List LD
  | none=>(20,[])
  | some rows=>pc2 (lnF [] rows)
def pcard (t:Row):Nat × List LD :=
  if 65536 < t.length then (11,[]) else if Ch.valid t=true then pcR (Fo.R [] t) else (10,[])
theorem pc2_bad {n:Nat} {Ls:List LD} (h:n≠0):pc2 (n,Ls)=(n,[]):=if_neg h
theorem pc2_ok (Ls:List LD):pc2 (0,Ls)=if framedL Ls=true/\rightB (midL Ls)=true then (0,midL Ls) else (50,[]):=if_pos rfl
end Ca
namespace Ca
open Go.Shelf Go.RowKit Go.Lib Go.Sort
open Li (LD PD sv)
theorem cmp_lt:∀ a b:RowB,decide (Lib.compareBytes a b < 0)=lt a b
  | [],[]=>rfl
  | [],_ :: _=>rfl
  | _ :: _,[]=>rfl
  | a :: x,b :: y=>by
    rw [lt_cons,Lib.compareBytes]
    by_cases h:a < b
    · simp [h]
    · by_cases h2:b < a
      · have:¬ a=b:=fun e=>by subst e;exact absurd h2 (UInt8.lt_irrefl a)
        simp [h,h2,this]
      · have e:a=b:=by
          apply UInt8.toNat_inj.1
          rw [UInt8.lt_iff_toNat_lt] at h h2
          omega
        subst e
        rw [if_neg h,if_neg h,cmp_lt x y]
        simp
def cfL (x y:LV):Int:=Lib.compareBytes (keyV x) (keyV y)
theorem keyL_fn' {L:LD} {n:ByteArray} (h:sv L.name=.string n) (hn:n=⟨#[70,78]⟩):keyL L=[]:=by
  have:L.name=nFN:=by
    unfold sv at h
    injection h with h
    rw [<-show (⟨L.name.toArray⟩:ByteArray).data.toList=L.name from rfl,h,hn];rfl
  exact keyL_fn this
theorem keyL_own' {L:LD} {n:ByteArray} (h:sv L.name=.string n) (hn:¬ n=⟨#[70,78]⟩):keyL L=n.data.toList:=by
  have e:L.name=n.data.toList:=by
    unfold sv at h
    injection h with h
    rw [<-h]
  have:L.name≠nFN:=fun e2=>hn (by rw [<-Lib.mk_data n,<-e,e2];rfl)
  rw [keyL_own this,e]
theorem place_any (a1 a2 a4:ByteArray) (pv:Value) (hpv:∃ A n c,pv=.slice A n c) (L:LD) (h2:sv L.name=.string a2) (W:World) :
    Calls Tryz.prog 167 #[.agg #[.string a1,.string a2,pv,.string a4]] W fun e w'=>(∃ x:ByteArray,x.data.toList=keyL L/\e=.returned (.string x))/\∃ q os',w'=grow (W.drewN q) os':=by
  obtain ⟨A,n,c,rfl⟩:=hpv
  by_cases hn:a2=⟨#[70,78]⟩
  · have HK:=Lib.hid (keyL_fn' h2 hn)
    subst hn
    clear h2
    go_enter Tryz.func167,Tryz.ntmps167
    go_wp2
    go_ret
    exact ⟨⟨⟨#[]⟩,by rw [HK.out],rfl⟩,0,_,by rw [alloc_eq_grow];rfl⟩
  · have HK:=Lib.hid (keyL_own' h2 hn)
    have g1:=notName (c:=[70,78]) hn
    have e1:=notName' (c:=[70,78]) hn
    clear hn h2
    go_enter Tryz.func167,Tryz.ntmps167
    go_wp2
    go_ret
    exact ⟨⟨a2,by rw [HK.out],rfl⟩,0,_,by rw [alloc_eq_grow];rfl⟩
theorem encL_agg (x:LV):∃ a1 a2 a4:ByteArray,∃ A n c,sv x.1.name=.string a2/\(encL x).toArray=#[.string a1,.string a2,.slice A n c,.string a4]:=⟨_,_,_,_,_,_,rfl,rfl⟩
theorem before_any (c:Nat) (x y:LV) (W:World) (hc:W.cell? ⟨c,0,none⟩=some (.func (.func 167) #[] #[])) (hlt:c < W.heap.size) :
    Calls Tryz.prog 169 (#[.agg (encL x).toArray,.agg (encL y).toArray]++#[.pointer (some ⟨c,0,none⟩)]) W fun e w'=>e=.returned (.int .i64 (cfL x y))/\∃ q os',w'=grow (W.drewN q) os':=by
  obtain ⟨a1,a2,a4,A,n,k,ea,ex⟩:=encL_agg x
  obtain ⟨b1,b2,b4,A',n',k',eb,ey⟩:=encL_agg y
  rw [ex,ey]
  have cx:=fun W=>place_any a1 a2 a4 (.slice A n k) ⟨A,n,k,rfl⟩ x.1 ea W
  have cy:=fun W=>place_any b1 b2 b4 (.slice A' n' k') ⟨A',n',k',rfl⟩ y.1 eb W
  obtain ⟨sx,hsx⟩:∃ s:ByteArray,s.data.toList=keyL x.1:=⟨⟨(keyL x.1).toArray⟩,by simp⟩
  obtain ⟨sy,hsy⟩:∃ s:ByteArray,s.data.toList=keyL y.1:=⟨⟨(keyL y.1).toArray⟩,by simp⟩
  have dx:∀ W,Calls Tryz.prog 167 #[.agg #[.string a1,.string a2,.slice A n k,.string a4]] W fun e w'=>e=.returned (.string sx)/\∃ q os',w'=grow (W.drewN q) os':=fun W=>(cx W).mono fun e w' ⟨⟨s,h1,h2⟩,h3⟩=>⟨by
    rw [h2];rw [show s=sx by rw [<-Lib.mk_data s,<-Lib.mk_data sx,h1,hsx]],h3⟩
  have dy:∀ W,Calls Tryz.prog 167 #[.agg #[.string b1,.string b2,.slice A' n' k',.string b4]] W fun e w'=>e=.returned (.string sy)/\∃ q os',w'=grow (W.drewN q) os':=fun W=>(cy W).mono fun e w' ⟨⟨s,h1,h2⟩,h3⟩=>⟨by
    rw [h2];rw [show s=sy by rw [<-Lib.mk_data s,<-Lib.mk_data sy,h1,hsy]],h3⟩
  have cC:=fun W=>Tryz.strings_Compare sx sy W
  have hcf:cfL x y=Lib.compareBytes sx.data.toList sy.data.toList:=by unfold cfL keyV;rw [hsx,hsy]
  obtain ⟨r,hr⟩:∃ r,Lib.compareBytes sx.data.toList sy.data.toList=r:=⟨_,rfl⟩
  rw [hr] at cC hcf
  have hcf':=Lib.hid hcf
  have cC2:∀ W,Calls Tryz.prog 119 #[.string sx,.string sy] W fun e w'=>e=.returned (.int .i64 r)/\∃ q os',w'=grow (W.drewN q) os':=fun W=>(cC W).mono fun e w' ⟨h1,h2⟩=>⟨h1,0,#[],by rw [h2,grow_empty];rfl⟩
  have mixed:Tryz.prog.follows .mixedOrders=true:=by kernel_rfl
  obtain ⟨w2,hw2⟩:∃ w2,(W.alloc (.cells #[.string a1,.string a2,.slice A n k,.string a4] 203)).alloc (.cells #[.string b1,.string b2,.slice A' n' k',.string b4] 203)=w2:=⟨_,rfl⟩
  have q0:∀ m os,(grow (w2.drewN m) os).cell? ⟨c,0,none⟩=some (.func (.func 167) #[] #[]):=fun m os=>cell_grown (by rw [<-hw2];simp;omega) (by rw [<-hw2,World.cell?_alloc_lt _ _ _ (by simp;omega),World.cell?_alloc_lt _ _ _ hlt];exact hc) m os
  have hz:W.heap.size < w2.heap.size:=by rw [<-hw2];simp;omega
  have hz1:W.heap.size+1 < w2.heap.size:=by rw [<-hw2];simp
  have p0:∀ m os,(grow (w2.drewN m) os).cell? ⟨W.heap.size,0,none⟩=some (.string a1):=fun m os=>cell_grown hz (by rw [<-hw2,World.cell?_alloc_lt _ _ _ (by simp)];simp) m os
  have p1:∀ m os,(grow (w2.drewN m) os).cell? ⟨W.heap.size,1,none⟩=some (.string a2):=fun m os=>cell_grown hz (by rw [<-hw2,World.cell?_alloc_lt _ _ _ (by simp)];simp) m os
  have p2:∀ m os,(grow (w2.drewN m) os).cell? ⟨W.heap.size,2,none⟩=some (.slice A n k):=fun m os=>cell_grown hz (by rw [<-hw2,World.cell?_alloc_lt _ _ _ (by simp)];simp) m os
  have p3:∀ m os,(grow (w2.drewN m) os).cell? ⟨W.heap.size,3,none⟩=some (.string a4):=fun m os=>cell_grown hz (by rw [<-hw2,World.cell?_alloc_lt _ _ _ (by simp)];simp) m os
  have r0:∀ m os,(grow (w2.drewN m) os).cell? ⟨W.heap.size+1,0,none⟩=some (.string b1):=fun m os=>cell_grown hz1 (by rw [<-hw2,World.cell?_alloc_at _ _ _ _ (by simp)];rfl) m os
  have r1:∀ m os,(grow (w2.drewN m) os).cell? ⟨W.heap.size+1,1,none⟩=some (.string b2):=fun m os=>cell_grown hz1 (by rw [<-hw2,World.cell?_alloc_at _ _ _ _ (by simp)];rfl) m os
  have r2:∀ m os,(grow (w2.drewN m) os).cell? ⟨W.heap.size+1,2,none⟩=some (.slice A' n' k'):=fun m os=>cell_grown hz1 (by rw [<-hw2,World.cell?_alloc_at _ _ _ _ (by simp)];rfl) m os
  have r3:∀ m os,(grow (w2.drewN m) os).cell? ⟨W.heap.size+1,3,none⟩=some (.string b4):=fun m os=>cell_grown hz1 (by rw [<-hw2,World.cell?_alloc_at _ _ _ _ (by simp)];rfl) m os
  have hfin:∀ m os,∃ q os',grow (w2.drewN m) os=grow (W.drewN q) os':=fun m os=>by
    rw [<-hw2,alloc_eq_grow,alloc_eq_grow,grow_grow]
    exact ⟨m,_,by show grow (grow (W.drewN m) _) os=_;rw [grow_grow]⟩
  have hfin':=Lib.hid hfin
  clear hc hfin ea eb ex ey cx cy hsx hsy hcf hr cC hlt
  show Calls Tryz.prog 169 #[.agg #[.string a1,.string a2,.slice A n k,.string a4],.agg #[.string b1,.string b2,.slice A' n' k',.string b4],.pointer (some ⟨c,0,none⟩)] W _
  go_enter Tryz.func169,Tryz.ntmps169
  go_wp2_with fail
  go_quiet_grown (first | (go_at_call 167;first | exact Calls.grown_of (dx _) | exact Calls.grown_of (dy _)) | (go_at_call 119;exact Calls.grown_of (cC2 _)))
  go_wp2
  go_ret
  exact ⟨by rw [hcf'.out]<;>rfl,hfin'.out nq osq⟩
theorem cmpLays_any {w:World} {c g n:Nat} {d0:Array LV} (hc:w.cell? ⟨c,0,none⟩=some (.func (.func 167) #[] #[])) (hlt:c < w.heap.size) (hne:c≠g):CmpLays Tryz.prog 169 #[.pointer (some ⟨c,0,none⟩)] encL 4 cfL g 0 n w:=fun m os dk _ x y=>by
  refine before_any c x y _ ?_ (Nat.lt_of_lt_of_le hlt (size_sortWorldK_c encL 4 w g 0 m dk os))
  unfold sortWorldK
  rw [cell?_grow _ _ _ (by rw [size_putRowK];exact hlt)]
  exact (cell?_putRowK_other (enc:=encL) (k:=4) _ g 0 dk ⟨c,0,none⟩ hne).trans hc
end Ca
end Go.Proofs.YtobfaibofhmpgaaGreatDoor
