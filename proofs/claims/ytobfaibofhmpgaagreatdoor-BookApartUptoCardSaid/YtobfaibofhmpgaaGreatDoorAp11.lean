import Derived.Test.YtobfaibofhmpgaaGreatDoorAp10
set_option linter.unusedVariables false
set_option maxHeartbeats 4000000
set_option maxRecDepth 100000
namespace Go.Proofs.YtobfaibofhmpgaaGreatDoor
namespace Ca
open Va
open Li (LD PD canL chk okT ends nameB)
theorem signs_split (n:Nat):∀ (v:Row) (l:List Sg),v.length<=n->signs v=some l->
    (92∉v/\l=v.map fun c=>(c,false))\/∃ (a:Row) (c d:UInt8) (t:Row) (l':List Sg),92∉a/\v=a++92 :: c :: t/\kep c=some d/\signs t=some l'/\l=(a.map fun c=>(c,false))++(d,true) :: l':=by
  intro v
  induction v with
  | nil=>intro l _ h;rw [signs_nil] at h;cases h;exact .inl ⟨by simp,rfl⟩
  | cons x v ih =>
    intro l hn h
    by_cases hx:x=92
    · subst hx
      cases v with
      | nil=>rw [signs_end] at h;cases h
      | cons c t =>
        rw [signs_esc] at h
        obtain ⟨d,hd,h⟩:=Option.bind_eq_some_iff.1 h
        obtain ⟨l',hl',rfl⟩:=Option.map_eq_some_iff.1 h
        exact .inr ⟨[],c,d,t,l',by simp,rfl,hd,hl',rfl⟩
    · rw [signs_own _ _ hx] at h
      obtain ⟨l0,hl0,rfl⟩:=Option.map_eq_some_iff.1 h
      rcases ih l0 (by simp at hn;omega) hl0 with ⟨h1,h2⟩ | ⟨a,c,d,t,l',h1,h2,h3,h4,h5⟩
      · exact .inl ⟨by simp;exact ⟨fun e=>hx e.symm,h1⟩,by rw [h2];rfl⟩
      · exact .inr ⟨x :: a,c,d,t,l',by simp;exact ⟨fun e=>hx e.symm,h1⟩,by rw [h2];rfl,h3,h4,by rw [h5];rfl⟩
theorem kep_is {c d:UInt8} (h:kep c=some d):d=92\/d=44\/d=59\/d=10:=by
  unfold kep at h
  split at h
  · rename_i hc;cases h;rcases hc with h | h | h<;>simp [h]
  · split at h
    · cases h;simp
    · cases h
structure Out (out:Sg->Row):Prop where
  hi:∀ c:UInt8,128<=c.toNat->out (c,false)=[c]
  lo:∀ c:UInt8,c.toNat < 128->Ch.ctl c=false->Ch.valid (out (c,false))=true
  es:∀ d:UInt8,(d=92\/d=44\/d=59\/d=10)->Ch.valid (out (d,true))=true
  n10:∀ s:Sg,10∉out s
  n13:∀ s:Sg,s.1≠13->13∉out s
theorem out_valid {out:Sg->Row} (h:Out out):∀ (n:Nat) (v:Row) (l:List Sg),v.length<=n->signs v=some l->Ch.valid v=true->Ch.valid (l.flatMap out)=true
  | 0,v,l,hn,hs,hv=>by
    obtain rfl:v=[]:=List.eq_nil_of_length_eq_zero (by omega)
    rw [signs_nil] at hs;cases hs;rfl
  | n + 1,v,l,hn,hs,hv=>by
    have flat:∀ a:Row,Ch.valid a=true->Ch.valid ((a.map fun c=>((c,false):Sg)).flatMap out)=true:=fun a ha=>by
      rw [List.flatMap_map]
      exact Li.valid_flat (fun c=>out (c,false)) h.hi h.lo a.length a (Nat.le_refl _) ha
    rcases signs_split v.length v l (Nat.le_refl _) hs with ⟨_,rfl⟩ | ⟨a,c,d,t,l',_,rfl,hk,ht,rfl⟩
    · exact flat v hv
    · obtain ⟨v1,v2⟩:=Li.valid_mid a 92 (c :: t) hv (by decide)
      have hc:c.toNat < 128:=by
        unfold kep at hk
        split at hk
        · rename_i hc;rcases hc with h | h | h<;>(subst h;decide)
        · split at hk
          · rename_i hc;rcases hc with h | h<;>(subst h;decide)
          · cases hk
      have v3:=(Li.valid_mid [] c t v2 hc).2
      have ih:=out_valid h n t l' (by simp at hn;omega) ht v3
      rw [List.flatMap_append,List.flatMap_cons,Ch.valid_join _ _ (flat a v1),Ch.valid_join _ _ (h.es d (kep_is hk))]
      exact ih
theorem signs_mem:∀ (n:Nat) (v:Row) (l:List Sg),v.length<=n->signs v=some l->∀ s∈l,s.1∈v\/s.1=92\/s.1=44\/s.1=59\/s.1=10
  | 0,v,l,hn,hs=>by
    obtain rfl:v=[]:=List.eq_nil_of_length_eq_zero (by omega)
    rw [signs_nil] at hs;cases hs;intro s h;cases h
  | n + 1,v,l,hn,hs=>by
    rcases signs_split v.length v l (Nat.le_refl _) hs with ⟨_,rfl⟩ | ⟨a,c,d,t,l',_,rfl,hk,ht,rfl⟩
    · intro s hs
      obtain ⟨c,hc,rfl⟩:=List.mem_map.1 hs
      exact .inl hc
    · intro s hs
      rcases List.mem_append.1 hs with hs | hs
      · obtain ⟨c,hc,rfl⟩:=List.mem_map.1 hs
        exact .inl (by simp [hc])
      · rcases List.mem_cons.1 hs with rfl | hs
        · exact .inr (kep_is hk)
        · rcases signs_mem n t l' (by simp at hn;omega) ht s hs with h | h
          · exact .inl (by simp [h])
          · exact .inr h
theorem out_okT {out:Sg->Row} (h:Out out) {v:Row} {l:List Sg} (hs:signs v=some l) (hv:okT v=true):okT (l.flatMap out)=true:=by
  unfold okT at hv ⊢
  simp only [Bool.and_eq_true,Bool.not_eq_true'] at hv ⊢
  refine ⟨out_valid h v.length v l (Nat.le_refl _) hs hv.1,?_⟩
  have he:=(Li.ends_false v).1 hv.2
  rw [Li.ends_false]
  refine ⟨fun hm=>?_,fun hm=>?_⟩
  · obtain ⟨s,hsl,hsm⟩:=List.mem_flatMap.1 hm
    rcases signs_mem v.length v l (Nat.le_refl _) hs s hsl with hx | hx
    · exact h.n13 s (fun e=>he.1 (by rw [<-e];exact hx)) hsm
    · exact h.n13 s (by rcases hx with e | e | e | e<;>(rw [e];decide)) hsm
  · obtain ⟨s,_,hsm⟩:=List.mem_flatMap.1 hm
    exact h.n10 s hsm
theorem put1_hi (c:UInt8) (h:128<=c.toNat):put1 c=[c]:=Ch.byte_all (P:=fun c=>128<=c.toNat->put1 c=[c]) (by decide +kernel) c h
theorem put1_lo (c:UInt8) (h:c.toNat < 128) (hc:Ch.ctl c=false):Ch.valid (put1 c)=true:=Ch.byte_all (P:=fun c=>c.toNat < 128->Ch.ctl c=false->Ch.valid (put1 c)=true) (by decide +kernel) c h hc
theorem put1_10 (c:UInt8):10∉put1 c:=Ch.byte_all (P:=fun c=>10∉put1 c) (by decide +kernel) c
theorem put1_13 (c:UInt8) (h:c≠13):13∉put1 c:=Ch.byte_all (P:=fun c=>c≠13->13∉put1 c) (by decide +kernel) c h
def outT (s:Sg):Row:=put1 s.1
def outM (m:UInt8) (s:Sg):Row:=if s=(m,false) then [m] else put1 s.1
def outF (s:Sg):Row:=if s=(59,false) then [59] else outM 44 s
theorem outT_ok:Out outT:=⟨fun c h=>put1_hi c h,fun c h hc=>put1_lo c h hc,fun d hd=>by rcases hd with rfl | rfl | rfl | rfl<;>decide,fun s=>put1_10 s.1,fun s h=>put1_13 s.1 h⟩
theorem outM_ok:Out (outM 44):=⟨fun c h=>by
    unfold outM;rw [if_neg (fun e=>by injection e with e1;subst e1;exact absurd h (by decide))];exact put1_hi c h,fun c h hc=>by
    unfold outM;split
    · decide
    · exact put1_lo c h hc,fun d hd=>by rcases hd with rfl | rfl | rfl | rfl<;>decide,fun s=>by
    unfold outM;split
    · decide
    · exact put1_10 s.1,fun s h=>by
    unfold outM;split
    · decide
    · exact put1_13 s.1 h⟩
theorem outF_ok:Out outF:=⟨fun c h=>by
    unfold outF;rw [if_neg (fun e=>by injection e with e1;subst e1;exact absurd h (by decide))];exact outM_ok.hi c h,fun c h hc=>by
    unfold outF;split
    · decide
    · exact outM_ok.lo c h hc,fun d hd=>by rcases hd with rfl | rfl | rfl | rfl<;>decide,fun s=>by
    unfold outF;split
    · decide
    · exact outM_ok.n10 s,fun s h=>by
    unfold outF;split
    · decide
    · exact outM_ok.n13 s h⟩
theorem put_flat (l:List Sg):put (plain l)=l.flatMap outT:=by
  induction l with
  | nil=>rfl
  | cons s l ih=>rw [List.flatMap_cons,<-ih];rfl
theorem jn_parts (m:UInt8) (f:List Sg->Row) (out:Sg->Row) (hm:out (m,false)=[m]) (h0:f []=[]) (hf:∀ x l,x≠(m,false)->f (x :: l)=out x++f l):∀ l:List Sg,jn m ((parts m l).map f)=l.flatMap out
  | []=>by simp [parts,jn,h0,tl]
  | s :: l=>by
    have ih:=jn_parts m f out hm h0 hf l
    by_cases hs:s=(m,false)
    · subst hs
      rw [parts_mark,List.flatMap_cons,hm,<-ih]
      cases hp:parts m l with
      | nil=>exact absurd hp (parts_ne m l)
      | cons p ps=>simp [jn,tl,h0]
    · rw [parts_own m s l hs,List.flatMap_cons,<-ih]
      cases hp:parts m l with
      | nil=>exact absurd hp (parts_ne m l)
      | cons p ps =>
        simp only [pre,List.map_cons,jn,List.cons_append,List.nil_append]
        rw [hf s p hs,List.append_assoc]
theorem putL_flat (l:List Sg):putL (listS l)=l.flatMap (outM 44):=by
  have:=jn_parts 44 (fun l=>put (plain l)) (outM 44) (by unfold outM;rw [if_pos rfl]) rfl (fun x l hx=>by
    show put1 x.1++put (plain l)=_
    unfold outM;rw [if_neg hx]) l
  rw [<-this]
  unfold putL listS
  rw [List.map_map];rfl
theorem putF_flat (l:List Sg):putF (fldS l)=l.flatMap outF:=by
  have:=jn_parts 59 (fun l=>putL (listS l)) outF (by unfold outF;rw [if_pos rfl]) rfl (fun x l hx=>by
    show putL (listS (x :: l))=outF x++putL (listS l)
    rw [putL_flat,putL_flat,List.flatMap_cons]
    unfold outF;rw [if_neg hx]) l
  rw [<-this]
  unfold putF fldS
  rw [List.map_map];rfl
theorem anewV_okT {n v x:Row} (h:anewV n v=some x) (hv:okT v=true):okT x=true:=by
  unfold anewV at h
  split at h
  · obtain ⟨t,ht,rfl⟩:=Option.map_eq_some_iff.1 h
    unfold text at ht
    obtain ⟨l,hl,rfl⟩:=Option.map_eq_some_iff.1 ht
    rw [put_flat];exact out_okT outT_ok hl hv
  · split at h
    · obtain ⟨t,ht,rfl⟩:=Option.map_eq_some_iff.1 h
      unfold list at ht
      obtain ⟨l,hl,rfl⟩:=Option.map_eq_some_iff.1 ht
      rw [putL_flat];exact out_okT outM_ok hl hv
    · split at h
      · obtain ⟨t,ht,rfl⟩:=Option.map_eq_some_iff.1 h
        unfold Va.fields at ht
        obtain ⟨l,hl,rfl⟩:=Option.map_eq_some_iff.1 ht
        rw [putF_flat];exact out_okT outF_ok hl hv
      · cases h;exact hv
theorem listS_ne (l:List Sg):listS l≠[]:=fun e=>parts_ne 44 l (List.map_eq_nil_iff.1 e)
theorem fldS_ne (l:List Sg):fldS l≠[]:=fun e=>parts_ne 59 l (List.map_eq_nil_iff.1 e)
theorem fldS_each (l:List Sg):∀ f∈fldS l,f≠[]:=fun f hf=>by
  obtain ⟨p,_,rfl⟩:=List.mem_map.1 hf
  exact listS_ne p
theorem list_put_back {v:Row} {ts:List Row} (h:list v=some ts):list (putL ts)=some ts:=by
  unfold list at h
  obtain ⟨l,_,rfl⟩:=Option.map_eq_some_iff.1 h
  exact list_putL _ (listS_ne l)
theorem fields_put_back {v:Row} {fs:List (List Row)} (h:Va.fields v=some fs):Va.fields (putF fs)=some fs:=by
  unfold Va.fields at h
  obtain ⟨l,_,rfl⟩:=Option.map_eq_some_iff.1 h
  exact fields_putF _ (fldS_ne l) (fldS_each l)
theorem anewV_again {n v x:Row} (h:anewV n v=some x):anewV n x=some x:=by
  unfold anewV at h ⊢
  split
  · rename_i h1
    rw [if_pos h1] at h
    obtain ⟨t,ht,rfl⟩:=Option.map_eq_some_iff.1 h
    rw [text_put];rfl
  · rename_i h1
    rw [if_neg h1] at h
    split
    · rename_i h2
      rw [if_pos h2] at h
      obtain ⟨t,ht,rfl⟩:=Option.map_eq_some_iff.1 h
      rw [list_put_back ht];rfl
    · rename_i h2
      rw [if_neg h2] at h
      split
      · rename_i h3
        rw [if_pos h3] at h
        obtain ⟨t,ht,rfl⟩:=Option.map_eq_some_iff.1 h
        rw [fields_put_back ht];rfl
      · rfl
theorem okV_again {n v x:Row} (h:anewV n v=some x):okV n x=okV n v:=by
  have h2:=anewV_again h
  unfold okV
  rw [h,h2]
  congr 1
  split
  · rename_i hn
    have hf:=anewV_fields (n:=n) (.inl hn) v
    rw [h] at hf
    obtain ⟨t,ht,rfl⟩:=Option.map_eq_some_iff.1 hf.symm
    rw [fields_put_back ht,ht]
  · split
    · rename_i hn
      have hf:=anewV_text (n:=n) (.inr (.inr hn)) v
      rw [h] at hf
      obtain ⟨t,ht,rfl⟩:=Option.map_eq_some_iff.1 hf.symm
      rw [text_put,ht]
    · split
      · rename_i _ _ hn
        have hf:=anewV_own (n:=n) (by rw [hn];decide) (by rw [hn];decide) (by rw [hn];decide) v
        rw [h] at hf
        cases hf;rfl
      · rfl
theorem inB_up (b:UInt8):Li.inB (Ch.upB b)=Li.inB b:=Ch.byte_all (P:=fun b=>Li.inB (Ch.upB b)=Li.inB b) (by decide +kernel) b
theorem nameB_up (l:Row):nameB (Ch.up l)=nameB l:=by
  unfold Li.nameB
  rw [Ch.up_length]
  congr 2
  unfold Ch.up
  rw [List.all_map]
  congr 1
  funext b
  exact inB_up b
theorem upB_upB (b:UInt8):Ch.upB (Ch.upB b)=Ch.upB b:=Ch.byte_all (P:=fun b=>Ch.upB (Ch.upB b)=Ch.upB b) (by decide +kernel) b
theorem up_up (l:Row):Ch.up (Ch.up l)=Ch.up l:=by simp [Ch.up,upB_upB]
theorem badN_can (L:LD) (x:Row):Li.badN ⟨Ch.up L.group,Ch.up L.name,L.params.map Li.canP,x⟩=Li.badN L:=by
  unfold Li.badN
  simp only [nameB_up]
  have h1:(Ch.up L.group).isEmpty=L.group.isEmpty:=by unfold Ch.up;cases L.group<;>rfl
  rw [h1,List.any_map]
  congr 2
  funext p
  show (!nameB (Ch.up p.name))=!nameB p.name
  rw [nameB_up]
theorem badF_can (L:LD) (x:Row):Li.badF ⟨Ch.up L.group,Ch.up L.name,L.params.map Li.canP,x⟩=Li.badF L:=by
  unfold Li.badF
  rw [List.any_map];rfl
theorem badT_can (L:LD) (x:Row) (h:okT x=okT L.value):Li.badT ⟨Ch.up L.group,Ch.up L.name,L.params.map Li.canP,x⟩=Li.badT L:=by
  unfold Li.badT
  rw [h,List.any_map];rfl
theorem chk_parts {L:LD} (h:chk L=0):Li.badN L=false/\Li.badF L=false/\Li.badT L=false:=by
  unfold Li.chk at h
  split at h
  · cases h
  · split at h
    · cases h
    · split at h
      · cases h
      · rename_i h1 h2 h3
        exact ⟨by simpa using h1,by simpa using h2,by simpa using h3⟩
theorem chk_value {L:LD} (h:chk L=0):okT L.value=true:=by
  have:=(chk_parts h).2.2
  unfold Li.badT at this
  simp only [Bool.or_eq_false_iff,Bool.not_eq_false'] at this
  exact this.1
theorem chk_name {L:LD} (h:chk L=0):nameB L.name=true:=by
  have:=(chk_parts h).1
  unfold Li.badN at this
  simp only [Bool.or_eq_false_iff,Bool.not_eq_false'] at this
  exact this.1.2
theorem name_ne {L:LD} (h:chk L=0):L.name≠[]:=fun e=>by
  have:=chk_name h
  rw [e] at this
  revert this;decide
theorem can1_is {L:LD} {x:Row} (h:anewV (Ch.up L.name) L.value=some x):can1 L=⟨Ch.up L.group,Ch.up L.name,L.params.map Li.canP,x⟩:=by
  unfold can1
  show (⟨Ch.up L.group,Ch.up L.name,L.params.map Li.canP,(anew (Ch.up L.name) L.value).1⟩:LD)=_
  rw [(anew_eq (Ch.up L.name) L.value).1 x h]
theorem chk_can1 {L:LD} {x:Row} (h:anewV (Ch.up L.name) L.value=some x) (hc:chk L=0):chk (can1 L)=0:=by
  obtain ⟨c1,c2,c3⟩:=chk_parts hc
  have hx:okT x=okT L.value:=by rw [anewV_okT h (chk_value hc),chk_value hc]
  rw [can1_is h]
  unfold Li.chk
  rw [badN_can,badF_can,badT_can L x hx,c1,c2,c3];rfl
end Ca
namespace Ca
open Go.Lib Go.RowKit
def cur (s:Row) (a i:Nat):Row:=(s.drop a).take (i - a)
end Ca
namespace Va
open Go.Lib Go.RowKit
theorem below_then {a b c:World} (h1:Below a.heap.size a b) (h2:Below b.heap.size b c):Below a.heap.size a c:=h1.trans (h2.mono h1.size)
theorem below_drewN {a w:World} (n:Nat) (h:Below a.heap.size a w):Below a.heap.size a (w.drewN n):=⟨h.os,h.tape,h.output,h.size,h.block⟩
def sv (l:Row):Value:=.string ⟨l.toArray⟩
theorem sv_data (s:ByteArray):sv s.data.toList=.string s:=by unfold sv;rw [Lib.mk_data]
theorem sv_some (l:Row):∃ x:ByteArray,sv l=.string x/\x.data.toList=l:=⟨⟨l.toArray⟩,rfl,by simp⟩
theorem ownsRow_kept {w w':World} {B:Nat} {e:TypeId} {size:Nat} {v:Value} {n:Nat} {xs:List Value} (h:w.ownsRow B e size v n xs) (hb:Below w.heap.size w w'):w'.ownsRow B e size v n xs:=by
  refine ⟨h.1,?_⟩
  rcases h.2 with h | ⟨g,cap,cur,e1,e2,e3,e4⟩
  · exact .inl h
  · exact .inr ⟨g,cap,cur,e1,e2,by rw [hb.block g (Array.getElem?_eq_some_iff.1 e3).1];exact e3,e4⟩
theorem ownsRow_less {w:World} {B B':Nat} {e:TypeId} {size:Nat} {v:Value} {n:Nat} {xs:List Value} (h:w.ownsRow B e size v n xs) (hb:B'<=B):w.ownsRow B' e size v n xs:=by
  refine ⟨h.1,?_⟩
  rcases h.2 with h | ⟨g,cap,cur,e1,e2,e3,e4⟩
  · exact .inl h
  · exact .inr ⟨g,cap,cur,e1,Nat.le_trans hb e2,e3,e4⟩
theorem ownsRow_beside {w w':World} {B B':Nat} {e e':TypeId} {size size':Nat} {v v':Value} {n n':Nat} {xs xs':List Value} (h:w.ownsRow B e size v n xs) (k:w.ownsRow B' e' size' v' n' xs') (hne:e≠e') (hg:w.grownBy w' v'.ownBlock):w'.ownsRow B e size v n xs:=by
  refine ⟨h.1,?_⟩
  rcases h.2 with h | ⟨g,cap,cur,e1,e2,e3,e4⟩
  · exact .inl h
  · refine .inr ⟨g,cap,cur,e1,e2,?_,e4⟩
    rw [hg.block g (Array.getElem?_eq_some_iff.1 e3).1 ?_]
    · exact e3
    · intro hk
      rcases k.2 with k | ⟨g',cap',cur',f1,f2,f3,f4⟩
      · rw [k.1] at hk;cases hk
      · rw [f1] at hk
        obtain rfl:g=g':=by simpa [Value.ownBlock] using hk
        rw [e3] at f3
        have:=Option.some.inj f3
        injection this with _ ht
        exact hne ht
theorem ownsRow_form {w:World} {B:Nat} {e:TypeId} {size:Nat} {v:Value} {n:Nat} {xs:List Value} (h:w.ownsRow B e size v n xs):∃ ao c,v=.slice ao n c:=by
  rcases h.2 with ⟨hv,hn⟩ | ⟨g,cap,cur,e1,_⟩
  · exact ⟨none,0,by rw [hv,hn]⟩
  · exact ⟨_,_,e1⟩
def RowAt {α:Type} (P:World->Value->α->Prop) (w:World) (v:Value) (xs:List α):Prop :=
  ∃ (A:Option Addr) (b off c:Nat),v=.slice A xs.length c/\xs.length<=c/\c<=maxLen/\(0 < xs.length->A=some ⟨b,off,none⟩/\b < w.heap.size)/\
    ∀ (j:Nat) (x:α),xs[j]?=some x->∃ u,w.cell? ⟨b,off+j,none⟩=some u/\P w u x
theorem RowAt.kept {α:Type} {P:World->Value->α->Prop} (hP:∀ {w w' u x},P w u x->Below w.heap.size w w'->P w' u x) {w w':World} {v:Value} {xs:List α} (h:RowAt P w v xs) (hb:Below w.heap.size w w'):RowAt P w' v xs:=by
  obtain ⟨A,b,off,c,h1,h2,h3,h4,h5⟩:=h
  refine ⟨A,b,off,c,h1,h2,h3,fun hl=>⟨(h4 hl).1,Nat.lt_of_lt_of_le (h4 hl).2 hb.size⟩,fun j x hj=>?_⟩
  have hlt:=(h4 (by have:=(List.getElem?_eq_some_iff.1 hj).1;omega)).2
  obtain ⟨u,hu,hx⟩:=h5 j x hj
  exact ⟨u,by rw [hb.cell (p:=⟨b,off+j,none⟩) hlt];exact hu,hP hx hb⟩
theorem rowAt_nil {α:Type} (P:World->Value->α->Prop) (w:World):RowAt P w (.slice none 0 0) ([]:List α) :=
  ⟨none,0,0,0,rfl,by simp,by unfold maxLen;omega,fun h=>absurd h (by simp),fun j x hj=>by simp at hj⟩
theorem ownsRow_at {α:Type} {P:World->Value->α->Prop} {w:World} {B:Nat} {e:TypeId} {v:Value} {xs:List α} {us:List Value} (h:w.ownsRow B e 1 v xs.length us) (hP:∀ (j:Nat) (x:α),xs[j]?=some x->∃ u,us[j]?=some u/\P w u x):RowAt P w v xs:=by
  obtain ⟨h1,h2 | ⟨g,cap,cur,e1,e2,e3,e4,e5,e6,e7⟩⟩:=h
  · obtain rfl:xs=[]:=List.eq_nil_of_length_eq_zero h2.2
    rw [h2.1];exact rowAt_nil P w
  · refine ⟨_,g,0,cap,e1,e4,e5,fun _=>⟨rfl,(Array.getElem?_eq_some_iff.1 e3).1⟩,fun j x hj=>?_⟩
    have hlt:=(List.getElem?_eq_some_iff.1 hj).1
    obtain ⟨u,hu,hx⟩:=hP j x hj
    refine ⟨u,?_,hx⟩
    rw [Lib.cell_of_heap e3,Nat.zero_add]
    have:(cur.toList.take (xs.length*1))[j]?=us[j]?:=by rw [e7]
    rw [List.getElem?_take,if_pos (by omega),hu] at this
    rw [<-Array.getElem?_toList,this]
def Own (B:Nat) (v:Value) (ls:List Row) (w:World):Prop:=w.ownsRow B 9 1 v ls.length (ls.map sv)
def StrP (w:World) (u:Value) (l:Row):Prop:=u=sv l
abbrev StrsAt (w:World) (v:Value) (ls:List Row):Prop:=RowAt StrP w v ls
theorem Own.nil (B:Nat) (w:World):Own B (.slice none 0 0) [] w:=World.ownsRow_nil w B _ 1
theorem Own.kept {w w':World} {B:Nat} {v:Value} {ls:List Row} (h:Own B v ls w) (hb:Below w.heap.size w w'):Own B v ls w':=ownsRow_kept h hb
theorem Own.less {w:World} {B B':Nat} {v:Value} {ls:List Row} (h:Own B v ls w) (hb:B'<=B):Own B' v ls w:=ownsRow_less h hb
theorem Own.at {B:Nat} {v:Value} {ls:List Row} {w:World} (h:Own B v ls w):StrsAt w v ls :=
  ownsRow_at h fun j l hj=>⟨sv l,by rw [List.getElem?_map,hj];rfl,rfl⟩
theorem Own.snoc {B:Nat} {v':Value} {ls:List Row} {x:ByteArray} {w':World} (h:w'.ownsRow B 9 1 v' (ls.length+1) (ls.map sv++[.string x])):Own B v' (ls++[x.data.toList]) w':=by
  unfold Own
  rw [List.map_append,List.length_append,List.map_singleton,sv_data]
  exact h
theorem strP_kept {w w':World} {u:Value} {x:Row} (h:StrP w u x) (_:Below w.heap.size w w'):StrP w' u x:=h
theorem infoStr:(Tryz.prog.info? 9).map (fun i=>(i.zero,i.size,i.bytes))=some (some (.string ⟨#[]⟩),1,16):=by kernel_rfl
structure Inner (e:TypeId) (α:Type) (I:Nat->Value->α->World->Prop):Prop where
  kept:∀ {w w':World} {B:Nat} {v:Value} {x:α},I B v x w->Below w.heap.size w w'->I B v x w'
  less:∀ {w:World} {B B':Nat} {v:Value} {x:α},I B v x w->B'<=B->I B' v x w
  beside:∀ {w w':World} {B B' size n:Nat} {v v':Value} {x:α} {xs:List Value},I B v x w->w.ownsRow B' e size v' n xs->w.grownBy w' v'.ownBlock->I B v x w'
def ROwn {α:Type} (e:TypeId) (I:Nat->Value->α->World->Prop) (B:Nat) (v:Value) (xs:List α) (w:World):Prop :=
  ∃ us:List Value,xs.length=us.length/\w.ownsRow B e 1 v xs.length us/\∀ (j:Nat) (x:α) (u:Value),xs[j]?=some x->us[j]?=some u->I B u x w
theorem ROwn.nil {α:Type} (e:TypeId) (I:Nat->Value->α->World->Prop) (B:Nat) (w:World):ROwn e I B (.slice none 0 0) [] w:=⟨[],rfl,World.ownsRow_nil w B _ 1,fun j x u h=>by simp at h⟩
theorem ROwn.kept {α:Type} {e:TypeId} {I:Nat->Value->α->World->Prop} (hI:Inner e α I) {w w':World} {B:Nat} {v:Value} {xs:List α} (h:ROwn e I B v xs w) (hb:Below w.heap.size w w'):ROwn e I B v xs w':=by
  obtain ⟨us,h1,h2,h3⟩:=h
  exact ⟨us,h1,ownsRow_kept h2 hb,fun j x u hx hu=>hI.kept (h3 j x u hx hu) hb⟩
theorem ROwn.more {α:Type} {e:TypeId} {I:Nat->Value->α->World->Prop} (hI:Inner e α I) {B:Nat} {v v' u:Value} {xs:List α} {x:α} {us:List Value} {W w':World} (hl:xs.length=us.length) (hrow:W.ownsRow B e 1 v xs.length us)
    (hv:∀ (j:Nat) (x:α) (u:Value),xs[j]?=some x->us[j]?=some u->I B u x W) (hu:I B u x W) (hown':w'.ownsRow B e 1 v' (xs.length+1) (us++[u])) (hg:W.grownBy w' v.ownBlock):ROwn e I B v' (xs++[x]) w':=by
  refine ⟨us++[u],by simp [hl],by rw [List.length_append];exact hown',fun j q z hq hz=>?_⟩
  by_cases hj:j < xs.length
  · rw [List.getElem?_append_left hj] at hq
    rw [List.getElem?_append_left (by omega)] at hz
    exact hI.beside (hv j q z hq hz) hrow hg
  · rw [List.getElem?_append_right (by omega)] at hq
    rw [List.getElem?_append_right (by omega)] at hz
    have hj0:j=xs.length:=by
      have:=(List.getElem?_eq_some_iff.1 hq).1
      simp at this;omega
    subst hj0
    rw [Nat.sub_self] at hq
    rw [hl,Nat.sub_self] at hz
    simp at hq hz
    subst hq;subst hz
    exact hI.beside hu hrow hg
theorem ROwn.at {α:Type} {e:TypeId} {I:Nat->Value->α->World->Prop} {P:World->Value->α->Prop} (hP:∀ {B v x w},I B v x w->P w v x) {B:Nat} {v:Value} {xs:List α} {w:World} (h:ROwn e I B v xs w):RowAt P w v xs:=by
  obtain ⟨us,h1,h2,h3⟩:=h
  exact ownsRow_at h2 fun j x hj=>by
    have hlt:=(List.getElem?_eq_some_iff.1 hj).1
    have hu:us[j]?=some (us[j]'(by omega)):=List.getElem?_eq_getElem _
    exact ⟨_,hu,hP (h3 j x _ hj hu)⟩
theorem innerStr:Inner 32 (List Row) Own:=⟨Own.kept,Own.less,fun h k hg=>ownsRow_beside h k (by decide) hg⟩
theorem infoStrs:(Tryz.prog.info? 32).map (fun i=>(i.zero,i.size,i.bytes))=some (some (.slice none 0 0),1,24):=by kernel_rfl
abbrev LOwn (B:Nat) (v:Value) (xs:List (List Row)) (w:World):Prop:=ROwn 32 Own B v xs w
abbrev ListsAt (w:World) (v:Value) (xs:List (List Row)):Prop:=RowAt StrsAt w v xs
theorem StrsAt.kept {w w':World} {v:Value} {ls:List Row} (h:StrsAt w v ls) (hb:Below w.heap.size w w'):StrsAt w' v ls:=RowAt.kept (P:=StrP) (fun h hb=>strP_kept h hb) h hb
theorem LOwn.at {B:Nat} {v:Value} {xs:List (List Row)} {w:World} (h:LOwn B v xs w):ListsAt w v xs:=ROwn.at (P:=StrsAt) (fun h=>Own.at h) h
end Va
namespace Va
open Go.Lib Go.RowKit Bu
theorem tn {x m:UInt8} {k:Int} (hm:(m.toNat:Int)=k) (h:x≠m):((x.toNat:Int)==k)=false:=by subst hm;exact beq_eq_false_iff_ne.2 (fun e=>h (UInt8.toNat_inj.1 (by omega)))
theorem ty {x m:UInt8} {k:Int} (hm:(m.toNat:Int)=k) (h:x=m):((x.toNat:Int)==k)=true:=by subst hm;subst h;simp
def strLen:Value->Nat
  | .string s=>s.size
  | _=>0
def bit:Value->Nat
  | .bool true=>1
  | _=>0
def CutP (c:UInt8) (t:ByteArray) (e:Ending):Prop :=
  (c∉t.data.toList/\e=.returned (.tuple #[.string t,.string ⟨#[]⟩,.bool false]))\/
  ∃ a r:ByteArray,c∉a.data.toList/\t.data.toList=a.data.toList++c :: r.data.toList/\e=.returned (.tuple #[.string a,.string r,.bool true])
theorem byte_at (l:List UInt8) (c:UInt8):(indexByte l c=-1/\c∉l)\/∃ k:Nat,indexByte l c=k/\k < l.length/\c∉l.take k/\l=l.take k++c :: l.drop (k+1):=by
  have hge:=indexByte_ge l c
  by_cases h:indexByte l c=-1
  · left
    refine ⟨h,fun hm=>?_⟩
    obtain ⟨k,hk⟩:=List.mem_iff_getElem?.1 hm
    exact indexByte_none h k hk
  · right
    obtain ⟨k,hk⟩:∃ k:Nat,indexByte l c=k:=⟨(indexByte l c).toNat,by omega⟩
    obtain ⟨h1,h2⟩:=indexByte_some hk
    obtain ⟨hlt,hv⟩:=List.getElem?_eq_some_iff.1 h1
    refine ⟨k,hk,hlt,fun hm=>?_,?_⟩
    · obtain ⟨j,hj⟩:=List.mem_iff_getElem?.1 hm
      rw [List.getElem?_take] at hj
      split at hj
      · exact h2 j ‹_› hj
      · cases hj
    · conv=>lhs;rw [<-List.take_append_drop k l,List.drop_eq_getElem_cons hlt,hv]
theorem cutLite_any (c:UInt8) (t:ByteArray) (w:World) (hs:t.size<=140737488355328) :
    Calls Tryz.prog 49 #[.string t,.string ⟨#[c]⟩] w fun e w'=>CutP c t e/\Below w.heap.size w w':=by
  have cI:=fun W=>Tryz.stringslite_Index_one t c W
  rcases byte_at t.data.toList c with ⟨h1,h2⟩ | ⟨k,h1,h2,h3,h4⟩
  · rw [h1] at cI
    have hfin:CutP c t (.returned (.tuple #[.string t,.string ⟨#[]⟩,.bool false])):=.inl ⟨h2,rfl⟩
    clear h1 h2
    have hfin':=Lib.hid hfin
    clear hfin
    go_enter Tryz.func49,Tryz.ntmps49
    go_wp2_with (go_at_call 74;refine (cI _).mono ?_;rintro e w' ⟨rfl,rfl⟩)
    go_ret3
    exact ⟨hfin'.out,Below.refl _ _⟩
  · rw [h1] at cI
    rw [<-Lib.size_eq] at h2
    have e1:(t.extract 0 k).data.toList=t.data.toList.take k:=by rw [Lib.extract_data];rfl
    have e2:(t.extract (k+1) t.size).data.toList=t.data.toList.drop (k+1):=Lib.extract_to_end t (k+1)
    have hfin:CutP c t (.returned (.tuple #[.string (t.extract 0 k),.string (t.extract (k+1) t.size),.bool true])) :=
      .inr ⟨_,_,by rw [e1];exact h3,by rw [e1,e2];exact h4,rfl⟩
    clear h1 h3 h4 e1 e2
    have hfin':=Lib.hid hfin
    clear hfin
    have hw:IntKind.i64.wrap ((k:Int)+1)=(k:Int)+1:=IntWalk.i64_in _ (by omega)
    go_enter Tryz.func49,Tryz.ntmps49
    go_wp2_with (go_at_call 74;refine (cI _).mono ?_;rintro e w' ⟨rfl,rfl⟩)
    go_quiet (fail)
    go_wp2
    go_ret3
    exact ⟨hfin'.out,below_drewN _ (Below.refl _ _)⟩
theorem sCut_any (c:UInt8) (t:ByteArray) (w:World) (hs:t.size<=140737488355328) :
    Calls Tryz.prog 23 #[.string t,.string ⟨#[c]⟩] w fun e w'=>CutP c t e/\Below w.heap.size w w':=by
  go_enter Tryz.func23,Tryz.ntmps23
  go_wp2_with fail
  go_at_call 49
  refine (cutLite_any c t w hs).mono ?_
  rintro e w1 ⟨hc,hb⟩
  rcases hc with ⟨h1,rfl⟩ | ⟨a,r,h1,h2,rfl⟩
  · have hfin:CutP c t (.returned (.tuple #[.string t,.string ⟨#[]⟩,.bool false])):=.inl ⟨h1,rfl⟩
    have hfin':=Lib.hid hfin
    clear hfin h1
    go_wp2
    go_ret3
    exact ⟨hfin'.out,hb⟩
  · have hfin:CutP c t (.returned (.tuple #[.string a,.string r,.bool true])):=.inr ⟨a,r,h1,h2,rfl⟩
    have hfin':=Lib.hid hfin
    clear hfin h1 h2
    go_wp2
    go_ret3
    exact ⟨hfin'.out,hb⟩
def MeantP (r:Row) (e:Ending):Prop :=
  ((∀ c u,r=c :: u->kep c=none)/\e=.returned (.tuple #[.int .u8 0,.bool false]))\/
  ∃ (c d:UInt8) (u:Row),r=c :: u/\kep c=some d/\e=.returned (.tuple #[.int .u8 (d.toNat:Int),.bool true])
theorem nonempty_of (s:ByteArray) (h:s.data.toList≠[]):s.toList.isEmpty=false:=by
  rw [Lib.toList_data]
  cases h':s.data.toList with
  | nil=>exact absurd h' h
  | cons _ _=>rfl
theorem empty_of (s:ByteArray) (h:s.data.toList=[]):s.toList.isEmpty=true:=by rw [Lib.toList_data,h];rfl
theorem head_of (s:ByteArray) (h:0 < s.size):s.data.toList=s[0]'h :: s.data.toList.drop 1:=by
  have:=List.drop_eq_getElem_cons (l:=s.data.toList) (i:=0) (by rw [<-Lib.size_eq];exact h)
  rw [List.drop_zero] at this
  rw [this]
  congr 1
theorem kep_own (c:UInt8) (h:c=92\/c=44\/c=59):kep c=some c:=by unfold kep;rw [if_pos h]
theorem kep_feed (c:UInt8) (h:c=110\/c=78):kep c=some 10:=by
  unfold kep
  rw [if_neg (by rcases h with rfl | rfl<;>decide),if_pos h]
theorem kep_no (c:UInt8) (h1:c≠92) (h2:c≠44) (h3:c≠59) (h4:c≠110) (h5:c≠78):kep c=none:=by
  unfold kep;rw [if_neg (fun h=>by rcases h with e | e | e;exact h1 e;exact h2 e;exact h3 e),if_neg (fun h=>by rcases h with e | e;exact h4 e;exact h5 e)]
theorem meant_any (r:ByteArray) (w:World) (hs:r.size<=140737488355328) :
    Calls Tryz.prog 197 #[.string r] w fun e w'=>MeantP r.data.toList e/\w=w':=by
  by_cases h0:r.data.toList=[]
  · have he:=empty_of r h0
    have hfin:MeantP r.data.toList (.returned (.tuple #[.int .u8 0,.bool false])):=.inl ⟨fun c u e=>(by rw [h0] at e;cases e),rfl⟩
    have hfin':=Lib.hid hfin
    clear hfin h0
    go_enter Tryz.func197,Tryz.ntmps197
    go_wp2
    go_ret2
    exact ⟨hfin'.out,rfl⟩
  · have he := nonempty_of r h0
    have hpos:0 < r.size:=by
      rw [Lib.size_eq]
      cases h:r.data.toList with
      | nil=>exact absurd h h0
      | cons _ _=>simp
    have hh:=head_of r hpos
    have hyes:∀ d,kep (r[0]'hpos)=some d->MeantP r.data.toList (.returned (.tuple #[.int .u8 (d.toNat:Int),.bool true])):=fun d hd=>.inr ⟨_,d,_,hh,hd,rfl⟩
    have hno:kep (r[0]'hpos)=none->MeantP r.data.toList (.returned (.tuple #[.int .u8 0,.bool false])):=fun hd=>.inl ⟨fun c u e=>by rw [hh] at e;rw [<-(List.cons.inj e).1];exact hd,rfl⟩
    have hyes':=Lib.hid hyes
    have hno':=Lib.hid hno
    clear hh h0 hyes hno
    by_cases c1:r[0]'hpos=92
    · have d1:((((r[0]'hpos).toNat:Nat):Int)==92)=true:=ty (m:=92) rfl c1
      have hf:=Lib.hid (hyes'.out _ (kep_own _ (.inl c1)))
      clear c1
      go_enter Tryz.func197,Tryz.ntmps197
      go_wp2
      go_ret2
      exact ⟨hf.out,rfl⟩
    · have d1 : ((((r[0]'hpos).toNat:Nat):Int)==92)=false:=tn (m:=92) rfl c1
      by_cases c2:r[0]'hpos=44
      · have d2:((((r[0]'hpos).toNat:Nat):Int)==44)=true:=ty (m:=44) rfl c2
        have hf:=Lib.hid (hyes'.out _ (kep_own _ (.inr (.inl c2))))
        clear c1 c2
        go_enter Tryz.func197,Tryz.ntmps197
        go_wp2
        go_ret2
        exact ⟨hf.out,rfl⟩
      · have d2:((((r[0]'hpos).toNat:Nat):Int)==44)=false:=tn (m:=44) rfl c2
        by_cases c3:r[0]'hpos=59
        · have d3:((((r[0]'hpos).toNat:Nat):Int)==59)=true:=ty (m:=59) rfl c3
          have hf:=Lib.hid (hyes'.out _ (kep_own _ (.inr (.inr c3))))
          clear c1 c2 c3
          go_enter Tryz.func197,Tryz.ntmps197
          go_wp2
          go_ret2
          exact ⟨hf.out,rfl⟩
        · have d3:((((r[0]'hpos).toNat:Nat):Int)==59)=false:=tn (m:=59) rfl c3
          by_cases c4:r[0]'hpos=110
          · have d4:((((r[0]'hpos).toNat:Nat):Int)==110)=true:=ty (m:=110) rfl c4
            have hf:=Lib.hid (hyes'.out _ (kep_feed _ (.inl c4)))
            clear c1 c2 c3 c4
            go_enter Tryz.func197,Tryz.ntmps197
            go_wp2
            go_ret2
            exact ⟨hf.out,rfl⟩
          · have d4:((((r[0]'hpos).toNat:Nat):Int)==110)=false:=tn (m:=110) rfl c4
            by_cases c5:r[0]'hpos=78
            · have d5:((((r[0]'hpos).toNat:Nat):Int)==78)=true:=ty (m:=78) rfl c5
              have hf:=Lib.hid (hyes'.out _ (kep_feed _ (.inr c5)))
              clear c1 c2 c3 c4 c5
              go_enter Tryz.func197,Tryz.ntmps197
              go_wp2
              go_ret2
              exact ⟨hf.out,rfl⟩
            · have d5:((((r[0]'hpos).toNat:Nat):Int)==78)=false:=tn (m:=78) rfl c5
              have hf:=Lib.hid (hno'.out (kep_no _ c1 c2 c3 c4 c5))
              clear c1 c2 c3 c4 c5
              go_enter Tryz.func197,Tryz.ntmps197
              go_wp2
              go_ret2
              exact ⟨hf.out,rfl⟩
def TextP (t:Row) (e:Ending):Prop :=
  (text t=none/\e=.returned (.tuple #[.string ⟨#[]⟩,.int .i64 31]))\/∃ x:ByteArray,text t=some x.data.toList/\e=.returned (.tuple #[.string x,.int .i64 0])
theorem plain_free (a:Row):plain (a.map fun c=>(c,false))=a:=by
  unfold plain
  rw [List.map_map]
  have:(Prod.fst ∘ fun c:UInt8=>(c,false))=id:=rfl
  rw [this,List.map_id]
theorem text_free (a:Row) (h:92∉a):text a=some a:=by
  unfold text;rw [signs_free a h,Option.map_some,plain_free]
theorem text_then (a b:Row) (h:92∉a):text (a++b)=(text b).map fun x=>a++x:=by
  unfold text;rw [signs_then (signs_free a h)]
  cases signs b with
  | none=>rfl
  | some l=>simp only [Option.map_some,plain_append,plain_free]
theorem text_bad (r:Row) (h:∀ c u,r=c :: u->kep c=none):text (92 :: r)=none:=by
  unfold text
  cases r with
  | nil=>rw [signs_end];rfl
  | cons c u=>rw [signs_esc,h c u rfl];rfl
theorem text_esc (c d:UInt8) (u:Row) (h:kep c=some d):text (92 :: c :: u)=(text u).map fun x=>d :: x:=by
  unfold text
  rw [signs_esc,h]
  cases signs u with
  | none=>rfl
  | some l=>simp [plain]
def TextRel (T:ByteArray) (w:World) (s0:Value) (wr:World):Prop :=
  ∃ (t:ByteArray) (acc:Row),s0=.string t/\Bd w.heap.size w.heap.size acc wr/\Below w.heap.size w wr/\acc.length+t.size<=T.size/\text T.data.toList=(text t.data.toList).map fun x=>acc++x
theorem text_any (T:ByteArray) (w:World) (hs:T.size<=1099511627776) :
    Calls Tryz.prog 163 #[.string T] w fun e w'=>TextP T.data.toList e/\Below w.heap.size w w':=by
  go_enter Tryz.func163,Tryz.ntmps163
  go_wp2
  go_loopw [0] (fun s0 wr=>TextRel T w s0 wr) (fun s0 wr=>strLen s0)
  case atStart=>exact ⟨T,[],rfl,fresh w,(Below.refl _ _).alloc (Nat.le_refl _) _,by simp,by simp⟩
  case round =>
    obtain ⟨t,acc,rfl,hbd,hbw,hL,hR⟩:=hrel
    have hR':=Lib.hid hR
    clear hR
    go_wp2_with fail
    go_at_call 23
    refine (sCut_any 92 t wr (by omega)).mono ?_
    rintro e w1 ⟨hc,hb1⟩
    have hbd1:=hbd.kept hb1
    have hbw1:=below_then hbw hb1
    clear hbd hbw hb1
    rcases hc with ⟨h1,rfl⟩ | ⟨a,r,h1,h2,rfl⟩
    · have hf:text T.data.toList=some (acc++t.data.toList):=by rw [hR'.out,text_free _ h1];rfl
      have cW:=write_any w.heap.size w.heap.size acc t w1 hbd1 (by omega) hbw1.size
      have hf':=Lib.hid hf
      clear h1 hf
      go_wp2_with (go_at_call 156;refine cW.mono ?_;rintro e w2 ⟨rfl,hbd2,hb2⟩)
      have hbw2:=hbw1.trans hb2
      go_wp2_with (go_at_call 82;refine (Bu.text_any w.heap.size w.heap.size _ _ hbd2 hbw2.size).mono ?_;rintro e w3 ⟨rfl,_,hb3⟩)
      go_ret2
      exact ⟨.inr ⟨_,by simpa using hf'.out,rfl⟩,hbw2.trans hb3⟩
    · have hlen:a.size+(r.size+1)=t.size:=by
        have:=congrArg List.length h2
        rw [List.length_append,List.length_cons,<-Lib.size_eq,<-Lib.size_eq,<-Lib.size_eq] at this
        omega
      have cW:=write_any w.heap.size w.heap.size acc a w1 hbd1 (by omega) hbw1.size
      have hR2:text T.data.toList=(text (92 :: r.data.toList)).map fun x=>(acc++a.data.toList)++x:=by
        rw [hR'.out,h2,text_then _ _ h1,Option.map_map]
        congr 1
        funext x
        simp
      have hR2':=Lib.hid hR2
      clear h1 h2 hR2 hR'
      go_wp2_with (go_at_call 156;refine cW.mono ?_;rintro e w2 ⟨rfl,hbd2,hb2⟩)
      have hbw2:=hbw1.trans hb2
      clear cW hbd1 hbw1 hb2
      go_at_call 197
      refine (meant_any r w2 (by omega)).mono ?_
      rintro e w3 ⟨hm,rfl⟩
      rcases hm with ⟨hm,rfl⟩ | ⟨c,d,u,hm,hd,rfl⟩
      · have hf:TextP T.data.toList (.returned (.tuple #[.string ⟨#[]⟩,.int .i64 31])):=.inl ⟨by rw [hR2'.out,text_bad _ hm];rfl,rfl⟩
        have hf':=Lib.hid hf
        clear hf hm
        go_wp2
        go_ret2
        exact ⟨hf'.out,hbw2⟩
      · have hrs:1<=r.size:=by rw [Lib.size_eq,hm];simp
        have hxs:(r.extract 1 r.size).data.toList=u:=by rw [Lib.extract_to_end r 1,hm];rfl
        have hxl:(r.extract 1 r.size).size=r.size - 1:=by rw [Lib.size_eq,hxs,Lib.size_eq r,hm];simp
        have hR3:text T.data.toList=(text (r.extract 1 r.size).data.toList).map fun x=>(acc++a.data.toList++[d])++x:=by
          rw [hR2'.out,hm,text_esc c d u hd,hxs,Option.map_map]
          congr 1
          funext x
          simp
        have hal:(acc++a.data.toList).length=acc.length+a.size:=by rw [List.length_append,<-Lib.size_eq]
        have cB:=byte_any w.heap.size w.heap.size (acc++a.data.toList) d w2 hbd2 (by omega) hbw2.size
        have hR3':=Lib.hid hR3
        have hal':=Lib.hid hal
        obtain ⟨q,hq⟩:∃ q,r.extract 1 r.size=q:=⟨_,rfl⟩
        have hql:q.size=r.size - 1:=by rw [<-hq];exact hxl
        have hqR:=Lib.hid (hq▸hR3)
        clear hm hd hxs hxl hR3 hR3' hR2' hal
        go_wp2_with (go_at_call 81;refine cB.mono ?_;rintro e w4 ⟨rfl,hbd4,hb4⟩)
        go_roundw
        case rel=>exact ⟨q,_,rfl,hbd4,hbw2.trans hb4,by rw [List.length_append,hal'.out,List.length_singleton];omega,hqR.out⟩
        case measure=>simp only [strLen];omega
def CutMP (m:UInt8) (t:Row) (e:Ending):Prop :=
  (cutM m t=none/\∃ a:ByteArray,a.data.toList=t/\e=.returned (.tuple #[.string a,.string ⟨#[]⟩,.bool false]))\/
  ∃ a r:ByteArray,cutM m t=some (a.data.toList,r.data.toList)/\e=.returned (.tuple #[.string a,.string r,.bool true])
theorem drop_head (s:ByteArray) (k:Nat) (h:k < s.size):s.data.toList.drop k=s[k]'h :: s.data.toList.drop (k+1):=by
  rw [List.drop_eq_getElem_cons (by rw [<-Lib.size_eq];exact h)]
  congr 1
theorem take_next (s:ByteArray) (k:Nat) (h:k < s.size):s.data.toList.take (k+1)=s.data.toList.take k++[s[k]'h]:=by
  rw [List.take_succ_eq_append_getElem (by rw [<-Lib.size_eq];exact h)]
  congr 1
theorem cutM_two (m:UInt8) (r:Row):cutM m (92 :: r)=(cutM m (r.drop 1)).map fun p=>(92 :: r.take 1++p.1,p.2):=by
  cases r with
  | nil=>rw [cutM_end,List.drop_nil,cutM_nil];rfl
  | cons c u=>rw [cutM_esc];rfl
theorem cut_any (m:UInt8) (s:ByteArray) (w:World) (h92:m≠92) (hs:s.size<=140737488355328) :
    Calls Tryz.prog 220 #[.string s,.int .u8 (m.toNat:Int)] w fun e w'=>CutMP m s.data.toList e/\Below w.heap.size w w':=by
  have hstep2:∀ (k:Nat) (h:k < s.size),s[k]'h=92->cutM m s.data.toList=((cutM m (s.data.toList.drop k)).map fun p=>(s.data.toList.take k++p.1,p.2))->cutM m s.data.toList=((cutM m (s.data.toList.drop (k+2))).map fun p=>(s.data.toList.take (k+2)++p.1,p.2)):=fun k h hc hR=>by
    rw [hR,drop_head s k h,hc,cutM_two,List.drop_drop,Option.map_map]
    congr 1
    funext p
    have e:s.data.toList.take (k+2)=s.data.toList.take k++(92 :: (s.data.toList.drop (k+1)).take 1):=by
      rw [<-List.take_append_drop k (s.data.toList.take (k+2)),List.take_take,Nat.min_eq_left (by omega),List.drop_take]
      congr 1
      rw [show k+2 - k=2 by omega,drop_head s k h,hc]
      rfl
    simp [e]
  have hstep1:∀ (k:Nat) (h:k < s.size),s[k]'h≠92->s[k]'h≠m->cutM m s.data.toList=((cutM m (s.data.toList.drop k)).map fun p=>(s.data.toList.take k++p.1,p.2))->cutM m s.data.toList=((cutM m (s.data.toList.drop (k+1))).map fun p=>(s.data.toList.take (k+1)++p.1,p.2)):=fun k h hc hm hR=>by
    rw [hR,drop_head s k h,cutM_own m _ _ hc hm,Option.map_map,take_next s k h]
    congr 1
    funext p
    simp
  have hstep0:∀ (k:Nat) (h:k < s.size),s[k]'h=m->cutM m s.data.toList=((cutM m (s.data.toList.drop k)).map fun p=>(s.data.toList.take k++p.1,p.2))->CutMP m s.data.toList (.returned (.tuple #[.string (s.extract 0 k),.string (s.extract (k+1) s.size),.bool true])):=fun k h hm hR=>.inr ⟨_,_,by
    rw [hR,drop_head s k h,hm,cutM_mark m _ h92,Lib.extract_to_end s (k+1),Lib.extract_data]
    simp,rfl⟩
  have hend:∀ (k:Nat),¬ k < s.size->cutM m s.data.toList=((cutM m (s.data.toList.drop k)).map fun p=>(s.data.toList.take k++p.1,p.2))->CutMP m s.data.toList (.returned (.tuple #[.string s,.string ⟨#[]⟩,.bool false])):=fun k h hR=>.inl ⟨by
    rw [hR,List.drop_eq_nil_of_le (by rw [<-Lib.size_eq];omega),cutM_nil];rfl,s,rfl,rfl⟩
  have hs2:=Lib.hid hstep2
  have hs1:=Lib.hid hstep1
  have hs0:=Lib.hid hstep0
  have hse:=Lib.hid hend
  clear hstep2 hstep1 hstep0 hend
  go_enter Tryz.func220,Tryz.ntmps220
  go_wp2
  go_loopw [7] (fun s7 wr=>∃ k:Nat,s7=.int .i64 (k:Int)/\k<=s.size+1/\Below w.heap.size w wr/\cutM m s.data.toList=((cutM m (s.data.toList.drop k)).map fun p=>(s.data.toList.take k++p.1,p.2))) (fun s7 wr=>s.size+1 - (RowKit.intOf s7).toNat)
  case atStart=>exact ⟨0,rfl,by omega,Below.refl _ _,by simp⟩
  case round =>
    obtain ⟨k,rfl,hk,hbw,hR⟩:=hrel
    by_cases hlt:k < s.size
    · by_cases c1:s[k]'hlt=92
      · have d1:((((s[k]'hlt).toNat:Nat):Int)==92)=true:=ty (m:=92) rfl c1
        have hn:=Lib.hid (hs2.out k hlt c1 hR)
        clear c1 hR
        go_wp2
        go_roundw
        case rel=>exact ⟨k+2,by go_num,by omega,hbw,hn.out⟩
        case measure=>simp [RowKit.intOf];omega
      · have d1:((((s[k]'hlt).toNat:Nat):Int)==92)=false:=tn (m:=92) rfl c1
        by_cases c2:s[k]'hlt=m
        · have d2:((((s[k]'hlt).toNat:Nat):Int)==((m.toNat:Nat):Int))=true:=ty rfl c2
          have hn:=Lib.hid (hs0.out k hlt c2 hR)
          have hw:IntKind.i64.wrap ((k:Int)+1)=(k:Int)+1:=IntWalk.i64_in _ (by omega)
          clear c1 c2 hR
          go_wp2
          go_quiet (fail)
          go_wp2
          go_ret3
          exact ⟨hn.out,below_drewN _ hbw⟩
        · have d2:((((s[k]'hlt).toNat:Nat):Int)==((m.toNat:Nat):Int))=false:=tn rfl c2
          have hn:=Lib.hid (hs1.out k hlt c1 c2 hR)
          clear c1 c2 hR
          go_wp2
          go_roundw
          case rel=>exact ⟨k+1,by go_num,by omega,hbw,hn.out⟩
          case measure=>simp [RowKit.intOf];omega
    · have hf:=Lib.hid (hse.out k hlt hR)
      clear hR
      go_wp2
      go_ret3
      exact ⟨hf.out,hbw⟩
end Va
end Go.Proofs.YtobfaibofhmpgaaGreatDoor
