import Derived.Test.YtobfaibofhmpgaaGreatDoorAp1
import Derived.Maps.RangeWalk
import Derived.Sort.KeysCollected
import Derived.Test.YtobfaibofhmpgaaGreatDoorProg
import Derived.BigQuiet
import Derived.KernelRfl
set_option linter.unusedVariables false
namespace Go.Proofs.YtobfaibofhmpgaaGreatDoor
namespace Bo
open Go.Maps Go.WideShapes
def hR:Value->Option (DataW Value × List MemPlace):=fun v=>some (.held v,[])
def ent (p:List UInt8 × Value):Lit × DataW Value:=(.string p.1,.held p.2)
def MapIs (P:Program) (k:TypeId) (w:World) (b:Nat) (M:List (List UInt8 × Value)):Prop:=∃ l,w.ownsMap P k hR b M.length (.map l)/\l.Perm (M.map ent)
def lookM (M:List (List UInt8 × Value)) (r:List UInt8):Option Value:=(M.find? fun p=>decide (p.1=r)).map Prod.snd
def putM (M:List (List UInt8 × Value)) (r:List UInt8) (v:Value):List (List UInt8 × Value):=(r,v) :: M.filter fun p=>decide (p.1≠r)
def delM (M:List (List UInt8 × Value)) (r:List UInt8):List (List UInt8 × Value):=M.filter fun p=>decide (p.1≠r)
variable {P:Program} {k:TypeId} {w:World} {b:Nat} {M:List (List UInt8 × Value)}
theorem owns_tight {H:Type} {R:Value->Option (DataW H × List MemPlace)} {n:Nat} {D:DataW H} (h:w.ownsMap P k R b n D):w.ownsMap P k R b (Maps.size D) D:=by
  obtain ⟨es,clock,hb,F,hs,rfl⟩:=h
  exact ⟨es,clock,hb,F,by simp [Maps.size,length_sorted],rfl⟩
theorem MapIs.of_perm {M':List (List UInt8 × Value)} (h:MapIs P k w b M) (hp:M.Perm M'):MapIs P k w b M':=by
  obtain ⟨l,h1,h2⟩:=h
  exact ⟨l,by rw [<-hp.length_eq];exact h1,h2.trans (hp.map ent)⟩
theorem MapIs.of_owns {n:Nat} {l:List (Lit × DataW Value)} (h:w.ownsMap P k hR b n (.map l)) (hp:l.Perm (M.map ent)):MapIs P k w b M:=by
  refine ⟨l,?_,hp⟩
  have:=owns_tight h
  have e:Maps.size (DataW.map l)=M.length:=by
    show l.length=M.length
    rw [hp.length_eq,List.length_map]
  rwa [e] at this
theorem MapIs.made (w:World) (P:Program) (k:TypeId):MapIs P k (w.alloc (.map #[] 0)) w.heap.size []:=⟨[],World.ownsMap_made w P k hR,List.Perm.refl _⟩
theorem MapIs.lt (h:MapIs P k w b M):b < w.heap.size:=by obtain ⟨l,h1,_⟩:=h;exact h1.lt
theorem MapIs.block (h:MapIs P k w b M) {w':World} (hb:w'.heap[b]?=w.heap[b]?):MapIs P k w' b M:=by
  obtain ⟨l,⟨es,clock,h1,h2⟩,h3⟩:=h
  exact ⟨l,⟨es,clock,by rw [hb];exact h1,h2⟩,h3⟩
theorem MapIs.nodup (h:MapIs P k w b M) (K:Keyed P k):(M.map Prod.fst).Nodup:=by
  obtain ⟨l,h1,h2⟩:=h
  obtain ⟨es,he,hp,_⟩:=h1.entries K
  injection he with he
  subst he
  have:(M.map ent).Pairwise (fun p q=>p.1≠q.1):=(h2.pairwise_iff (fun {_ _} h=>Ne.symm h)).1 hp
  rw [List.pairwise_map] at this
  unfold List.Nodup
  rw [List.pairwise_map]
  refine this.imp fun h e=>h ?_
  show Lit.string _=Lit.string _
  rw [e]
theorem sk_str (a c:List UInt8):(Lit.string a).sameKey (.string c)=decide (a=c):=by
  show (a==c)=_
  rw [Bool.eq_iff_iff,beq_iff_eq,decide_eq_true_iff]
theorem find_perm {α:Type} {f:α->Bool} {l l':List α} (h:l.Perm l') (hu:∀ x∈l,∀ y∈l,f x=true->f y=true->x=y):l.find? f=l'.find? f:=by
  cases h1:l.find? f with
  | none =>
    rw [List.find?_eq_none] at h1
    exact (List.find?_eq_none.2 fun x hx=>h1 x (h.mem_iff.2 hx)).symm
  | some x =>
    cases h2:l'.find? f with
    | none =>
      rw [List.find?_eq_none] at h2
      exact absurd (List.find?_some h1) (h2 x (h.mem_iff.1 (List.mem_of_find?_eq_some h1)))
    | some y=>rw [hu x (List.mem_of_find?_eq_some h1) y (h.mem_iff.2 (List.mem_of_find?_eq_some h2)) (List.find?_some h1) (List.find?_some h2)]
theorem nodup_inj {M:List (List UInt8 × Value)} (hn:(M.map Prod.fst).Nodup) {x y:List UInt8 × Value} (hx:x∈M) (hy:y∈M) (h:x.1=y.1):x=y:=by
  induction M with
  | nil=>cases hx
  | cons a M ih =>
    rw [List.map_cons,List.nodup_cons] at hn
    rcases List.mem_cons.1 hx with rfl | hx'<;>rcases List.mem_cons.1 hy with rfl | hy'
    · rfl
    · exact absurd (by rw [h];exact List.mem_map_of_mem hy') hn.1
    · exact absurd (by rw [<-h];exact List.mem_map_of_mem hx') hn.1
    · exact ih hn.2 hx' hy'
theorem look_map {l:List (Lit × DataW Value)} (h:l.Perm (M.map ent)) (hn:(M.map Prod.fst).Nodup) (r:List UInt8) (z:DataW Value) :
    (DataW.map l).atKey (.string r) z=((lookM M r).map DataW.held).getD z/\Maps.has (.map l) (.string r)=(lookM M r).isSome:=by
  have e:(M.map ent).find? (fun p=>p.1.sameKey (.string r))=(M.find? fun p=>decide (p.1=r)).map ent:=by
    rw [List.find?_map]
    congr 2
    funext p
    exact sk_str p.1 r
  have e2:l.find? (fun p=>p.1.sameKey (.string r))=(M.find? fun p=>decide (p.1=r)).map ent:=by
    rw [<-e]
    refine find_perm h fun x hx y hy h1 h2=>?_
    obtain ⟨p,hp,rfl⟩:=List.mem_map.1 (h.mem_iff.1 hx)
    obtain ⟨q,hq,rfl⟩:=List.mem_map.1 (h.mem_iff.1 hy)
    rw [show (ent p).1=.string p.1 from rfl,sk_str,decide_eq_true_iff] at h1
    rw [show (ent q).1=.string q.1 from rfl,sk_str,decide_eq_true_iff] at h2
    rw [nodup_inj hn hp hq (by rw [h1,h2])]
  constructor
  · simp only [DataW.atKey]
    rw [e2]
    unfold lookM
    cases M.find? fun p=>decide (p.1=r)<;>rfl
  · have e3:(lookM M r).isSome=(l.find? fun p=>p.1.sameKey (.string r)).isSome:=by
      rw [e2]
      unfold lookM
      cases M.find? fun p=>decide (p.1=r)<;>rfl
    rw [e3]
    cases hf:l.find? fun p=>p.1.sameKey (.string r) with
    | none=>exact List.any_eq_false.2 (List.find?_eq_none.1 hf)
    | some x=>exact List.any_eq_true.2 ⟨x,List.mem_of_find?_eq_some hf,by simpa using List.find?_some hf⟩
section
variable (h:MapIs P k w b M) (K:Keyed P k) {t e:TypeId} (ht:P.underlying t=some (.map k e))
include h K ht
theorem MapIs.look {z:Value} (hz:(zeroValue e).run P w=.ok z w) {key:Value} {r:List UInt8} (hkey:keyOf P k key=some (.string r)) :
    (Instr.lookup t (.map (some b)) key false).run P w=.ok ((lookM M r).getD z) w:=by
  have hn:=h.nodup K
  obtain ⟨l,h1,h2⟩:=h
  obtain ⟨v,ps,hr,hv⟩:=h1.lookup K ht hz (zd:=.held z) (zp:=[]) rfl hkey
  rw [hr]
  rw [(look_map h2 hn r _).1] at hv
  unfold hR at hv
  simp only [Option.some.injEq,Prod.mk.injEq] at hv
  cases hm:lookM M r<;>rw [hm] at hv<;>simp at hv<;>rw [hv.1]<;>rfl
theorem MapIs.look_ok {z:Value} (hz:(zeroValue e).run P w=.ok z w) {key:Value} {r:List UInt8} (hkey:keyOf P k key=some (.string r)) :
    (Instr.lookup t (.map (some b)) key true).run P w=.ok (.tuple #[(lookM M r).getD z,.bool (lookM M r).isSome]) w:=by
  have hn:=h.nodup K
  obtain ⟨l,h1,h2⟩:=h
  obtain ⟨v,ps,hr,hv⟩:=h1.look_ok K ht hz (zd:=.held z) (zp:=[]) rfl hkey
  rw [hr,(look_map h2 hn r (.held z)).2]
  rw [(look_map h2 hn r _).1] at hv
  unfold hR at hv
  simp only [Option.some.injEq,Prod.mk.injEq] at hv
  cases hm:lookM M r<;>rw [hm] at hv<;>simp at hv<;>rw [hv.1]<;>rfl
end
theorem filter_ent (r:List UInt8):(M.map ent).filter (fun p=>!p.1.sameKey (.string r))=(delM M r).map ent:=by
  unfold delM
  rw [List.filter_map]
  congr 1
  refine List.filter_congr fun p _=>?_
  show (!(Lit.string p.1).sameKey (.string r))=_
  rw [sk_str]
  simp
theorem MapIs.drop (h:MapIs P k w b M) (K:Keyed P k) {t e:TypeId} (ht:P.underlying t=some (.map k e)) {key:Value} {r:List UInt8} (hkey:keyOf P k key=some (.string r)) (ty:TypeId) :
    ∃ w',(Builtin.delete_ #[t,k] ty #[.map (some b),key]).run P w=.ok (.tuple #[]) w'/\MapIs P k w' b (delM M r)/\w.mapTurned w' b:=by
  obtain ⟨l,h1,h2⟩:=h
  obtain ⟨w',hr,hw,ht⟩:=h1.drop K ht hkey ty
  refine ⟨w',hr,MapIs.of_owns hw ?_,ht⟩
  rw [<-filter_ent]
  exact h2.filter _
theorem MapIs.store (h:MapIs P k w b M) (K:Keyed P k) {t e:TypeId} (ht:P.underlying t=some (.map k e)) (hM:M.length < maxLen) {key val:Value} {r:List UInt8} (hkey:keyOf P k key=some (.string r)) :
    ∃ w',(Instr.mapUpdate t (.map (some b)) key val).run P w=.ok () w'/\MapIs P k w' b (putM M r val)/\w.mapTurned w' b:=by
  obtain ⟨l,h1,h2⟩:=h
  obtain ⟨w',hr,hw,ht⟩:=h1.store K ht hM hkey (d:=.held val) (ps:=[]) rfl
  refine ⟨w',hr,MapIs.of_owns hw ?_,ht⟩
  refine (insert_perm _ _).trans ?_
  show List.Perm _ (ent (r,val) :: _)
  refine List.Perm.cons _ ?_
  have:=h2.filter (fun p=>!p.1.sameKey (.string r))
  rw [filter_ent] at this
  exact this
section
variable {ops:Array Oper} {rest:List Oper} {o:Oper} {a:Act} {Q:Exit->Act->World->Prop} (w)
theorem wp_look (hg:o.guard=none) (m x:Operand) (t:TypeId) (hop:o.op=Op.lookup t m x false) (k e:TypeId) (K:Keyed P k) (ht:P.underlying t=some (.map k e)) {z:Value} (hz:(zeroValue e).run P w=.ok z w) (b:Nat) (M:List (List UInt8 × Value))
    (hm:a.eval m=.map (some b)) (h:MapIs P k w b M) (key:Value) (r:List UInt8) (hx:a.eval x=key) (hkey:keyOf P k key=some (.string r)) (u:Value) (hu:(lookM M r).getD z=u)
    (hK:wpList P ops Q rest (a.put o.dst u) w):wpList P ops Q (o :: rest) a w:=by
  refine wpList_plain hg fun K' hK'=>?_
  subst hu
  have hrun:=h.look K ht hz hkey
  unfold Oper.wp
  simp [execOp,hop,hm,hx,hrun,Result.andThen]
  exact hK' _ _ hK
theorem wp_look_ok (hg:o.guard=none) (m x:Operand) (t:TypeId) (hop:o.op=Op.lookup t m x true) (k e:TypeId) (K:Keyed P k) (ht:P.underlying t=some (.map k e)) {z:Value} (hz:(zeroValue e).run P w=.ok z w) (b:Nat) (M:List (List UInt8 × Value))
    (hm:a.eval m=.map (some b)) (h:MapIs P k w b M) (key:Value) (r:List UInt8) (hx:a.eval x=key) (hkey:keyOf P k key=some (.string r)) (u:Value) (c:Bool) (hu:(lookM M r).getD z=u) (hc:(lookM M r).isSome=c)
    (hK:wpList P ops Q rest (a.put o.dst (.tuple #[u,.bool c])) w):wpList P ops Q (o :: rest) a w:=by
  refine wpList_plain hg fun K' hK'=>?_
  subst hu hc
  have hrun:=h.look_ok K ht hz hkey
  unfold Oper.wp
  simp [execOp,hop,hm,hx,hrun,Result.andThen]
  exact hK' _ _ hK
theorem wp_drop (hg:o.guard=none) (m x:Operand) (t k:TypeId) (hop:o.op=Op.call { callee:=Callee.builtin Builtin.delete,args:=#[m,x],argTypes:=#[t,k] }) (e:TypeId) (K:Keyed P k) (ht:P.underlying t=some (.map k e)) (b:Nat) (M:List (List UInt8 × Value))
    (hm:a.eval m=.map (some b)) (h:MapIs P k w b M) (key:Value) (r:List UInt8) (hx:a.eval x=key) (hkey:keyOf P k key=some (.string r))
    (hK:∀ w',MapIs P k w' b (delM M r)->w.mapTurned w' b->wpList P ops Q rest (a.put o.dst (.tuple #[])) w'):wpList P ops Q (o :: rest) a w:=by
  refine wpList_plain hg fun K' hK'=>?_
  obtain ⟨w',hrun,r1,r2⟩:=h.drop K ht hkey o.type
  unfold Oper.wp
  simp [execOp,hop,resolve,invoke,builtin,hm,hx,hrun,Result.andThen]
  exact hK' _ _ (hK w' r1 r2)
theorem wp_store (hg:o.guard=none) (m x v:Operand) (t:TypeId) (hop:o.op=Op.mapUpdate t m x v) (k e:TypeId) (K:Keyed P k) (ht:P.underlying t=some (.map k e)) (b:Nat) (M:List (List UInt8 × Value))
    (hm:a.eval m=.map (some b)) (h:MapIs P k w b M) (hM:M.length < maxLen) (key val:Value) (r:List UInt8) (hx:a.eval x=key) (hv:a.eval v=val) (hkey:keyOf P k key=some (.string r))
    (hK:∀ w',MapIs P k w' b (putM M r val)->w.mapTurned w' b->wpList P ops Q rest (a.put o.dst undef) w'):wpList P ops Q (o :: rest) a w:=by
  refine wpList_plain hg fun K' hK'=>?_
  obtain ⟨w',hrun,r1,r2⟩:=h.store (val:=val) K ht hM hkey
  unfold Oper.wp
  simp [execOp,hop,hm,hx,hv,hrun,Result.andThen]
  exact hK' _ _ (hK w' r1 r2)
theorem wp_len (hg:o.guard=none) (m:Operand) (t:TypeId) (hop:o.op=Op.call { callee:=Callee.builtin Builtin.len,args:=#[m],argTypes:=#[t] }) (k e:TypeId) (ht:P.underlying t=some (.map k e)) (b:Nat) (M:List (List UInt8 × Value))
    (hm:a.eval m=.map (some b)) (h:MapIs P k w b M) (hK:wpList P ops Q rest (a.put o.dst (.int .i64 M.length)) w):wpList P ops Q (o :: rest) a w:=by
  obtain ⟨l,h1,h2⟩:=h
  refine wpList_len_own w hg m t hop k e ht hR b M.length (.map l) hm h1 ?_
  have e:Maps.size (DataW.map l)=M.length:=by
    show l.length=M.length
    rw [h2.length_eq,List.length_map]
  rw [e]
  exact hK
end
theorem keyOf_str (hk:P.underlying k=some .string) (s:ByteArray) (hs:s.size<=maxLen):keyOf P k (.string s)=some (.string s.data.toList):=by
  unfold keyOf mapKey
  rw [hk]
  simp [hs]
end Bo
namespace Bo
theorem less_eq:∀ (a b:Row),less a b=decide (a < b)
  | [],[]=>by simp [less,Op.bytesLess]
  | _ :: _,[]=>by simp [less,Op.bytesLess]
  | [],_ :: _=>by simp [less,Op.bytesLess]
  | a :: x,b :: y=>by
    have ih:=less_eq x y
    unfold less at ih ⊢
    rw [Op.bytesLess,ih,Bool.eq_iff_iff]
    simp [List.cons_lt_cons_iff]
theorem less_trans {a b c:Row} (h1:less a b=true) (h2:less b c=true):less a c=true:=by
  rw [less_eq,decide_eq_true_iff] at *;exact List.lt_trans h1 h2
theorem less_irrefl (a:Row):less a a=false:=by rw [less_eq];exact decide_eq_false (List.lt_irrefl a)
theorem less_total {a b:Row} (h:less a b=false) (hne:a≠b):less b a=true:=by
  rw [less_eq,decide_eq_false_iff_not] at h
  rw [less_eq,decide_eq_true_iff]
  have h2:b<=a:=List.not_lt.1 h
  rcases List.le_iff_lt_or_eq.1 h2 with h3 | h3
  · exact h3
  · exact absurd h3.symm hne
theorem less_le {a b:Row} (h:less a b=true):leB a b=true:=by
  rw [less_eq,decide_eq_true_iff] at h
  exact decide_eq_true (List.le_of_lt h)
def Rise (l:List Row):Prop:=l.Pairwise fun a b=>less a b=true
theorem Rise.nodup {l:List Row} (h:Rise l):l.Nodup:=h.imp fun {a b} hab e=>by subst e;rw [less_irrefl] at hab;cases hab
theorem rise_sort {l l':List Row} (h:Rise l) (hp:l'.Perm l):l'.mergeSort leB=l:=by
  rw [mergeSort_of_perm hp]
  exact List.mergeSort_of_pairwise (h.imp less_le)
theorem rise_ins {α:Type} {key:α->Row} {n:α}:∀ {l:List α},Rise (l.map key)->(∀ x∈l,key x≠key n)->Rise ((insBy key n l).map key)
  | [],_,_=>List.pairwise_singleton _ _
  | x :: r,h,hno=>by
    unfold insBy
    split
    · rename_i hlt
      refine List.pairwise_cons.2 ⟨fun y hy=>?_,h⟩
      rcases List.mem_cons.1 hy with rfl | hy
      · exact hlt
      · exact less_trans hlt ((List.pairwise_cons.1 h).1 y hy)
    · rename_i hlt
      have hlt':=less_total (by simpa using hlt) (fun e=>hno x (by simp) e.symm)
      have ih:=rise_ins (n:=n) (List.pairwise_cons.1 h).2 (fun y hy=>hno y (List.mem_cons_of_mem _ hy))
      refine List.pairwise_cons.2 ⟨fun y hy=>?_,ih⟩
      obtain ⟨z,hz,rfl⟩:=List.mem_map.1 hy
      rcases List.mem_cons.1 ((insBy_perm key n r).mem_iff.1 hz) with rfl | hz
      · exact hlt'
      · exact (List.pairwise_cons.1 h).1 _ (List.mem_map_of_mem hz)
theorem rise_filter {α:Type} {key:α->Row} {l:List α} (h:Rise (l.map key)) (p:α->Bool):Rise ((l.filter p).map key):=by
  unfold Rise at *
  rw [List.pairwise_map] at *
  exact h.filter p
theorem rise_uniq_by {α:Type} {key:α->Row} {l l':List α} (h:Rise (l.map key)) (h':Rise (l'.map key)) (hp:l.Perm l'):l=l':=by
  refine List.Perm.eq_of_pairwise (le:=fun a b=>less (key a) (key b)=true) (fun a b _ _ h1 h2=>?_) (List.pairwise_map.1 h) (List.pairwise_map.1 h') hp
  have:=less_trans h1 h2
  rw [less_irrefl] at this;cases this
structure BkOk (chg:Nat) (b:Bk):Prop where
  rise:Rise (b.cards.map (·.name))
  most:b.cards.length<=256
  lens:∀ l∈b.cards,l.name.length<=64/\l.text.length<=65536
  tags:∀ l∈b.cards,1<=l.tag/\l.tag<=chg
  made:b.made<=chg
  hor:b.hor<=chg
  few:b.notes.length<=64
  notes:∀ n∈b.notes,b.hor < n.chg/\n.chg<=chg/\n.name.length<=64
  later:b.notes.Pairwise fun x y=>x.chg < y.chg
structure ShOk (s:Sh):Prop where
  rise:Rise (s.books.map (·.name))
  most:s.books.length<=16
  books:∀ b∈s.books,b.name.length<=64/\BkOk s.chg b
structure EnvOk (E:Env):Prop where
  fits:∀ n,E.fits n=true->n.length<=64
  norm:∀ d t,E.norm d=.ok t->t.length<=65536
  codes:∀ d c,E.norm d=.error c->c=413\/c=403
theorem shOk_start:ShOk ⟨0,[]⟩:=⟨List.Pairwise.nil,by simp,fun b h=>by cases h⟩
theorem BkOk.well {chg:Nat} {b:Bk} (h:BkOk chg b):Well chg b:=⟨h.rise.nodup,h.tags,fun n hn=>(h.notes n hn).2.1⟩
theorem BkOk.mono {c d:Nat} {b:Bk} (h:BkOk c b) (hcd:c<=d):BkOk d b :=
  ⟨h.rise,h.most,h.lens,fun l hl=>⟨(h.tags l hl).1,by have:=(h.tags l hl).2;omega⟩,by have:=h.made;omega,by have:=h.hor;omega,h.few,fun n hn=>by have:=h.notes n hn;omega,h.later⟩
theorem trimB_ok {chg k:Nat} {b:Bk} (h:BkOk chg b) (hk:k<=chg):BkOk chg (trimB b k) where
  rise:=h.rise
  most:=h.most
  lens:=h.lens
  tags:=h.tags
  made:=h.made
  hor:=by have:=h.hor;show max b.hor k<=chg;omega
  few:=Nat.le_trans (List.length_filter_le _ _) h.few
  notes:=fun n hn=>by
    have h1:=(List.mem_filter.1 hn).2
    have h2:=h.notes n (List.mem_filter.1 hn).1
    refine ⟨?_,h2.2⟩
    show max b.hor k < n.chg
    simpa using h1
  later:=h.later.filter _
theorem noteB_ok {chg:Nat} {b:Bk} (h:BkOk chg b) {x:Row} (hx:x.length<=64) (w:Bool):BkOk (chg+1) (noteB b ⟨chg+1,x,w⟩):=by
  have hn:∀ n∈b.notes++[⟨chg+1,x,w⟩],b.hor < n.chg/\n.chg<=chg+1/\n.name.length<=64:=fun n hn=>by
    rcases List.mem_append.1 hn with hn | hn
    · have:=h.notes n hn;exact ⟨this.1,by omega,this.2.2⟩
    · simp at hn;subst hn;exact ⟨by have:=h.hor;show _ < chg+1;omega,Nat.le_refl _,hx⟩
  have hl:(b.notes++[(⟨chg+1,x,w⟩:Note)]).Pairwise (fun x y:Note=>x.chg < y.chg):=List.pairwise_append.2 ⟨h.later,by simp,fun a ha c hc=>by
    simp at hc;subst hc;have:=(h.notes a ha).2.1;show _ < chg+1;omega⟩
  have hb:=h.mono (Nat.le_succ chg)
  unfold noteB
  split
  · exact ⟨hb.rise,hb.most,hb.lens,hb.tags,hb.made,hb.hor,by simp;omega,hn,hl⟩
  · rename_i h64
    cases hns:b.notes with
    | nil=>rw [hns] at h64;simp at h64
    | cons n0 r =>
      rw [hns] at hn hl
      have e:((n0 :: r++[(⟨chg+1,x,w⟩:Note)]).head?.map (·.chg)).getD 0=n0.chg:=rfl
      rw [e]
      have h0:=hn n0 (by simp)
      have hd:max b.hor n0.chg=n0.chg:=by omega
      refine ⟨hb.rise,hb.most,hb.lens,hb.tags,hb.made,by show max b.hor n0.chg<=_;omega,?_,fun n hnm=>?_,by show (List.filter _ _).Pairwise _;exact hl.filter _⟩
      · show (List.filter _ _).length<=64
        rw [List.cons_append,List.filter_cons_of_neg (by simp;omega)]
        refine Nat.le_trans (List.length_filter_le _ _) ?_
        have:=h.few
        rw [hns] at this
        simpa using this
      · have h1:=(List.mem_filter.1 hnm).2
        have h2:=hn n (List.mem_filter.1 hnm).1
        exact ⟨by show max b.hor n0.chg < n.chg;simpa using h1,h2.2⟩
theorem BkOk.cards {chg:Nat} {b:Bk} (h:BkOk chg b) {C:List Leaf} (h1:Rise (C.map (·.name))) (h2:C.length<=256) (h3:∀ l∈C,l.name.length<=64/\l.text.length<=65536) (h4:∀ l∈C,1<=l.tag/\l.tag<=chg):BkOk chg { b with cards:=C } :=
  ⟨h1,h2,h3,h4,h.made,h.hor,h.few,h.notes,h.later⟩
theorem lfAt_lens {chg:Nat} {b:Bk} (h:BkOk chg b) {n:Row} {l:Leaf} (hl:lfAt b n=some l):n.length<=64/\l.tag<=chg/\l.text.length<=65536/\l∈b.cards:=by
  obtain ⟨hm,rfl⟩:=lfAt_some hl
  exact ⟨(h.lens l hm).1,(h.tags l hm).2,(h.lens l hm).2,hm⟩
section
variable {E:Env} (hE:EnvOk E)
include hE
theorem putB_ok {chg:Nat} {b b':Bk} {c:Cmd} {r:Rep} (h:BkOk chg b) (hp:putB E chg b c=(some b',r)):BkOk (chg+1) b'/\b'.name=b.name:=by
  refine ⟨?_,putB_name E hp⟩
  unfold putB at hp
  split at hp
  · cases hp
  rename_i hf
  have hf':=hE.fits c.name (by simpa using hf)
  split at hp
  · cases hp
  split at hp
  · cases hp
  rename_i t ht
  have ht':=hE.norm _ _ ht
  split at hp
  · cases hp
  split at hp
  · rename_i l hl
    simp only [Prod.mk.injEq,Option.some.injEq] at hp
    obtain ⟨rfl,_⟩:=hp
    have hc:=noteB_cards b ⟨chg+1,c.name,true⟩
    have hN:=noteB_ok h hf' true
    have e:(b.cards.map fun x=>if x.name=c.name then (⟨c.name,chg+1,t⟩:Leaf) else x).map (·.name)=b.cards.map (·.name):=by
      rw [List.map_map]
      refine List.map_congr_left fun x hx=>?_
      show (if x.name=c.name then (⟨c.name,chg+1,t⟩:Leaf) else x).name=x.name
      split
      · rename_i e;exact e.symm
      · rfl
    refine hN.cards (by rw [e];exact h.rise) (by rw [List.length_map];exact h.most) (fun l hl=>?_) (fun l hl=>?_)
    · obtain ⟨x,hx,rfl⟩:=List.mem_map.1 hl
      split
      · exact ⟨hf',ht'⟩
      · exact h.lens x hx
    · obtain ⟨x,hx,rfl⟩:=List.mem_map.1 hl
      split
      · exact ⟨by show 1<=chg+1;omega,Nat.le_refl _⟩
      · have:=h.tags x hx;omega
  · rename_i hl
    split at hp
    · cases hp
    rename_i h256
    simp only [Prod.mk.injEq,Option.some.injEq] at hp
    obtain ⟨rfl,_⟩:=hp
    have hN:=noteB_ok h hf' false
    have hp:=insBy_perm (fun x:Leaf=>x.name) ⟨c.name,chg+1,t⟩ b.cards
    refine hN.cards (rise_ins h.rise fun x hx=>lfAt_none hl x hx) (by rw [hp.length_eq];simp;omega) (fun l hl=>?_) (fun l hl=>?_)
    · rcases List.mem_cons.1 (hp.mem_iff.1 hl) with rfl | hl
      · exact ⟨hf',ht'⟩
      · exact h.lens l hl
    · rcases List.mem_cons.1 (hp.mem_iff.1 hl) with rfl | hl
      · exact ⟨by show 1<=chg+1;omega,Nat.le_refl _⟩
      · have:=h.tags l hl;omega
omit hE in
theorem deleteB_ok {chg:Nat} {b b':Bk} {c:Cmd} {r:Rep} (h:BkOk chg b) (hp:deleteB E chg b c=(some b',r)):BkOk (chg+1) b'/\b'.name=b.name:=by
  refine ⟨?_,deleteB_name E hp⟩
  unfold deleteB at hp
  split at hp
  · cases hp
  rename_i l hl
  split at hp
  · cases hp
  split at hp
  · cases hp
  simp only [Prod.mk.injEq,Option.some.injEq] at hp
  obtain ⟨rfl,_⟩:=hp
  refine (noteB_ok h (lfAt_lens h hl).1 true).cards (rise_filter h.rise _) (Nat.le_trans (List.length_filter_le _ _) h.most) (fun l hl=>h.lens l (List.mem_filter.1 hl).1) (fun l hl=>?_)
  have:=h.tags l (List.mem_filter.1 hl).1
  omega
theorem onB_ok {s:Sh} {b b':Bk} {c:Cmd} {r:Rep} (h:BkOk s.chg b) (hp:onB E s b c=(some b',r)):BkOk (s.chg+1) b'/\b'.name=b.name:=by
  unfold onB at hp
  split at hp
  · exact putB_ok hE h hp
  split at hp
  · exact deleteB_ok h hp
  split at hp
  · cases hp
  split at hp
  · cases hp
  split at hp
  · cases hp
  · cases hp
omit hE in
theorem setBk_ok {s:Sh} {b':Bk} {c:Nat} (h:ShOk s) (hc:s.chg<=c) (hb:BkOk c b') (hl:b'.name.length<=64):ShOk { chg:=c,books:=setBk s b' }:=by
  refine ⟨?_,by show (setBk s b').length<=16;unfold setBk;rw [List.length_map];exact h.most,fun b hbm=>?_⟩
  · have e:(setBk s b').map (·.name)=s.books.map (·.name):=by
      unfold setBk
      rw [List.map_map]
      refine List.map_congr_left fun x hx=>?_
      show (if x.name=b'.name then b' else x).name=x.name
      split
      · rename_i e;exact e.symm
      · rfl
    show Rise ((setBk s b').map (·.name))
    rw [e]
    exact h.rise
  · obtain ⟨x,hx,rfl⟩:=List.mem_map.1 hbm
    split
    · exact ⟨hl,hb⟩
    · exact ⟨(h.books x hx).1,(h.books x hx).2.mono hc⟩
theorem doC_ok {s:Sh} (h:ShOk s) (c:Cmd):ShOk (doC E s c).1:=by
  unfold doC
  split
  · unfold makeC
    split
    · exact h
    rename_i hf
    split
    · exact h
    rename_i hb
    split
    · exact h
    rename_i h16
    have hp:=insBy_perm (fun b:Bk=>b.name) ⟨c.book,s.chg+1,s.chg+1,[],[]⟩ s.books
    refine ⟨rise_ins h.rise fun x hx e=>?_,by show (insBy _ _ _).length<=16;rw [hp.length_eq];simp;omega,fun b hbm=>?_⟩
    · have:bkAt s c.book=none:=by simpa using hb
      have:=List.find?_eq_none.1 this x hx
      simp at this
      exact this e
    · rcases List.mem_cons.1 (hp.mem_iff.1 hbm) with rfl | hbm
      · exact ⟨hE.fits _ (by simpa using hf),List.Pairwise.nil,Nat.zero_le _,fun l hl=>(by cases hl),fun l hl=>(by cases hl),Nat.le_refl _,Nat.le_refl _,Nat.zero_le _,fun n hn=>(by cases hn),List.Pairwise.nil⟩
      · exact ⟨(h.books b hbm).1,(h.books b hbm).2.mono (Nat.le_succ _)⟩
  split
  · exact h
  split
  · exact h
  split
  · exact h
  rename_i b hb
  have hbm:b∈s.books:=List.mem_of_find?_eq_some hb
  have hk:=h.books b hbm
  split
  · refine ⟨rise_filter h.rise _,Nat.le_trans (List.length_filter_le _ _) h.most,fun x hx=>?_⟩
    have:=h.books x (List.mem_filter.1 hx).1
    exact ⟨this.1,this.2.mono (Nat.le_succ _)⟩
  split
  · exact setBk_ok h (Nat.le_refl _) (trimB_ok hk.2 (by omega)) hk.1
  split
  · exact h
  · rename_i b' r hp
    have:=onB_ok hE hk.2 hp
    exact setBk_ok h (Nat.le_succ _) this.1 (by rw [this.2];exact hk.1)
end
end Bo
namespace Bo
open Go.Lib Go.RowKit
structure Pl where
  c:Nat
  m:Nat
  j:Value
def Pl.fp (p:Pl):List Nat:=p.c :: p.m :: p.j.ownBlock.toList
def nc:List Note->List Value
  | []=>[]
  | n :: r=>.int .i64 (n.chg:Int) :: sv n.name :: .bool n.was :: nc r
theorem nc_app:∀ a b:List Note,nc (a++b)=nc a++nc b
  | [],_=>rfl
  | n :: a,b=>by simp only [List.cons_append,nc,nc_app a b]
theorem nc_len:∀ l:List Note,(nc l).length=l.length*3
  | []=>rfl
  | n :: l=>by
    have:=nc_len l
    simp only [nc,List.length_cons];omega
def lv (l:Leaf):Value:=.agg #[.int .i64 (l.tag:Int),sv l.text]
def cM (C:List Leaf):List (Row × Value):=C.map fun l=>(l.name,lv l)
abbrev pv (c:Nat):Value:=.pointer (some ⟨c,0,none⟩)
structure BkIs (w:World) (b:Bk) (p:Pl):Prop where
  blk:w.heap[p.c]?=some (.cells #[.int .i64 (b.made:Int),.int .i64 (b.hor:Int),.map (some p.m),p.j] 92 (0,0))
  map:MapIs Tryz.prog 9 w p.m (cM b.cards)
  jou:w.ownsRow 0 113 3 p.j b.notes.length (nc b.notes)
abbrev Bks:Type:=List (Bk × Pl)
def bM (L:Bks):List (Row × Value):=L.map fun x=>(x.1.name,pv x.2.c)
def fpS (sb bm:Nat) (L:Bks):List Nat:=sb :: bm :: L.flatMap fun x=>x.2.fp
structure ShIs (w:World) (sb bm:Nat) (L:Bks) (chg:Nat):Prop where
  blk:w.heap[sb]?=some (.cells #[.int .i64 (chg:Int),.map (some bm)] 61 (0,0))
  map:MapIs Tryz.prog 9 w bm (bM L)
  bks:∀ x∈L,BkIs w x.1 x.2
  apart:(fpS sb bm L).Nodup
theorem BkIs.heap {w w':World} {b:Bk} {p:Pl} (h:BkIs w b p) (hk:∀ k∈p.fp,w'.heap[k]?=w.heap[k]?):BkIs w' b p :=
  ⟨by rw [hk p.c (by simp [Pl.fp])];exact h.blk,h.map.block (hk p.m (by simp [Pl.fp])),ownsRow_heap h.jou fun g hg=>hk g (by simp [Pl.fp,hg])⟩
theorem BkIs.lt {w:World} {b:Bk} {p:Pl} (h:BkIs w b p):∀ k∈p.fp,k < w.heap.size:=fun k hk=>by
  rcases List.mem_cons.1 hk with rfl | hk
  · exact (Array.getElem?_eq_some_iff.1 h.blk).1
  rcases List.mem_cons.1 hk with rfl | hk
  · exact h.map.lt
  · exact (h.jou.lt k (by simpa using hk)).2
section
variable {w:World} {sb bm:Nat} {L:Bks} {chg:Nat}
theorem ShIs.lt (h:ShIs w sb bm L chg):∀ k∈fpS sb bm L,k < w.heap.size:=fun k hk=>by
  rcases List.mem_cons.1 hk with rfl | hk
  · exact (Array.getElem?_eq_some_iff.1 h.blk).1
  rcases List.mem_cons.1 hk with rfl | hk
  · exact h.map.lt
  · obtain ⟨x,hx,hk⟩:=List.mem_flatMap.1 hk
    exact (h.bks x hx).lt k hk
theorem ShIs.heap (h:ShIs w sb bm L chg) {w':World} (hk:∀ k∈fpS sb bm L,w'.heap[k]?=w.heap[k]?):ShIs w' sb bm L chg :=
  ⟨by rw [hk sb (by simp [fpS])];exact h.blk,h.map.block (hk bm (by simp [fpS])),fun x hx=>(h.bks x hx).heap fun k hkf=>hk k (by
    unfold fpS
    exact List.mem_cons_of_mem _ (List.mem_cons_of_mem _ (List.mem_flatMap.2 ⟨x,hx,hkf⟩))),h.apart⟩
theorem ShIs.kept (h:ShIs w sb bm L chg) {w':World} (hb:Below w.heap.size w w'):ShIs w' sb bm L chg:=h.heap fun k hk=>hb.block k (h.lt k hk)
theorem mem_fpS {x:Bk × Pl} (hx:x∈L) {k:Nat} (hk:k∈x.2.fp):k∈fpS sb bm L:=by
  unfold fpS
  exact List.mem_cons_of_mem _ (List.mem_cons_of_mem _ (List.mem_flatMap.2 ⟨x,hx,hk⟩))
theorem ShIs.apartB (h:ShIs w sb bm L chg) {x:Bk × Pl} (hx:x∈L):sb∉x.2.fp/\bm∉x.2.fp/\sb≠bm/\x.2.fp.Nodup:=by
  have ha:=h.apart
  unfold fpS at ha
  rw [List.nodup_cons,List.nodup_cons] at ha
  obtain ⟨h1,h2,h3⟩:=ha
  refine ⟨fun hk=>h1 (List.mem_cons_of_mem _ (List.mem_flatMap.2 ⟨x,hx,hk⟩)),fun hk=>h2 (List.mem_flatMap.2 ⟨x,hx,hk⟩),fun e=>h1 (by rw [e];simp),?_⟩
  exact (List.pairwise_flatMap.1 h3).1 x hx
def atL (L:Bks) (n:Row):Option (Bk × Pl):=L.find? fun x=>decide (x.1.name=n)
theorem atL_look (L:Bks) (n:Row):lookM (bM L) n=(atL L n).map fun x=>pv x.2.c:=by
  unfold lookM bM atL
  rw [List.find?_map]
  cases h:L.find? ((fun p:Row × Value=>decide (p.1=n)) ∘ fun x=>(x.1.name,pv x.2.c)) with
  | none =>
    rw [show L.find? (fun x=>decide (x.1.name=n))=none from h];rfl
  | some y=>rw [show L.find? (fun x=>decide (x.1.name=n))=some y from h];rfl
theorem atL_bk {L:Bks} {s:Sh} (hL:L.map Prod.fst=s.books) (n:Row):bkAt s n=(atL L n).map Prod.fst:=by
  unfold bkAt atL
  rw [<-hL,List.find?_map]
  rfl
theorem atL_some {L:Bks} {n:Row} {x:Bk × Pl} (h:atL L n=some x):x∈L/\x.1.name=n:=⟨List.mem_of_find?_eq_some h,by simpa using List.find?_some h⟩
theorem lookC (C:List Leaf) (n:Row):lookM (cM C) n=(C.find? fun l=>decide (l.name=n)).map lv:=by
  unfold lookM cM
  rw [List.find?_map]
  cases h:C.find? ((fun p:Row × Value=>decide (p.1=n)) ∘ fun l=>(l.name,lv l)) with
  | none=>rw [show C.find? (fun l=>decide (l.name=n))=none from h];rfl
  | some y=>rw [show C.find? (fun l=>decide (l.name=n))=some y from h];rfl
def setL (L:Bks) (b:Bk) (p:Pl):Bks:=L.map fun x=>if x.1.name=b.name then (b,p) else x
theorem setL_fst {L:Bks} {s:Sh} (hL:L.map Prod.fst=s.books) (b:Bk) (p:Pl):(setL L b p).map Prod.fst=setBk s b:=by
  unfold setL setBk
  rw [<-hL,List.map_map,List.map_map]
  refine List.map_congr_left fun x _=>?_
  show (if x.1.name=b.name then (b,p) else x).1=if x.1.name=b.name then b else x.1
  split<;>rfl
theorem inj_name {L:Bks} (hn:(L.map fun x=>x.1.name).Nodup) {x y:Bk × Pl} (hx:x∈L) (hy:y∈L) (h:x.1.name=y.1.name):x=y:=by
  induction L with
  | nil=>cases hx
  | cons a L ih =>
    rw [List.map_cons,List.nodup_cons] at hn
    rcases List.mem_cons.1 hx with rfl | hx'<;>rcases List.mem_cons.1 hy with rfl | hy'
    · rfl
    · exact absurd (by rw [h];exact List.mem_map_of_mem (f:=fun x:Bk × Pl=>x.1.name) hy') hn.1
    · exact absurd (by rw [<-h];exact List.mem_map_of_mem (f:=fun x:Bk × Pl=>x.1.name) hx') hn.1
    · exact ih hn.2 hx' hy'
theorem ShIs.names (h:ShIs w sb bm L chg):(L.map fun x=>x.1.name).Nodup:=by
  have:=h.map.nodup (Go.Maps.string_keyed Tryz.underlying9)
  unfold bM at this
  rw [List.map_map] at this
  exact this
theorem ShIs.setB (h:ShIs w sb bm L chg) {b b':Bk} {p p':Pl} {w':World} {chg':Nat} (hx:(b,p)∈L) (hE:Kp (sb :: p.fp) w w')
    (hs:w'.heap[sb]?=some (.cells #[.int .i64 (chg':Int),.map (some bm)] 61 (0,0))) (hb:BkIs w' b' p') (hn:b'.name=b.name) (hc:p'.c=p.c) (hf:∀ k∈p'.fp,k∈p.fp\/w.heap.size<=k) (hd:p'.fp.Nodup) :
    ShIs w' sb bm (setL L b' p') chg'/\(∀ k∈fpS sb bm (setL L b' p'),k∈fpS sb bm L\/w.heap.size<=k):=by
  have hnm:=h.names
  obtain ⟨a1,a2,a3,a4⟩:=h.apartB hx
  have ha:=h.apart
  unfold fpS at ha
  rw [List.nodup_cons,List.nodup_cons] at ha
  obtain ⟨g1,g2,g3⟩:=ha
  have hset:∀ y∈setL L b' p',y=(b',p')\/(y∈L/\y.1.name≠b.name):=fun y hy=>by
    obtain ⟨x,hxm,rfl⟩:=List.mem_map.1 hy
    by_cases e:x.1.name=b'.name
    · rw [if_pos e];exact .inl rfl
    · rw [if_neg e];exact .inr ⟨hxm,by rw [<-hn];exact e⟩
  have hoth:∀ y∈L,y.1.name≠b.name->∀ k∈y.2.fp,k∉p.fp:=fun y hy hne k hk hkp=>by
    have hpw:=(List.pairwise_flatMap.1 g3).2
    have hne':y≠(b,p):=fun e=>hne (by rw [e])
    have:∀ (l:Bks),l.Pairwise (fun a₁ a₂=>∀ x∈a₁.2.fp,∀ y∈a₂.2.fp,x≠y)->y∈l->(b,p)∈l->False:=fun l=>by
      induction l with
      | nil=>intro _ h _;cases h
      | cons z l ih =>
        intro hp h1 h2
        obtain ⟨q1,q2⟩:=List.pairwise_cons.1 hp
        rcases List.mem_cons.1 h1 with r1 | r1<;>rcases List.mem_cons.1 h2 with r2 | r2
        · exact hne' (r1.trans r2.symm)
        · exact q1 _ r2 k (r1▸hk) k hkp rfl
        · exact q1 _ r1 k (r2▸hkp) k hk rfl
        · exact ih q2 r1 r2
    exact this L hpw hy hx
  have hnew:∀ k∈p'.fp,∀ q∈fpS sb bm L,q∉p.fp->k≠q:=fun k hk q hq hqp e=>by
    subst e
    rcases hf k hk with h1 | h1
    · exact hqp h1
    · have:=h.lt k hq;omega
  refine ⟨⟨hs,?_,fun y hy=>?_,?_⟩,fun k hk=>?_⟩
  · have e:bM (setL L b' p')=bM L:=by
      unfold bM setL
      rw [List.map_map]
      refine List.map_congr_left fun x hxm=>?_
      show (((if x.1.name=b'.name then (b',p') else x).1.name,pv (if x.1.name=b'.name then (b',p') else x).2.c):Row × Value)=_
      split
      · rename_i e
        rw [inj_name hnm hxm hx (by rw [e,hn])]
        rw [hn,hc]
      · rfl
    rw [e]
    exact h.map.block (hE.block bm h.map.lt (by simp only [List.mem_cons,not_or];exact ⟨fun e=>a3 e.symm,a2⟩))
  · rcases hset y hy with rfl | ⟨hyl,hyn⟩
    · exact hb
    · exact (h.bks y hyl).heap fun k hk=>hE.block k ((h.bks y hyl).lt k hk) (by
        simp only [List.mem_cons,not_or]
        exact ⟨fun e=>(h.apartB hyl).1 (e▸hk),hoth y hyl hyn k hk⟩)
  · unfold fpS
    rw [List.nodup_cons,List.nodup_cons]
    have key:∀ q,(q=sb\/q=bm)->q∉(setL L b' p').flatMap fun x=>x.2.fp:=fun q hq hm=>by
      obtain ⟨y,hy,hk⟩:=List.mem_flatMap.1 hm
      rcases hset y hy with rfl | ⟨hyl,_⟩
      · refine hnew q hk q ?_ ?_ rfl
        · rcases hq with rfl | rfl<;>simp [fpS]
        · rcases hq with rfl | rfl
          · exact a1
          · exact a2
      · rcases hq with rfl | rfl
        · exact (h.apartB hyl).1 hk
        · exact (h.apartB hyl).2.1 hk
    refine ⟨?_,key bm (.inr rfl),?_⟩
    · rw [List.mem_cons,not_or]
      exact ⟨a3,key sb (.inl rfl)⟩
    · refine List.pairwise_flatMap.2 ⟨fun y hy=>?_,List.pairwise_map.2 ?_⟩
      · rcases hset y hy with rfl | ⟨hyl,_⟩
        · exact hd
        · exact (h.apartB hyl).2.2.2
      · have hnp:=List.pairwise_map.1 hnm
        refine ((List.pairwise_flatMap.1 g3).2.and hnp).imp_of_mem fun {x y} hxm hym hxy=>?_
        by_cases ex:x.1.name=b'.name<;>by_cases ey:y.1.name=b'.name
        · exact absurd (ex.trans ey.symm) hxy.2
        · rw [if_pos ex,if_neg ey]
          intro k hk q hq
          exact hnew k hk q (mem_fpS hym hq) (hoth y hym (by rw [<-hn];exact ey) q hq)
        · rw [if_neg ex,if_pos ey]
          intro q hq k hk e
          exact hnew k hk q (mem_fpS hxm hq) (hoth x hxm (by rw [<-hn];exact ex) q hq) e.symm
        · rw [if_neg ex,if_neg ey]
          exact hxy.1
  · rcases List.mem_cons.1 hk with rfl | hk
    · exact .inl (by simp [fpS])
    rcases List.mem_cons.1 hk with rfl | hk
    · exact .inl (by simp [fpS])
    obtain ⟨y,hy,hk⟩:=List.mem_flatMap.1 hk
    rcases hset y hy with rfl | ⟨hyl,_⟩
    · rcases hf k hk with h1 | h1
      · exact .inl (mem_fpS hx h1)
      · exact .inr h1
    · exact .inl (mem_fpS hyl hk)
theorem ShIs.more (h:ShIs w sb bm L chg) {b:Bk} {p:Pl} {w':World} {chg':Nat} (hE:Kp [sb,bm] w w')
    (hs:w'.heap[sb]?=some (.cells #[.int .i64 (chg':Int),.map (some bm)] 61 (0,0))) (hm:MapIs Tryz.prog 9 w' bm (putM (bM L) b.name (pv p.c))) (hno:∀ x∈L,x.1.name≠b.name)
    (hb:BkIs w' b p) (hf:∀ k∈p.fp,w.heap.size<=k) (hd:p.fp.Nodup) {L':Bks} (hp:L'.Perm ((b,p) :: L)) :
    ShIs w' sb bm L' chg'/\(∀ k∈fpS sb bm L',k∈fpS sb bm L\/w.heap.size<=k):=by
  have ha:=h.apart
  unfold fpS at ha
  rw [List.nodup_cons,List.nodup_cons] at ha
  obtain ⟨g1,g2,g3⟩:=ha
  have hold:∀ q∈fpS sb bm L,q∉p.fp:=fun q hq hqp=>by have:=h.lt q hq;have:=hf q hqp;omega
  refine ⟨⟨hs,hm.of_perm ?_,fun y hy=>?_,?_⟩,fun k hk=>?_⟩
  · have e:(bM L).filter (fun q=>decide (q.1≠b.name))=bM L:=List.filter_eq_self.2 fun q hq=>by
      obtain ⟨x,hx,rfl⟩:=List.mem_map.1 hq
      simpa using hno x hx
    unfold putM
    rw [e]
    exact ((hp.map fun x:Bk × Pl=>(x.1.name,pv x.2.c)).symm)
  · rcases List.mem_cons.1 (hp.mem_iff.1 hy) with rfl | hyl
    · exact hb
    · exact (h.bks y hyl).heap fun k hk=>hE.block k ((h.bks y hyl).lt k hk) (by
        simp only [List.mem_cons,List.not_mem_nil,or_false,not_or]
        exact ⟨fun e=>(h.apartB hyl).1 (e▸hk),fun e=>(h.apartB hyl).2.1 (e▸hk)⟩)
  · have hpf:(fpS sb bm L').Perm (fpS sb bm ((b,p) :: L)):=((hp.flatMap_right _).cons bm).cons sb
    refine hpf.nodup_iff.2 ?_
    unfold fpS
    rw [List.flatMap_cons,List.nodup_cons,List.nodup_cons]
    refine ⟨fun hk=>?_,fun hk=>?_,List.nodup_append.2 ⟨hd,g3,fun k hk q hq e=>?_⟩⟩
    · rcases List.mem_cons.1 hk with e | hk
      · exact g1 (by rw [e];simp)
      · rcases List.mem_append.1 hk with hk | hk
        · exact hold sb (by simp [fpS]) hk
        · exact g1 (List.mem_cons_of_mem _ hk)
    · rcases List.mem_append.1 hk with hk | hk
      · exact hold bm (by simp [fpS]) hk
      · exact g2 hk
    · subst e
      exact hold k (List.mem_cons_of_mem _ (List.mem_cons_of_mem _ hq)) hk
  · have hpf:(fpS sb bm L').Perm (fpS sb bm ((b,p) :: L)):=((hp.flatMap_right _).cons bm).cons sb
    have hk:=hpf.mem_iff.1 hk
    unfold fpS at hk
    rw [List.flatMap_cons] at hk
    rcases List.mem_cons.1 hk with rfl | hk
    · exact .inl (by simp [fpS])
    rcases List.mem_cons.1 hk with rfl | hk
    · exact .inl (by simp [fpS])
    rcases List.mem_append.1 hk with hk | hk
    · exact .inr (hf k hk)
    · exact .inl (List.mem_cons_of_mem _ (List.mem_cons_of_mem _ hk))
theorem sub_flat {α β:Type} {l l':List α} (h:l.Sublist l') (f:α->List β):(l.flatMap f).Sublist (l'.flatMap f):=by
  induction h with
  | slnil=>exact List.Sublist.refl _
  | cons a h ih=>rw [List.flatMap_cons];exact ih.trans (List.sublist_append_right _ _)
  | cons_cons a h ih=>rw [List.flatMap_cons,List.flatMap_cons];exact ih.append_left _
theorem ShIs.fewer (h:ShIs w sb bm L chg) {n:Row} {w':World} {chg':Nat} (hE:Kp [sb,bm] w w')
    (hs:w'.heap[sb]?=some (.cells #[.int .i64 (chg':Int),.map (some bm)] 61 (0,0))) (hm:MapIs Tryz.prog 9 w' bm (delM (bM L) n)) :
    ShIs w' sb bm (L.filter fun x=>decide (x.1.name≠n)) chg'/\(∀ k∈fpS sb bm (L.filter fun x=>decide (x.1.name≠n)),k∈fpS sb bm L):=by
  have hsub:(fpS sb bm (L.filter fun x=>decide (x.1.name≠n))).Sublist (fpS sb bm L):=((sub_flat (List.filter_sublist (l:=L) (p:=fun x:Bk × Pl=>decide (x.1.name≠n))) fun x=>x.2.fp).cons_cons bm).cons_cons sb
  refine ⟨⟨hs,?_,fun y hy=>?_,h.apart.sublist hsub⟩,fun k hk=>hsub.subset hk⟩
  · have e:delM (bM L) n=bM (L.filter fun x=>decide (x.1.name≠n)):=by
      unfold delM bM
      rw [List.filter_map]
      rfl
    rw [<-e]
    exact hm
  · have hyl:=(List.mem_filter.1 hy).1
    exact (h.bks y hyl).heap fun k hk=>hE.block k ((h.bks y hyl).lt k hk) (by
        simp only [List.mem_cons,List.not_mem_nil,or_false,not_or]
        exact ⟨fun e=>(h.apartB hyl).1 (e▸hk),fun e=>(h.apartB hyl).2.1 (e▸hk)⟩)
end
theorem insL_fst {L:Bks} {s:Sh} (hL:L.map Prod.fst=s.books) (b:Bk) (p:Pl):(insBy (fun x:Bk × Pl=>x.1.name) (b,p) L).map Prod.fst=insBy (fun x=>x.name) b s.books:=by
  rw [<-hL]
  clear hL
  induction L with
  | nil=>rfl
  | cons x L ih =>
    rw [List.map_cons]
    unfold insBy
    by_cases h:less b.name x.1.name=true
    · rw [if_pos h,if_pos h];rfl
    · rw [if_neg h,if_neg h,List.map_cons,ih]
theorem delL_fst {L:Bks} {s:Sh} (hL:L.map Prod.fst=s.books) (n:Row):(L.filter fun x=>decide (x.1.name≠n)).map Prod.fst=s.books.filter fun x=>decide (x.name≠n):=by
  rw [<-hL,List.filter_map]
  rfl
end Bo
end Go.Proofs.YtobfaibofhmpgaaGreatDoor
