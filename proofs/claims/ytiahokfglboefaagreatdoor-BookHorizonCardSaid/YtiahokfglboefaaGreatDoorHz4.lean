import Derived.Test.YtiahokfglboefaaGreatDoorHz1
import Derived.Lib.Hide
import GoSem.Op.String
set_option linter.unusedVariables false
namespace Go.Proofs.YtiahokfglboefaaGreatDoor
namespace Va
abbrev Row:=List UInt8
abbrev Sg:=UInt8 × Bool
def kep (c:UInt8):Option UInt8:=if c=92∨c=44∨c=59 then some c else if c=110∨c=78 then some 10 else none
def signs:Row→Option (List Sg)
  | []=>some []
  | [x]=>if x=92 then none else some [(x,false)]
  | x :: c :: t=>if x=92 then (kep c).bind fun d=>(signs t).map fun l=>(d,true) :: l else (signs (c :: t)).map fun l=>(x,false) :: l
theorem signs_nil:signs []=some []:=by simp [signs]
theorem signs_end:signs [92]=none:=by simp [signs]
theorem signs_esc (c:UInt8) (t:Row):signs (92 :: c :: t)=(kep c).bind fun d=>(signs t).map fun l=>(d,true) :: l:=by rw [signs];simp
theorem signs_own (x:UInt8) (t:Row) (h:x≠92):signs (x :: t)=(signs t).map fun l=>(x,false) :: l:=by
  cases t with
  | nil=>simp [signs,h]
  | cons c t=>rw [signs];simp [h]
theorem signs_append:∀ (n:Nat) (a b:Row) (x:List Sg),a.length≤n→signs a=some x→signs (a++b)=(signs b).map fun y=>x++y
  | n,[],b,x,_,h=>by
    rw [signs_nil] at h
    obtain rfl:=Option.some.inj h
    simp
  | n,z :: a,b,x,hn,h=>by
    match n,hn with
    | 0,hn=>simp at hn
    | n + 1,hn =>
      by_cases hz:z=92
      · subst hz
        match a,hn,h with
        | [],hn,h=>rw [signs_end] at h;cases h
        | c :: a,hn,h =>
          rw [signs_esc] at h
          obtain ⟨d,hd,h⟩:=Option.bind_eq_some_iff.1 h
          obtain ⟨y,hy,rfl⟩:=Option.map_eq_some_iff.1 h
          have ih:=signs_append n a b y (by simp at hn;omega) hy
          simp only [List.cons_append]
          rw [signs_esc,hd,ih]
          cases signs b<;>simp
      · rw [signs_own _ _ hz] at h
        obtain ⟨y,hy,rfl⟩:=Option.map_eq_some_iff.1 h
        have ih:=signs_append n a b y (by simp at hn;omega) hy
        simp only [List.cons_append]
        rw [signs_own _ _ hz,ih]
        cases signs b<;>simp
theorem signs_then {a:Row} {x:List Sg} (h:signs a=some x) (b:Row):signs (a++b)=(signs b).map fun y=>x++y:=signs_append _ a b x (Nat.le_refl _) h
theorem signs_len:∀ (n:Nat) (a:Row) (x:List Sg),a.length≤n→signs a=some x→x.length≤a.length
  | n,[],x,_,h=>by
    rw [signs_nil] at h
    obtain rfl:=Option.some.inj h
    simp
  | n,z :: a,x,hn,h=>by
    match n,hn with
    | 0,hn=>simp at hn
    | n + 1,hn =>
      by_cases hz:z=92
      · subst hz
        match a,hn,h with
        | [],hn,h=>rw [signs_end] at h;cases h
        | c :: a,hn,h =>
          rw [signs_esc] at h
          obtain ⟨d,hd,h⟩:=Option.bind_eq_some_iff.1 h
          obtain ⟨y,hy,rfl⟩:=Option.map_eq_some_iff.1 h
          have ih:=signs_len n a y (by simp at hn;omega) hy
          simp only [List.length_cons];omega
      · rw [signs_own _ _ hz] at h
        obtain ⟨y,hy,rfl⟩:=Option.map_eq_some_iff.1 h
        have ih:=signs_len n a y (by simp at hn;omega) hy
        simp only [List.length_cons];omega
theorem signs_free:∀ (a:Row),92∉a→signs a=some (a.map fun c=>(c,false))
  | [],_=>signs_nil
  | x :: a,h=>by
    rw [signs_own _ _ (fun e=>h (by simp [e])),signs_free a (fun e=>h (by simp [e]))]
    simp
def plain (l:List Sg):Row:=l.map Prod.fst
def parts (m:UInt8):List Sg→List (List Sg)
  | []=>[[]]
  | x :: l=>if x=(m,false) then [] :: parts m l else match parts m l with
    | []=>[[x]]
    | p :: ps=>(x :: p) :: ps
def listS (l:List Sg):List Row:=(parts 44 l).map plain
def fldS (l:List Sg):List (List Row):=(parts 59 l).map listS
def text (s:Row):Option Row:=(signs s).map plain
def list (s:Row):Option (List Row):=(signs s).map listS
def fields (s:Row):Option (List (List Row)):=(signs s).map fldS
theorem plain_append (a b:List Sg):plain (a++b)=plain a++plain b:=by simp [plain]
theorem plain_len (a:List Sg):(plain a).length=a.length:=by simp [plain]
def pre (a:List Sg):List (List Sg)→List (List Sg)
  | []=>[a]
  | p :: ps=>(a++p) :: ps
theorem parts_ne (m:UInt8):∀ l,parts m l≠[]
  | []=>by simp [parts]
  | x :: l=>by rw [parts];split;simp;split<;>simp
theorem parts_mark (m:UInt8) (l:List Sg):parts m ((m,false) :: l)=[] :: parts m l:=by simp [parts]
theorem parts_own (m:UInt8) (x:Sg) (l:List Sg) (h:x≠(m,false)):parts m (x :: l)=pre [x] (parts m l):=by
  rw [parts,if_neg h]
  have:=parts_ne m l
  cases hl:parts m l with
  | nil=>exact absurd hl this
  | cons p ps=>simp [pre]
theorem pre_one (x:Sg) (l:List (List Sg)) (h:l≠[]) (b:List (List Sg)):pre [x] l++b=pre [x] (l++b):=by
  cases l with
  | nil=>exact absurd rfl h
  | cons p ps=>simp [pre]
theorem parts_join (m:UInt8):∀ (a b:List Sg),parts m (a++(m,false) :: b)=parts m a++parts m b
  | [],b=>by simp [parts]
  | x :: a,b=>by
    have ih:=parts_join m a b
    by_cases h:x=(m,false)
    · subst h
      rw [List.cons_append,parts_mark,parts_mark,ih];simp
    · rw [List.cons_append,parts_own m x _ h,parts_own m x _ h,ih,pre_one _ _ (parts_ne m a)]
theorem parts_one (m:UInt8):∀ (a:List Sg),(m,false)∉a→parts m a=[a]
  | [],_=>by simp [parts]
  | x :: a,h=>by
    rw [parts_own m x a (fun e=>h (by simp [e])),parts_one m a (fun e=>h (by simp [e]))];simp [pre]
def cnt (m:UInt8) (l:List Sg):Nat:=l.countP fun x=>decide (x=(m,false))
theorem pre_len (a:List Sg) (l:List (List Sg)) (h:l≠[]):(pre a l).length=l.length:=by
  cases l with
  | nil=>exact absurd rfl h
  | cons p ps=>simp [pre]
theorem parts_len (m:UInt8):∀ (l:List Sg),(parts m l).length=cnt m l+1
  | []=>by simp [parts,cnt]
  | x :: l=>by
    have ih:=parts_len m l
    by_cases h:x=(m,false)
    · subst h
      rw [parts_mark,List.length_cons,ih];simp [cnt]
    · rw [parts_own m x l h,pre_len _ _ (parts_ne m l),ih]
      simp [cnt,h]
theorem parts_sub (m:UInt8):∀ (l:List Sg) (p:List Sg),p∈parts m l→∀ x∈p,x∈l
  | [],p,hp,x,hx=>by simp [parts] at hp;subst hp;simp at hx
  | y :: l,p,hp,x,hx=>by
    have ih:=parts_sub m l
    by_cases h:y=(m,false)
    · subst h
      rw [parts_mark] at hp
      rcases List.mem_cons.1 hp with rfl | hp
      · simp at hx
      · exact List.mem_cons_of_mem _ (ih p hp x hx)
    · rw [parts_own m y l h] at hp
      cases hl:parts m l with
      | nil=>exact absurd hl (parts_ne m l)
      | cons q qs =>
        rw [hl] at hp ih
        rcases List.mem_cons.1 hp with rfl | hp
        · simp only [List.singleton_append,List.mem_cons] at hx
          rcases hx with rfl | hx
          · exact List.mem_cons_self
          · exact List.mem_cons_of_mem _ (ih q (by simp) x hx)
        · exact List.mem_cons_of_mem _ (ih p (by simp [hp]) x hx)
theorem fldS_len (l:List Sg):(fldS l).length=cnt 59 l+1:=by unfold fldS;rw [List.length_map,parts_len]
theorem listS_len (l:List Sg):(listS l).length=cnt 44 l+1:=by unfold listS;rw [List.length_map,parts_len]
def cutM (m:UInt8):Row→Option (Row × Row)
  | []=>none
  | [x]=>if x=92 then none else if x=m then some ([],[]) else none
  | x :: c :: t=>if x=92 then (cutM m t).map fun p=>(x :: c :: p.1,p.2) else if x=m then some ([],c :: t) else (cutM m (c :: t)).map fun p=>(x :: p.1,p.2)
theorem cutM_nil (m:UInt8):cutM m []=none:=by simp [cutM]
theorem cutM_end (m:UInt8):cutM m [92]=none:=by simp [cutM]
theorem cutM_esc (m c:UInt8) (t:Row):cutM m (92 :: c :: t)=(cutM m t).map fun p=>(92 :: c :: p.1,p.2):=by rw [cutM];simp
theorem cutM_mark (m:UInt8) (t:Row) (h:m≠92):cutM m (m :: t)=some ([],t):=by
  cases t with
  | nil=>simp [cutM,h]
  | cons c t=>rw [cutM];simp [h]
theorem cutM_own (m x:UInt8) (t:Row) (h:x≠92) (hm:x≠m):cutM m (x :: t)=(cutM m t).map fun p=>(x :: p.1,p.2):=by
  cases t with
  | nil=>simp [cutM,h,hm]
  | cons c t=>rw [cutM];simp [h,hm]
theorem cutM_none (m:UInt8) (h92:m≠92):∀ (n:Nat) (s:Row) (l:List Sg),s.length≤n→cutM m s=none→signs s=some l→(m,false)∉l
  | n,[],l,_,_,h=>by
    rw [signs_nil] at h
    obtain rfl:=Option.some.inj h
    simp
  | n,z :: a,l,hn,hc,h=>by
    match n,hn with
    | 0,hn=>simp at hn
    | n + 1,hn =>
      by_cases hz:z=92
      · subst hz
        match a,hn,h,hc with
        | [],hn,h,hc=>rw [signs_end] at h;cases h
        | c :: a,hn,h,hc =>
          rw [signs_esc] at h
          obtain ⟨d,hd,h⟩:=Option.bind_eq_some_iff.1 h
          obtain ⟨y,hy,rfl⟩:=Option.map_eq_some_iff.1 h
          rw [cutM_esc,Option.map_eq_none_iff] at hc
          have ih:=cutM_none m h92 n a y (by simp at hn;omega) hc hy
          simp [ih]
      · rw [signs_own _ _ hz] at h
        obtain ⟨y,hy,rfl⟩:=Option.map_eq_some_iff.1 h
        by_cases hm:z=m
        · subst hm
          rw [cutM_mark _ _ hz] at hc;cases hc
        · rw [cutM_own _ _ _ hz hm,Option.map_eq_none_iff] at hc
          have ih:=cutM_none m h92 n a y (by simp at hn;omega) hc hy
          simp [ih,Ne.symm hm]
theorem cutM_some (m:UInt8) (h92:m≠92):∀ (n:Nat) (s a r:Row),s.length≤n→cutM m s=some (a,r)→
    s=a++m :: r∧signs s=((signs a).bind fun x=>(signs r).map fun y=>x++(m,false) :: y)∧(∀ x,signs a=some x→(m,false)∉x)
  | n,[],a,r,_,h=>by rw [cutM_nil] at h;cases h
  | n, z :: s,a,r,hn,hc=>by
    match n,hn with
    | 0,hn=>simp at hn
    | n + 1,hn =>
      by_cases hz:z=92
      · subst hz
        match s,hn,hc with
        | [],hn,hc=>rw [cutM_end] at hc;cases hc
        | c :: s,hn,hc =>
          rw [cutM_esc] at hc
          obtain ⟨⟨p,q⟩,hp,he⟩:=Option.map_eq_some_iff.1 hc
          simp only [Prod.mk.injEq] at he
          obtain ⟨rfl,rfl⟩:=he
          obtain ⟨h1,h2,h3⟩:=cutM_some m h92 n s p q (by simp at hn;omega) hp
          refine ⟨by rw [h1];simp,?_,fun x hx=>?_⟩
          · rw [signs_esc,signs_esc,h2]
            cases kep c<;>cases signs p<;>cases signs q<;>simp
          · rw [signs_esc] at hx
            obtain ⟨d,hd,hx⟩:=Option.bind_eq_some_iff.1 hx
            obtain ⟨y,hy,rfl⟩:=Option.map_eq_some_iff.1 hx
            simp [h3 y hy]
      · by_cases hm:z=m
        · subst hm
          rw [cutM_mark _ _ hz] at hc
          have hc:=Option.some.inj hc
          simp only [Prod.mk.injEq] at hc
          obtain ⟨rfl,rfl⟩:=hc
          refine ⟨rfl,?_,fun x hx=>?_⟩
          · rw [signs_own _ _ hz,signs_nil];simp
          · rw [signs_nil] at hx
            obtain rfl:=Option.some.inj hx
            simp
        · rw [cutM_own _ _ _ hz hm] at hc
          obtain ⟨⟨p,q⟩,hp,he⟩:=Option.map_eq_some_iff.1 hc
          simp only [Prod.mk.injEq] at he
          obtain ⟨rfl,rfl⟩:=he
          obtain ⟨h1,h2,h3⟩:=cutM_some m h92 n s p q (by simp at hn;omega) hp
          refine ⟨by rw [h1];simp,?_,fun x hx=>?_⟩
          · rw [signs_own _ _ hz,signs_own _ _ hz,h2]
            cases signs p<;>cases signs q<;>simp
          · rw [signs_own _ _ hz] at hx
            obtain ⟨y,hy,rfl⟩:=Option.map_eq_some_iff.1 hx
            simp [h3 y hy,Ne.symm hm]
def pcs {α:Type} (m:UInt8) (rd:List Sg→α) (s:Row):Option (List α):=(signs s).map fun l=>(parts m l).map rd
theorem pcs_last {α:Type} (m:UInt8) (h92:m≠92) (rd:List Sg→α) (s:Row) (h:cutM m s=none):pcs m rd s=((signs s).map rd).map fun x=>[x]:=by
  unfold pcs
  cases hs:signs s with
  | none=>rfl
  | some l =>
    have:=parts_one m l (cutM_none m h92 _ s l (Nat.le_refl _) h hs)
    simp [this]
theorem pcs_more {α:Type} (m:UInt8) (h92:m≠92) (rd:List Sg→α) (s a r:Row) (h:cutM m s=some (a,r)):pcs m rd s=((signs a).map rd).bind fun x=>(pcs m rd r).map fun y=>x :: y:=by
  obtain ⟨_,h2,h3⟩:=cutM_some m h92 _ s a r (Nat.le_refl _) h
  unfold pcs
  rw [h2]
  cases ha:signs a with
  | none=>rfl
  | some x =>
    cases hr:signs r with
    | none=>rfl
    | some y =>
      have:=parts_one m x (h3 x ha)
      simp [parts_join,this]
theorem cutM_len (m:UInt8) (h92:m≠92) {s a r:Row} (h:cutM m s=some (a,r)):a.length+(r.length+1)=s.length:=by
  rw [(cutM_some m h92 _ s a r (Nat.le_refl _) h).1];simp
def put1 (c:UInt8):Row:=if c=92∨c=44∨c=59 then [92,c] else if c=10 then [92,110] else [c]
def put:Row→Row
  | []=>[]
  | c :: t=>put1 c++put t
def tl (m:UInt8):List Row→Row
  | []=>[]
  | x :: xs=>m :: x++tl m xs
def jn (m:UInt8):List Row→Row
  | []=>[]
  | x :: xs=>x++tl m xs
def putL (ts:List Row):Row:=jn 44 (ts.map put)
def putF (fs:List (List Row)):Row:=jn 59 (fs.map putL)
theorem put_append:∀ (a b:Row),put (a++b)=put a++put b
  | [],b=>rfl
  | c :: a,b=>by simp only [List.cons_append,put,put_append a b,List.append_assoc]
theorem put1_len (c:UInt8):(put1 c).length≤2:=by unfold put1;split;simp;split<;>simp
theorem put_len:∀ (a:Row),(put a).length≤2*a.length
  | []=>by simp [put]
  | c :: a=>by have:=put_len a;have:=put1_len c;simp only [put,List.length_append,List.length_cons];omega
theorem tl_append (m:UInt8):∀ (a b:List Row),tl m (a++b)=tl m a++tl m b
  | [],b=>rfl
  | x :: a,b=>by simp only [List.cons_append,tl,tl_append m a b,List.append_assoc]
theorem jn_snoc (m:UInt8) (a:List Row) (x:Row):jn m (a++[x])=if a=[] then x else jn m a++m :: x:=by
  cases a with
  | nil=>simp [jn,tl]
  | cons y a=>simp [jn,tl_append,tl]
def sg1 (c:UInt8):Sg:=(c,decide (c=92∨c=44∨c=59∨c=10))
theorem signs_put1 (c:UInt8):signs (put1 c)=some [sg1 c]:=by
  unfold put1 sg1
  by_cases h:c=92∨c=44∨c=59
  · rw [if_pos h,signs_esc]
    have:decide (c=92∨c=44∨c=59∨c=10)=true:=decide_eq_true (by rcases h with h | h | h<;>simp [h])
    simp [kep,h,signs_nil,this]
  · rw [if_neg h]
    by_cases h10:c=10
    · subst h10;rfl
    · rw [if_neg h10,signs_own _ _ (fun e=>h (.inl e)),signs_nil]
      have:decide (c=92∨c=44∨c=59∨c=10)=false:=decide_eq_false (by rintro (e | e | e | e)<;>simp_all)
      simp [this]
theorem signs_put:∀ (a:Row),signs (put a)=some (a.map sg1)
  | []=>signs_nil
  | c :: a=>by rw [put,signs_then (signs_put1 c),signs_put a];simp
theorem plain_sg (a:Row):plain (a.map sg1)=a:=by
  unfold plain
  rw [List.map_map]
  have:(Prod.fst ∘ sg1)=id:=by funext c;rfl
  rw [this,List.map_id]
theorem sg1_no (c m:UInt8) (h:m=44∨m=59):sg1 c≠(m,false):=by
  unfold sg1
  intro e
  simp only [Prod.mk.injEq,decide_eq_false_iff_not] at e
  obtain ⟨rfl,e⟩:=e
  rcases h with rfl | rfl<;>simp at e
theorem put_free (a:Row) (m:UInt8) (h:m=44∨m=59):(m,false)∉a.map sg1:=fun hm=>by
  obtain ⟨c,_,hc⟩:=List.mem_map.1 hm
  exact sg1_no c m h hc
theorem text_put (a:Row):text (put a)=some a:=by unfold text;rw [signs_put];simp [plain_sg]
def jnS (m:UInt8):List (List Sg)→List Sg
  | []=>[]
  | [x]=>x
  | x :: y :: xs=>x++(m,false) :: jnS m (y :: xs)
theorem signs_jn (m:UInt8) (h92:m≠92) {α:Type} (f:α→Row) (g:α→List Sg) (h:∀ a,signs (f a)=some (g a)):∀ (xs:List α),signs (jn m (xs.map f))=some (jnS m (xs.map g))
  | []=>signs_nil
  | [x]=>by simp [jn,tl,jnS,h]
  | x :: y :: xs=>by
    have ih:=signs_jn m h92 f g h (y :: xs)
    have e:jn m ((x :: y :: xs).map f)=f x++(m :: jn m ((y :: xs).map f)):=by simp [jn,tl]
    rw [e,signs_then (h x),signs_own _ _ h92,ih]
    simp [jnS]
theorem parts_jn (m:UInt8):∀ (xs:List (List Sg)),xs≠[]→(∀ x∈xs,(m,false)∉x)→parts m (jnS m xs)=xs
  | [],h,_=>absurd rfl h
  | [x],_,h=>by simp [jnS,parts_one m x (h x (by simp))]
  | x :: y :: xs,_,h=>by
    have ih:=parts_jn m (y :: xs) (by simp) (fun z hz=>h z (by simp [hz]))
    rw [jnS,parts_join,ih,parts_one m x (h x (by simp))];simp
theorem jnS_free (m k:UInt8) (hmk:m≠k):∀ (xs:List (List Sg)),(∀ x∈xs,(k,false)∉x)→(k,false)∉jnS m xs
  | [],_=>by simp [jnS]
  | [x],h=>by simpa [jnS] using h x (by simp)
  | x :: y :: xs,h=>by
    have ih:=jnS_free m k hmk (y :: xs) (fun z hz=>h z (by simp [hz]))
    have h0:=h x (by simp)
    rw [jnS]
    simp only [List.mem_append,List.mem_cons,Prod.mk.injEq,and_true]
    rintro (e | e | e)
    · exact h0 e
    · exact hmk e.symm
    · exact ih e
def sgL (ts:List Row):List Sg:=jnS 44 (ts.map fun t=>t.map sg1)
theorem signs_putL (ts:List Row):signs (putL ts)=some (sgL ts):=signs_jn 44 (by decide) put (fun t=>t.map sg1) signs_put ts
theorem listS_sgL (ts:List Row) (h:ts≠[]):listS (sgL ts)=ts:=by
  unfold listS sgL
  rw [parts_jn 44 _ (by simpa using h) (fun x hx=>by obtain ⟨t,_,rfl⟩:=List.mem_map.1 hx;exact put_free t 44 (.inl rfl)),List.map_map]
  have:(plain ∘ fun t:Row=>t.map sg1)=id:=by funext t;exact plain_sg t
  rw [this,List.map_id]
theorem list_putL (ts:List Row) (h:ts≠[]):list (putL ts)=some ts:=by unfold list;rw [signs_putL];simp [listS_sgL ts h]
theorem fields_putF (fs:List (List Row)) (h:fs≠[]) (hf:∀ f∈fs,f≠[]):fields (putF fs)=some fs:=by
  unfold fields putF
  rw [signs_jn 59 (by decide) putL sgL signs_putL,Option.map_some]
  unfold fldS
  rw [parts_jn 59 _ (by simpa using h) (fun x hx=>by
    obtain ⟨f,_,rfl⟩:=List.mem_map.1 hx
    exact jnS_free 44 59 (by decide) _ (fun y hy=>by obtain ⟨t,_,rfl⟩:=List.mem_map.1 hy;exact put_free t 59 (.inr rfl))),List.map_map]
  congr 1
  conv=>rhs;rw [←List.map_id fs]
  exact List.map_congr_left fun f hm=>listS_sgL f (hf f hm)
theorem list_iff {a:Row}:list a=none↔signs a=none:=by unfold list;rw [Option.map_eq_none_iff]
theorem fields_iff {a:Row}:fields a=none↔signs a=none:=by unfold fields;rw [Option.map_eq_none_iff]
theorem text_len {a t:Row} (h:text a=some t):t.length≤a.length:=by
  unfold text at h
  obtain ⟨l,hl,rfl⟩:=Option.map_eq_some_iff.1 h
  rw [plain_len]
  exact signs_len _ a l (Nat.le_refl _) hl
end Va
namespace Ca
open Va
abbrev Row:=List UInt8
def wsA (cur:Row):Row→List Row
  | []=>[cur]
  | c :: t=>if c=32 then cur :: wsA [] t else wsA (cur++[c]) t
def words (s:Row):List Row:=wsA [] s
def among (name s:Row):Bool:=(words s).contains name
def sFN:Row:=[70,78,32,78,79,84,69,32,85,73,68]
def sCAT:Row:=[67,65,84,69,71,79,82,73,69,83,32,78,73,67,75,78,65,77,69]
def sN:Row:=[78,32,79,82,71,32,65,68,82]
def anew (name v:Row):Row × Bool :=
  if among name sFN=true then (put ((text v).getD []),(text v).isSome)
  else if among name sCAT=true then (putL ((list v).getD []),(list v).isSome)
  else if among name sN=true then (putF ((fields v).getD []),(fields v).isSome && (!decide (name=[78]) || decide (((fields v).getD []).length=5)))
  else (v,true)
def kFN:Row:=[70,78]
def kNOTE:Row:=[78,79,84,69]
def kUID:Row:=[85,73,68]
def kCAT:Row:=[67,65,84,69,71,79,82,73,69,83]
def kNICK:Row:=[78,73,67,75,78,65,77,69]
def kN:Row:=[78]
def kORG:Row:=[79,82,71]
def kADR:Row:=[65,68,82]
def kKIND:Row:=[75,73,78,68]
def kBDAY:Row:=[66,68,65,89]
def kREV:Row:=[82,69,86]
def kBEGIN:Row:=[66,69,71,73,78]
def kEND:Row:=[69,78,68]
def kVERSION:Row:=[86,69,82,83,73,79,78]
def k1:Row:=[105,110,100,105,118,105,100,117,97,108]
def k2:Row:=[103,114,111,117,112]
def k3:Row:=[111,114,103]
def k4:Row:=[108,111,99,97,116,105,111,110]
theorem among_FN (n:Row):among n sFN=true↔n=kFN∨n=kNOTE∨n=kUID:=by
  have:words sFN=[kFN,kNOTE,kUID]:=by decide
  unfold among;rw [this];simp
theorem among_CAT (n:Row):among n sCAT=true↔n=kCAT∨n=kNICK:=by
  have:words sCAT=[kCAT,kNICK]:=by decide
  unfold among;rw [this];simp
theorem among_N (n:Row):among n sN=true↔n=kN∨n=kORG∨n=kADR:=by
  have:words sN=[kN,kORG,kADR]:=by decide
  unfold among;rw [this];simp
def anewV (n v:Row):Option Row :=
  if n=kFN∨n=kNOTE∨n=kUID then (text v).map put
  else if n=kCAT∨n=kNICK then (list v).map putL
  else if n=kN∨n=kORG∨n=kADR then (fields v).map putF
  else some v
theorem anewV_text {n:Row} (h:n=kFN∨n=kNOTE∨n=kUID) (v:Row):anewV n v=(text v).map put:=if_pos h
theorem anewV_list {n:Row} (h:n=kCAT∨n=kNICK) (v:Row):anewV n v=(list v).map putL:=by
  unfold anewV;rw [if_neg (by rcases h with rfl | rfl<;>decide),if_pos h]
theorem anewV_fields {n:Row} (h:n=kN∨n=kORG∨n=kADR) (v:Row):anewV n v=(fields v).map putF:=by
  unfold anewV;rw [if_neg (by rcases h with rfl | rfl | rfl<;>decide),if_neg (by rcases h with rfl | rfl | rfl<;>decide),if_pos h]
theorem anewV_own {n:Row} (h1:¬ (n=kFN∨n=kNOTE∨n=kUID)) (h2:¬ (n=kCAT∨n=kNICK)) (h3:¬ (n=kN∨n=kORG∨n=kADR)) (v:Row):anewV n v=some v:=by
  unfold anewV;rw [if_neg h1,if_neg h2,if_neg h3]
def five (n v:Row):Bool:=!decide (n=kN) || decide (((fields v).getD []).length=5)
theorem anew_eq (n v:Row):(∀ x,anewV n v=some x→(anew n v).1=x)∧(anew n v).2=((anewV n v).isSome && five n v):=by
  unfold anew
  by_cases h1:n=kFN∨n=kNOTE∨n=kUID
  · rw [if_pos ((among_FN n).2 h1),anewV_text h1]
    have h5:five n v=true:=by
      have:n≠kN:=by rcases h1 with rfl | rfl | rfl<;>decide
      unfold five;simp [this]
    rw [h5]
    cases text v<;>simp
  · rw [if_neg (fun h=>h1 ((among_FN n).1 h))]
    by_cases h2:n=kCAT∨n=kNICK
    · rw [if_pos ((among_CAT n).2 h2),anewV_list h2]
      have h5:five n v=true:=by
        have:n≠kN:=by rcases h2 with rfl | rfl<;>decide
        unfold five;simp [this]
      rw [h5]
      cases list v<;>simp
    · rw [if_neg (fun h=>h2 ((among_CAT n).1 h))]
      by_cases h3:n=kN∨n=kORG∨n=kADR
      · rw [if_pos ((among_N n).2 h3),anewV_fields h3]
        unfold five
        have e:kN=[78]:=rfl
        rw [e]
        cases Va.fields v with
        | none=>simp
        | some x=>by_cases h:n=[78]<;>simp [h]
      · rw [if_neg (fun h=>h3 ((among_N n).1 h)),anewV_own h1 h2 h3]
        have:n≠kN:=fun e=>h3 (.inl e)
        simp [five,this]
def kindB (v:Row):Bool:=decide (Ch.low v=k1∨Ch.low v=k2∨Ch.low v=k3∨Ch.low v=k4)
def okV (n v:Row):Bool:=(anewV n v).isSome && (if n=kN then decide (((fields v).getD []).length=5) else if n=kUID then !decide ((text v).getD []=[]) else if n=kKIND then kindB v else true)
end Ca
namespace Ca
abbrev RowB:=List UInt8
def lt (x y:RowB):Bool:=Op.bytesLess x y
theorem lt_nil (x:RowB):lt x []=false:=by cases x<;>rfl
theorem lt_nil_cons (b:UInt8) (y:RowB):lt [] (b :: y)=true:=rfl
theorem lt_cons (a b:UInt8) (x y:RowB):lt (a :: x) (b :: y)=(decide (a < b) || (a==b && lt x y)):=rfl
theorem lt_irrefl:∀ x:RowB,lt x x=false
  | []=>rfl
  | a :: x=>by
    rw [lt_cons,lt_irrefl x,decide_eq_false (UInt8.lt_irrefl a)]
    simp
theorem lt_trans:∀ x y z:RowB,lt x y=true→lt y z=true→lt x z=true
  | x,y,[],h1,h2=>by rw [lt_nil] at h2;cases h2
  | x,[],c :: z,h1,h2=>by rw [lt_nil] at h1;cases h1
  | [],b :: y,c :: z,_,_=>rfl
  | a :: x,b :: y,c :: z,h1,h2=>by
    rw [lt_cons,Bool.or_eq_true,Bool.and_eq_true,decide_eq_true_eq,beq_iff_eq] at h1 h2 ⊢
    rcases h1 with h1 | ⟨rfl,h1⟩<;>rcases h2 with h2 | ⟨rfl,h2⟩
    · exact .inl (UInt8.lt_trans h1 h2)
    · exact .inl h1
    · exact .inl h2
    · exact .inr ⟨rfl,lt_trans x y z h1 h2⟩
theorem lt_or:∀ x y:RowB,lt x y=false→lt y x=false→x=y
  | [],[],_,_=>rfl
  | [],b :: y,h,_=>by rw [lt_nil_cons] at h;cases h
  | a :: x,[],_,h=>by rw [lt_nil_cons] at h;cases h
  | a :: x,b :: y,h1,h2=>by
    rw [lt_cons,Bool.or_eq_false_iff,Bool.and_eq_false_iff,decide_eq_false_iff_not] at h1 h2
    have e:a=b:=by
      apply UInt8.toNat_inj.1
      have g1:=h1.1
      have g2:=h2.1
      rw [UInt8.lt_iff_toNat_lt] at g1 g2
      omega
    subst e
    have k1:lt x y=false:=by rcases h1.2 with h | h;exact absurd h (by simp);exact h
    have k2:lt y x=false:=by rcases h2.2 with h | h;exact absurd h (by simp);exact h
    rw [lt_or x y k1 k2]
theorem lt_asymm (x y:RowB) (h:lt x y=true):lt y x=false:=by
  cases hc:lt y x with
  | false=>rfl
  | true=>have:=lt_trans x y x h hc;rw [lt_irrefl] at this;cases this
theorem lt_of_not (x y z:RowB) (h1:lt y x=false) (h2:lt y z=true):lt x z=true:=by
  cases hc:lt x z with
  | true=>rfl
  | false =>
    cases hd:lt z x with
    | true=>have:=lt_trans y z x h2 hd;rw [h1] at this;cases this
    | false=>have:=lt_or x z hc hd;rw [this,h2] at h1;cases h1
variable {α:Type} (key:α→RowB)
def Sorted (s:List α):Prop:=s.Pairwise fun a b=>lt (key b) (key a)=false
theorem head_of_filter {s:List α} {a b:α} {t:List α} (h:(a :: s).filter (fun x=>decide (key x=key a))=(b :: t).filter (fun x=>decide (key x=key a))) (hb:key b=key a):a=b∧s.filter (fun x=>decide (key x=key a))=t.filter (fun x=>decide (key x=key a)):=by
  rw [List.filter_cons_of_pos (by simp),List.filter_cons_of_pos (by simpa using hb)] at h
  exact List.cons.inj h
theorem sorted_uniq:∀ (s t:List α),Sorted key s→Sorted key t→(∀ m,s.filter (fun x=>decide (key x=m))=t.filter (fun x=>decide (key x=m)))→s=t
  | [],[],_,_,_=>rfl
  | [],b :: t,_,_,h=>by
    have:=h (key b)
    rw [List.filter_cons_of_pos (by simp)] at this
    cases this
  | a :: s,[],_,_,h=>by
    have:=h (key a)
    rw [List.filter_cons_of_pos (by simp)] at this
    cases this
  | a :: s,b :: t,hs,ht,h=>by
    have hs1:=List.pairwise_cons.1 hs
    have ht1:=List.pairwise_cons.1 ht
    have ha:a∈b :: t:=by
      have:a∈(a :: s).filter (fun x=>decide (key x=key a)):=by rw [List.filter_cons_of_pos (by simp)];simp
      rw [h (key a)] at this
      exact (List.mem_filter.1 this).1
    have hb:b∈a :: s:=by
      have:b∈(b :: t).filter (fun x=>decide (key x=key b)):=by rw [List.filter_cons_of_pos (by simp)];simp
      rw [←h (key b)] at this
      exact (List.mem_filter.1 this).1
    have e:key b=key a:=by
      rcases List.mem_cons.1 ha with ha | ha
      · rw [ha]
      · rcases List.mem_cons.1 hb with hb | hb
        · rw [hb]
        · exact lt_or _ _ (hs1.1 b hb) (ht1.1 a ha)
    obtain ⟨rfl,h2⟩:=head_of_filter key (h (key a)) e
    rw [sorted_uniq s t hs1.2 ht1.2 (fun m=>by
      by_cases hm:key a=m
      · subst hm;exact h2
      · have:=h m
        rwa [List.filter_cons_of_neg (by simpa using hm),List.filter_cons_of_neg (by simpa using hm)] at this)]
def pick (last:RowB) (xs:List α):Option RowB:=xs.foldl (fun acc x=>if lt last (key x) && (match acc with | none=>true | some m=>lt (key x) m) then some (key x) else acc) none
theorem pick_acc (last:RowB):∀ (xs:List α) (acc:Option RowB),(∀ m,acc=some m→lt last m=true)→
    match xs.foldl (fun acc x=>if lt last (key x) && (match acc with | none=>true | some m=>lt (key x) m) then some (key x) else acc) acc with
    | none=>acc=none∧∀ x∈xs,lt last (key x)=false
    | some m=>(acc=some m∨∃ x∈xs,key x=m)∧lt last m=true∧(∀ k,acc=some k→lt k m=false)∧∀ x∈xs,lt last (key x)=true→lt (key x) m=false
  | [],acc,h=>by
    cases acc with
    | none=>exact ⟨rfl,fun x hx=>by cases hx⟩
    | some m=>exact ⟨.inl rfl,h m rfl,fun k hk=>by cases hk;exact lt_irrefl _,fun x hx=>by cases hx⟩
  | x :: xs,acc,h=>by
    rw [List.foldl_cons]
    by_cases hx:lt last (key x)=true
    · cases acc with
      | none =>
        have ih:=pick_acc last xs (some (key x)) (fun m hm=>by cases hm;exact hx)
        simp only [hx,Bool.true_and,if_true]
        split at ih
        · exact absurd ih.1 (by simp)
        · obtain ⟨i1,i2,i3,i4⟩:=ih
          refine ⟨.inr ?_,i2,fun k hk=>(by cases hk),fun y hy hl=>?_⟩
          · rcases i1 with i1 | ⟨y,hy,e⟩
            · exact ⟨x,by simp,Option.some.inj i1⟩
            · exact ⟨y,by simp [hy],e⟩
          · rcases List.mem_cons.1 hy with rfl | hy
            · exact i3 _ rfl
            · exact i4 y hy hl
      | some m0 =>
        cases hc:lt (key x) m0 with
        | true =>
          have ih:=pick_acc last xs (some (key x)) (fun m hm=>by cases hm;exact hx)
          simp only [hx,hc,Bool.true_and,if_true]
          split at ih
          · exact absurd ih.1 (by simp)
          · obtain ⟨i1,i2,i3,i4⟩:=ih
            refine ⟨.inr ?_,i2,fun k hk=>?_,fun y hy hl=>?_⟩
            · rcases i1 with i1 | ⟨y,hy,e⟩
              · exact ⟨x,by simp,Option.some.inj i1⟩
              · exact ⟨y,by simp [hy],e⟩
            · cases hk
              cases hd:lt m0 _ with
              | false=>rfl
              | true=>have:=lt_trans _ _ _ hc hd;rw [i3 _ rfl] at this;cases this
            · rcases List.mem_cons.1 hy with rfl | hy
              · exact i3 _ rfl
              · exact i4 y hy hl
        | false =>
          have ih:=pick_acc last xs (some m0) h
          simp only [hx,hc,Bool.and_false,Bool.false_eq_true,if_false]
          split at ih
          · exact absurd ih.1 (by simp)
          · obtain ⟨i1,i2,i3,i4⟩:=ih
            refine ⟨?_,i2,i3,fun y hy hl=>?_⟩
            · rcases i1 with i1 | ⟨y,hy,e⟩
              · exact .inl i1
              · exact .inr ⟨y,by simp [hy],e⟩
            · rcases List.mem_cons.1 hy with rfl | hy
              · rename_i m _
                have h3:=i3 _ rfl
                cases hd:lt (key y) m with
                | false=>rfl
                | true=>have:=lt_of_not m0 (key y) m hc hd;rw [h3] at this;cases this
              · exact i4 y hy hl
    · have hx':lt last (key x)=false:=by simpa using hx
      have ih:=pick_acc last xs acc h
      simp only [hx',Bool.false_and,Bool.false_eq_true,if_false]
      split at ih
      · refine ⟨ih.1,fun y hy=>?_⟩
        rcases List.mem_cons.1 hy with rfl | hy
        · exact hx'
        · exact ih.2 y hy
      · obtain ⟨i1,i2,i3,i4⟩:=ih
        refine ⟨?_,i2,i3,fun y hy hl=>?_⟩
        · rcases i1 with i1 | ⟨y,hy,e⟩
          · exact .inl i1
          · exact .inr ⟨y,by simp [hy],e⟩
        · rcases List.mem_cons.1 hy with rfl | hy
          · rw [hx'] at hl;cases hl
          · exact i4 y hy hl
theorem pick_none {last:RowB} {xs:List α} (h:pick key last xs=none):∀ x∈xs,lt last (key x)=false:=by
  have:=pick_acc key last xs none (fun m hm=>by cases hm)
  unfold pick at h
  rw [h] at this
  exact this.2
theorem pick_some {last m:RowB} {xs:List α} (h:pick key last xs=some m):(∃ x∈xs,key x=m)∧lt last m=true∧∀ x∈xs,lt last (key x)=true→lt (key x) m=false:=by
  have:=pick_acc key last xs none (fun m hm=>by cases hm)
  unfold pick at h
  rw [h] at this
  obtain ⟨i1,i2,_,i4⟩:=this
  refine ⟨?_,i2,i4⟩
  rcases i1 with i1 | i1
  · cases i1
  · exact i1
def riseF:Nat→RowB→List α→List α
  | 0,_,_=>[]
  | f+1,last,xs=>match pick key last xs with
    | none=>[]
    | some m=>xs.filter (fun x=>decide (key x=m))++riseF f m xs
theorem count_less {last m:RowB} {xs:List α} (h:pick key last xs=some m):xs.countP (fun x=>lt m (key x)) < xs.countP (fun x=>lt last (key x)):=by
  obtain ⟨⟨x,hx,e⟩,h2,_⟩:=pick_some key h
  have hle:∀ y,lt m (key y)=true→lt last (key y)=true:=fun y hy=>lt_trans _ _ _ h2 hy
  obtain ⟨a,b,rfl⟩:=List.append_of_mem hx
  simp only [List.countP_append,List.countP_cons]
  have h3:lt m (key x)=false:=by rw [e];exact lt_irrefl _
  have h4:lt last (key x)=true:=by rw [e];exact h2
  rw [h3,h4]
  have i1:=List.countP_mono_left (l:=a) (p:=fun y=>lt m (key y)) (q:=fun y=>lt last (key y)) (fun y _ hy=>hle y hy)
  have i2:=List.countP_mono_left (l:=b) (p:=fun y=>lt m (key y)) (q:=fun y=>lt last (key y)) (fun y _ hy=>hle y hy)
  simp
  omega
theorem rise_spec:∀ (f:Nat) (last:RowB) (xs:List α),xs.countP (fun x=>lt last (key x))≤f→
    Sorted key (riseF key f last xs)∧(∀ y∈riseF key f last xs,lt last (key y)=true)∧∀ m,(riseF key f last xs).filter (fun x=>decide (key x=m))=if lt last m=true then xs.filter (fun x=>decide (key x=m)) else []
  | 0,last,xs,h=>by
    refine ⟨List.Pairwise.nil,fun y hy=>(by cases hy),fun m=>?_⟩
    have h0:=List.countP_eq_zero.1 (Nat.le_zero.1 h)
    show []=_
    by_cases hm:lt last m=true
    · rw [if_pos hm]
      symm
      rw [List.filter_eq_nil_iff]
      intro x hx e
      have e:key x=m:=by simpa using e
      exact h0 x hx (by rw [e];exact hm)
    · rw [if_neg hm]
  | f + 1,last,xs,h=>by
    unfold riseF
    cases hp:pick key last xs with
    | none =>
      have hn:=pick_none key hp
      refine ⟨List.Pairwise.nil,fun y hy=>(by cases hy),fun m=>?_⟩
      show []=_
      by_cases hm:lt last m=true
      · rw [if_pos hm]
        symm
        rw [List.filter_eq_nil_iff]
        intro x hx e
        have e:key x=m:=by simpa using e
        have:=hn x hx
        rw [e,hm] at this
        cases this
      · rw [if_neg hm]
    | some m =>
      obtain ⟨_,h2,h3⟩:=pick_some key hp
      have hc:=count_less key hp
      obtain ⟨i1,i2,i3⟩:=rise_spec f m xs (by omega)
      dsimp only
      have hmem:∀ y∈xs.filter (fun x=>decide (key x=m)),key y=m:=fun y hy=>by simpa using (List.mem_filter.1 hy).2
      refine ⟨?_,fun y hy=>?_,fun k=>?_⟩
      · refine List.pairwise_append.2 ⟨?_,i1,fun a ha b hb=>?_⟩
        · refine List.Pairwise.imp_of_mem (R:=fun _ _=>True) (fun {a b} ha hb _=>by rw [hmem a ha,hmem b hb];exact lt_irrefl _) ?_
          exact List.pairwise_of_forall (fun _ _=>trivial)
        · rw [hmem a ha];exact lt_asymm _ _ (i2 b hb)
      · rcases List.mem_append.1 hy with hy | hy
        · rw [hmem y hy];exact h2
        · exact lt_trans _ _ _ h2 (i2 y hy)
      · rw [List.filter_append,i3 k,List.filter_filter]
        by_cases hk:k=m
        · subst hk
          rw [lt_irrefl,if_pos h2,if_neg (by simp),List.append_nil]
          congr 1
          funext x
          simp
        · have e0:xs.filter (fun x=>decide (key x=k) && decide (key x=m))=[]:=by
            rw [List.filter_eq_nil_iff]
            intro x _ e
            simp only [Bool.and_eq_true,decide_eq_true_eq] at e
            exact hk (e.1.symm.trans e.2)
          rw [e0,List.nil_append]
          by_cases h1:lt m k=true
          · rw [if_pos h1,if_pos (lt_trans _ _ _ h2 h1)]
          · rw [if_neg h1]
            split
            · rename_i h5
              symm
              rw [List.filter_eq_nil_iff]
              intro x hx e
              have e:key x=k:=by simpa using e
              have h6:=h3 x hx (by rw [e];exact h5)
              rw [e] at h6
              exact hk (lt_or _ _ h6 (by simpa using h1))
            · rfl
end Ca
end Go.Proofs.YtiahokfglboefaaGreatDoor
