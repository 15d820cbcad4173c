import Derived.Test.YtobfaibofhmpgaaGreatDoorAp2
import Derived.Deep.QuietTactic
import Derived.IntWalk
import Derived.Lib.Builder
import Derived.Laws.Rows
set_option linter.unusedVariables false
set_option maxHeartbeats 4000000
set_option maxRecDepth 100000
namespace Go.Proofs.YtobfaibofhmpgaaGreatDoor
namespace Bo
open Go.Lib Go.RowKit
theorem below_then {a b c:World} (h1:Below a.heap.size a b) (h2:Below b.heap.size b c):Below a.heap.size a c:=h1.trans (h2.mono h1.size)
abbrev repV (st tag:Int) (data:ByteArray) (ents:Value) (tok:ByteArray):Value:=.agg #[.int .i64 st,.int .i64 tag,.string data,ents,.string tok]
abbrev noS:ByteArray:=⟨#[]⟩
abbrev noE:Value:=.slice none 0 0
theorem rep_ret {fn:Func} {p:Tmp} (h:fn.results=#[.cell p 29]) (tmps:Array Value) (W:World) (g:Nat) (st tag:Int) (data:ByteArray) (ents:Value) (tok:ByteArray) (hp:tmps.getD p undef=.pointer (some ⟨g,0,none⟩))
    (hg:W.heap[g]?=some (.cells #[.int .i64 st,.int .i64 tag,.string data,ents,.string tok] 29 (0,0))):(results fn tmps).run Tryz.prog W=.ok (repV st tag data ents tok) W :=
  results_cell_row h tmps W g _ _ _ _ hp hg Tryz.underlying29 rfl (by kernel_rfl)
theorem set_heap {W:World} {g:Nat} {cs:Array Value} {t:TypeId} (h:W.heap[g]?=some (.cells cs t (0,0))) (j:Nat) (v:Value):(W.setCell ⟨g,j,none⟩ v).heap[g]?=some (.cells (cs.setIfInBounds j v) t (0,0)):=by
  simp [World.setCell,Array.getElem?_modify,h]
abbrev put5 (W:World) (g:Nat) (st tag:Int) (data:ByteArray) (ents:Value) (tok:ByteArray):World :=
  ((((W.setCell ⟨g,0,none⟩ (.int .i64 st)).setCell ⟨g,1,none⟩ (.int .i64 tag)).setCell ⟨g,2,none⟩ (.string data)).setCell ⟨g,3,none⟩ ents).setCell ⟨g,4,none⟩ (.string tok)
theorem put5_heap {W:World} {g:Nat} {a0 a1 a2 a3 a4:Value} {t:TypeId} (h:W.heap[g]?=some (.cells #[a0,a1,a2,a3,a4] t (0,0))) (st tag:Int) (data:ByteArray) (ents:Value) (tok:ByteArray) :
    (put5 W g st tag data ents tok).heap[g]?=some (.cells #[.int .i64 st,.int .i64 tag,.string data,ents,.string tok] t (0,0)):=by
  have h0:=set_heap h 0 (.int .i64 st)
  have h1:=set_heap h0 1 (.int .i64 tag)
  have h2:=set_heap h1 2 (.string data)
  have h3:=set_heap h2 3 ents
  exact set_heap h3 4 (.string tok)
theorem res5 {W:World} {b:Nat} {x0 x1 x2 x3 x4:Value} {t:TypeId} (hk:W.heap[b]?=some (.cells #[x0,x1,x2,x3,x4] t (0,0))) :
    W.cell? ⟨b,0,none⟩=some x0/\W.cell? ⟨b,1,none⟩=some x1/\W.cell? ⟨b,2,none⟩=some x2/\W.cell? ⟨b,3,none⟩=some x3/\W.cell? ⟨b,4,none⟩=some x4/\
      W.frozen? ⟨b,0,none⟩=false/\W.frozen? ⟨b,1,none⟩=false/\W.frozen? ⟨b,2,none⟩=false/\W.frozen? ⟨b,3,none⟩=false/\W.frozen? ⟨b,4,none⟩=false :=
  ⟨Lib.cell_of_heap hk 0,Lib.cell_of_heap hk 1,Lib.cell_of_heap hk 2,Lib.cell_of_heap hk 3,Lib.cell_of_heap hk 4,Lib.frozen_of_heap hk 0,Lib.frozen_of_heap hk 1,Lib.frozen_of_heap hk 2,Lib.frozen_of_heap hk 3,Lib.frozen_of_heap hk 4⟩
theorem Kp.put5 {F:List Nat} {a W:World} (h:Kp F a W) {g:Nat} (hg:a.heap.size<=g) (st tag:Int) (data:ByteArray) (ents:Value) (tok:ByteArray):Kp F a (put5 W g st tag data ents tok) :=
  ((((h.setCell (ad:=⟨g,0,none⟩) (.inr hg) _).setCell (ad:=⟨g,1,none⟩) (.inr hg) _).setCell (ad:=⟨g,2,none⟩) (.inr hg) _).setCell (ad:=⟨g,3,none⟩) (.inr hg) _).setCell (ad:=⟨g,4,none⟩) (.inr hg) _
theorem below_put5 {B:Nat} {a W:World} (h:Below B a W) {g:Nat} (hg:B<=g) (st tag:Int) (data:ByteArray) (ents:Value) (tok:ByteArray):Below B a (put5 W g st tag data ents tok) :=
  ((((h.setCell (p:=⟨g,0,none⟩) hg _).setCell (p:=⟨g,1,none⟩) hg _).setCell (p:=⟨g,2,none⟩) hg _).setCell (p:=⟨g,3,none⟩) hg _).setCell (p:=⟨g,4,none⟩) hg _
theorem put5_block (W:World) (g:Nat) (st tag:Int) (data:ByteArray) (ents:Value) (tok:ByteArray) {k:Nat} (hk:k≠g):(put5 W g st tag data ents tok).heap[k]?=W.heap[k]?:=by
  unfold put5
  rw [Below.heap_setCell _ _ _ k hk,Below.heap_setCell _ _ _ k hk,Below.heap_setCell _ _ _ k hk,Below.heap_setCell _ _ _ k hk,Below.heap_setCell _ _ _ k hk]
theorem rep_fin {fn:Func} {p:Tmp} (h:fn.results=#[.cell p 29]) {Q:Ending->World->Prop} {tm:Array Value} {W:World} {g:Nat} (hp:tm.getD p undef=.pointer (some ⟨g,0,none⟩)) {a0 a1 a2 a3 a4:Value}
    (hg:W.heap[g]?=some (.cells #[a0,a1,a2,a3,a4] 29 (0,0))) {st tag:Int} {data:ByteArray} {ents:Value} {tok:ByteArray} (hQ:Q (.returned (repV st tag data ents tok)) (put5 W g st tag data ents tok)) :
    bodyPost Tryz.prog fn Q Exit.ret { tmps:=tm,defers:=[] } (put5 W g st tag data ents tok) :=
  bodyPost_ret (rep_ret h tm _ g _ _ _ _ _ hp (put5_heap hg _ _ _ _ _)) rfl hQ
theorem rep_finW {fn:Func} {p:Tmp} (h:fn.results=#[.cell p 29]) {Q:Ending->World->Prop} {tm:Array Value} {W:World} {g:Nat} (hp:tm.getD p undef=.pointer (some ⟨g,0,none⟩)) {st tag:Int} {data:ByteArray} {ents:Value} {tok:ByteArray}
    (hg:W.heap[g]?=some (.cells #[.int .i64 st,.int .i64 tag,.string data,ents,.string tok] 29 (0,0))) (hQ:Q (.returned (repV st tag data ents tok)) W) :
    bodyPost Tryz.prog fn Q Exit.ret { tmps:=tm,defers:=[] } W :=
  bodyPost_ret (rep_ret h tm _ g _ _ _ _ _ hp hg) rfl hQ
theorem status_any (n:Int) (w:World):Calls Tryz.prog 18 #[.int .i64 n] w fun e w'=>e=.returned (repV n 0 noS noE noS)/\Below w.heap.size w w':=by
  go_enter Tryz.func18,Tryz.ntmps18
  go_wp2
  exact bodyPost_ret (rep_ret rfl _ _ w.heap.size _ _ _ _ _ rfl (heap_alloc_new w _)) rfl ⟨rfl,(Below.refl _ _).alloc (Nat.le_refl _) _⟩
theorem next_any (w:World) (sb bm n:Nat) (h:w.heap[sb]?=some (.cells #[.int .i64 (n:Int),.map (some bm)] 61 (0,0))) (hn:n < 4611686018427387904) :
    Calls Tryz.prog 38 #[pv sb] w fun e w'=>e=.returned (.int .i64 ((n+1:Nat):Int))/\w'=w.setCell ⟨sb,0,none⟩ (.int .i64 ((n+1:Nat):Int)):=by
  have hc:=Lib.cell_of_heap h 0
  have hf:=Lib.frozen_of_heap h 0
  have hw:IntKind.i64.wrap ((n:Int)+1)=(n:Int)+1:=IntWalk.i64_in _ (by omega)
  go_enter Tryz.func38,Tryz.ntmps38
  go_wp2
  go_ret
  exact ⟨rfl,rfl⟩
theorem keyed:Go.Maps.Keyed Tryz.prog 9:=Go.Maps.string_keyed Tryz.underlying9
theorem zeroK (w:World):(zeroValue 105).run Tryz.prog w=.ok (.agg #[.int .i64 0,.string ⟨#[]⟩]) w:=by kernel_rfl
theorem zeroC (w:World):(zeroValue 62).run Tryz.prog w=.ok (.pointer none) w:=by kernel_rfl
theorem get_any (w:World) (b:Bk) (p:Pl) (n:ByteArray) (h:BkIs w b p) (hn:n.size<=maxLen) :
    Calls Tryz.prog 43 #[pv p.c,.string n] w fun e w' =>
      e=.returned (match lfAt b n.data.toList with | some l=>repV 200 (l.tag:Int) ⟨l.text.toArray⟩ noE noS | none=>repV 404 0 noS noE noS)/\Below w.heap.size w w':=by
  have hk:=keyOf_str Tryz.underlying9 n hn
  have hc:∀ W,Below w.heap.size w W->W.cell? ⟨p.c,2,none⟩=some (.map (some p.m)):=fun W hW=>by
    rw [Lib.cell_of_heap ((hW.block p.c (h.lt p.c (by simp [Pl.fp]))).trans h.blk)];rfl
  have hm:∀ W,Below w.heap.size w W->MapIs Tryz.prog 9 W p.m (cM b.cards):=fun W hW=>h.map.block (hW.block p.m h.map.lt)
  have hl:=lookC b.cards n.data.toList
  have hlf:(b.cards.find? fun l=>decide (l.name=n.data.toList))=lfAt b n.data.toList:=rfl
  rw [hlf] at hl
  cases hb:lfAt b n.data.toList with
  | none =>
    rw [hb] at hl
    have cS:=status_any 404
    have hB1:Below w.heap.size w (w.alloc (.cells #[.int .i64 0,.int .i64 0,.string ⟨#[]⟩,.slice none 0 0,.string ⟨#[]⟩] 29)):=(Below.refl _ _).alloc (Nat.le_refl _) _
    have c1:=hc _ hB1
    have m1:=hm _ hB1
    have hg1:(w.alloc (.cells #[.int .i64 0,.int .i64 0,.string ⟨#[]⟩,.slice none 0 0,.string ⟨#[]⟩] 29)).heap[w.heap.size]?=some (.cells #[.int .i64 0,.int .i64 0,.string ⟨#[]⟩,.slice none 0 0,.string ⟨#[]⟩] 29 (0,0)):=heap_alloc_new w _
    have hs1:(w.alloc (.cells #[.int .i64 0,.int .i64 0,.string ⟨#[]⟩,.slice none 0 0,.string ⟨#[]⟩] 29)).heap.size=w.heap.size+1:=by simp
    go_enter Tryz.func43,Tryz.ntmps43
    go_wp2_with (first | (at_lookup;refine wp_look_ok _ rfl _ _ 89 rfl 9 105 keyed Tryz.underlying89 (zeroK _) p.m _ rfl m1 _ _ rfl hk (.agg #[.int .i64 0,.string ⟨#[]⟩]) false (by rw [hl];rfl) (by rw [hl];rfl) ?_) | fail)
    refine (cS _).mono ?_
    rintro e w2 ⟨rfl,hb2⟩
    have hB2:=Lib.hid (below_then (below_then hB1 ((Below.refl _ _).alloc (Nat.le_refl _) (.cells #[.int .i64 0,.string ⟨#[]⟩] 105))) hb2)
    have hg2:=(hb2.block w.heap.size (by simp;omega)).trans ((heap_alloc_old _ _ _ (by simp)).trans hg1)
    have hg2':=Lib.hid hg2
    obtain ⟨p0,p1,p2,p3,p4,f0,f1,f2,f3,f4⟩:=res5 hg2
    clear c1 m1 hg1 hs1 hB1 hg2 hb2 cS
    go_wp2
    exact rep_fin rfl rfl hg2'.out ⟨rfl,below_put5 hB2.out (Nat.le_refl _) _ _ _ _ _⟩
  | some l =>
    rw [hb] at hl
    have hB1:Below w.heap.size w (w.alloc (.cells #[.int .i64 0,.int .i64 0,.string ⟨#[]⟩,.slice none 0 0,.string ⟨#[]⟩] 29)):=(Below.refl _ _).alloc (Nat.le_refl _) _
    have c1:=hc _ hB1
    have m1:=hm _ hB1
    have hg1:(w.alloc (.cells #[.int .i64 0,.int .i64 0,.string ⟨#[]⟩,.slice none 0 0,.string ⟨#[]⟩] 29)).heap[w.heap.size]?=some (.cells #[.int .i64 0,.int .i64 0,.string ⟨#[]⟩,.slice none 0 0,.string ⟨#[]⟩] 29 (0,0)):=heap_alloc_new w _
    go_enter Tryz.func43,Tryz.ntmps43
    go_wp2_with (first | (at_lookup;refine wp_look_ok _ rfl _ _ 89 rfl 9 105 keyed Tryz.underlying89 (zeroK _) p.m _ rfl m1 _ _ rfl hk (.agg #[.int .i64 (l.tag:Int),.string ⟨l.text.toArray⟩]) true (by rw [hl];rfl) (by rw [hl];rfl) ?_) | fail)
    exact rep_finW rfl rfl (g:=w.heap.size) ((heap_alloc_old _ _ _ (by simp)).trans (heap_alloc_new w _)) ⟨rfl,((Below.refl _ _).alloc (Nat.le_refl _) _).alloc (by simp) _⟩
end Bo
namespace Va
abbrev Row:=List UInt8
abbrev Sg:=UInt8 × Bool
def kep (c:UInt8):Option UInt8:=if c=92\/c=44\/c=59 then some c else if c=110\/c=78 then some 10 else none
def signs:Row->Option (List Sg)
  | []=>some []
  | [x]=>if x=92 then none else some [(x,false)]
  | x :: c :: t=>if x=92 then (kep c).bind fun d=>(signs t).map fun l=>(d,true) :: l else (signs (c :: t)).map fun l=>(x,false) :: l
theorem signs_nil:signs []=some []:=by simp [signs]
theorem signs_end:signs [92]=none:=by simp [signs]
theorem signs_esc (c:UInt8) (t:Row):signs (92 :: c :: t)=(kep c).bind fun d=>(signs t).map fun l=>(d,true) :: l:=by rw [signs];simp
theorem signs_own (x:UInt8) (t:Row) (h:x≠92):signs (x :: t)=(signs t).map fun l=>(x,false) :: l:=by
  cases t with
  | nil=>simp [signs,h]
  | cons c t=>rw [signs];simp [h]
theorem signs_append:∀ (n:Nat) (a b:Row) (x:List Sg),a.length<=n->signs a=some x->signs (a++b)=(signs b).map fun y=>x++y
  | n,[],b,x,_,h=>by
    rw [signs_nil] at h
    obtain rfl:=Option.some.inj h
    simp
  | n,z :: a,b,x,hn,h=>by
    match n,hn with
    | 0,hn=>simp at hn
    | n + 1,hn =>
      by_cases hz:z=92
      · subst hz
        match a,hn,h with
        | [],hn,h=>rw [signs_end] at h;cases h
        | c :: a,hn,h =>
          rw [signs_esc] at h
          obtain ⟨d,hd,h⟩:=Option.bind_eq_some_iff.1 h
          obtain ⟨y,hy,rfl⟩:=Option.map_eq_some_iff.1 h
          have ih:=signs_append n a b y (by simp at hn;omega) hy
          simp only [List.cons_append]
          rw [signs_esc,hd,ih]
          cases signs b<;>simp
      · rw [signs_own _ _ hz] at h
        obtain ⟨y,hy,rfl⟩:=Option.map_eq_some_iff.1 h
        have ih:=signs_append n a b y (by simp at hn;omega) hy
        simp only [List.cons_append]
        rw [signs_own _ _ hz,ih]
        cases signs b<;>simp
theorem signs_then {a:Row} {x:List Sg} (h:signs a=some x) (b:Row):signs (a++b)=(signs b).map fun y=>x++y:=signs_append _ a b x (Nat.le_refl _) h
theorem signs_len:∀ (n:Nat) (a:Row) (x:List Sg),a.length<=n->signs a=some x->x.length<=a.length
  | n,[],x,_,h=>by
    rw [signs_nil] at h
    obtain rfl:=Option.some.inj h
    simp
  | n,z :: a,x,hn,h=>by
    match n,hn with
    | 0,hn=>simp at hn
    | n + 1,hn =>
      by_cases hz:z=92
      · subst hz
        match a,hn,h with
        | [],hn,h=>rw [signs_end] at h;cases h
        | c :: a,hn,h =>
          rw [signs_esc] at h
          obtain ⟨d,hd,h⟩:=Option.bind_eq_some_iff.1 h
          obtain ⟨y,hy,rfl⟩:=Option.map_eq_some_iff.1 h
          have ih:=signs_len n a y (by simp at hn;omega) hy
          simp only [List.length_cons];omega
      · rw [signs_own _ _ hz] at h
        obtain ⟨y,hy,rfl⟩:=Option.map_eq_some_iff.1 h
        have ih:=signs_len n a y (by simp at hn;omega) hy
        simp only [List.length_cons];omega
theorem signs_free:∀ (a:Row),92∉a->signs a=some (a.map fun c=>(c,false))
  | [],_=>signs_nil
  | x :: a,h=>by
    rw [signs_own _ _ (fun e=>h (by simp [e])),signs_free a (fun e=>h (by simp [e]))]
    simp
def plain (l:List Sg):Row:=l.map Prod.fst
def parts (m:UInt8):List Sg->List (List Sg)
  | []=>[[]]
  | x :: l=>if x=(m,false) then [] :: parts m l else match parts m l with
    | []=>[[x]]
    | p :: ps=>(x :: p) :: ps
def listS (l:List Sg):List Row:=(parts 44 l).map plain
def fldS (l:List Sg):List (List Row):=(parts 59 l).map listS
def text (s:Row):Option Row:=(signs s).map plain
def list (s:Row):Option (List Row):=(signs s).map listS
def fields (s:Row):Option (List (List Row)):=(signs s).map fldS
theorem plain_append (a b:List Sg):plain (a++b)=plain a++plain b:=by simp [plain]
theorem plain_len (a:List Sg):(plain a).length=a.length:=by simp [plain]
def pre (a:List Sg):List (List Sg)->List (List Sg)
  | []=>[a]
  | p :: ps=>(a++p) :: ps
theorem parts_ne (m:UInt8):∀ l,parts m l≠[]
  | []=>by simp [parts]
  | x :: l=>by rw [parts];split;simp;split<;>simp
theorem parts_mark (m:UInt8) (l:List Sg):parts m ((m,false) :: l)=[] :: parts m l:=by simp [parts]
theorem parts_own (m:UInt8) (x:Sg) (l:List Sg) (h:x≠(m,false)):parts m (x :: l)=pre [x] (parts m l):=by
  rw [parts,if_neg h]
  have:=parts_ne m l
  cases hl:parts m l with
  | nil=>exact absurd hl this
  | cons p ps=>simp [pre]
theorem pre_one (x:Sg) (l:List (List Sg)) (h:l≠[]) (b:List (List Sg)):pre [x] l++b=pre [x] (l++b):=by
  cases l with
  | nil=>exact absurd rfl h
  | cons p ps=>simp [pre]
theorem parts_join (m:UInt8):∀ (a b:List Sg),parts m (a++(m,false) :: b)=parts m a++parts m b
  | [],b=>by simp [parts]
  | x :: a,b=>by
    have ih:=parts_join m a b
    by_cases h:x=(m,false)
    · subst h
      rw [List.cons_append,parts_mark,parts_mark,ih];simp
    · rw [List.cons_append,parts_own m x _ h,parts_own m x _ h,ih,pre_one _ _ (parts_ne m a)]
theorem parts_one (m:UInt8):∀ (a:List Sg),(m,false)∉a->parts m a=[a]
  | [],_=>by simp [parts]
  | x :: a,h=>by
    rw [parts_own m x a (fun e=>h (by simp [e])),parts_one m a (fun e=>h (by simp [e]))];simp [pre]
def cnt (m:UInt8) (l:List Sg):Nat:=l.countP fun x=>decide (x=(m,false))
theorem pre_len (a:List Sg) (l:List (List Sg)) (h:l≠[]):(pre a l).length=l.length:=by
  cases l with
  | nil=>exact absurd rfl h
  | cons p ps=>simp [pre]
theorem parts_len (m:UInt8):∀ (l:List Sg),(parts m l).length=cnt m l+1
  | []=>by simp [parts,cnt]
  | x :: l=>by
    have ih:=parts_len m l
    by_cases h:x=(m,false)
    · subst h
      rw [parts_mark,List.length_cons,ih];simp [cnt]
    · rw [parts_own m x l h,pre_len _ _ (parts_ne m l),ih]
      simp [cnt,h]
theorem parts_sub (m:UInt8):∀ (l:List Sg) (p:List Sg),p∈parts m l->∀ x∈p,x∈l
  | [],p,hp,x,hx=>by simp [parts] at hp;subst hp;simp at hx
  | y :: l,p,hp,x,hx=>by
    have ih:=parts_sub m l
    by_cases h:y=(m,false)
    · subst h
      rw [parts_mark] at hp
      rcases List.mem_cons.1 hp with rfl | hp
      · simp at hx
      · exact List.mem_cons_of_mem _ (ih p hp x hx)
    · rw [parts_own m y l h] at hp
      cases hl:parts m l with
      | nil=>exact absurd hl (parts_ne m l)
      | cons q qs =>
        rw [hl] at hp ih
        rcases List.mem_cons.1 hp with rfl | hp
        · simp only [List.singleton_append,List.mem_cons] at hx
          rcases hx with rfl | hx
          · exact List.mem_cons_self
          · exact List.mem_cons_of_mem _ (ih q (by simp) x hx)
        · exact List.mem_cons_of_mem _ (ih p (by simp [hp]) x hx)
theorem fldS_len (l:List Sg):(fldS l).length=cnt 59 l+1:=by unfold fldS;rw [List.length_map,parts_len]
theorem listS_len (l:List Sg):(listS l).length=cnt 44 l+1:=by unfold listS;rw [List.length_map,parts_len]
def cutM (m:UInt8):Row->Option (Row × Row)
  | []=>none
  | [x]=>if x=92 then none else if x=m then some ([],[]) else none
  | x :: c :: t=>if x=92 then (cutM m t).map fun p=>(x :: c :: p.1,p.2) else if x=m then some ([],c :: t) else (cutM m (c :: t)).map fun p=>(x :: p.1,p.2)
theorem cutM_nil (m:UInt8):cutM m []=none:=by simp [cutM]
theorem cutM_end (m:UInt8):cutM m [92]=none:=by simp [cutM]
theorem cutM_esc (m c:UInt8) (t:Row):cutM m (92 :: c :: t)=(cutM m t).map fun p=>(92 :: c :: p.1,p.2):=by rw [cutM];simp
theorem cutM_mark (m:UInt8) (t:Row) (h:m≠92):cutM m (m :: t)=some ([],t):=by
  cases t with
  | nil=>simp [cutM,h]
  | cons c t=>rw [cutM];simp [h]
theorem cutM_own (m x:UInt8) (t:Row) (h:x≠92) (hm:x≠m):cutM m (x :: t)=(cutM m t).map fun p=>(x :: p.1,p.2):=by
  cases t with
  | nil=>simp [cutM,h,hm]
  | cons c t=>rw [cutM];simp [h,hm]
theorem cutM_none (m:UInt8) (h92:m≠92):∀ (n:Nat) (s:Row) (l:List Sg),s.length<=n->cutM m s=none->signs s=some l->(m,false)∉l
  | n,[],l,_,_,h=>by
    rw [signs_nil] at h
    obtain rfl:=Option.some.inj h
    simp
  | n,z :: a,l,hn,hc,h=>by
    match n,hn with
    | 0,hn=>simp at hn
    | n + 1,hn =>
      by_cases hz:z=92
      · subst hz
        match a,hn,h,hc with
        | [],hn,h,hc=>rw [signs_end] at h;cases h
        | c :: a,hn,h,hc =>
          rw [signs_esc] at h
          obtain ⟨d,hd,h⟩:=Option.bind_eq_some_iff.1 h
          obtain ⟨y,hy,rfl⟩:=Option.map_eq_some_iff.1 h
          rw [cutM_esc,Option.map_eq_none_iff] at hc
          have ih:=cutM_none m h92 n a y (by simp at hn;omega) hc hy
          simp [ih]
      · rw [signs_own _ _ hz] at h
        obtain ⟨y,hy,rfl⟩:=Option.map_eq_some_iff.1 h
        by_cases hm:z=m
        · subst hm
          rw [cutM_mark _ _ hz] at hc;cases hc
        · rw [cutM_own _ _ _ hz hm,Option.map_eq_none_iff] at hc
          have ih:=cutM_none m h92 n a y (by simp at hn;omega) hc hy
          simp [ih,Ne.symm hm]
theorem cutM_some (m:UInt8) (h92:m≠92):∀ (n:Nat) (s a r:Row),s.length<=n->cutM m s=some (a,r)->
    s=a++m :: r/\signs s=((signs a).bind fun x=>(signs r).map fun y=>x++(m,false) :: y)/\(∀ x,signs a=some x->(m,false)∉x)
  | n,[],a,r,_,h=>by rw [cutM_nil] at h;cases h
  | n, z :: s,a,r,hn,hc=>by
    match n,hn with
    | 0,hn=>simp at hn
    | n + 1,hn =>
      by_cases hz:z=92
      · subst hz
        match s,hn,hc with
        | [],hn,hc=>rw [cutM_end] at hc;cases hc
        | c :: s,hn,hc =>
          rw [cutM_esc] at hc
          obtain ⟨⟨p,q⟩,hp,he⟩:=Option.map_eq_some_iff.1 hc
          simp only [Prod.mk.injEq] at he
          obtain ⟨rfl,rfl⟩:=he
          obtain ⟨h1,h2,h3⟩:=cutM_some m h92 n s p q (by simp at hn;omega) hp
          refine ⟨by rw [h1];simp,?_,fun x hx=>?_⟩
          · rw [signs_esc,signs_esc,h2]
            cases kep c<;>cases signs p<;>cases signs q<;>simp
          · rw [signs_esc] at hx
            obtain ⟨d,hd,hx⟩:=Option.bind_eq_some_iff.1 hx
            obtain ⟨y,hy,rfl⟩:=Option.map_eq_some_iff.1 hx
            simp [h3 y hy]
      · by_cases hm:z=m
        · subst hm
          rw [cutM_mark _ _ hz] at hc
          have hc:=Option.some.inj hc
          simp only [Prod.mk.injEq] at hc
          obtain ⟨rfl,rfl⟩:=hc
          refine ⟨rfl,?_,fun x hx=>?_⟩
          · rw [signs_own _ _ hz,signs_nil];simp
          · rw [signs_nil] at hx
            obtain rfl:=Option.some.inj hx
            simp
        · rw [cutM_own _ _ _ hz hm] at hc
          obtain ⟨⟨p,q⟩,hp,he⟩:=Option.map_eq_some_iff.1 hc
          simp only [Prod.mk.injEq] at he
          obtain ⟨rfl,rfl⟩:=he
          obtain ⟨h1,h2,h3⟩:=cutM_some m h92 n s p q (by simp at hn;omega) hp
          refine ⟨by rw [h1];simp,?_,fun x hx=>?_⟩
          · rw [signs_own _ _ hz,signs_own _ _ hz,h2]
            cases signs p<;>cases signs q<;>simp
          · rw [signs_own _ _ hz] at hx
            obtain ⟨y,hy,rfl⟩:=Option.map_eq_some_iff.1 hx
            simp [h3 y hy,Ne.symm hm]
def pcs {α:Type} (m:UInt8) (rd:List Sg->α) (s:Row):Option (List α):=(signs s).map fun l=>(parts m l).map rd
theorem pcs_last {α:Type} (m:UInt8) (h92:m≠92) (rd:List Sg->α) (s:Row) (h:cutM m s=none):pcs m rd s=((signs s).map rd).map fun x=>[x]:=by
  unfold pcs
  cases hs:signs s with
  | none=>rfl
  | some l =>
    have:=parts_one m l (cutM_none m h92 _ s l (Nat.le_refl _) h hs)
    simp [this]
theorem pcs_more {α:Type} (m:UInt8) (h92:m≠92) (rd:List Sg->α) (s a r:Row) (h:cutM m s=some (a,r)):pcs m rd s=((signs a).map rd).bind fun x=>(pcs m rd r).map fun y=>x :: y:=by
  obtain ⟨_,h2,h3⟩:=cutM_some m h92 _ s a r (Nat.le_refl _) h
  unfold pcs
  rw [h2]
  cases ha:signs a with
  | none=>rfl
  | some x =>
    cases hr:signs r with
    | none=>rfl
    | some y =>
      have:=parts_one m x (h3 x ha)
      simp [parts_join,this]
theorem cutM_len (m:UInt8) (h92:m≠92) {s a r:Row} (h:cutM m s=some (a,r)):a.length+(r.length+1)=s.length:=by
  rw [(cutM_some m h92 _ s a r (Nat.le_refl _) h).1];simp
def put1 (c:UInt8):Row:=if c=92\/c=44\/c=59 then [92,c] else if c=10 then [92,110] else [c]
def put:Row->Row
  | []=>[]
  | c :: t=>put1 c++put t
def tl (m:UInt8):List Row->Row
  | []=>[]
  | x :: xs=>m :: x++tl m xs
def jn (m:UInt8):List Row->Row
  | []=>[]
  | x :: xs=>x++tl m xs
def putL (ts:List Row):Row:=jn 44 (ts.map put)
def putF (fs:List (List Row)):Row:=jn 59 (fs.map putL)
theorem put_append:∀ (a b:Row),put (a++b)=put a++put b
  | [],b=>rfl
  | c :: a,b=>by simp only [List.cons_append,put,put_append a b,List.append_assoc]
theorem put1_len (c:UInt8):(put1 c).length<=2:=by unfold put1;split;simp;split<;>simp
theorem put_len:∀ (a:Row),(put a).length<=2*a.length
  | []=>by simp [put]
  | c :: a=>by have:=put_len a;have:=put1_len c;simp only [put,List.length_append,List.length_cons];omega
theorem tl_append (m:UInt8):∀ (a b:List Row),tl m (a++b)=tl m a++tl m b
  | [],b=>rfl
  | x :: a,b=>by simp only [List.cons_append,tl,tl_append m a b,List.append_assoc]
theorem jn_snoc (m:UInt8) (a:List Row) (x:Row):jn m (a++[x])=if a=[] then x else jn m a++m :: x:=by
  cases a with
  | nil=>simp [jn,tl]
  | cons y a=>simp [jn,tl_append,tl]
def sg1 (c:UInt8):Sg:=(c,decide (c=92\/c=44\/c=59\/c=10))
theorem signs_put1 (c:UInt8):signs (put1 c)=some [sg1 c]:=by
  unfold put1 sg1
  by_cases h:c=92\/c=44\/c=59
  · rw [if_pos h,signs_esc]
    have:decide (c=92\/c=44\/c=59\/c=10)=true:=decide_eq_true (by rcases h with h | h | h<;>simp [h])
    simp [kep,h,signs_nil,this]
  · rw [if_neg h]
    by_cases h10:c=10
    · subst h10;rfl
    · rw [if_neg h10,signs_own _ _ (fun e=>h (.inl e)),signs_nil]
      have:decide (c=92\/c=44\/c=59\/c=10)=false:=decide_eq_false (by rintro (e | e | e | e)<;>simp_all)
      simp [this]
theorem signs_put:∀ (a:Row),signs (put a)=some (a.map sg1)
  | []=>signs_nil
  | c :: a=>by rw [put,signs_then (signs_put1 c),signs_put a];simp
theorem plain_sg (a:Row):plain (a.map sg1)=a:=by
  unfold plain
  rw [List.map_map]
  have:(Prod.fst ∘ sg1)=id:=by funext c;rfl
  rw [this,List.map_id]
theorem sg1_no (c m:UInt8) (h:m=44\/m=59):sg1 c≠(m,false):=by
  unfold sg1
  intro e
  simp only [Prod.mk.injEq,decide_eq_false_iff_not] at e
  obtain ⟨rfl,e⟩:=e
  rcases h with rfl | rfl<;>simp at e
theorem put_free (a:Row) (m:UInt8) (h:m=44\/m=59):(m,false)∉a.map sg1:=fun hm=>by
  obtain ⟨c,_,hc⟩:=List.mem_map.1 hm
  exact sg1_no c m h hc
theorem text_put (a:Row):text (put a)=some a:=by unfold text;rw [signs_put];simp [plain_sg]
def jnS (m:UInt8):List (List Sg)->List Sg
  | []=>[]
  | [x]=>x
  | x :: y :: xs=>x++(m,false) :: jnS m (y :: xs)
theorem signs_jn (m:UInt8) (h92:m≠92) {α:Type} (f:α->Row) (g:α->List Sg) (h:∀ a,signs (f a)=some (g a)):∀ (xs:List α),signs (jn m (xs.map f))=some (jnS m (xs.map g))
  | []=>signs_nil
  | [x]=>by simp [jn,tl,jnS,h]
  | x :: y :: xs=>by
    have ih:=signs_jn m h92 f g h (y :: xs)
    have e:jn m ((x :: y :: xs).map f)=f x++(m :: jn m ((y :: xs).map f)):=by simp [jn,tl]
    rw [e,signs_then (h x),signs_own _ _ h92,ih]
    simp [jnS]
theorem parts_jn (m:UInt8):∀ (xs:List (List Sg)),xs≠[]->(∀ x∈xs,(m,false)∉x)->parts m (jnS m xs)=xs
  | [],h,_=>absurd rfl h
  | [x],_,h=>by simp [jnS,parts_one m x (h x (by simp))]
  | x :: y :: xs,_,h=>by
    have ih:=parts_jn m (y :: xs) (by simp) (fun z hz=>h z (by simp [hz]))
    rw [jnS,parts_join,ih,parts_one m x (h x (by simp))];simp
theorem jnS_free (m k:UInt8) (hmk:m≠k):∀ (xs:List (List Sg)),(∀ x∈xs,(k,false)∉x)->(k,false)∉jnS m xs
  | [],_=>by simp [jnS]
  | [x],h=>by simpa [jnS] using h x (by simp)
  | x :: y :: xs,h=>by
    have ih:=jnS_free m k hmk (y :: xs) (fun z hz=>h z (by simp [hz]))
    have h0:=h x (by simp)
    rw [jnS]
    simp only [List.mem_append,List.mem_cons,Prod.mk.injEq,and_true]
    rintro (e | e | e)
    · exact h0 e
    · exact hmk e.symm
    · exact ih e
def sgL (ts:List Row):List Sg:=jnS 44 (ts.map fun t=>t.map sg1)
theorem signs_putL (ts:List Row):signs (putL ts)=some (sgL ts):=signs_jn 44 (by decide) put (fun t=>t.map sg1) signs_put ts
theorem listS_sgL (ts:List Row) (h:ts≠[]):listS (sgL ts)=ts:=by
  unfold listS sgL
  rw [parts_jn 44 _ (by simpa using h) (fun x hx=>by obtain ⟨t,_,rfl⟩:=List.mem_map.1 hx;exact put_free t 44 (.inl rfl)),List.map_map]
  have:(plain ∘ fun t:Row=>t.map sg1)=id:=by funext t;exact plain_sg t
  rw [this,List.map_id]
theorem list_putL (ts:List Row) (h:ts≠[]):list (putL ts)=some ts:=by unfold list;rw [signs_putL];simp [listS_sgL ts h]
theorem fields_putF (fs:List (List Row)) (h:fs≠[]) (hf:∀ f∈fs,f≠[]):fields (putF fs)=some fs:=by
  unfold fields putF
  rw [signs_jn 59 (by decide) putL sgL signs_putL,Option.map_some]
  unfold fldS
  rw [parts_jn 59 _ (by simpa using h) (fun x hx=>by
    obtain ⟨f,_,rfl⟩:=List.mem_map.1 hx
    exact jnS_free 44 59 (by decide) _ (fun y hy=>by obtain ⟨t,_,rfl⟩:=List.mem_map.1 hy;exact put_free t 59 (.inr rfl))),List.map_map]
  congr 1
  conv=>rhs;rw [<-List.map_id fs]
  exact List.map_congr_left fun f hm=>listS_sgL f (hf f hm)
theorem list_iff {a:Row}:list a=none↔signs a=none:=by unfold list;rw [Option.map_eq_none_iff]
theorem fields_iff {a:Row}:fields a=none↔signs a=none:=by unfold fields;rw [Option.map_eq_none_iff]
theorem text_len {a t:Row} (h:text a=some t):t.length<=a.length:=by
  unfold text at h
  obtain ⟨l,hl,rfl⟩:=Option.map_eq_some_iff.1 h
  rw [plain_len]
  exact signs_len _ a l (Nat.le_refl _) hl
end Va
namespace Ca
open Va
abbrev Row:=List UInt8
def wsA (cur:Row):Row->List Row
  | []=>[cur]
  | c :: t=>if c=32 then cur :: wsA [] t else wsA (cur++[c]) t
def words (s:Row):List Row:=wsA [] s
def among (name s:Row):Bool:=(words s).contains name
def sFN:Row:=[70,78,32,78,79,84,69,32,85,73,68]
def sCAT:Row:=[67,65,84,69,71,79,82,73,69,83,32,78,73,67,75,78,65,77,69]
def sN:Row:=[78,32,79,82,71,32,65,68,82]
def anew (name v:Row):Row × Bool :=
  if among name sFN=true then (put ((text v).getD []),(text v).isSome)
  else if among name sCAT=true then (putL ((list v).getD []),(list v).isSome)
  else if among name sN=true then (putF ((fields v).getD []),(fields v).isSome && (!decide (name=[78]) || decide (((fields v).getD []).length=5)))
  else (v,true)
def kFN:Row:=[70,78]
def kNOTE:Row:=[78,79,84,69]
def kUID:Row:=[85,73,68]
def kCAT:Row:=[67,65,84,69,71,79,82,73,69,83]
def kNICK:Row:=[78,73,67,75,78,65,77,69]
def kN:Row:=[78]
def kORG:Row:=[79,82,71]
def kADR:Row:=[65,68,82]
def kKIND:Row:=[75,73,78,68]
def kBDAY:Row:=[66,68,65,89]
def kREV:Row:=[82,69,86]
def kBEGIN:Row:=[66,69,71,73,78]
def kEND:Row:=[69,78,68]
def kVERSION:Row:=[86,69,82,83,73,79,78]
def k1:Row:=[105,110,100,105,118,105,100,117,97,108]
def k2:Row:=[103,114,111,117,112]
def k3:Row:=[111,114,103]
def k4:Row:=[108,111,99,97,116,105,111,110]
theorem among_FN (n:Row):among n sFN=true↔n=kFN\/n=kNOTE\/n=kUID:=by
  have:words sFN=[kFN,kNOTE,kUID]:=by decide
  unfold among;rw [this];simp
theorem among_CAT (n:Row):among n sCAT=true↔n=kCAT\/n=kNICK:=by
  have:words sCAT=[kCAT,kNICK]:=by decide
  unfold among;rw [this];simp
theorem among_N (n:Row):among n sN=true↔n=kN\/n=kORG\/n=kADR:=by
  have:words sN=[kN,kORG,kADR]:=by decide
  unfold among;rw [this];simp
def anewV (n v:Row):Option Row :=
  if n=kFN\/n=kNOTE\/n=kUID then (text v).map put
  else if n=kCAT\/n=kNICK then (list v).map putL
  else if n=kN\/n=kORG\/n=kADR then (fields v).map putF
  else some v
theorem anewV_text {n:Row} (h:n=kFN\/n=kNOTE\/n=kUID) (v:Row):anewV n v=(text v).map put:=if_pos h
theorem anewV_list {n:Row} (h:n=kCAT\/n=kNICK) (v:Row):anewV n v=(list v).map putL:=by
  unfold anewV;rw [if_neg (by rcases h with rfl | rfl<;>decide),if_pos h]
theorem anewV_fields {n:Row} (h:n=kN\/n=kORG\/n=kADR) (v:Row):anewV n v=(fields v).map putF:=by
  unfold anewV;rw [if_neg (by rcases h with rfl | rfl | rfl<;>decide),if_neg (by rcases h with rfl | rfl | rfl<;>decide),if_pos h]
theorem anewV_own {n:Row} (h1:¬ (n=kFN\/n=kNOTE\/n=kUID)) (h2:¬ (n=kCAT\/n=kNICK)) (h3:¬ (n=kN\/n=kORG\/n=kADR)) (v:Row):anewV n v=some v:=by
  unfold anewV;rw [if_neg h1,if_neg h2,if_neg h3]
def five (n v:Row):Bool:=!decide (n=kN) || decide (((fields v).getD []).length=5)
theorem anew_eq (n v:Row):(∀ x,anewV n v=some x->(anew n v).1=x)/\(anew n v).2=((anewV n v).isSome && five n v):=by
  unfold anew
  by_cases h1:n=kFN\/n=kNOTE\/n=kUID
  · rw [if_pos ((among_FN n).2 h1),anewV_text h1]
    have h5:five n v=true:=by
      have:n≠kN:=by rcases h1 with rfl | rfl | rfl<;>decide
      unfold five;simp [this]
    rw [h5]
    cases text v<;>simp
  · rw [if_neg (fun h=>h1 ((among_FN n).1 h))]
    by_cases h2:n=kCAT\/n=kNICK
    · rw [if_pos ((among_CAT n).2 h2),anewV_list h2]
      have h5:five n v=true:=by
        have:n≠kN:=by rcases h2 with rfl | rfl<;>decide
        unfold five;simp [this]
      rw [h5]
      cases list v<;>simp
    · rw [if_neg (fun h=>h2 ((among_CAT n).1 h))]
      by_cases h3:n=kN\/n=kORG\/n=kADR
      · rw [if_pos ((among_N n).2 h3),anewV_fields h3]
        unfold five
        have e:kN=[78]:=rfl
        rw [e]
        cases Va.fields v with
        | none=>simp
        | some x=>by_cases h:n=[78]<;>simp [h]
      · rw [if_neg (fun h=>h3 ((among_N n).1 h)),anewV_own h1 h2 h3]
        have:n≠kN:=fun e=>h3 (.inl e)
        simp [five,this]
def kindB (v:Row):Bool:=decide (Ch.low v=k1\/Ch.low v=k2\/Ch.low v=k3\/Ch.low v=k4)
def okV (n v:Row):Bool:=(anewV n v).isSome && (if n=kN then decide (((fields v).getD []).length=5) else if n=kUID then !decide ((text v).getD []=[]) else if n=kKIND then kindB v else true)
end Ca
end Go.Proofs.YtobfaibofhmpgaaGreatDoor
