import Derived.Test.YtobfaibofhmpgaaGreatDoorAp15
import Derived.Sort.Lot0
import Derived.Shelf.SlSortCmp.KitK
import Derived.Deep.LoopGhost
set_option linter.unusedVariables false
set_option maxHeartbeats 8000000
set_option maxRecDepth 100000
namespace Go.Proofs.YtobfaibofhmpgaaGreatDoor
namespace Ca
open Go.Lib Go.RowKit
open Li (LD PD sv LineAt PrmsAt pr chk SmallL)
def checkE (Ls:List LD):Nat:=match Ls.find? (fun L=>decide (chk L≠0)) with
  | some L=>chk L
  | none=>if rightB Ls=true then 0 else 50
theorem checkE_bad {Ls:List LD} {k:Nat} {L:LD} (h:Ls[k]?=some L) (hall:∀ M∈Ls.take k,chk M=0) (hc:chk L≠0):checkE Ls=chk L:=by
  have hlk:k < Ls.length:=(List.getElem?_eq_some_iff.1 h).1
  have hd:Ls=Ls.take k++L :: Ls.drop (k+1):=by
    have:=List.getElem?_eq_some_iff.1 h
    conv=>lhs;rw [<-List.take_append_drop k Ls,List.drop_eq_getElem_cons hlk,this.2]
  have hf:Ls.find? (fun L=>decide (chk L≠0))=some L:=by
    rw [hd,List.find?_append,List.find?_eq_none.2 (fun M hM=>by simp [hall M hM])]
    simp [hc]
  unfold checkE;rw [hf]
theorem checkE_ok {Ls:List LD} (hall:∀ M∈Ls,chk M=0):checkE Ls=if rightB Ls=true then 0 else 50:=by
  have hf:Ls.find? (fun L=>decide (chk L≠0))=none:=List.find?_eq_none.2 (fun M hM=>by simp [hall M hM])
  unfold checkE;rw [hf]
structure SmallC (Ls:List LD):Prop where
  n:Ls.length<=1099511627776
  s:∀ L∈Ls,SmallL L
  p:∀ L∈Ls,(pr L).length<=68719476736
  m:∀ L∈Ls,L.name.length<=281474976710656/\L.value.length<=268435456
theorem check_any (v:Value) (Ls:List LD) (w:World) (h:LinesAt w v Ls) (hS:SmallC Ls) (hT:Ch.Tabs w) :
    Calls Tryz.prog 144 #[.agg #[v]] w fun e w'=>e=.returned (.int .i64 ((checkE Ls:Nat):Int))/\Below w.heap.size w w':=by
  have hR:∀ W,Below w.heap.size w W->Calls Tryz.prog 115 #[.agg #[v]] W fun e w'=>e=.returned (.bool (rightB Ls))/\Below W.heap.size W w':=fun W hW=>right_any v Ls W (h.kept hW) hS.m hS.n
  have hR':=Lib.hid hR
  clear hR
  obtain ⟨A,b,off,c,rfl,h1,h2,h3,h4⟩:=h
  obtain ⟨n,hn⟩:∃ n,Ls.length=n:=⟨_,rfl⟩
  have hlen:=hS.n
  rw [hn] at h1 h3 hlen hR' ⊢
  unfold maxLen at h2
  have hn':=Lib.hid hn
  have h3':=Lib.hid h3
  have h4':=Lib.hid h4
  have hS':=Lib.hid hS
  have hT':=Lib.hid hT
  have B0:Below w.heap.size w (w.alloc (.cells #[.slice A n c] 143)):=(Below.refl _ _).alloc (Nat.le_refl _) _
  have hbox:∀ W,Below (w.alloc (.cells #[.slice A n c] 143)).heap.size (w.alloc (.cells #[.slice A n c] 143)) W->W.cell? ⟨w.heap.size,0,none⟩=some (.slice A n c):=fun W hW =>
    (hW.cell (p:=⟨w.heap.size,0,none⟩) (by simp)).trans (by simp)
  have hbox':=Lib.hid hbox
  clear hn h3 h4 hS hT hbox
  go_enter Tryz.func144,Tryz.ntmps144
  go_wp2
  obtain ⟨w1,hw1⟩:∃ w1,w.alloc (.cells #[.slice A n c] 143)=w1:=⟨_,rfl⟩
  rw [hw1] at B0 hbox' ⊢
  clear hw1
  go_loopw [10] (fun s11 wr=>∃ k:Nat,s11=.int .i64 (k:Int)/\k<=n/\(∀ M∈Ls.take k,chk M=0)/\Below w1.heap.size w1 wr) (fun s11 wr=>n - (RowKit.intOf s11).toNat)
  case atStart=>exact ⟨0,rfl,Nat.zero_le _,fun L hL=>by simp at hL,Below.refl _ _⟩
  case round =>
    obtain ⟨k,rfl,hk,hall,hbw1⟩:=hrel
    have hbw:Below w.heap.size w wr:=belowThen B0 hbw1
    by_cases hlt:k < n
    · have hl:Ls[k]?=some (Ls[k]'(by have:=hn'.out;omega)):=List.getElem?_eq_getElem _
      obtain ⟨L,hle⟩:∃ L,Ls[k]'(by have:=hn'.out;omega)=L:=⟨_,rfl⟩
      have hmem:L∈Ls:=by rw [<-hle];exact List.getElem_mem _
      rw [hle] at hl
      obtain ⟨rfl,hg⟩:=h3'.out (by omega)
      obtain ⟨a1,a2,a4,pA,pn,pc,e1,e2,e4,hpn,hpp,g0,g1,g2,g3⟩:=LinesAt.line h4'.out hg hbw hl
      have hLat:LineAt wr (.agg #[.string a1,.string a2,.slice pA pn pc,.string a4]) L:=⟨.slice pA pn pc,by rw [e1,e2,e4],hpp⟩
      have hbx:Below wr.heap.size wr (wr.alloc (.cells #[.string a1,.string a2,.slice pA pn pc,.string a4] 203)):=(Below.refl _ _).alloc (Nat.le_refl _) _
      have hprl:=hS'.out.p L hmem
      have cP:=Li.print_any _ L _ (hLat.kept hbx) (hS'.out.s L hmem) (by omega) (Ch.tabs_below hT'.out (belowThen hbw hbx))
      have hlk:k < Ls.length:=(List.getElem?_eq_some_iff.1 hl).1
      obtain ⟨ce,hce⟩:∃ ce,chk L=ce:=⟨_,rfl⟩
      by_cases hc:ce=0
      · have hall2:∀ M∈Ls.take (k+1),chk M=0:=fun M hM=>by
          rw [List.take_succ_eq_append_getElem hlk] at hM
          rcases List.mem_append.1 hM with hM | hM
          · exact hall M hM
          · rw [List.mem_singleton.1 hM,hle,hce];exact hc
        have hall2':=Lib.hid hall2
        have cP2:=cP.mono (fun e w' h=>(show (∃ s:ByteArray,e=.returned (.tuple #[.string s,.int .i64 0]))/\Below (wr.alloc (.cells #[.string a1,.string a2,.slice pA pn pc,.string a4] 203)).heap.size (wr.alloc (.cells #[.string a1,.string a2,.slice pA pn pc,.string a4] 203)) w' from ⟨by
          rcases h.1 with ⟨h,_⟩ | ⟨_,s,_,h⟩
          · exact absurd (hce.trans hc) h
          · exact ⟨s,h⟩,h.2⟩))
        clear hle hl hmem e1 e2 e4 hpn hpp hLat hall2 hall cP hce hc hlk hprl
        go_wp2_with fail
        go_at_call 165
        refine cP2.mono ?_
        rintro e w3 ⟨⟨s,rfl⟩,hb3⟩
        have hB3:=belowThen (belowThen hbw1 hbx) hb3
        clear cP2
        go_wp2
        go_roundw
        case rel=>exact ⟨k+1,by go_num,by omega,hall2'.out,hB3⟩
        case measure=>simp [RowKit.intOf];omega
      · have HO:=Lib.hid (checkE_bad hl hall (by rw [hce];exact hc))
        rw [hce] at HO
        have cP2:=cP.mono (fun e w' h=>(show e=.returned (.tuple #[.string ⟨#[]⟩,.int .i64 (ce:Int)])/\Below (wr.alloc (.cells #[.string a1,.string a2,.slice pA pn pc,.string a4] 203)).heap.size (wr.alloc (.cells #[.string a1,.string a2,.slice pA pn pc,.string a4] 203)) w' from ⟨by
          rcases h.1 with ⟨_,h⟩ | ⟨h,_⟩
          · rw [hce] at h;exact h
          · exact absurd (hce.symm.trans h) hc,h.2⟩))
        have d0:¬ (ce:Int)=0:=by omega
        have d0':((ce:Int)==0)=false:=beq_eq_false_iff_ne.2 d0
        clear hle hl hmem e1 e2 e4 hpn hpp hLat hall cP hce hc hlk hprl
        go_wp2_with fail
        go_at_call 165
        refine cP2.mono ?_
        rintro e w3 ⟨rfl,hb3⟩
        have hB3:=belowThen (belowThen hbw hbx) hb3
        clear cP2
        go_wp2
        go_ret
        exact ⟨by rw [HO.out]<;>rfl,hB3⟩
    · obtain rfl:k=n:=by omega
      have htk:Ls.take k=Ls:=List.take_of_length_le (by have:=hn'.out;omega)
      rw [htk] at hall
      have hbc:=hbox'.out wr hbw1
      have cR:=hR'.out wr hbw
      have hco:=checkE_ok hall
      cases hr:rightB Ls with
      | true =>
        rw [hr] at hco cR
        have HO:=Lib.hid (hco.trans (by rfl):checkE Ls=0)
        clear htk hall hco hr
        go_wp2_with (go_at_call 115;refine cR.mono ?_;rintro e w3 ⟨rfl,hb3⟩)
        go_ret
        exact ⟨by rw [HO.out]<;>rfl,belowThen hbw hb3⟩
      | false =>
        rw [hr] at hco cR
        have HO:=Lib.hid (hco.trans (by rfl):checkE Ls=50)
        clear htk hall hco hr
        go_wp2_with (go_at_call 115;refine cR.mono ?_;rintro e w3 ⟨rfl,hb3⟩)
        go_ret
        exact ⟨by rw [HO.out]<;>rfl,belowThen hbw hb3⟩
end Ca
namespace Ca
variable {α:Type} (key:α->RowB)
def mrg:List α->List α->List α
  | [],ys=>ys
  | x :: xs,[]=>x :: xs
  | x :: xs,y :: ys=>if lt (key y) (key x)=true then y :: mrg (x :: xs) ys else x :: mrg xs (y :: ys)
termination_by xs ys=>xs.length+ys.length
theorem mrg_nil (ys:List α):mrg key [] ys=ys:=by unfold mrg;rfl
theorem mrg_right (xs:List α):mrg key xs []=xs:=by cases xs<;>(unfold mrg;rfl)
theorem mrg_lt {x y:α} (xs ys:List α) (h:lt (key y) (key x)=true):mrg key (x :: xs) (y :: ys)=y :: mrg key (x :: xs) ys:=by rw [mrg];exact if_pos h
theorem mrg_ge {x y:α} (xs ys:List α) (h:lt (key y) (key x)=false):mrg key (x :: xs) (y :: ys)=x :: mrg key xs (y :: ys):=by rw [mrg];exact if_neg (by simp [h])
theorem mrg_length:∀ (n:Nat) (xs ys:List α),xs.length+ys.length<=n->(mrg key xs ys).length=xs.length+ys.length
  | n,[],ys,_=>by rw [mrg_nil];simp
  | n,x :: xs,[],_=>by rw [mrg_right];simp
  | 0,x :: xs,y :: ys,h=>by simp at h
  | n+1,x :: xs,y :: ys,h=>by
    simp at h
    cases hc:lt (key y) (key x) with
    | true=>rw [mrg_lt key xs ys hc,List.length_cons,mrg_length n (x :: xs) ys (by simp;omega)];simp;omega
    | false=>rw [mrg_ge key xs ys hc,List.length_cons,mrg_length n xs (y :: ys) (by simp;omega)];simp;omega
theorem mrg_len (xs ys:List α):(mrg key xs ys).length=xs.length+ys.length:=mrg_length key _ xs ys (Nat.le_refl _)
theorem mrg_mem':∀ (n:Nat) (xs ys:List α),xs.length+ys.length<=n->∀ a,a∈mrg key xs ys->a∈xs\/a∈ys
  | n,[],ys,_,a,h=>by rw [mrg_nil] at h;exact .inr h
  | n,x :: xs,[],_,a,h=>by rw [mrg_right] at h;exact .inl h
  | 0,x :: xs,y :: ys,hl,_,_=>by simp at hl
  | n + 1,x :: xs,y :: ys,hl,a,h=>by
    simp at hl
    cases hc:lt (key y) (key x) with
    | true =>
      rw [mrg_lt key xs ys hc] at h
      rcases List.mem_cons.1 h with rfl | h
      · exact .inr (by simp)
      · rcases mrg_mem' n (x :: xs) ys (by simp;omega) a h with h | h
        · exact .inl h
        · exact .inr (by simp [h])
    | false =>
      rw [mrg_ge key xs ys hc] at h
      rcases List.mem_cons.1 h with rfl | h
      · exact .inl (by simp)
      · rcases mrg_mem' n xs (y :: ys) (by simp;omega) a h with h | h
        · exact .inl (by simp [h])
        · exact .inr h
theorem mrg_mem {xs ys:List α} {a:α} (h:a∈mrg key xs ys):a∈xs\/a∈ys:=mrg_mem' key _ xs ys (Nat.le_refl _) a h
theorem mrg_split':∀ (n:Nat) (u1 u2 v1 v2:List α),u1.length+v1.length<=n->(∀ x∈u2,∀ y∈v1,lt (key y) (key x)=true)->(∀ x∈u1,∀ y∈v2,lt (key y) (key x)=false)->
    mrg key (u1++u2) (v1++v2)=mrg key u1 v1++mrg key u2 v2
  | n,[],u2,[],v2,_,_,_=>by simp [mrg_nil]
  | n,[],[],y :: v1,v2,_,_,_=>by simp [mrg_nil]
  | n,[],x :: u2,y :: v1,v2,hl,h1,h2=>by
    have hc:=h1 x (by simp) y (by simp)
    rw [List.nil_append,List.cons_append,mrg_lt key u2 _ hc,mrg_nil]
    have:n≠0:=by simp at hl;omega
    have ih:=mrg_split' (n - 1) [] (x :: u2) v1 v2 (by simp at hl ⊢;omega) (fun a ha b hb=>h1 a ha b (by simp [hb])) (fun a ha=>by cases ha)
    rw [List.nil_append,mrg_nil] at ih
    rw [ih];rfl
  | n,x :: u1,u2,[],[],_,_,_=>by simp [mrg_right]
  | n,x :: u1,u2,[],y :: v2,hl,h1,h2=>by
    have hc:=h2 x (by simp) y (by simp)
    rw [List.nil_append,List.cons_append,mrg_ge key _ _ hc,mrg_right]
    have:n≠0:=by simp at hl;omega
    have ih:=mrg_split' (n - 1) u1 u2 [] (y :: v2) (by simp at hl ⊢;omega) (fun a ha b hb=>by cases hb) (fun a ha b hb=>h2 a (by simp [ha]) b hb)
    rw [List.nil_append,mrg_right] at ih
    rw [ih];rfl
  | n,x :: u1,u2,y :: v1,v2,hl,h1,h2=>by
    have hn:n≠0:=by simp at hl;omega
    simp only [List.cons_append]
    cases hc:lt (key y) (key x) with
    | true =>
      rw [mrg_lt key _ _ hc,mrg_lt key _ _ hc]
      have ih:=mrg_split' (n - 1) (x :: u1) u2 v1 v2 (by simp at hl ⊢;omega) (fun a ha b hb=>h1 a ha b (by simp [hb])) h2
      rw [List.cons_append] at ih
      rw [ih];rfl
    | false =>
      rw [mrg_ge key _ _ hc,mrg_ge key _ _ hc]
      have ih:=mrg_split' (n - 1) u1 u2 (y :: v1) v2 (by simp at hl ⊢;omega) h1 (fun a ha b hb=>h2 a (by simp [ha]) b hb)
      rw [List.cons_append] at ih
      rw [ih];rfl
theorem mrg_split {u1 u2 v1 v2:List α} (h1:∀ x∈u2,∀ y∈v1,lt (key y) (key x)=true) (h2:∀ x∈u1,∀ y∈v2,lt (key y) (key x)=false):mrg key (u1++u2) (v1++v2)=mrg key u1 v1++mrg key u2 v2:=mrg_split' key _ u1 u2 v1 v2 (Nat.le_refl _) h1 h2
theorem mrg_one_left {x:α} {v1 v2:List α} (h1:∀ y∈v1,lt (key y) (key x)=true) (h2:∀ y∈v2,lt (key y) (key x)=false):mrg key [x] (v1++v2)=v1++x :: v2:=by
  have e1:=mrg_split key (u1:=[]) (u2:=[x]) (v1:=v1) (v2:=v2) (fun a ha b hb=>by rw [List.mem_singleton.1 ha];exact h1 b hb) (fun a ha=>by cases ha)
  have e2:=mrg_split key (u1:=[x]) (u2:=[]) (v1:=[]) (v2:=v2) (fun a ha=>by cases ha) (fun a ha b hb=>by rw [List.mem_singleton.1 ha];exact h2 b hb)
  simp only [List.nil_append,List.append_nil,mrg_nil,mrg_right] at e1 e2
  rw [e1,e2];rfl
theorem mrg_one_right {y:α} {u1 u2:List α} (h1:∀ x∈u1,lt (key y) (key x)=false) (h2:∀ x∈u2,lt (key y) (key x)=true):mrg key (u1++u2) [y]=u1++y :: u2:=by
  have e1:=mrg_split key (u1:=u1) (u2:=u2) (v1:=[]) (v2:=[y]) (fun a ha b hb=>by cases hb) (fun a ha b hb=>by rw [List.mem_singleton.1 hb];exact h1 a ha)
  have e2:=mrg_split key (u1:=[]) (u2:=u2) (v1:=[y]) (v2:=[]) (fun a ha b hb=>by rw [List.mem_singleton.1 hb];exact h2 a ha) (fun a ha=>by cases ha)
  simp only [List.nil_append,List.append_nil,mrg_nil,mrg_right] at e1 e2
  rw [e1,e2];rfl
theorem lt_lt_le {y f x:RowB} (h1:lt y f=true) (h2:lt x f=false):lt y x=true:=by
  cases hc:lt y x with
  | true=>rfl
  | false=>have:=lt_of_not x y f hc h1;rw [h2] at this;cases this
theorem lt_far {y l f x:RowB} (h1:lt l y=false) (h2:lt l f=true) (h3:lt x f=false):lt y x=true:=lt_lt_le (lt_of_not _ _ _ h1 h2) h3
theorem le_far {u l f v:RowB} (h1:lt l u=false) (h2:lt f l=false) (h3:lt v f=false):lt v u=false:=by
  cases hc:lt v u with
  | false=>rfl
  | true=>have:=lt_of_not f v l h3 (lt_lt_le hc h1);rw [h2] at this;cases this
theorem mrg_sorted':∀ (n:Nat) (xs ys:List α),xs.length+ys.length<=n->Sorted key xs->Sorted key ys->Sorted key (mrg key xs ys)
  | n,[],ys,_,_,h=>by rw [mrg_nil];exact h
  | n,x :: xs,[],_,h,_=>by rw [mrg_right];exact h
  | 0,x :: xs,y :: ys,hl,_,_=>by simp at hl
  | n + 1,x :: xs,y :: ys,hl,h1,h2=>by
    simp at hl
    have g1:=List.pairwise_cons.1 h1
    have g2:=List.pairwise_cons.1 h2
    cases hc:lt (key y) (key x) with
    | true =>
      rw [mrg_lt key xs ys hc]
      refine List.pairwise_cons.2 ⟨fun z hz=>?_,mrg_sorted' n (x :: xs) ys (by simp;omega) h1 g2.2⟩
      rcases mrg_mem key hz with hz | hz
      · rcases List.mem_cons.1 hz with rfl | hz
        · exact lt_asymm _ _ hc
        · cases hd:lt (key z) (key y) with
          | false=>rfl
          | true=>have:=lt_trans _ _ _ hd hc;rw [g1.1 z hz] at this;cases this
      · exact g2.1 z hz
    | false =>
      rw [mrg_ge key xs ys hc]
      refine List.pairwise_cons.2 ⟨fun z hz=>?_,mrg_sorted' n xs (y :: ys) (by simp;omega) g1.2 h2⟩
      rcases mrg_mem key hz with hz | hz
      · exact g1.1 z hz
      · rcases List.mem_cons.1 hz with rfl | hz
        · exact hc
        · cases hd:lt (key z) (key x) with
          | false=>rfl
          | true=>have:=lt_lt_le hd hc;rw [g2.1 z hz] at this;cases this
theorem mrg_sorted {xs ys:List α} (h1:Sorted key xs) (h2:Sorted key ys):Sorted key (mrg key xs ys):=mrg_sorted' key _ xs ys (Nat.le_refl _) h1 h2
theorem mrg_filter':∀ (n:Nat) (xs ys:List α),xs.length+ys.length<=n->Sorted key xs->∀ m,(mrg key xs ys).filter (fun x=>decide (key x=m))=xs.filter (fun x=>decide (key x=m))++ys.filter (fun x=>decide (key x=m))
  | n,[],ys,_,_,m=>by rw [mrg_nil];rfl
  | n,x :: xs,[],_,_,m=>by rw [mrg_right];simp
  | 0,x :: xs,y :: ys,hl,_,_=>by simp at hl
  | n + 1,x :: xs,y :: ys,hl,h1,m=>by
    simp at hl
    have g1:=List.pairwise_cons.1 h1
    cases hc:lt (key y) (key x) with
    | true =>
      rw [mrg_lt key xs ys hc]
      have ih:=mrg_filter' n (x :: xs) ys (by simp;omega) h1 m
      by_cases hm:key y=m
      · have e0:(x :: xs).filter (fun x=>decide (key x=m))=[]:=by
          rw [List.filter_eq_nil_iff]
          intro z hz e
          have e:key z=m:=by simpa using e
          rcases List.mem_cons.1 hz with rfl | hz
          · rw [e,<-hm,lt_irrefl] at hc;cases hc
          · have:=lt_lt_le hc (g1.1 z hz)
            rw [e,<-hm,lt_irrefl] at this;cases this
        rw [List.filter_cons_of_pos (by simpa using hm),ih,e0,List.nil_append,List.nil_append,List.filter_cons_of_pos (by simpa using hm)]
      · rw [List.filter_cons_of_neg (by simpa using hm),ih,List.filter_cons_of_neg (a:=y) (by simpa using hm)]
    | false =>
      rw [mrg_ge key xs ys hc]
      have ih:=mrg_filter' n xs (y :: ys) (by simp;omega) g1.2 m
      by_cases hm:key x=m
      · rw [List.filter_cons_of_pos (by simpa using hm),ih,List.filter_cons_of_pos (a:=x) (by simpa using hm)];rfl
      · rw [List.filter_cons_of_neg (by simpa using hm),ih,List.filter_cons_of_neg (a:=x) (by simpa using hm)]
def Same (s t:List α):Prop:=∀ m,s.filter (fun x=>decide (key x=m))=t.filter (fun x=>decide (key x=m))
theorem Same.refl (s:List α):Same key s s:=fun _=>rfl
theorem Same.trans {s t u:List α} (h1:Same key s t) (h2:Same key t u):Same key s u:=fun m=>(h1 m).trans (h2 m)
theorem Same.ctx {s t:List α} (h:Same key s t) (P S:List α):Same key (P++(s++S)) (P++(t++S)):=fun m=>by simp only [List.filter_append];rw [h m]
theorem mrg_same {xs ys:List α} (h1:Sorted key xs):Same key (mrg key xs ys) (xs++ys):=fun m=>by rw [mrg_filter' key _ xs ys (Nat.le_refl _) h1 m,List.filter_append]
theorem sorted_at {L:List α} (h:Sorted key L) {i j:Nat} (hij:i<=j) (hj:j < L.length):lt (key L[j]) (key (L[i]'(by omega)))=false:=by
  rcases Nat.lt_or_ge i j with h1 | h1
  · exact List.pairwise_iff_getElem.1 h i j (by omega) hj h1
  · have:i=j:=by omega
    subst this
    exact lt_irrefl _
theorem sorted_take {L:List α} (h:Sorted key L) (k:Nat):Sorted key (L.take k):=List.Pairwise.sublist (List.take_sublist k L) h
theorem sorted_drop {L:List α} (h:Sorted key L) (k:Nat):Sorted key (L.drop k):=List.Pairwise.sublist (List.drop_sublist k L) h
theorem mem_take_le {L:List α} (h:Sorted key L) {k:Nat} (hk:0 < k) (hl:k<=L.length) {y:α} (hy:y∈L.take k):lt (key (L[k - 1]'(by omega))) (key y)=false:=by
  obtain ⟨i,hi,rfl⟩:=List.getElem_of_mem hy
  rw [List.length_take] at hi
  rw [List.getElem_take]
  exact sorted_at key h (by omega) (by omega)
theorem mem_drop_ge {L:List α} (h:Sorted key L) {k:Nat} (hl:k < L.length) {y:α} (hy:y∈L.drop k):lt (key y) (key L[k])=false:=by
  obtain ⟨i,hi,rfl⟩:=List.getElem_of_mem hy
  rw [List.length_drop] at hi
  rw [List.getElem_drop]
  exact sorted_at key h (by omega) (by omega)
theorem mrg_cut {X Y:List α} (hX:Sorted key X) (hY:Sorted key Y) (i j:Nat) (hi:i<=X.length) (hj:j<=Y.length)
    (h1:∀ (a:0 < j) (b:i < X.length),lt (key (Y[j - 1]'(by omega))) (key X[i])=true) (h2:∀ (a:0 < i) (b:j < Y.length),lt (key Y[j]) (key (X[i - 1]'(by omega)))=false) :
    mrg key X Y=mrg key (X.take i) (Y.take j)++mrg key (X.drop i) (Y.drop j):=by
  conv=>lhs;rw [<-List.take_append_drop i X,<-List.take_append_drop j Y]
  refine mrg_split key (fun x hx y hy=>?_) (fun x hx y hy=>?_)
  · have hj0:0 < j:=by rcases Nat.eq_zero_or_pos j with rfl | h;simp at hy;exact h
    have hi0:i < X.length:=by
      rcases Nat.lt_or_ge i X.length with h | h
      · exact h
      · rw [List.drop_eq_nil_of_le h] at hx;cases hx
    exact lt_far (mem_take_le key hY hj0 hj hy) (h1 hj0 hi0) (mem_drop_ge key hX hi0 hx)
  · have hi0:0 < i:=by rcases Nat.eq_zero_or_pos i with rfl | h;simp at hx;exact h
    have hj0:j < Y.length:=by
      rcases Nat.lt_or_ge j Y.length with h | h
      · exact h
      · rw [List.drop_eq_nil_of_le h] at hy;cases hy
    exact le_far (mem_take_le key hX hi0 hi hx) (h2 hi0 hj0) (mem_drop_ge key hY hj0 hy)
inductive Runs (bs:Nat):List α->Prop
  | last (B:List α):Sorted key B->B.length<=bs->Runs bs B
  | cons (B R:List α):Sorted key B->B.length=bs->Runs bs R->Runs bs (B++R)
theorem Runs.sorted {bs:Nat} {L:List α} (h:Runs key bs L) (hl:L.length<=bs):Sorted key L:=by
  cases h with
  | last _ h1 _=>exact h1
  | cons B R h1 h2 h3 =>
    rw [List.length_append] at hl
    have:R=[]:=List.eq_nil_of_length_eq_zero (by omega)
    rw [this,List.append_nil];exact h1
theorem Runs.one {bs:Nat} {L:List α} (h:Runs key bs L):Sorted key (L.take bs)/\Runs key bs (L.drop bs):=by
  cases h with
  | last _ h1 h2 =>
    refine ⟨sorted_take key h1 _,?_⟩
    rw [List.drop_eq_nil_of_le h2]
    exact .last [] List.Pairwise.nil (by simp)
  | cons B R h1 h2 h3 =>
    rw [<-h2,List.take_left,List.drop_left]
    exact ⟨h1,by rw [h2];exact h3⟩
end Ca
namespace Ca
open Go.Sort
section
variable {α:Type}
def rng (P X Q Y S:List α) (k:Nat):List α:=P++((Y.take k++X.drop k)++(Q++((X.take k++Y.drop k)++S)))
theorem rng_zero (P X Q Y S:List α):rng P X Q Y S 0=P++(X++(Q++(Y++S))):=by simp [rng]
theorem rng_all (P X Q Y S:List α) (n:Nat) (hx:X.length=n) (hy:Y.length=n):rng P X Q Y S n=P++(Y++(Q++(X++S))):=by
  unfold rng
  rw [List.take_of_length_le (by omega),List.drop_eq_nil_of_le (by omega),List.take_of_length_le (by omega),List.drop_eq_nil_of_le (by omega),List.append_nil,List.append_nil]
theorem rng_len (P X Q Y S:List α) (n k:Nat) (hx:X.length=n) (hy:Y.length=n) (hk:k<=n):(rng P X Q Y S k).length=P.length+n+Q.length+n+S.length:=by
  unfold rng;simp;omega
end
variable {α:Type} [Inhabited α]
theorem get_mid (P S:List α) (x:α):(P++x :: S).toArray[P.length]! = x:=by simp
theorem get_at (P S:List α) (x:α) (i:Nat) (h:i=P.length):(P++x :: S).toArray[i]! = x:=by subst h;exact get_mid P S x
theorem get_of {L:List α} {i:Nat} (h:i < L.length):L.toArray[i]! = L[i]:=by simp [h]
theorem swp_list (L:List α) (i j:Nat):(swp L.toArray i j)=((L.set i (L.toArray[j]!)).set j (L.toArray[i]!)).toArray:=by
  unfold swp
  simp
theorem swp_mid (P Q S:List α) (x y:α) (i j:Nat) (hi:i=P.length) (hj:j=P.length+1+Q.length):swp (P++x :: (Q++y :: S)).toArray i j=(P++y :: (Q++x :: S)).toArray:=by
  rw [swp_list]
  have e1:(P++x :: (Q++y :: S)).toArray[i]! = x:=get_at _ _ _ _ hi
  have e2:(P++x :: (Q++y :: S)).toArray[j]! = y:=by
    have:=get_at (P++x :: Q) S y j (by simp;omega)
    rw [List.append_assoc,List.cons_append] at this
    exact this
  rw [e1,e2]
  subst hi;subst hj
  congr 1
  rw [List.set_append_right _ _ (Nat.le_refl _),Nat.sub_self,List.set_cons_zero,List.set_append_right _ _ (by omega),show P.length+1+Q.length - P.length=Q.length+1 by omega,List.set_cons_succ,List.set_append_right _ _ (Nat.le_refl _),Nat.sub_self,List.set_cons_zero]
theorem swp_mid' (P Q S:List α) (x y:α) (i j:Nat) (hi:i=P.length) (hj:j=P.length+1+Q.length):swp (P++x :: (Q++y :: S)).toArray j i=(P++y :: (Q++x :: S)).toArray:=by
  rw [swp_list]
  have e1:(P++x :: (Q++y :: S)).toArray[i]! = x:=get_at _ _ _ _ hi
  have e2:(P++x :: (Q++y :: S)).toArray[j]! = y:=by
    have:=get_at (P++x :: Q) S y j (by simp;omega)
    rw [List.append_assoc,List.cons_append] at this
    exact this
  rw [e1,e2]
  subst hi;subst hj
  congr 1
  rw [List.set_append_right _ _ (by omega),show P.length+1+Q.length - P.length=Q.length+1 by omega,List.set_cons_succ,List.set_append_right _ _ (Nat.le_refl _),Nat.sub_self,List.set_cons_zero,List.set_append_right _ _ (Nat.le_refl _),Nat.sub_self,List.set_cons_zero]
theorem rng_step (P X Q Y S:List α) (n k i j:Nat) (hx:X.length=n) (hy:Y.length=n) (hk:k < n) (hi:i=P.length+k) (hj:j=P.length+n+Q.length+k) :
    swp (rng P X Q Y S k).toArray i j=(rng P X Q Y S (k+1)).toArray:=by
  have dx:X.drop k=X[k] :: X.drop (k+1):=List.drop_eq_getElem_cons (by omega)
  have dy:Y.drop k=Y[k] :: Y.drop (k+1):=List.drop_eq_getElem_cons (by omega)
  have tx:X.take (k+1)=X.take k++[X[k]]:=List.take_succ_eq_append_getElem (by omega)
  have ty:Y.take (k+1)=Y.take k++[Y[k]]:=List.take_succ_eq_append_getElem (by omega)
  have e:rng P X Q Y S k=(P++Y.take k)++X[k] :: ((X.drop (k+1)++(Q++X.take k))++Y[k] :: (Y.drop (k+1)++S)):=by
    unfold rng;rw [dx,dy];simp only [List.append_assoc,List.cons_append]
  rw [e,swp_mid (P++Y.take k) (X.drop (k+1)++(Q++X.take k)) (Y.drop (k+1)++S) _ _ i j (by simp;omega) (by simp;omega)]
  unfold rng;rw [tx,ty];simp only [List.append_assoc,List.cons_append,List.nil_append]
end Ca
namespace Ca
section
variable {α:Type} (key:α->RowB)
theorem ins_left (x:α) (Y:List α) (i:Nat) (hY:Sorted key Y) (hi:i<=Y.length) (h1:∀ h:0 < i,lt (key (Y[i - 1]'(by omega))) (key x)=true) (h2:∀ h:i < Y.length,lt (key Y[i]) (key x)=false) :
    mrg key [x] Y=Y.take i++x :: Y.drop i:=by
  conv=>lhs;rw [<-List.take_append_drop i Y]
  refine mrg_one_left key (fun y hy=>?_) (fun y hy=>?_)
  · have h0:0 < i:=by rcases Nat.eq_zero_or_pos i with rfl | h;simp at hy;exact h
    exact lt_of_not _ _ _ (mem_take_le key hY h0 hi hy) (h1 h0)
  · have h0:i < Y.length:=by
      rcases Nat.lt_or_ge i Y.length with h | h
      · exact h
      · rw [List.drop_eq_nil_of_le h] at hy;cases hy
    cases hc:lt (key y) (key x) with
    | false=>rfl
    | true=>have:=lt_of_not _ _ _ (mem_drop_ge key hY h0 hy) hc;rw [h2 h0] at this;cases this
theorem ins_right (y:α) (X:List α) (i:Nat) (hX:Sorted key X) (hi:i<=X.length) (h1:∀ h:0 < i,lt (key y) (key (X[i - 1]'(by omega)))=false) (h2:∀ h:i < X.length,lt (key y) (key X[i])=true) :
    mrg key X [y]=X.take i++y :: X.drop i:=by
  conv=>lhs;rw [<-List.take_append_drop i X]
  refine mrg_one_right key (fun x hx=>?_) (fun x hx=>?_)
  · have h0:0 < i:=by rcases Nat.eq_zero_or_pos i with rfl | h;simp at hx;exact h
    cases hc:lt (key y) (key x) with
    | false=>rfl
    | true=>have:=lt_lt_le hc (mem_take_le key hX h0 hi hx);rw [h1 h0] at this;cases this
  · have h0:i < X.length:=by
      rcases Nat.lt_or_ge i X.length with h | h
      · exact h
      · rw [List.drop_eq_nil_of_le h] at hx;cases hx
    exact lt_lt_le (h2 h0) (mem_drop_ge key hX h0 hx)
end
variable {α:Type} [Inhabited α] (key:α->RowB)
theorem getX (P X Y S:List α) (i:Nat) (h:i < X.length):(P++(X++(Y++S))).toArray[P.length+i]! = X[i]:=by
  rw [get_of (by simp;omega),List.getElem_append_right (by omega),List.getElem_append_left (by omega)]
  congr 1;omega
theorem getY (P X Y S:List α) (j:Nat) (h:j < Y.length):(P++(X++(Y++S))).toArray[P.length+X.length+j]! = Y[j]:=by
  rw [get_of (by simp;omega),List.getElem_append_right (by omega),List.getElem_append_right (by omega),List.getElem_append_left (by omega)]
  congr 1;omega
theorem getXn (P X Y S:List α) (n:Nat) (h0:P.length<=n) (h:n - P.length < X.length):(P++(X++(Y++S))).toArray[n]! = X[n - P.length]:=by
  have:=getX P X Y S (n - P.length) h
  rwa [show P.length+(n - P.length)=n by omega] at this
theorem getYn (P X Y S:List α) (n:Nat) (h0:P.length+X.length<=n) (h:n - (P.length+X.length) < Y.length):(P++(X++(Y++S))).toArray[n]! = Y[n - (P.length+X.length)]:=by
  have:=getY P X Y S (n - (P.length+X.length)) h
  rwa [show P.length+X.length+(n - (P.length+X.length))=n by omega] at this
theorem sym_cut (P X Y S:List α) (a m b mid n s s0 r0:Nat) (ha:a=P.length) (hm:m=a+X.length) (hb:b=m+Y.length) (hmid:mid=(a+b) / 2) (hn:n=mid+m)
    (hc:(mid < m/\s0=n - b/\r0=mid)\/(m<=mid/\s0=a/\r0=m)) (h0:s0<=s) (h1:s<=r0)
    (g1:s0 < s->lt (key (P++(X++(Y++S))).toArray[n - s]!) (key (P++(X++(Y++S))).toArray[s - 1]!)=false)
    (g2:s < r0->lt (key (P++(X++(Y++S))).toArray[n - 1 - s]!) (key (P++(X++(Y++S))).toArray[s]!)=true) (hX:Sorted key X) (hY:Sorted key Y) :
    mrg key X Y=mrg key (X.take (s - a)) (Y.take (n - s - m))++mrg key (X.drop (s - a)) (Y.drop (n - s - m)):=by
  have b1:s - a<=X.length:=by omega
  have b2:n - s - m<=Y.length:=by omega
  refine mrg_cut key hX hY _ _ b1 b2 (fun p q=>?_) (fun p q=>?_)
  · have hs:s < r0:=by omega
    have:=g2 hs
    rw [getYn P X Y S (n - 1 - s) (by omega) (by omega),getXn P X Y S s (by omega) (by omega)] at this
    simp only [<-ha,show n - 1 - s - (a+X.length)=n - s - m - 1 by omega] at this
    exact this
  · have hs:s0 < s:=by omega
    have:=g1 hs
    rw [getYn P X Y S (n - s) (by omega) (by omega),getXn P X Y S (s - 1) (by omega) (by omega)] at this
    simp only [show n - s - (P.length+X.length)=n - s - m by omega,show s - 1 - P.length=s - a - 1 by omega] at this
    exact this
theorem swp_up (P Y S:List α) (x:α) (t i j:Nat) (ht:t < Y.length) (hi:i=P.length+t) (hj:j=P.length+t+1) :
    Sort.swp (P++(Y.take t++x :: (Y.drop t++S))).toArray i j=(P++(Y.take (t+1)++x :: (Y.drop (t+1)++S))).toArray:=by
  have dy:Y.drop t=Y[t] :: Y.drop (t+1):=List.drop_eq_getElem_cons (by omega)
  have ty:Y.take (t+1)=Y.take t++[Y[t]]:=List.take_succ_eq_append_getElem (by omega)
  have e:P++(Y.take t++x :: (Y.drop t++S))=(P++Y.take t)++x :: ([]++Y[t] :: (Y.drop (t+1)++S)):=by
    rw [dy];simp only [List.append_assoc,List.cons_append,List.nil_append]
  rw [e,swp_mid (P++Y.take t) [] (Y.drop (t+1)++S) _ _ i j (by simp;omega) (by simp;omega),ty]
  simp only [List.append_assoc,List.cons_append,List.nil_append]
theorem swp_down (P X S:List α) (y:α) (t i j:Nat) (ht:t < X.length) (hi:i=P.length+t) (hj:j=P.length+t+1) :
    Sort.swp (P++(X.take (t+1)++y :: (X.drop (t+1)++S))).toArray j i=(P++(X.take t++y :: (X.drop t++S))).toArray:=by
  have dy:X.drop t=X[t] :: X.drop (t+1):=List.drop_eq_getElem_cons (by omega)
  have ty:X.take (t+1)=X.take t++[X[t]]:=List.take_succ_eq_append_getElem (by omega)
  have e:P++(X.take (t+1)++y :: (X.drop (t+1)++S))=(P++X.take t)++X[t] :: ([]++y :: (X.drop (t+1)++S)):=by
    rw [ty];simp only [List.append_assoc,List.cons_append,List.nil_append]
  rw [e,swp_mid' (P++X.take t) [] (X.drop (t+1)++S) _ _ i j (by simp;omega) (by simp;omega),dy]
  simp only [List.append_assoc,List.cons_append,List.nil_append]
end Ca
namespace Ca
open Go.Shelf Go.RowKit Go.Lib Go.Sort
structure SrtP (P:Program) (k:Nat):Prop where
  mixed:P.follows .mixedOrders=true
  fSort:P.funcs[168]?=some Tryz.f168
  fStable:P.funcs[200]?=some Tryz.f200
  fIns:P.funcs[229]?=some Tryz.f229
  fSym:P.funcs[230]?=some Tryz.f230
  fRot:P.funcs[244]?=some Tryz.f244
  fSwap:P.funcs[250]?=some Tryz.f250
  t0:P.underlying 0=some (TypeDesc.tuple #[])
  a0:∀ w,(isAgg 0).run P w=.ok false w
  z0:∀ w,(Go.sizeOf 0).run P w=.ok 1 w
  v0:∀ w,(zeroValue 0).run P w=.ok (Value.tuple #[]) w
  t3:P.underlying 3=some (TypeDesc.int IntKind.i64)
  a3:∀ w,(isAgg 3).run P w=.ok false w
  z3:∀ w,(Go.sizeOf 3).run P w=.ok 1 w
  v3:∀ w,(zeroValue 3).run P w=.ok (Value.int IntKind.i64 0) w
  tU:P.underlying 41=some (TypeDesc.int IntKind.u64)
  aU:∀ w,(isAgg 41).run P w=.ok false w
  zU:∀ w,(Go.sizeOf 41).run P w=.ok 1 w
  t4:P.underlying 4=some (TypeDesc.bool)
  a4:∀ w,(isAgg 4).run P w=.ok false w
  z4:∀ w,(Go.sizeOf 4).run P w=.ok 1 w
  v4:∀ w,(zeroValue 4).run P w=.ok (Value.bool false) w
  tS:P.underlying 141=some (TypeDesc.slice 203)
  aS:∀ w,(isAgg 141).run P w=.ok false w
  zS:∀ w,(Go.sizeOf 141).run P w=.ok 1 w
  vS:∀ w,(zeroValue 141).run P w=.ok (Value.slice none 0 0) w
  tC:P.underlying 232=some (TypeDesc.func #[203,203] #[3] false)
  aC:∀ w,(isAgg 232).run P w=.ok false w
  zC:∀ w,(Go.sizeOf 232).run P w=.ok 1 w
  aE:∀ w,(isAgg 203).run P w=.ok true w
  zE:∀ w,(Go.sizeOf 203).run P w=.ok k w
theorem srtP:SrtP Tryz.prog 4 where
  mixed:=by kernel_rfl
  fSort:=Tryz.func168
  fStable:=Tryz.func200
  fIns:=Tryz.func229
  fSym:=Tryz.func230
  fRot:=Tryz.func244
  fSwap:=Tryz.func250
  t0:=Tryz.underlying0
  a0:=fun w=>by kernel_rfl
  z0:=fun w=>by kernel_rfl
  v0:=fun w=>by kernel_rfl
  t3:=Tryz.underlying3
  a3:=fun w=>by kernel_rfl
  z3:=fun w=>by kernel_rfl
  v3:=fun w=>by kernel_rfl
  tU:=Tryz.underlying41
  aU:=fun w=>by kernel_rfl
  zU:=fun w=>by kernel_rfl
  t4:=Tryz.underlying4
  a4:=fun w=>by kernel_rfl
  z4:=fun w=>by kernel_rfl
  v4:=fun w=>by kernel_rfl
  tS:=Tryz.underlying141
  aS:=fun w=>by kernel_rfl
  zS:=fun w=>by kernel_rfl
  vS:=fun w=>by kernel_rfl
  tC:=Tryz.underlying232
  aC:=fun w=>by kernel_rfl
  zC:=fun w=>by kernel_rfl
  aE:=fun w=>by kernel_rfl
  zE:=fun w=>by kernel_rfl
end Ca
end Go.Proofs.YtobfaibofhmpgaaGreatDoor
