import Derived.Laws.IdiomRangeMap
import Derived.Laws.Rows
import GoSem.Op.String
set_option linter.unusedVariables false
namespace Go.Proofs.YtobfaibofhmpgaaGreatDoor.Ca
abbrev RowB:=List UInt8
def lt (x y:RowB):Bool:=Op.bytesLess x y
theorem lt_nil (x:RowB):lt x []=false:=by cases x<;>rfl
theorem lt_nil_cons (b:UInt8) (y:RowB):lt [] (b :: y)=true:=rfl
theorem lt_cons (a b:UInt8) (x y:RowB):lt (a :: x) (b :: y)=(decide (a < b) || (a==b && lt x y)):=rfl
theorem lt_irrefl:∀ x:RowB,lt x x=false
  | []=>rfl
  | a :: x=>by
    rw [lt_cons,lt_irrefl x,decide_eq_false (UInt8.lt_irrefl a)]
    simp
theorem lt_trans:∀ x y z:RowB,lt x y=true->lt y z=true->lt x z=true
  | x,y,[],h1,h2=>by rw [lt_nil] at h2;cases h2
  | x,[],c :: z,h1,h2=>by rw [lt_nil] at h1;cases h1
  | [],b :: y,c :: z,_,_=>rfl
  | a :: x,b :: y,c :: z,h1,h2=>by
    rw [lt_cons,Bool.or_eq_true,Bool.and_eq_true,decide_eq_true_eq,beq_iff_eq] at h1 h2 ⊢
    rcases h1 with h1 | ⟨rfl,h1⟩<;>rcases h2 with h2 | ⟨rfl,h2⟩
    · exact .inl (UInt8.lt_trans h1 h2)
    · exact .inl h1
    · exact .inl h2
    · exact .inr ⟨rfl,lt_trans x y z h1 h2⟩
theorem lt_or:∀ x y:RowB,lt x y=false->lt y x=false->x=y
  | [],[],_,_=>rfl
  | [],b :: y,h,_=>by rw [lt_nil_cons] at h;cases h
  | a :: x,[],_,h=>by rw [lt_nil_cons] at h;cases h
  | a :: x,b :: y,h1,h2=>by
    rw [lt_cons,Bool.or_eq_false_iff,Bool.and_eq_false_iff,decide_eq_false_iff_not] at h1 h2
    have e:a=b:=by
      apply UInt8.toNat_inj.1
      have g1:=h1.1
      have g2:=h2.1
      rw [UInt8.lt_iff_toNat_lt] at g1 g2
      omega
    subst e
    have k1:lt x y=false:=by rcases h1.2 with h | h;exact absurd h (by simp);exact h
    have k2:lt y x=false:=by rcases h2.2 with h | h;exact absurd h (by simp);exact h
    rw [lt_or x y k1 k2]
theorem lt_asymm (x y:RowB) (h:lt x y=true):lt y x=false:=by
  cases hc:lt y x with
  | false=>rfl
  | true=>have:=lt_trans x y x h hc;rw [lt_irrefl] at this;cases this
theorem lt_of_not (x y z:RowB) (h1:lt y x=false) (h2:lt y z=true):lt x z=true:=by
  cases hc:lt x z with
  | true=>rfl
  | false =>
    cases hd:lt z x with
    | true=>have:=lt_trans y z x h2 hd;rw [h1] at this;cases this
    | false=>have:=lt_or x z hc hd;rw [this,h2] at h1;cases h1
variable {α:Type} (key:α->RowB)
def Sorted (s:List α):Prop:=s.Pairwise fun a b=>lt (key b) (key a)=false
theorem head_of_filter {s:List α} {a b:α} {t:List α} (h:(a :: s).filter (fun x=>decide (key x=key a))=(b :: t).filter (fun x=>decide (key x=key a))) (hb:key b=key a):a=b/\s.filter (fun x=>decide (key x=key a))=t.filter (fun x=>decide (key x=key a)):=by
  rw [List.filter_cons_of_pos (by simp),List.filter_cons_of_pos (by simpa using hb)] at h
  exact List.cons.inj h
theorem sorted_uniq:∀ (s t:List α),Sorted key s->Sorted key t->(∀ m,s.filter (fun x=>decide (key x=m))=t.filter (fun x=>decide (key x=m)))->s=t
  | [],[],_,_,_=>rfl
  | [],b :: t,_,_,h=>by
    have:=h (key b)
    rw [List.filter_cons_of_pos (by simp)] at this
    cases this
  | a :: s,[],_,_,h=>by
    have:=h (key a)
    rw [List.filter_cons_of_pos (by simp)] at this
    cases this
  | a :: s,b :: t,hs,ht,h=>by
    have hs1:=List.pairwise_cons.1 hs
    have ht1:=List.pairwise_cons.1 ht
    have ha:a∈b :: t:=by
      have:a∈(a :: s).filter (fun x=>decide (key x=key a)):=by rw [List.filter_cons_of_pos (by simp)];simp
      rw [h (key a)] at this
      exact (List.mem_filter.1 this).1
    have hb:b∈a :: s:=by
      have:b∈(b :: t).filter (fun x=>decide (key x=key b)):=by rw [List.filter_cons_of_pos (by simp)];simp
      rw [<-h (key b)] at this
      exact (List.mem_filter.1 this).1
    have e:key b=key a:=by
      rcases List.mem_cons.1 ha with ha | ha
      · rw [ha]
      · rcases List.mem_cons.1 hb with hb | hb
        · rw [hb]
        · exact lt_or _ _ (hs1.1 b hb) (ht1.1 a ha)
    obtain ⟨rfl,h2⟩:=head_of_filter key (h (key a)) e
    rw [sorted_uniq s t hs1.2 ht1.2 (fun m=>by
      by_cases hm:key a=m
      · subst hm;exact h2
      · have:=h m
        rwa [List.filter_cons_of_neg (by simpa using hm),List.filter_cons_of_neg (by simpa using hm)] at this)]
def pick (last:RowB) (xs:List α):Option RowB:=xs.foldl (fun acc x=>if lt last (key x) && (match acc with | none=>true | some m=>lt (key x) m) then some (key x) else acc) none
theorem pick_acc (last:RowB):∀ (xs:List α) (acc:Option RowB),(∀ m,acc=some m->lt last m=true)->
    match xs.foldl (fun acc x=>if lt last (key x) && (match acc with | none=>true | some m=>lt (key x) m) then some (key x) else acc) acc with
    | none=>acc=none/\∀ x∈xs,lt last (key x)=false
    | some m=>(acc=some m\/∃ x∈xs,key x=m)/\lt last m=true/\(∀ k,acc=some k->lt k m=false)/\∀ x∈xs,lt last (key x)=true->lt (key x) m=false
  | [],acc,h=>by
    cases acc with
    | none=>exact ⟨rfl,fun x hx=>by cases hx⟩
    | some m=>exact ⟨.inl rfl,h m rfl,fun k hk=>by cases hk;exact lt_irrefl _,fun x hx=>by cases hx⟩
  | x :: xs,acc,h=>by
    rw [List.foldl_cons]
    by_cases hx:lt last (key x)=true
    · cases acc with
      | none =>
        have ih:=pick_acc last xs (some (key x)) (fun m hm=>by cases hm;exact hx)
        simp only [hx,Bool.true_and,if_true]
        split at ih
        · exact absurd ih.1 (by simp)
        · obtain ⟨i1,i2,i3,i4⟩:=ih
          refine ⟨.inr ?_,i2,fun k hk=>(by cases hk),fun y hy hl=>?_⟩
          · rcases i1 with i1 | ⟨y,hy,e⟩
            · exact ⟨x,by simp,Option.some.inj i1⟩
            · exact ⟨y,by simp [hy],e⟩
          · rcases List.mem_cons.1 hy with rfl | hy
            · exact i3 _ rfl
            · exact i4 y hy hl
      | some m0 =>
        cases hc:lt (key x) m0 with
        | true =>
          have ih:=pick_acc last xs (some (key x)) (fun m hm=>by cases hm;exact hx)
          simp only [hx,hc,Bool.true_and,if_true]
          split at ih
          · exact absurd ih.1 (by simp)
          · obtain ⟨i1,i2,i3,i4⟩:=ih
            refine ⟨.inr ?_,i2,fun k hk=>?_,fun y hy hl=>?_⟩
            · rcases i1 with i1 | ⟨y,hy,e⟩
              · exact ⟨x,by simp,Option.some.inj i1⟩
              · exact ⟨y,by simp [hy],e⟩
            · cases hk
              cases hd:lt m0 _ with
              | false=>rfl
              | true=>have:=lt_trans _ _ _ hc hd;rw [i3 _ rfl] at this;cases this
            · rcases List.mem_cons.1 hy with rfl | hy
              · exact i3 _ rfl
              · exact i4 y hy hl
        | false =>
          have ih:=pick_acc last xs (some m0) h
          simp only [hx,hc,Bool.and_false,Bool.false_eq_true,if_false]
          split at ih
          · exact absurd ih.1 (by simp)
          · obtain ⟨i1,i2,i3,i4⟩:=ih
            refine ⟨?_,i2,i3,fun y hy hl=>?_⟩
            · rcases i1 with i1 | ⟨y,hy,e⟩
              · exact .inl i1
              · exact .inr ⟨y,by simp [hy],e⟩
            · rcases List.mem_cons.1 hy with rfl | hy
              · rename_i m _
                have h3:=i3 _ rfl
                cases hd:lt (key y) m with
                | false=>rfl
                | true=>have:=lt_of_not m0 (key y) m hc hd;rw [h3] at this;cases this
              · exact i4 y hy hl
    · have hx':lt last (key x)=false:=by simpa using hx
      have ih:=pick_acc last xs acc h
      simp only [hx',Bool.false_and,Bool.false_eq_true,if_false]
      split at ih
      · refine ⟨ih.1,fun y hy=>?_⟩
        rcases List.mem_cons.1 hy with rfl | hy
        · exact hx'
        · exact ih.2 y hy
      · obtain ⟨i1,i2,i3,i4⟩:=ih
        refine ⟨?_,i2,i3,fun y hy hl=>?_⟩
        · rcases i1 with i1 | ⟨y,hy,e⟩
          · exact .inl i1
          · exact .inr ⟨y,by simp [hy],e⟩
        · rcases List.mem_cons.1 hy with rfl | hy
          · rw [hx'] at hl;cases hl
          · exact i4 y hy hl
theorem pick_none {last:RowB} {xs:List α} (h:pick key last xs=none):∀ x∈xs,lt last (key x)=false:=by
  have:=pick_acc key last xs none (fun m hm=>by cases hm)
  unfold pick at h
  rw [h] at this
  exact this.2
theorem pick_some {last m:RowB} {xs:List α} (h:pick key last xs=some m):(∃ x∈xs,key x=m)/\lt last m=true/\∀ x∈xs,lt last (key x)=true->lt (key x) m=false:=by
  have:=pick_acc key last xs none (fun m hm=>by cases hm)
  unfold pick at h
  rw [h] at this
  obtain ⟨i1,i2,_,i4⟩:=this
  refine ⟨?_,i2,i4⟩
  rcases i1 with i1 | i1
  · cases i1
  · exact i1
def riseF:Nat->RowB->List α->List α
  | 0,_,_=>[]
  | f+1,last,xs=>match pick key last xs with
    | none=>[]
    | some m=>xs.filter (fun x=>decide (key x=m))++riseF f m xs
theorem count_less {last m:RowB} {xs:List α} (h:pick key last xs=some m):xs.countP (fun x=>lt m (key x)) < xs.countP (fun x=>lt last (key x)):=by
  obtain ⟨⟨x,hx,e⟩,h2,_⟩:=pick_some key h
  have hle:∀ y,lt m (key y)=true->lt last (key y)=true:=fun y hy=>lt_trans _ _ _ h2 hy
  obtain ⟨a,b,rfl⟩:=List.append_of_mem hx
  simp only [List.countP_append,List.countP_cons]
  have h3:lt m (key x)=false:=by rw [e];exact lt_irrefl _
  have h4:lt last (key x)=true:=by rw [e];exact h2
  rw [h3,h4]
  have i1:=List.countP_mono_left (l:=a) (p:=fun y=>lt m (key y)) (q:=fun y=>lt last (key y)) (fun y _ hy=>hle y hy)
  have i2:=List.countP_mono_left (l:=b) (p:=fun y=>lt m (key y)) (q:=fun y=>lt last (key y)) (fun y _ hy=>hle y hy)
  simp
  omega
theorem rise_spec:∀ (f:Nat) (last:RowB) (xs:List α),xs.countP (fun x=>lt last (key x))<=f->
    Sorted key (riseF key f last xs)/\(∀ y∈riseF key f last xs,lt last (key y)=true)/\∀ m,(riseF key f last xs).filter (fun x=>decide (key x=m))=if lt last m=true then xs.filter (fun x=>decide (key x=m)) else []
  | 0,last,xs,h=>by
    refine ⟨List.Pairwise.nil,fun y hy=>(by cases hy),fun m=>?_⟩
    have h0:=List.countP_eq_zero.1 (Nat.le_zero.1 h)
    show []=_
    by_cases hm:lt last m=true
    · rw [if_pos hm]
      symm
      rw [List.filter_eq_nil_iff]
      intro x hx e
      have e:key x=m:=by simpa using e
      exact h0 x hx (by rw [e];exact hm)
    · rw [if_neg hm]
  | f + 1,last,xs,h=>by
    unfold riseF
    cases hp:pick key last xs with
    | none =>
      have hn:=pick_none key hp
      refine ⟨List.Pairwise.nil,fun y hy=>(by cases hy),fun m=>?_⟩
      show []=_
      by_cases hm:lt last m=true
      · rw [if_pos hm]
        symm
        rw [List.filter_eq_nil_iff]
        intro x hx e
        have e:key x=m:=by simpa using e
        have:=hn x hx
        rw [e,hm] at this
        cases this
      · rw [if_neg hm]
    | some m =>
      obtain ⟨_,h2,h3⟩:=pick_some key hp
      have hc:=count_less key hp
      obtain ⟨i1,i2,i3⟩:=rise_spec f m xs (by omega)
      dsimp only
      have hmem:∀ y∈xs.filter (fun x=>decide (key x=m)),key y=m:=fun y hy=>by simpa using (List.mem_filter.1 hy).2
      refine ⟨?_,fun y hy=>?_,fun k=>?_⟩
      · refine List.pairwise_append.2 ⟨?_,i1,fun a ha b hb=>?_⟩
        · refine List.Pairwise.imp_of_mem (R:=fun _ _=>True) (fun {a b} ha hb _=>by rw [hmem a ha,hmem b hb];exact lt_irrefl _) ?_
          exact List.pairwise_of_forall (fun _ _=>trivial)
        · rw [hmem a ha];exact lt_asymm _ _ (i2 b hb)
      · rcases List.mem_append.1 hy with hy | hy
        · rw [hmem y hy];exact h2
        · exact lt_trans _ _ _ h2 (i2 y hy)
      · rw [List.filter_append,i3 k,List.filter_filter]
        by_cases hk:k=m
        · subst hk
          rw [lt_irrefl,if_pos h2,if_neg (by simp),List.append_nil]
          congr 1
          funext x
          simp
        · have e0:xs.filter (fun x=>decide (key x=k) && decide (key x=m))=[]:=by
            rw [List.filter_eq_nil_iff]
            intro x _ e
            simp only [Bool.and_eq_true,decide_eq_true_eq] at e
            exact hk (e.1.symm.trans e.2)
          rw [e0,List.nil_append]
          by_cases h1:lt m k=true
          · rw [if_pos h1,if_pos (lt_trans _ _ _ h2 h1)]
          · rw [if_neg h1]
            split
            · rename_i h5
              symm
              rw [List.filter_eq_nil_iff]
              intro x hx e
              have e:key x=k:=by simpa using e
              have h6:=h3 x hx (by rw [e];exact h5)
              rw [e] at h6
              exact hk (lt_or _ _ h6 (by simpa using h1))
            · rfl
end Go.Proofs.YtobfaibofhmpgaaGreatDoor.Ca
