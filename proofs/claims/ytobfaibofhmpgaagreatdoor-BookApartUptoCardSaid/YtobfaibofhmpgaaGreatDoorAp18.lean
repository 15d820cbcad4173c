import Derived.Test.YtobfaibofhmpgaaGreatDoorAp17
set_option linter.unusedVariables false
set_option maxHeartbeats 4000000
set_option maxRecDepth 1000000
namespace Go.Proofs.YtobfaibofhmpgaaGreatDoor.Ca
open Go.Shelf Go.RowKit Go.Lib Go.Sort
variable {P:Program} {α:Type} [Inhabited α] {k:Nat} {enc:α->List Value} {key:α->RowB} {cf:α->α->Int} {g:Nat} {cb:Array Value} {blk off len:Nat} {d0:Array α} {w0:World}
structure InsAt (key:α->RowB) (X X1:List α) (t:Nat):Prop where
  l:X1.length=min t X.length
  s:Sorted key X1
  e:Same key X1 (X.take t)
omit [Inhabited α] in
theorem InsAt.start (X:List α):InsAt key X (X.take 1) 1:=⟨by simp,by
  rcases X with _ | ⟨x,X⟩
  · exact List.Pairwise.nil
  · simp [Sorted],Same.refl key _⟩
omit [Inhabited α] in
theorem InsAt.next {X X1:List α} {t u:Nat} (h:InsAt key X X1 t) (ht:t < X.length) (hu:u<=t) (h1:∀ q:0 < u,lt (key X[t]) (key (X1[u - 1]'(by have:=h.l;omega)))=false) (h2:∀ q:u < t,lt (key X[t]) (key (X1[u]'(by have:=h.l;omega)))=true) :
    InsAt key X (X1.take u++X[t] :: X1.drop u) (t+1):=by
  have hl:=h.l
  have e:=ins_right key X[t] X1 u h.s (by omega) h1 (fun q=>h2 (by omega))
  refine ⟨by simp;omega,?_,?_⟩
  · rw [<-e]
    exact mrg_sorted key h.s (by simp [Sorted])
  · rw [<-e,List.take_succ_eq_append_getElem ht]
    exact (mrg_same key h.s).trans key (fun m=>by simp only [List.filter_append];rw [h.e m])
theorem ins_srt (L:SrtP P k) (H:SrtR P k enc key cf g cb blk off len d0 w0) (cap a b:Nat) (w:World) (PX X S:List α) (ha:a=PX.length) (hb:b=a+X.length) (hl:PX.length+X.length+S.length=len) (S0:SWK enc k w0 blk off (PX++(X++S)).toArray w) :
    Calls P 229 #[.slice (some ⟨blk,off,none⟩) len cap,.int .i64 a,.int .i64 b,.func (.func g) #[] cb] w fun e w'=>e=.returned (.tuple #[])/\∃ X',X'.length=X.length/\Sorted key X'/\Same key X' X/\SWK enc k w0 blk off (PX++(X'++S)).toArray w':=by
  have mixed:=L.mixed;have t0:=L.t0;have a0:=L.a0;have z0:=L.z0;have v0:=L.v0;have t3:=L.t3;have a3:=L.a3;have z3:=L.z3;have v3:=L.v3;have tU:=L.tU;have aU:=L.aU;have zU:=L.zU;have uU:=run_underlying L.tU;have u3:=run_underlying L.t3;have t4:=L.t4;have a4:=L.a4;have z4:=L.z4;have v4:=L.v4;have tS:=L.tS;have aS:=L.aS;have zS:=L.zS;have vS:=L.vS;have tC:=L.tC;have aC:=L.aC;have zC:=L.zC;have aE:=L.aE;have zE:=L.zE
  have FG:=L.fIns
  have eg:=H.eg
  have hs:=H.hs
  have hlen:=H.hsz
  have S0:Aside (SWK enc k w0 blk off (PX++(X.take 1++(X.drop 1++S))).toArray w):=by
    show SWK _ _ _ _ _ _ _;rw [<-List.append_assoc (X.take 1),List.take_append_drop];exact S0
  have SIZ:Aside (∀ (X1:List α) (t u:Nat) (x:α),t < X.length->X1.length=min t X.length->(PX++(X1.take u++x :: (X1.drop u++(X.drop (t+1)++S)))).toArray.size=len):=fun X1 t u x h1 h2=>by
    simp;omega
  have HSW:Aside (∀ (X1:List α) (t u:Nat) (x:α) (q:Nat),u < X1.length->q=a+u->swp (PX++(X1.take (u+1)++x :: (X1.drop (u+1)++(X.drop (t+1)++S)))).toArray (q+1) q=(PX++(X1.take u++x :: (X1.drop u++(X.drop (t+1)++S)))).toArray):=fun X1 t u x q h1 h2 =>
    swp_down PX X1 (X.drop (t+1)++S) x u q (q+1) h1 (by omega) (by omega)
  have GX:Aside (∀ (X1:List α) (t u:Nat) (x:α) (q:Nat),u<=X1.length->q=a+u->(PX++(X1.take u++x :: (X1.drop u++(X.drop (t+1)++S)))).toArray[q]! = x):=fun X1 t u x q h1 h2=>by
    have:=get_at (PX++X1.take u) (X1.drop u++(X.drop (t+1)++S)) x q (by simp;omega)
    rw [List.append_assoc] at this
    exact this
  have GP:Aside (∀ (X1:List α) (t u:Nat) (x:α) (q:Nat) (h:u < X1.length),q=a+u->(PX++(X1.take (u+1)++x :: (X1.drop (u+1)++(X.drop (t+1)++S)))).toArray[q]! = X1[u]):=fun X1 t u x q h h2=>by
    have:=get_at (PX++X1.take u) (x :: (X1.drop (u+1)++(X.drop (t+1)++S))) X1[u] q (by simp;omega)
    rw [List.take_succ_eq_append_getElem h]
    simp only [List.append_assoc,List.cons_append,List.nil_append] at this ⊢
    exact this
  have NX:Aside (∀ (X1:List α) (t u:Nat) (h:t < X.length) (W:World),SWK enc k w0 blk off (PX++(X1.take u++X[t] :: (X1.drop u++(X.drop (t+1)++S)))).toArray W->SWK enc k w0 blk off (PX++((X1.take u++X[t] :: X1.drop u)++(X.drop (t+1)++S))).toArray W):=fun X1 t u h W hS=>by
    rw [List.append_assoc,List.cons_append];exact hS
  have DX:Aside (∀ (X1:List α) (t:Nat) (h:t < X.length) (W:World),X1.length=t->SWK enc k w0 blk off (PX++(X1++(X.drop t++S))).toArray W->SWK enc k w0 blk off (PX++(X1.take t++X[t] :: (X1.drop t++(X.drop (t+1)++S)))).toArray W):=fun X1 t h W hl hS=>by
    rw [List.take_of_length_le (by omega),List.drop_eq_nil_of_le (by omega),List.nil_append]
    rw [List.drop_eq_getElem_cons h,List.cons_append] at hS
    exact hS
  have XT:Aside (∀ (X1:List α) (t:Nat) (W:World),X.length<=t->X1.length=min t X.length->Sorted key X1->Same key X1 (X.take t)->SWK enc k w0 blk off (PX++(X1++(X.drop t++S))).toArray W->∃ X',X'.length=X.length/\Sorted key X'/\Same key X' X/\SWK enc k w0 blk off (PX++(X'++S)).toArray W):=fun X1 t W h1 h2 h3 h4 h5=>by
    rw [List.take_of_length_le h1] at h4
    rw [List.drop_eq_nil_of_le h1,List.nil_append] at h5
    exact ⟨X1,by omega,h3,h4,h5⟩
  have IS:Aside (InsAt key X (X.take 1) 1):=InsAt.start X
  have b1':b<=a+X.length:=by omega
  have b2':a+X.length<=b:=by omega
  have bl:b<=len:=by omega
  clear ha hb hl L
  go_enter FG,Tryz.ntmps229
  go_wp2
  go_loopg [8] (b - a) (fun kx s8 wr=>∃ (i t:Nat) (X1:List α),s8=.int .i64 i/\i<=a+t/\a+t<=i/\1<=t/\b+1 - i<=kx+1/\i<=b+1/\Aside (InsAt key X X1 t)/\Aside (SWK enc k w0 blk off (PX++(X1++(X.drop t++S))).toArray wr))
  case atStart=>exact ⟨a+1,1,X.take 1,by go_num,Nat.le_refl _,Nat.le_refl _,Nat.le_refl _,by omega,by omega,IS,S0⟩
  case round =>
    clear S0 IS
    obtain ⟨i,t,X1,rfl,hi1,hi2,ht1,hkx,hib,IA,S1⟩:=hrel
    by_cases hlt:i < b
    · have hltz:(i:Int) < (b:Int):=by omega
      have htX:t < X.length:=by omega
      obtain ⟨x,hx⟩:∃ x,X[t]'htX=x:=⟨_,rfl⟩
      have hl1:X1.length=min t X.length:=IA.out.l
      have hl2:X1.length<=t:=by omega
      have hl3:t<=X1.length:=by omega
      have S2:Aside (SWK enc k w0 blk off (PX++(X1.take t++x :: (X1.drop t++(X.drop (t+1)++S)))).toArray wr):=by
        have:=DX.out X1 t htX wr (by omega) S1.out
        rw [hx] at this
        exact this
      -- out of the inner loop
      have OUT:Aside (∀ (u:Nat) (W:World) (hu:u<=t),(∀ h:0 < u,lt (key x) (key (X1[u - 1]'(by omega)))=false)->(∀ h:u < t,lt (key x) (key (X1[u]'(by omega)))=true)->SWK enc k w0 blk off (PX++(X1.take u++x :: (X1.drop u++(X.drop (t+1)++S)))).toArray W->
          ∃ X2:List α,InsAt key X X2 (t+1)/\SWK enc k w0 blk off (PX++(X2++(X.drop (t+1)++S))).toArray W):=fun u W hu h1 h2 h3=>by
        subst hx
        exact ⟨_,IA.out.next htX hu h1 h2,NX.out X1 t u htX W h3⟩
      clear S1
      go_wp2
      go_loopg [9] i (fun g2 s9 wr=>∃ (j u:Nat),s9=.int .i64 j/\j<=a+u/\a+u<=j/\u<=t/\j<=g2/\Aside (∀ h:u < t,lt (key x) (key (X1[u]'(by omega)))=true)/\Aside (SWK enc k w0 blk off (PX++(X1.take u++x :: (X1.drop u++(X.drop (t+1)++S)))).toArray wr))
      case atStart=>exact ⟨i,t,rfl,hi1,hi2,Nat.le_refl _,Nat.le_refl _,(show ∀ h:t < t,_ from fun h=>absurd h (Nat.lt_irrefl _)),S2⟩
      case round =>
        clear S2
        obtain ⟨j,u,rfl,hj1,hj2,hut,hg2,HB,S3⟩:=hrel
        by_cases hja:a < j
        · obtain ⟨q,rfl⟩:∃ q,j=q+1:=⟨j - 1,by omega⟩
          obtain ⟨v,rfl⟩:∃ v,u=v+1:=⟨u - 1,by omega⟩
          have hjaz:(a:Int) < (q:Int)+1:=by omega
          have hv:v < X1.length:=by omega
          obtain ⟨p,hp⟩:∃ p,X1[v]'hv=p:=⟨_,rfl⟩
          have hsz:=SIZ.out X1 t (v+1) x htX hl1
          have gx:=GX.out X1 t (v+1) x (q+1) (by omega) (by omega)
          have gp:=GP.out X1 t v x q hv (by omega)
          rw [hp] at gp
          have hst:=HSW.out X1 t v x q hv (by omega)
          obtain ⟨D,hD⟩:∃ D,(PX++(X1.take (v+1)++x :: (X1.drop (v+1)++(X.drop (t+1)++S)))).toArray=D:=⟨_,rfl⟩
          have S1:Aside (SWK enc k w0 blk off D wr):=by
            have:=S3.out
            rw [hD] at this
            exact this
          rw [hD] at hsz gx gp hst
          have HD:Aside (D=(PX++(X1.take (v+1)++x :: (X1.drop (v+1)++(X.drop (t+1)++S)))).toArray):=hD.symm
          clear S3 hD
          have p0:(0:Int)<=(q:Int)+1:=by omega
          have e0:((q:Int)+1).toNat=q+1:=by omega
          have z0':(q:Int)+1 < (len:Int):=by omega
          have z1':(q:Int) < (len:Int):=by omega
          have hwp:IntKind.i64.wrap (q:Int)=(q:Int):=by rw [IntKind.wrap_i64];omega
          have l1:=S1.out.ld H.R (by omega) P (q+1) (by omega)
          have l2:=S1.out.ld H.R (by omega) P (q) (by omega)
          rw [gx] at l1
          rw [gp] at l2
          have hcg:=S1.out.cmp H.hC (by omega) x p
          have S3:Aside (∀ n os,SWK enc k w0 blk off D (grow (wr.drewN n) os)):=fun n os=>S1.out.grown n os
          cases hc:lt (key x) (key p) with
          | true =>
            have hlv:=H.less hc
            have hlw:=decide_eq_true hlv
            go_wp2_with fail
            go_quiet_grown (first | (go_at_fn g;refine Calls.grown_of (hcg _ _)))
            clear l1 l2 hcg
            have S4:Aside (SWK enc k w0 blk off D (grow (wr.drewN nq) osq)):=S3.out nq osq
            clear S3 S1
            generalize grow (wr.drewN nq) osq=w2 at S4 ⊢
            have S6:Aside (SWK enc k w0 blk off (swp D (q+1) q) ((w2.drew.setCells blk (off+(q+1)*k) (enc D[q]!)).setCells blk (off+q*k) (enc D[q+1]!))):=S4.out.swapped H.R (q+1) q (by omega) (by omega)
            have l1:=S4.out.ld1 H.R (by omega) P q (by omega)
            have l2:=S4.out.ld1 H.R (by omega) P (q+1) (by omega)
            have s1:=S4.out.st1 H.R (by omega) P (q+1) (by omega) D[q]!
            have s2:=S4.out.st2 H.R (by omega) P (q+1) q (by omega) (by omega) D[q]! D[q+1]!
            have n1:(enc D[q]!).length=k:=H.R.hk _
            have n2:(enc D[q+1]!).length=k:=H.R.hk _
            generalize enc D[q]! = cI at S6 l1 s1 s2 n1
            generalize enc D[q+1]! = cJ at S6 l2 s2 n2
            rw [hst] at S6
            have HB2:Aside (∀ h:v < t,lt (key x) (key (X1[v]'(by omega)))=true):=(show ∀ h:v < t,_ from fun h=>by rw [hp];exact hc)
            clear S4 hst hc hp gx gp HD
            go_wp2_with fail
            go_big_region_o
            all_goals clear l1 l2 s1 s2
            all_goals generalize (w2.drew.setCells blk (off+(q+1)*k) cI).setCells blk (off+q*k) cJ=w3 at S6 ⊢
            all_goals go_wp2
            go_roundg q
            case measure=>omega
            case rel=>exact ⟨q,v,by first | rfl | go_num | (congr 1;omega),by omega,by omega,by omega,Nat.le_refl _,HB2,S6⟩
          | false =>
            have hlv:=H.notless hc
            have hlw:=decide_eq_false hlv
            have OU:Aside (∀ W,SWK enc k w0 blk off D W->∃ X2:List α,InsAt key X X2 (t+1)/\SWK enc k w0 blk off (PX++(X2++(X.drop (t+1)++S))).toArray W):=fun W hW =>
              OUT.out (v+1) W hut (fun _=>by simp only [Nat.add_sub_cancel];rw [hp];exact hc) HB.out (by rw [HD.out] at hW;exact hW)
            clear HB hc hp gx gp HD OUT hst
            go_wp2_with fail
            go_quiet_grown (first | (go_at_fn g;refine Calls.grown_of (hcg _ _)))
            clear l1 l2 hcg
            obtain ⟨X2,IA2,S5⟩:=OU.out _ (S3.out nq osq)
            have IA2':Aside (InsAt key X X2 (t+1)):=IA2
            have S5':Aside (SWK enc k w0 blk off (PX++(X2++(X.drop (t+1)++S))).toArray (grow (wr.drewN nq) osq)):=S5
            clear S3 S1 OU IA2 S5
            generalize grow (wr.drewN nq) osq=w2 at S5' ⊢
            go_wp2
            go_roundg (b - (i+1))
            case measure=>omega
            case rel=>exact ⟨i+1,t+1,X2,by go_num,by omega,by omega,by omega,by omega,by omega,IA2',S5'⟩
        · have hjaz:decide ((j:Int) > (a:Int))=false:=decide_eq_false (by omega)
          have hjaz':¬ (a:Int) < (j:Int):=by omega
          obtain rfl:u=0:=by omega
          have OU:Aside (∀ W,SWK enc k w0 blk off (PX++(X1.take 0++x :: (X1.drop 0++(X.drop (t+1)++S)))).toArray W->∃ X2:List α,InsAt key X X2 (t+1)/\SWK enc k w0 blk off (PX++(X2++(X.drop (t+1)++S))).toArray W):=fun W hW =>
            OUT.out 0 W hut (fun h=>absurd h (Nat.lt_irrefl _)) HB.out hW
          obtain ⟨X2,IA2,S5⟩:=OU.out _ S3.out.drew
          have IA2':Aside (InsAt key X X2 (t+1)):=IA2
          have S5':Aside (SWK enc k w0 blk off (PX++(X2++(X.drop (t+1)++S))).toArray wr.drew):=S5
          clear S3 OU IA2 S5 HB OUT
          go_wp2_with fail
          go_big_region_o
          all_goals go_wp2
          go_roundg (b - (i+1))
          case measure=>omega
          case rel=>exact ⟨i+1,t+1,X2,by go_num,by omega,by omega,by omega,by omega,by omega,IA2',S5'⟩
    · have hltz:¬ (i:Int) < (b:Int):=by omega
      have hfin:=XT.out X1 t wr (by omega) IA.out.l IA.out.s IA.out.e S1.out
      have HF:Aside (∃ X',X'.length=X.length/\Sorted key X'/\Same key X' X/\SWK enc k w0 blk off (PX++(X'++S)).toArray wr):=hfin
      clear hfin S1 IA XT NX DX
      go_wp2
      go_end0
      exact ⟨rfl,HF.out⟩
end Go.Proofs.YtobfaibofhmpgaaGreatDoor.Ca
