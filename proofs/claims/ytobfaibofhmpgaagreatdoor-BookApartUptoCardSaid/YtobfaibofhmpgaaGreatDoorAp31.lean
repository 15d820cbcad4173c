import Derived.Test.YtobfaibofhmpgaaGreatDoorAp30
set_option linter.unusedVariables false
set_option maxHeartbeats 4000000
set_option maxRecDepth 1000000
namespace Go.Proofs.YtobfaibofhmpgaaGreatDoor
namespace Bs
open Ca
open Go.Shelf Go.RowKit Go.Lib Go.Sort
variable {P:Program} {α:Type} [Inhabited α] {k:Nat} {enc:α->List Value} {key:α->RowB} {cf:α->α->Int} {g:Nat} {cb:Array Value} {blk off len:Nat} {d0:Array α} {w0:World}
structure SrtR (P:Program) (k:Nat) (enc:α->List Value) (key:α->RowB) (cf:α->α->Int) (g:Nat) (cb:Array Value) (blk off len:Nat) (d0:Array α) (w0:World):Prop where
  R:RowK enc k w0 blk off d0
  hs:d0.size=len
  hC:CmpLays P g cb enc k cf blk off len w0
  hcf:∀ x y,decide (cf x y < 0)=lt (key x) (key y)
  eg:∀ args w,(callFunc g args).run P w=.ok (.enter g args) w
  hsz:len < 4611686018427387904
theorem SrtR.less (H:SrtR P k enc key cf g cb blk off len d0 w0) {x y:α} (h:lt (key x) (key y)=true):cf x y < 0:=by
  rw [<-H.hcf] at h;exact of_decide_eq_true h
theorem SrtR.notless (H:SrtR P k enc key cf g cb blk off len d0 w0) {x y:α} (h:lt (key x) (key y)=false):¬ cf x y < 0:=by
  rw [<-H.hcf] at h;exact of_decide_eq_false h
theorem symLeft_srt (L:SrtP P k) (H:SrtR P k enc key cf g cb blk off len d0 w0) (cap a m b:Nat) (w:World) (PX Y S:List α) (x:α) (ha:a=PX.length) (hm:m=a+1) (hb:b=m+Y.length) (hY:Sorted key Y) (hl:PX.length+1+Y.length+S.length=len)
    (S0:SWK enc k w0 blk off (PX++([x]++(Y++S))).toArray w):Calls P 172 #[.slice (some ⟨blk,off,none⟩) len cap,.int .i64 a,.int .i64 m,.int .i64 b,.func (.func g) #[] cb] w fun e w'=>e=.returned (.tuple #[])/\SWK enc k w0 blk off (PX++(mrg key [x] Y++S)).toArray w':=by
  have mixed:=L.mixed;have t0:=L.t0;have a0:=L.a0;have z0:=L.z0;have v0:=L.v0;have t3:=L.t3;have a3:=L.a3;have z3:=L.z3;have v3:=L.v3;have tU:=L.tU;have aU:=L.aU;have zU:=L.zU;have uU:=run_underlying L.tU;have u3:=run_underlying L.t3;have t4:=L.t4;have a4:=L.a4;have z4:=L.z4;have v4:=L.v4;have tS:=L.tS;have aS:=L.aS;have zS:=L.zS;have vS:=L.vS;have tC:=L.tC;have aC:=L.aC;have zC:=L.zC;have aE:=L.aE;have zE:=L.zE
  have FG:=L.fSym
  have eg:=H.eg
  obtain ⟨D,hD⟩:∃ D,(PX++([x]++(Y++S))).toArray=D:=⟨_,rfl⟩
  have hsz:D.size=len:=by rw [<-hD];simp;omega
  have hs:=H.hs
  have hlen:=H.hsz
  have hx:D[a]! = x:=by rw [<-hD,List.singleton_append];exact Ca.get_at _ _ _ _ ha
  have hy:∀ (i:Nat) (h0:m<=i) (h1:i - m < Y.length),D[i]! = Y[i - m]:=fun i h0 h1=>by
    rw [<-hD,getYn PX [x] Y S i (by simp;omega) (by simp;omega)];congr 1;simp;omega
  have HIN:Aside (∀ i,m<=i->i<=b->(m < i->lt (key D[i - 1]!) (key x)=true)->(i < b->lt (key D[i]!) (key x)=false)->mrg key [x] Y=Y.take (i - m)++x :: Y.drop (i - m)):=fun i h0 h1 h2 h3 =>
    ins_left key x Y (i - m) hY (by omega) (fun h=>by have:=h2 (by omega);rw [hy (i - 1) (by omega) (by omega)] at this;simpa [show i - 1 - m=i - m - 1 by omega] using this) (fun h=>by have:=h3 (by omega);rw [hy i (by omega) (by omega)] at this;exact this)
  have HSW:Aside (∀ q,a<=q->q - a < Y.length->swp (PX++(Y.take (q - a)++x :: (Y.drop (q - a)++S))).toArray q (q+1)=(PX++(Y.take (q+1 - a)++x :: (Y.drop (q+1 - a)++S))).toArray):=fun q h0 h1=>by
    have:=swp_up PX Y S x (q - a) q (q+1) h1 (by omega) (by omega)
    rw [show q - a+1=q+1 - a by omega] at this
    exact this
  have HSZ:Aside (∀ t,(PX++(Y.take t++x :: (Y.drop t++S))).toArray.size=len):=fun t=>by simp;omega
  have S0:Aside (SWK enc k w0 blk off D w):=by rw [hD] at S0;exact S0
  have HD:Aside (D=(PX++(Y.take (a - a)++x :: (Y.drop (a - a)++S))).toArray):=by show _=_;rw [<-hD];simp
  have e1:(m:Int) - (a:Int)=1:=by omega
  have bl:b<=len:=by omega
  have am:a+1<=m:=by omega
  have ma:m<=a+1:=by omega
  have mb:m<=b:=by omega
  have yb:Y.length+m<=b:=by omega
  have by':b<=Y.length+m:=by omega
  clear hD hy hY ha hm hb hl L
  go_enter FG,Tryz.ntmps172
  go_wp2
  go_loopg [10,11] (b - m) (fun kx s10 s11 wr=>∃ i j:Nat,s10=.int .i64 i/\s11=.int .i64 j/\m<=i/\i<=j/\j<=b/\j - i<=kx/\Aside (SWK enc k w0 blk off D wr)/\Aside ((m < i->lt (key D[i - 1]!) (key x)=true)/\(j < b->lt (key D[j]!) (key x)=false)))
  case atStart=>exact ⟨m,b,rfl,rfl,Nat.le_refl _,mb,Nat.le_refl _,Nat.le_refl _,S0,(show _/\_ from ⟨fun h=>absurd h (Nat.lt_irrefl _),fun h=>absurd h (Nat.lt_irrefl _)⟩)⟩
  case round =>
    clear S0
    obtain ⟨i,j,rfl,rfl,hmi,hij,hjb,hkx,S1,I⟩:=hrel
    by_cases hlt:i < j
    · have hltz:(i:Int) < (j:Int):=by omega
      obtain ⟨h,hh⟩:∃ h:Nat,h=(i+j) / 2:=⟨_,rfl⟩
      have eh:((i:Int)+(j:Int)) / 2=(h:Int):=by omega
      have h1:i<=h:=by omega
      have h2:h < j:=by omega
      obtain ⟨y,hy⟩:∃ y,D[h]! = y:=⟨_,rfl⟩
      have b1:(h:Int) < (len:Int):=by omega
      have b2:(a:Int) < (len:Int):=by omega
      have l1:=S1.out.ld H.R (by omega) P (h) (by omega)
      have l2:=S1.out.ld H.R (by omega) P (a) (by omega)
      rw [hy] at l1
      rw [hx] at l2
      have hcg:=S1.out.cmp H.hC (by omega) y x
      have S3:Aside (∀ n os,SWK enc k w0 blk off D (grow (wr.drewN n) os)):=fun n os=>S1.out.grown n os
      clear hh
      cases hc:lt (key y) (key x) with
      | true =>
        have hlv:=H.less hc
        have hlw:=decide_eq_true hlv
        have I2:Aside ((m < h+1->lt (key D[h+1 - 1]!) (key x)=true)/\(j < b->lt (key D[j]!) (key x)=false)):=⟨fun _=>by rw [Nat.add_sub_cancel,hy];exact hc,I.out.2⟩
        clear S1 I hc hy
        go_wp2_with fail
        go_quiet_grown (first | (go_at_fn g;refine Calls.grown_of (hcg _ _)))
        clear l1 l2 hcg
        have S4:Aside (SWK enc k w0 blk off D (grow (wr.drewN nq) osq)):=S3.out nq osq
        clear S3
        generalize grow (wr.drewN nq) osq=w2 at S4 ⊢
        go_wp2
        go_roundg (j - (h+1))
        case measure=>omega
        case rel=>exact ⟨h+1,j,by go_num,rfl,by omega,by omega,hjb,Nat.le_refl _,S4,I2⟩
      | false =>
        have hlv:=H.notless hc
        have hlw:=decide_eq_false hlv
        have I2:Aside ((m < i->lt (key D[i - 1]!) (key x)=true)/\(h < b->lt (key D[h]!) (key x)=false)):=⟨I.out.1,fun _=>by rw [hy];exact hc⟩
        clear S1 I hc hy
        go_wp2_with fail
        go_quiet_grown (first | (go_at_fn g;refine Calls.grown_of (hcg _ _)))
        clear l1 l2 hcg
        have S4:Aside (SWK enc k w0 blk off D (grow (wr.drewN nq) osq)):=S3.out nq osq
        clear S3
        generalize grow (wr.drewN nq) osq=w2 at S4 ⊢
        go_wp2
        go_roundg (h - i)
        case measure=>omega
        case rel=>exact ⟨i,h,rfl,by first | rfl | go_num,hmi,h1,by omega,Nat.le_refl _,S4,I2⟩
    · have hltz:¬ (i:Int) < (j:Int):=by omega
      obtain rfl:j=i:=by omega
      have hmr:=HIN.out j hmi hjb I.out.1 I.out.2
      have HM:Aside (mrg key [x] Y=Y.take (j - m)++x :: Y.drop (j - m)):=hmr
      have S2:Aside (SWK enc k w0 blk off (PX++(Y.take (a - a)++x :: (Y.drop (a - a)++S))).toArray wr):=by
        show SWK _ _ _ _ _ _ _;rw [<-HD.out];exact S1.out
      clear hmr I S1 HIN HD hx hsz
      go_wp2
      go_loopg [13] (b - a) (fun kx s13 wr2=>∃ q:Nat,s13=.int .i64 q/\a<=q/\q<=j - 1/\j - q<=kx/\Aside (SWK enc k w0 blk off (PX++(Y.take (q - a)++x :: (Y.drop (q - a)++S))).toArray wr2))
      case atStart=>exact ⟨a,rfl,Nat.le_refl _,by omega,by omega,S2⟩
      case round =>
        clear S2
        obtain ⟨q,rfl,haq,hqj,hkq,S5⟩:=hrel
        by_cases hql:q < j - 1
        · have hqz:(q:Int) < (j:Int) - 1:=by omega
          have hst:=HSW.out q haq (by omega)
          have hsz:=HSZ.out (q - a)
          obtain ⟨dk,hdk⟩:∃ dk,(PX++(Y.take (q - a)++x :: (Y.drop (q - a)++S))).toArray=dk:=⟨_,rfl⟩
          rw [hdk] at hst hsz S5
          have p0:(0:Int)<=(q:Int)+1:=by omega
          have e0:((q:Int)+1).toNat=q+1:=by omega
          have z0':(q:Int)+1 < (len:Int):=by omega
          have z1':(q:Int) < (len:Int):=by omega
          have S6:Aside (SWK enc k w0 blk off (swp dk q (q+1)) ((wr.drew.setCells blk (off+q*k) (enc dk[q+1]!)).setCells blk (off+(q+1)*k) (enc dk[q]!))):=S5.out.swapped H.R q (q+1) (by omega) (by omega)
          have l1:=S5.out.ld1 H.R (by omega) P q (by omega)
          have l2:=S5.out.ld1 H.R (by omega) P (q+1) (by omega)
          have s1:=S5.out.st1 H.R (by omega) P q (by omega) dk[q+1]!
          have s2:=S5.out.st2 H.R (by omega) P q (q+1) (by omega) (by omega) dk[q+1]! dk[q]!
          have n1:(enc dk[q]!).length=k:=H.R.hk _
          have n2:(enc dk[q+1]!).length=k:=H.R.hk _
          generalize enc dk[q]! = cI at S6 l1 s2 n1
          generalize enc dk[q+1]! = cJ at S6 l2 s1 s2 n2
          rw [hst] at S6
          clear S5 hst hdk
          go_wp2_with fail
          go_big_region_o
          clear l1 l2 s1 s2
          generalize (wr.drew.setCells blk (off+q*k) cJ).setCells blk (off+(q+1)*k) cI=w2 at S6 ⊢
          go_wp2
          go_roundg (j - (q+1))
          case measure=>omega
          case rel=>exact ⟨q+1,by go_num,by omega,by omega,Nat.le_refl _,S6⟩
        · have hqz:¬ (q:Int) < (j:Int) - 1:=by omega
          have hq:q - a=j - m:=by omega
          have S7:=S5.out
          rw [hq] at S7
          clear S5
          go_wp2
          (try simp only [Exit.inBlock,Exit.then]);refine bodyPost_ret (results_none rfl _ _ _) rfl ?_
          refine ⟨rfl,?_⟩
          rw [HM.out,List.append_assoc,List.cons_append]
          exact S7
theorem symRight_srt (L:SrtP P k) (H:SrtR P k enc key cf g cb blk off len d0 w0) (cap a m b:Nat) (w:World) (PX X S:List α) (y:α) (ha:a=PX.length) (hm:m=a+X.length) (hb:b=m+1) (h2:2<=X.length) (hX:Sorted key X) (hl:PX.length+X.length+1+S.length=len)
    (S0:SWK enc k w0 blk off (PX++(X++([y]++S))).toArray w):Calls P 172 #[.slice (some ⟨blk,off,none⟩) len cap,.int .i64 a,.int .i64 m,.int .i64 b,.func (.func g) #[] cb] w fun e w'=>e=.returned (.tuple #[])/\SWK enc k w0 blk off (PX++(mrg key X [y]++S)).toArray w':=by
  have mixed:=L.mixed;have t0:=L.t0;have a0:=L.a0;have z0:=L.z0;have v0:=L.v0;have t3:=L.t3;have a3:=L.a3;have z3:=L.z3;have v3:=L.v3;have tU:=L.tU;have aU:=L.aU;have zU:=L.zU;have uU:=run_underlying L.tU;have u3:=run_underlying L.t3;have t4:=L.t4;have a4:=L.a4;have z4:=L.z4;have v4:=L.v4;have tS:=L.tS;have aS:=L.aS;have zS:=L.zS;have vS:=L.vS;have tC:=L.tC;have aC:=L.aC;have zC:=L.zC;have aE:=L.aE;have zE:=L.zE
  have FG:=L.fSym
  have eg:=H.eg
  obtain ⟨D,hD⟩:∃ D,(PX++(X++([y]++S))).toArray=D:=⟨_,rfl⟩
  have hsz:D.size=len:=by rw [<-hD];simp;omega
  have hs:=H.hs
  have hlen:=H.hsz
  have hx:D[m]! = y:=by
    have:=Ca.get_at (PX++X) S y m (by simp;omega)
    rw [List.append_assoc] at this
    rw [<-hD,List.singleton_append]
    exact this
  have hy:∀ (i:Nat) (h0:a<=i) (h1:i - a < X.length),D[i]! = X[i - a]:=fun i h0 h1=>by
    rw [<-hD,getXn PX X [y] S i (by omega) (by omega)];congr 1;omega
  have HIN:Aside (∀ i,a<=i->i<=m->(a < i->lt (key y) (key D[i - 1]!)=false)->(i < m->lt (key y) (key D[i]!)=true)->mrg key X [y]=X.take (i - a)++y :: X.drop (i - a)):=fun i h0 h1 h2 h3 =>
    ins_right key y X (i - a) hX (by omega) (fun h=>by have:=h2 (by omega);rw [hy (i - 1) (by omega) (by omega)] at this;simpa [show i - 1 - a=i - a - 1 by omega] using this) (fun h=>by have:=h3 (by omega);rw [hy i (by omega) (by omega)] at this;exact this)
  have HSW:Aside (∀ q,a<=q->q - a < X.length->swp (PX++(X.take (q+1 - a)++y :: (X.drop (q+1 - a)++S))).toArray (q+1) q=(PX++(X.take (q - a)++y :: (X.drop (q - a)++S))).toArray):=fun q h0 h1=>by
    have:=swp_down PX X S y (q - a) q (q+1) h1 (by omega) (by omega)
    rw [show q - a+1=q+1 - a by omega] at this
    exact this
  have HSZ:Aside (∀ t,(PX++(X.take t++y :: (X.drop t++S))).toArray.size=len):=fun t=>by simp;omega
  have S0:Aside (SWK enc k w0 blk off D w):=by rw [hD] at S0;exact S0
  have HD:Aside (D=(PX++(X.take (m - a)++y :: (X.drop (m - a)++S))).toArray):=by
    show _=_;rw [<-hD,List.take_of_length_le (by omega),List.drop_eq_nil_of_le (by omega)];simp
  have e1:(b:Int) - (m:Int)=1:=by omega
  have e2:¬ (m:Int) - (a:Int)=1:=by omega
  have e2':((m:Int) - (a:Int)==1)=false:=beq_eq_false_iff_ne.2 e2
  have bl:b<=len:=by omega
  have am:a<=m:=by omega
  have mb:m+1<=b:=by omega
  have bm:b<=m+1:=by omega
  have yb:X.length+a<=m:=by omega
  have by':m<=X.length+a:=by omega
  clear hD hy hX ha hm hb hl L
  go_enter FG,Tryz.ntmps172
  go_wp2
  go_loopg [14,15] (m - a) (fun kx s10 s11 wr=>∃ i j:Nat,s10=.int .i64 i/\s11=.int .i64 j/\a<=i/\i<=j/\j<=m/\j - i<=kx/\Aside (SWK enc k w0 blk off D wr)/\Aside ((a < i->lt (key y) (key D[i - 1]!)=false)/\(j < m->lt (key y) (key D[j]!)=true)))
  case atStart=>exact ⟨a,m,rfl,rfl,Nat.le_refl _,am,Nat.le_refl _,Nat.le_refl _,S0,(show _/\_ from ⟨fun h=>absurd h (Nat.lt_irrefl _),fun h=>absurd h (Nat.lt_irrefl _)⟩)⟩
  case round =>
    clear S0
    obtain ⟨i,j,rfl,rfl,hmi,hij,hjb,hkx,S1,I⟩:=hrel
    by_cases hlt:i < j
    · have hltz:(i:Int) < (j:Int):=by omega
      obtain ⟨h,hh⟩:∃ h:Nat,h=(i+j) / 2:=⟨_,rfl⟩
      have eh:((i:Int)+(j:Int)) / 2=(h:Int):=by omega
      have h1:i<=h:=by omega
      have h2:h < j:=by omega
      obtain ⟨z,hz⟩:∃ z,D[h]! = z:=⟨_,rfl⟩
      have b1:(h:Int) < (len:Int):=by omega
      have b2:(m:Int) < (len:Int):=by omega
      have l1:=S1.out.ld H.R (by omega) P (m) (by omega)
      have l2:=S1.out.ld H.R (by omega) P (h) (by omega)
      rw [hx] at l1
      rw [hz] at l2
      have hcg:=S1.out.cmp H.hC (by omega) y z
      have S3:Aside (∀ n os,SWK enc k w0 blk off D (grow (wr.drewN n) os)):=fun n os=>S1.out.grown n os
      clear hh
      cases hc:lt (key y) (key z) with
      | false =>
        have hlv:=H.notless hc
        have hlw:=decide_eq_false hlv
        have I2:Aside ((a < h+1->lt (key y) (key D[h+1 - 1]!)=false)/\(j < m->lt (key y) (key D[j]!)=true)):=⟨fun _=>by rw [Nat.add_sub_cancel,hz];exact hc,I.out.2⟩
        clear S1 I hc hz
        go_wp2_with fail
        go_quiet_grown (first | (go_at_fn g;refine Calls.grown_of (hcg _ _)))
        clear l1 l2 hcg
        have S4:Aside (SWK enc k w0 blk off D (grow (wr.drewN nq) osq)):=S3.out nq osq
        clear S3
        generalize grow (wr.drewN nq) osq=w2 at S4 ⊢
        go_wp2
        go_roundg (j - (h+1))
        case measure=>omega
        case rel=>exact ⟨h+1,j,by go_num,rfl,by omega,by omega,hjb,Nat.le_refl _,S4,I2⟩
      | true =>
        have hlv:=H.less hc
        have hlw:=decide_eq_true hlv
        have I2:Aside ((a < i->lt (key y) (key D[i - 1]!)=false)/\(h < m->lt (key y) (key D[h]!)=true)):=⟨I.out.1,fun _=>by rw [hz];exact hc⟩
        clear S1 I hc hz
        go_wp2_with fail
        go_quiet_grown (first | (go_at_fn g;refine Calls.grown_of (hcg _ _)))
        clear l1 l2 hcg
        have S4:Aside (SWK enc k w0 blk off D (grow (wr.drewN nq) osq)):=S3.out nq osq
        clear S3
        generalize grow (wr.drewN nq) osq=w2 at S4 ⊢
        go_wp2
        go_roundg (h - i)
        case measure=>omega
        case rel=>exact ⟨i,h,rfl,by first | rfl | go_num,hmi,h1,by omega,Nat.le_refl _,S4,I2⟩
    · have hltz:¬ (i:Int) < (j:Int):=by omega
      obtain rfl:j=i:=by omega
      have hmr:=HIN.out j hmi hjb I.out.1 I.out.2
      have HM:Aside (mrg key X [y]=X.take (j - a)++y :: X.drop (j - a)):=hmr
      have S2:Aside (SWK enc k w0 blk off (PX++(X.take (m - a)++y :: (X.drop (m - a)++S))).toArray wr):=by
        show SWK _ _ _ _ _ _ _;rw [<-HD.out];exact S1.out
      clear hmr I S1 HIN HD hx hsz
      go_wp2
      go_loopg [17] (b - a) (fun kx s13 wr2=>∃ q:Nat,s13=.int .i64 q/\j<=q/\q<=m/\q - j<=kx/\Aside (SWK enc k w0 blk off (PX++(X.take (q - a)++y :: (X.drop (q - a)++S))).toArray wr2))
      case atStart=>exact ⟨m,rfl,hjb,Nat.le_refl _,by omega,S2⟩
      case round =>
        clear S2
        obtain ⟨qq,rfl,hjq,hqm,hkq,S5⟩:=hrel
        by_cases hql:j < qq
        · obtain ⟨q,rfl⟩:∃ q,qq=q+1:=⟨qq - 1,by omega⟩
          have hqz:(j:Int) < (q:Int)+1:=by omega
          have hst:=HSW.out q (by omega) (by omega)
          have hsz:=HSZ.out (q+1 - a)
          obtain ⟨dk,hdk⟩:∃ dk,(PX++(X.take (q+1 - a)++y :: (X.drop (q+1 - a)++S))).toArray=dk:=⟨_,rfl⟩
          rw [hdk] at hst hsz S5
          have p0:(0:Int)<=(q:Int)+1:=by omega
          have e0:((q:Int)+1).toNat=q+1:=by omega
          have z0':(q:Int)+1 < (len:Int):=by omega
          have z1':(q:Int) < (len:Int):=by omega
          have hwp:IntKind.i64.wrap (q:Int)=(q:Int):=by rw [IntKind.wrap_i64];omega
          have S6:Aside (SWK enc k w0 blk off (swp dk (q+1) q) ((wr.drew.setCells blk (off+(q+1)*k) (enc dk[q]!)).setCells blk (off+q*k) (enc dk[q+1]!))):=S5.out.swapped H.R (q+1) q (by omega) (by omega)
          have l1:=S5.out.ld1 H.R (by omega) P q (by omega)
          have l2:=S5.out.ld1 H.R (by omega) P (q+1) (by omega)
          have s1:=S5.out.st1 H.R (by omega) P (q+1) (by omega) dk[q]!
          have s2:=S5.out.st2 H.R (by omega) P (q+1) q (by omega) (by omega) dk[q]! dk[q+1]!
          have n1:(enc dk[q]!).length=k:=H.R.hk _
          have n2:(enc dk[q+1]!).length=k:=H.R.hk _
          generalize enc dk[q]! = cI at S6 l1 s1 s2 n1
          generalize enc dk[q+1]! = cJ at S6 l2 s2 n2
          rw [hst] at S6
          clear S5 hst hdk
          go_wp2_with fail
          go_big_region_o
          clear l1 l2 s1 s2
          generalize (wr.drew.setCells blk (off+(q+1)*k) cI).setCells blk (off+q*k) cJ=w2 at S6 ⊢
          go_wp2
          go_roundg (q - j)
          case measure=>omega
          case rel=>exact ⟨q,by first | rfl | go_num | (congr 1;omega),by omega,by omega,Nat.le_refl _,S6⟩
        · have hqz:¬ (j:Int) < (qq:Int):=by omega
          obtain rfl:qq=j:=by omega
          have S7:=S5.out
          clear S5
          go_wp2
          (try simp only [Exit.inBlock,Exit.then]);refine bodyPost_ret (results_none rfl _ _ _) rfl ?_
          refine ⟨rfl,?_⟩
          rw [HM.out,List.append_assoc,List.cons_append]
          exact S7
end Bs
namespace Bs
open Ca
open Go.Shelf Go.RowKit Go.Lib Go.Sort
variable {P:Program} {α:Type} [Inhabited α] {k:Nat} {enc:α->List Value} {key:α->RowB} {cf:α->α->Int} {g:Nat} {cb:Array Value} {blk off len:Nat} {d0:Array α} {w0:World}
structure InsAt (key:α->RowB) (X X1:List α) (t:Nat):Prop where
  l:X1.length=min t X.length
  s:Sorted key X1
  e:Same key X1 (X.take t)
omit [Inhabited α] in
theorem InsAt.start (X:List α):InsAt key X (X.take 1) 1:=⟨by simp,by
  rcases X with _ | ⟨x,X⟩
  · exact List.Pairwise.nil
  · simp [Sorted],Same.refl key _⟩
omit [Inhabited α] in
theorem InsAt.next {X X1:List α} {t u:Nat} (h:InsAt key X X1 t) (ht:t < X.length) (hu:u<=t) (h1:∀ q:0 < u,lt (key X[t]) (key (X1[u - 1]'(by have:=h.l;omega)))=false) (h2:∀ q:u < t,lt (key X[t]) (key (X1[u]'(by have:=h.l;omega)))=true) :
    InsAt key X (X1.take u++X[t] :: X1.drop u) (t+1):=by
  have hl:=h.l
  have e:=ins_right key X[t] X1 u h.s (by omega) h1 (fun q=>h2 (by omega))
  refine ⟨by simp;omega,?_,?_⟩
  · rw [<-e]
    exact mrg_sorted key h.s (by simp [Sorted])
  · rw [<-e,List.take_succ_eq_append_getElem ht]
    exact (mrg_same key h.s).trans key (fun m=>by simp only [List.filter_append];rw [h.e m])
theorem ins_srt (L:SrtP P k) (H:SrtR P k enc key cf g cb blk off len d0 w0) (cap a b:Nat) (w:World) (PX X S:List α) (ha:a=PX.length) (hb:b=a+X.length) (hl:PX.length+X.length+S.length=len) (S0:SWK enc k w0 blk off (PX++(X++S)).toArray w) :
    Calls P 171 #[.slice (some ⟨blk,off,none⟩) len cap,.int .i64 a,.int .i64 b,.func (.func g) #[] cb] w fun e w'=>e=.returned (.tuple #[])/\∃ X',X'.length=X.length/\Sorted key X'/\Same key X' X/\SWK enc k w0 blk off (PX++(X'++S)).toArray w':=by
  have mixed:=L.mixed;have t0:=L.t0;have a0:=L.a0;have z0:=L.z0;have v0:=L.v0;have t3:=L.t3;have a3:=L.a3;have z3:=L.z3;have v3:=L.v3;have tU:=L.tU;have aU:=L.aU;have zU:=L.zU;have uU:=run_underlying L.tU;have u3:=run_underlying L.t3;have t4:=L.t4;have a4:=L.a4;have z4:=L.z4;have v4:=L.v4;have tS:=L.tS;have aS:=L.aS;have zS:=L.zS;have vS:=L.vS;have tC:=L.tC;have aC:=L.aC;have zC:=L.zC;have aE:=L.aE;have zE:=L.zE
  have FG:=L.fIns
  have eg:=H.eg
  have hs:=H.hs
  have hlen:=H.hsz
  have S0:Aside (SWK enc k w0 blk off (PX++(X.take 1++(X.drop 1++S))).toArray w):=by
    show SWK _ _ _ _ _ _ _;rw [<-List.append_assoc (X.take 1),List.take_append_drop];exact S0
  have SIZ:Aside (∀ (X1:List α) (t u:Nat) (x:α),t < X.length->X1.length=min t X.length->(PX++(X1.take u++x :: (X1.drop u++(X.drop (t+1)++S)))).toArray.size=len):=fun X1 t u x h1 h2=>by
    simp;omega
  have HSW:Aside (∀ (X1:List α) (t u:Nat) (x:α) (q:Nat),u < X1.length->q=a+u->swp (PX++(X1.take (u+1)++x :: (X1.drop (u+1)++(X.drop (t+1)++S)))).toArray (q+1) q=(PX++(X1.take u++x :: (X1.drop u++(X.drop (t+1)++S)))).toArray):=fun X1 t u x q h1 h2 =>
    swp_down PX X1 (X.drop (t+1)++S) x u q (q+1) h1 (by omega) (by omega)
  have GX:Aside (∀ (X1:List α) (t u:Nat) (x:α) (q:Nat),u<=X1.length->q=a+u->(PX++(X1.take u++x :: (X1.drop u++(X.drop (t+1)++S)))).toArray[q]! = x):=fun X1 t u x q h1 h2=>by
    have:=Ca.get_at (PX++X1.take u) (X1.drop u++(X.drop (t+1)++S)) x q (by simp;omega)
    rw [List.append_assoc] at this
    exact this
  have GP:Aside (∀ (X1:List α) (t u:Nat) (x:α) (q:Nat) (h:u < X1.length),q=a+u->(PX++(X1.take (u+1)++x :: (X1.drop (u+1)++(X.drop (t+1)++S)))).toArray[q]! = X1[u]):=fun X1 t u x q h h2=>by
    have:=Ca.get_at (PX++X1.take u) (x :: (X1.drop (u+1)++(X.drop (t+1)++S))) X1[u] q (by simp;omega)
    rw [List.take_succ_eq_append_getElem h]
    simp only [List.append_assoc,List.cons_append,List.nil_append] at this ⊢
    exact this
  have NX:Aside (∀ (X1:List α) (t u:Nat) (h:t < X.length) (W:World),SWK enc k w0 blk off (PX++(X1.take u++X[t] :: (X1.drop u++(X.drop (t+1)++S)))).toArray W->SWK enc k w0 blk off (PX++((X1.take u++X[t] :: X1.drop u)++(X.drop (t+1)++S))).toArray W):=fun X1 t u h W hS=>by
    rw [List.append_assoc,List.cons_append];exact hS
  have DX:Aside (∀ (X1:List α) (t:Nat) (h:t < X.length) (W:World),X1.length=t->SWK enc k w0 blk off (PX++(X1++(X.drop t++S))).toArray W->SWK enc k w0 blk off (PX++(X1.take t++X[t] :: (X1.drop t++(X.drop (t+1)++S)))).toArray W):=fun X1 t h W hl hS=>by
    rw [List.take_of_length_le (by omega),List.drop_eq_nil_of_le (by omega),List.nil_append]
    rw [List.drop_eq_getElem_cons h,List.cons_append] at hS
    exact hS
  have XT:Aside (∀ (X1:List α) (t:Nat) (W:World),X.length<=t->X1.length=min t X.length->Sorted key X1->Same key X1 (X.take t)->SWK enc k w0 blk off (PX++(X1++(X.drop t++S))).toArray W->∃ X',X'.length=X.length/\Sorted key X'/\Same key X' X/\SWK enc k w0 blk off (PX++(X'++S)).toArray W):=fun X1 t W h1 h2 h3 h4 h5=>by
    rw [List.take_of_length_le h1] at h4
    rw [List.drop_eq_nil_of_le h1,List.nil_append] at h5
    exact ⟨X1,by omega,h3,h4,h5⟩
  have IS:Aside (InsAt key X (X.take 1) 1):=InsAt.start X
  have b1':b<=a+X.length:=by omega
  have b2':a+X.length<=b:=by omega
  have bl:b<=len:=by omega
  clear ha hb hl L
  go_enter FG,Tryz.ntmps171
  go_wp2
  go_loopg [8] (b - a) (fun kx s8 wr=>∃ (i t:Nat) (X1:List α),s8=.int .i64 i/\i<=a+t/\a+t<=i/\1<=t/\b+1 - i<=kx+1/\i<=b+1/\Aside (InsAt key X X1 t)/\Aside (SWK enc k w0 blk off (PX++(X1++(X.drop t++S))).toArray wr))
  case atStart=>exact ⟨a+1,1,X.take 1,by go_num,Nat.le_refl _,Nat.le_refl _,Nat.le_refl _,by omega,by omega,IS,S0⟩
  case round =>
    clear S0 IS
    obtain ⟨i,t,X1,rfl,hi1,hi2,ht1,hkx,hib,IA,S1⟩:=hrel
    by_cases hlt:i < b
    · have hltz:(i:Int) < (b:Int):=by omega
      have htX:t < X.length:=by omega
      obtain ⟨x,hx⟩:∃ x,X[t]'htX=x:=⟨_,rfl⟩
      have hl1:X1.length=min t X.length:=IA.out.l
      have hl2:X1.length<=t:=by omega
      have hl3:t<=X1.length:=by omega
      have S2:Aside (SWK enc k w0 blk off (PX++(X1.take t++x :: (X1.drop t++(X.drop (t+1)++S)))).toArray wr):=by
        have:=DX.out X1 t htX wr (by omega) S1.out
        rw [hx] at this
        exact this
      -- out of the inner loop
      have OUT:Aside (∀ (u:Nat) (W:World) (hu:u<=t),(∀ h:0 < u,lt (key x) (key (X1[u - 1]'(by omega)))=false)->(∀ h:u < t,lt (key x) (key (X1[u]'(by omega)))=true)->SWK enc k w0 blk off (PX++(X1.take u++x :: (X1.drop u++(X.drop (t+1)++S)))).toArray W->
          ∃ X2:List α,InsAt key X X2 (t+1)/\SWK enc k w0 blk off (PX++(X2++(X.drop (t+1)++S))).toArray W):=fun u W hu h1 h2 h3=>by
        subst hx
        exact ⟨_,IA.out.next htX hu h1 h2,NX.out X1 t u htX W h3⟩
      clear S1
      go_wp2
      go_loopg [9] i (fun g2 s9 wr=>∃ (j u:Nat),s9=.int .i64 j/\j<=a+u/\a+u<=j/\u<=t/\j<=g2/\Aside (∀ h:u < t,lt (key x) (key (X1[u]'(by omega)))=true)/\Aside (SWK enc k w0 blk off (PX++(X1.take u++x :: (X1.drop u++(X.drop (t+1)++S)))).toArray wr))
      case atStart=>exact ⟨i,t,rfl,hi1,hi2,Nat.le_refl _,Nat.le_refl _,(show ∀ h:t < t,_ from fun h=>absurd h (Nat.lt_irrefl _)),S2⟩
      case round =>
        clear S2
        obtain ⟨j,u,rfl,hj1,hj2,hut,hg2,HB,S3⟩:=hrel
        by_cases hja:a < j
        · obtain ⟨q,rfl⟩:∃ q,j=q+1:=⟨j - 1,by omega⟩
          obtain ⟨v,rfl⟩:∃ v,u=v+1:=⟨u - 1,by omega⟩
          have hjaz:(a:Int) < (q:Int)+1:=by omega
          have hv:v < X1.length:=by omega
          obtain ⟨p,hp⟩:∃ p,X1[v]'hv=p:=⟨_,rfl⟩
          have hsz:=SIZ.out X1 t (v+1) x htX hl1
          have gx:=GX.out X1 t (v+1) x (q+1) (by omega) (by omega)
          have gp:=GP.out X1 t v x q hv (by omega)
          rw [hp] at gp
          have hst:=HSW.out X1 t v x q hv (by omega)
          obtain ⟨D,hD⟩:∃ D,(PX++(X1.take (v+1)++x :: (X1.drop (v+1)++(X.drop (t+1)++S)))).toArray=D:=⟨_,rfl⟩
          have S1:Aside (SWK enc k w0 blk off D wr):=by
            have:=S3.out
            rw [hD] at this
            exact this
          rw [hD] at hsz gx gp hst
          have HD:Aside (D=(PX++(X1.take (v+1)++x :: (X1.drop (v+1)++(X.drop (t+1)++S)))).toArray):=hD.symm
          clear S3 hD
          have p0:(0:Int)<=(q:Int)+1:=by omega
          have e0:((q:Int)+1).toNat=q+1:=by omega
          have z0':(q:Int)+1 < (len:Int):=by omega
          have z1':(q:Int) < (len:Int):=by omega
          have hwp:IntKind.i64.wrap (q:Int)=(q:Int):=by rw [IntKind.wrap_i64];omega
          have l1:=S1.out.ld H.R (by omega) P (q+1) (by omega)
          have l2:=S1.out.ld H.R (by omega) P (q) (by omega)
          rw [gx] at l1
          rw [gp] at l2
          have hcg:=S1.out.cmp H.hC (by omega) x p
          have S3:Aside (∀ n os,SWK enc k w0 blk off D (grow (wr.drewN n) os)):=fun n os=>S1.out.grown n os
          cases hc:lt (key x) (key p) with
          | true =>
            have hlv:=H.less hc
            have hlw:=decide_eq_true hlv
            go_wp2_with fail
            go_quiet_grown (first | (go_at_fn g;refine Calls.grown_of (hcg _ _)))
            clear l1 l2 hcg
            have S4:Aside (SWK enc k w0 blk off D (grow (wr.drewN nq) osq)):=S3.out nq osq
            clear S3 S1
            generalize grow (wr.drewN nq) osq=w2 at S4 ⊢
            have S6:Aside (SWK enc k w0 blk off (swp D (q+1) q) ((w2.drew.setCells blk (off+(q+1)*k) (enc D[q]!)).setCells blk (off+q*k) (enc D[q+1]!))):=S4.out.swapped H.R (q+1) q (by omega) (by omega)
            have l1:=S4.out.ld1 H.R (by omega) P q (by omega)
            have l2:=S4.out.ld1 H.R (by omega) P (q+1) (by omega)
            have s1:=S4.out.st1 H.R (by omega) P (q+1) (by omega) D[q]!
            have s2:=S4.out.st2 H.R (by omega) P (q+1) q (by omega) (by omega) D[q]! D[q+1]!
            have n1:(enc D[q]!).length=k:=H.R.hk _
            have n2:(enc D[q+1]!).length=k:=H.R.hk _
            generalize enc D[q]! = cI at S6 l1 s1 s2 n1
            generalize enc D[q+1]! = cJ at S6 l2 s2 n2
            rw [hst] at S6
            have HB2:Aside (∀ h:v < t,lt (key x) (key (X1[v]'(by omega)))=true):=(show ∀ h:v < t,_ from fun h=>by rw [hp];exact hc)
            clear S4 hst hc hp gx gp HD
            go_wp2_with fail
            go_big_region_o
            all_goals clear l1 l2 s1 s2
            all_goals generalize (w2.drew.setCells blk (off+(q+1)*k) cI).setCells blk (off+q*k) cJ=w3 at S6 ⊢
            all_goals go_wp2
            go_roundg q
            case measure=>omega
            case rel=>exact ⟨q,v,by first | rfl | go_num | (congr 1;omega),by omega,by omega,by omega,Nat.le_refl _,HB2,S6⟩
          | false =>
            have hlv:=H.notless hc
            have hlw:=decide_eq_false hlv
            have OU:Aside (∀ W,SWK enc k w0 blk off D W->∃ X2:List α,InsAt key X X2 (t+1)/\SWK enc k w0 blk off (PX++(X2++(X.drop (t+1)++S))).toArray W):=fun W hW =>
              OUT.out (v+1) W hut (fun _=>by simp only [Nat.add_sub_cancel];rw [hp];exact hc) HB.out (by rw [HD.out] at hW;exact hW)
            clear HB hc hp gx gp HD OUT hst
            go_wp2_with fail
            go_quiet_grown (first | (go_at_fn g;refine Calls.grown_of (hcg _ _)))
            clear l1 l2 hcg
            obtain ⟨X2,IA2,S5⟩:=OU.out _ (S3.out nq osq)
            have IA2':Aside (InsAt key X X2 (t+1)):=IA2
            have S5':Aside (SWK enc k w0 blk off (PX++(X2++(X.drop (t+1)++S))).toArray (grow (wr.drewN nq) osq)):=S5
            clear S3 S1 OU IA2 S5
            generalize grow (wr.drewN nq) osq=w2 at S5' ⊢
            go_wp2
            go_roundg (b - (i+1))
            case measure=>omega
            case rel=>exact ⟨i+1,t+1,X2,by go_num,by omega,by omega,by omega,by omega,by omega,IA2',S5'⟩
        · have hjaz:decide ((j:Int) > (a:Int))=false:=decide_eq_false (by omega)
          have hjaz':¬ (a:Int) < (j:Int):=by omega
          obtain rfl:u=0:=by omega
          have OU:Aside (∀ W,SWK enc k w0 blk off (PX++(X1.take 0++x :: (X1.drop 0++(X.drop (t+1)++S)))).toArray W->∃ X2:List α,InsAt key X X2 (t+1)/\SWK enc k w0 blk off (PX++(X2++(X.drop (t+1)++S))).toArray W):=fun W hW =>
            OUT.out 0 W hut (fun h=>absurd h (Nat.lt_irrefl _)) HB.out hW
          obtain ⟨X2,IA2,S5⟩:=OU.out _ S3.out.drew
          have IA2':Aside (InsAt key X X2 (t+1)):=IA2
          have S5':Aside (SWK enc k w0 blk off (PX++(X2++(X.drop (t+1)++S))).toArray wr.drew):=S5
          clear S3 OU IA2 S5 HB OUT
          go_wp2_with fail
          go_big_region_o
          all_goals go_wp2
          go_roundg (b - (i+1))
          case measure=>omega
          case rel=>exact ⟨i+1,t+1,X2,by go_num,by omega,by omega,by omega,by omega,by omega,IA2',S5'⟩
    · have hltz:¬ (i:Int) < (b:Int):=by omega
      have hfin:=XT.out X1 t wr (by omega) IA.out.l IA.out.s IA.out.e S1.out
      have HF:Aside (∃ X',X'.length=X.length/\Sorted key X'/\Same key X' X/\SWK enc k w0 blk off (PX++(X'++S)).toArray wr):=hfin
      clear hfin S1 IA XT NX DX
      go_wp2
      go_end0
      exact ⟨rfl,HF.out⟩
end Bs
end Go.Proofs.YtobfaibofhmpgaaGreatDoor
