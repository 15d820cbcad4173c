import Derived.Test.YtobfaibofhmpgaaGreatDoorAp16
set_option linter.unusedVariables false
set_option maxHeartbeats 4000000
set_option maxRecDepth 1000000
namespace Go.Proofs.YtobfaibofhmpgaaGreatDoor
namespace Ca
open Go.Shelf Go.RowKit Go.Lib Go.Sort
variable {P:Program} {α:Type} [Inhabited α] {k:Nat}
theorem swapRange_srt (L:SrtP P k) (enc:α->List Value) (g:Nat) (cb:Array Value) (blk off cap len a b n:Nat) (d0:Array α) (w0 w:World) (R:RowK enc k w0 blk off d0) (hs:d0.size=len) (PX X Q Y S:List α)
    (hx:X.length=n) (hy:Y.length=n) (ha:a=PX.length) (hb:b=PX.length+n+Q.length) (hl:PX.length+n+Q.length+n+S.length=len) (S0:SWK enc k w0 blk off (PX++(X++(Q++(Y++S)))).toArray w) (hsz:len < 4611686018427387904) :
    Calls P 250 #[.slice (some ⟨blk,off,none⟩) len cap,.int .i64 a,.int .i64 b,.int .i64 n,.func (.func g) #[] cb] w fun e w'=>e=.returned (.tuple #[])/\SWK enc k w0 blk off (PX++(Y++(Q++(X++S)))).toArray w':=by
  have mixed:=L.mixed;have t0:=L.t0;have a0:=L.a0;have z0:=L.z0;have v0:=L.v0;have t3:=L.t3;have a3:=L.a3;have z3:=L.z3;have v3:=L.v3;have t4:=L.t4;have a4:=L.a4;have z4:=L.z4;have v4:=L.v4;have tS:=L.tS;have aS:=L.aS;have zS:=L.zS;have vS:=L.vS;have tC:=L.tC;have aC:=L.aC;have zC:=L.zC;have aE:=L.aE;have zE:=L.zE
  have FG:=L.fSwap
  have hlk:∀ i,i<=n->(rng PX X Q Y S i).toArray.size=len:=fun i hi=>by
    rw [List.size_toArray,rng_len PX X Q Y S n i hx hy hi];exact hl
  have HLK:Aside (∀ i,i<=n->(rng PX X Q Y S i).toArray.size=len):=hlk
  have ST:Aside (∀ i j t:Nat,t < n->i=PX.length+t->j=PX.length+n+Q.length+t->swp (rng PX X Q Y S t).toArray i j=(rng PX X Q Y S (t+1)).toArray):=fun i j t ht hi hj=>rng_step PX X Q Y S n t i j hx hy ht hi hj
  have E0:Aside (SWK enc k w0 blk off (rng PX X Q Y S 0).toArray w):=by show SWK _ _ _ _ _ _ _;rw [rng_zero];exact S0
  have E1:Aside ((rng PX X Q Y S n).toArray=(PX++(Y++(Q++(X++S)))).toArray):=by show _=_;rw [rng_all PX X Q Y S n hx hy]
  have ha1:a<=PX.length:=by omega
  have ha2:PX.length<=a:=by omega
  have hb1:b<=PX.length+n+Q.length:=by omega
  have hb2:PX.length+n+Q.length<=b:=by omega
  have hl1:PX.length+n+Q.length+n+S.length<=len:=by omega
  clear S0 hlk L ha hb hl hx hy
  go_enter FG,Tryz.ntmps250
  go_wp2
  go_loopg [10] n (fun kx s10 wr=>∃ (i:Nat),s10=.int .i64 i/\i<=n/\n - i<=kx/\Aside (SWK enc k w0 blk off (rng PX X Q Y S i).toArray wr))
  case atStart=>exact ⟨0,by first | rfl | go_num,Nat.zero_le _,by omega,E0⟩
  case round =>
    clear E0
    obtain ⟨i,rfl,hin,hkx,S1⟩:=hrel
    by_cases hlt:i < n
    · have hltz:(i:Int) < (n:Int):=by omega
      have hsi:=HLK.out i hin
      have hst:=ST.out (a+i) (b+i) i hlt (by omega) (by omega)
      obtain ⟨dk,hdk⟩:∃ dk,(rng PX X Q Y S i).toArray=dk:=⟨_,rfl⟩
      rw [hdk] at hsi hst S1
      have ea:((a:Int)+(i:Int)).toNat=a+i:=by omega
      have pa:(0:Int)<=(a:Int)+(i:Int):=by omega
      have ba:(a:Int)+(i:Int) < (len:Int):=by omega
      have ra:IntKind.i64.wrap ((a:Int)+(i:Int))=(a:Int)+(i:Int):=by rw [IntKind.wrap_i64];omega
      have eb:((b:Int)+(i:Int)).toNat=b+i:=by omega
      have pb:(0:Int)<=(b:Int)+(i:Int):=by omega
      have bb:(b:Int)+(i:Int) < (len:Int):=by omega
      have rb:IntKind.i64.wrap ((b:Int)+(i:Int))=(b:Int)+(i:Int):=by rw [IntKind.wrap_i64];omega
      have S2:Aside (SWK enc k w0 blk off (swp dk (a+i) (b+i)) ((wr.drew.setCells blk (off+(a+i)*k) (enc dk[b+i]!)).setCells blk (off+(b+i)*k) (enc dk[a+i]!))):=S1.out.swapped R (a+i) (b+i) (by omega) (by omega)
      have l1:=S1.out.ld1 R (by omega) P (a+i) (by omega)
      have l2:=S1.out.ld1 R (by omega) P (b+i) (by omega)
      have s1:=S1.out.st1 R (by omega) P (a+i) (by omega) dk[b+i]!
      have s2:=S1.out.st2 R (by omega) P (a+i) (b+i) (by omega) (by omega) dk[b+i]! dk[a+i]!
      have n1:(enc dk[a+i]!).length=k:=R.hk _
      have n2:(enc dk[b+i]!).length=k:=R.hk _
      generalize enc dk[a+i]! = cI at S2 l1 s2 n1
      generalize enc dk[b+i]! = cJ at S2 l2 s1 s2 n2
      rw [hst] at S2
      clear S1 hst hdk
      go_wp2_with fail
      go_big_region_o
      clear l1 l2 s1 s2
      generalize (wr.drew.setCells blk (off+(a+i)*k) cJ).setCells blk (off+(b+i)*k) cI=w2 at S2 ⊢
      go_wp2
      go_roundg (n - (i+1))
      case measure=>omega
      case rel=>exact ⟨i+1,by go_num,by omega,Nat.le_refl _,S2⟩
    · have hltz:¬ (i:Int) < (n:Int):=by omega
      obtain rfl:i=n:=by omega
      go_wp2
      go_end0
      exact ⟨rfl,E1.out▸S1.out⟩
structure RotAt (enc:α->List Value) (k:Nat) (w0:World) (blk off len m i j:Nat) (T:List α) (wr:World) (Pk Xk Yk Sk:List α):Prop where
  x:Xk.length=i
  y:Yk.length=j
  p:Pk.length+i=m
  l:Pk.length+i+j+Sk.length=len
  s:SWK enc k w0 blk off (Pk++(Xk++(Yk++Sk))).toArray wr
  t:Pk++(Yk++(Xk++Sk))=T
theorem rotate_srt (L:SrtP P k) (enc:α->List Value) (g:Nat) (cb:Array Value) (blk off cap len a m b:Nat) (d0:Array α) (w0 w:World) (R:RowK enc k w0 blk off d0) (hs:d0.size=len) (PX X Y S:List α)
    (ha:a=PX.length) (hm:m=a+X.length) (hb:b=m+Y.length) (hx:0 < X.length) (hy:0 < Y.length) (hl:PX.length+X.length+Y.length+S.length=len) (S0:SWK enc k w0 blk off (PX++(X++(Y++S))).toArray w) (hsz:len < 4611686018427387904) :
    Calls P 244 #[.slice (some ⟨blk,off,none⟩) len cap,.int .i64 a,.int .i64 m,.int .i64 b,.func (.func g) #[] cb] w fun e w'=>e=.returned (.tuple #[])/\SWK enc k w0 blk off (PX++(Y++(X++S))).toArray w':=by
  have mixed:=L.mixed;have t0:=L.t0;have a0:=L.a0;have z0:=L.z0;have v0:=L.v0;have t3:=L.t3;have a3:=L.a3;have z3:=L.z3;have v3:=L.v3;have t4:=L.t4;have a4:=L.a4;have z4:=L.z4;have v4:=L.v4;have tS:=L.tS;have aS:=L.aS;have zS:=L.zS;have vS:=L.vS;have tC:=L.tC;have aC:=L.aC;have zC:=L.zC;have aE:=L.aE;have zE:=L.zE
  have FG:=L.fRot
  have eg:∀ args w,(callFunc 250 args).run P w=.ok (.enter 250 args) w:=enters_of L.fSwap (by kernel_rfl) rfl
  have CS:Aside (∀ (A B n:Nat) (W:World) (P1 X1 Q1 Y1 S1:List α),X1.length=n->Y1.length=n->A=P1.length->B=P1.length+n+Q1.length->P1.length+n+Q1.length+n+S1.length=len->SWK enc k w0 blk off (P1++(X1++(Q1++(Y1++S1)))).toArray W->
      Calls P 250 #[.slice (some ⟨blk,off,none⟩) len cap,.int .i64 A,.int .i64 B,.int .i64 n,.func (.func g) #[] cb] W fun e w'=>e=.returned (.tuple #[])/\SWK enc k w0 blk off (P1++(Y1++(Q1++(X1++S1)))).toArray w') :=
    fun A B n W P1 X1 Q1 Y1 S1 h1 h2 h3 h4 h5 h6=>swapRange_srt L enc g cb blk off cap len A B n d0 w0 W R hs P1 X1 Q1 Y1 S1 h1 h2 h3 h4 h5 h6 hsz
  obtain ⟨T,hT⟩:∃ T,PX++(Y++(X++S))=T:=⟨_,rfl⟩
  have R0:RotAt enc k w0 blk off len m X.length Y.length T w PX X Y S:=⟨rfl,rfl,by omega,by omega,S0,hT⟩
  rw [hT]
  have i1:(m:Int) - (a:Int)=(X.length:Int):=by omega
  have i2:(b:Int) - (m:Int)=(Y.length:Int):=by omega
  have hbl:b<=len:=by omega
  have hma:a<=m:=by omega
  have hmb:m<=b:=by omega
  clear S0 L hT ha hm hb hl
  go_enter FG,Tryz.ntmps244
  go_wp2
  go_loopg [10,11] (X.length+Y.length) (fun kx s10 s11 wr=>∃ (i j:Nat) (Pk Xk Yk Sk:List α),s10=.int .i64 i/\s11=.int .i64 j/\0 < i/\0 < j/\i+j<=kx/\RotAt enc k w0 blk off len m i j T wr Pk Xk Yk Sk)
  case atStart=>exact ⟨X.length,Y.length,PX,X,Y,S,by first | rfl | go_num,by first | rfl | go_num,hx,hy,Nat.le_refl _,R0⟩
  case round =>
    clear R0
    obtain ⟨i,j,Pk,Xk,Yk,Sk,rfl,rfl,hi0,hj0,hkx,RA⟩:=hrel
    have p1:i<=m:=by have:=RA.p;omega
    have p2:m+j<=len:=by have:=RA.p;have:=RA.l;omega
    obtain ⟨A,hA⟩:∃ A:Nat,A=m - i:=⟨_,rfl⟩
    have eA:(m:Int) - (i:Int)=(A:Int):=by omega
    by_cases hij:i=j
    · subst hij
      have c:=CS.out A m i wr Pk Xk [] Yk Sk RA.x RA.y (by have:=RA.p;omega) (by have:=RA.p;simp;omega) (by have:=RA.l;simp;omega) (by simpa using RA.s)
      have hT:=RA.t
      clear hA CS
      go_wp2_with fail
      go_at_call 250
      refine c.mono ?_
      rintro e w1 ⟨rfl,hS⟩
      go_wp2
      go_end0
      exact ⟨rfl,by rw [<-hT];simpa using hS⟩
    · have hne:¬ (i:Int)=(j:Int):=by omega
      by_cases hgt:j < i
      · have hgtz:(j:Int) < (i:Int):=by omega
        have hlX:(Xk.take j).length=j:=by have:=RA.x;simp;omega
        have hlD:(Xk.drop j).length=i - j:=by have:=RA.x;simp;omega
        have c:=CS.out A m j wr Pk (Xk.take j) (Xk.drop j) Yk Sk hlX RA.y (by have:=RA.p;omega) (by have:=RA.p;omega) (by have:=RA.l;omega) (by rw [<-List.append_assoc (Xk.take j),List.take_append_drop];exact RA.s)
        have RN:∀ W,SWK enc k w0 blk off (Pk++(Yk++(Xk.drop j++(Xk.take j++Sk)))).toArray W->RotAt enc k w0 blk off len m (i - j) j T W (Pk++Yk) (Xk.drop j) (Xk.take j) Sk:=fun W h =>
          ⟨hlD,hlX,by have:=RA.p;have:=RA.y;simp;omega,by have:=RA.l;have:=RA.y;simp;omega,by rw [List.append_assoc];exact h,by
            rw [<-RA.t];conv=>rhs;rw [<-List.take_append_drop j Xk]
            simp only [List.append_assoc]⟩
        have RN':=Lib.hid RN
        clear hA CS RN RA hlX hlD
        go_wp2_with fail
        go_at_call 250
        refine c.mono ?_
        rintro e w1 ⟨rfl,hS⟩
        have RM:=RN'.out _ hS
        clear c hS RN'
        go_wp2
        go_roundg (i - j+j)
        case measure=>omega
        case rel=>exact ⟨i - j,j,_,_,_,_,by first | rfl | go_num | (congr 1;omega),rfl,by omega,hj0,Nat.le_refl _,RM⟩
      · have hgtz:¬ (j:Int) < (i:Int):=by omega
        obtain ⟨B,hB⟩:∃ B:Nat,B=m+j - i:=⟨_,rfl⟩
        have eB:(m:Int)+(j:Int) - (i:Int)=(B:Int):=by omega
        have hlT:(Yk.take (j - i)).length=j - i:=by have:=RA.y;simp;omega
        have hlD:(Yk.drop (j - i)).length=i:=by have:=RA.y;simp;omega
        have c:=CS.out A B i wr Pk Xk (Yk.take (j - i)) (Yk.drop (j - i)) Sk RA.x hlD (by have:=RA.p;omega) (by have:=RA.p;omega) (by have:=RA.l;omega) (by rw [<-List.append_assoc (Yk.take (j - i)),List.take_append_drop];exact RA.s)
        have RN:∀ W,SWK enc k w0 blk off (Pk++(Yk.drop (j - i)++(Yk.take (j - i)++(Xk++Sk)))).toArray W->RotAt enc k w0 blk off len m i (j - i) T W Pk (Yk.drop (j - i)) (Yk.take (j - i)) (Xk++Sk):=fun W h =>
          ⟨hlD,hlT,RA.p,by have:=RA.l;have:=RA.x;simp;omega,h,by
            rw [<-RA.t];conv=>rhs;rw [<-List.take_append_drop (j - i) Yk]
            simp only [List.append_assoc]⟩
        have RN':=Lib.hid RN
        clear hA hB CS RN RA hlT hlD
        go_wp2_with fail
        go_at_call 250
        refine c.mono ?_
        rintro e w1 ⟨rfl,hS⟩
        have RM:=RN'.out _ hS
        clear c hS RN'
        go_wp2
        go_roundg (i+(j - i))
        case measure=>omega
        case rel=>exact ⟨i,j - i,_,_,_,_,rfl,by first | rfl | go_num | (congr 1;omega),hi0,by omega,Nat.le_refl _,RM⟩
end Ca
namespace Ca
open Go.Shelf Go.RowKit Go.Lib Go.Sort
variable {P:Program} {α:Type} [Inhabited α] {k:Nat} {enc:α->List Value} {key:α->RowB} {cf:α->α->Int} {g:Nat} {cb:Array Value} {blk off len:Nat} {d0:Array α} {w0:World}
structure SrtR (P:Program) (k:Nat) (enc:α->List Value) (key:α->RowB) (cf:α->α->Int) (g:Nat) (cb:Array Value) (blk off len:Nat) (d0:Array α) (w0:World):Prop where
  R:RowK enc k w0 blk off d0
  hs:d0.size=len
  hC:CmpLays P g cb enc k cf blk off len w0
  hcf:∀ x y,decide (cf x y < 0)=lt (key x) (key y)
  eg:∀ args w,(callFunc g args).run P w=.ok (.enter g args) w
  hsz:len < 4611686018427387904
theorem SrtR.less (H:SrtR P k enc key cf g cb blk off len d0 w0) {x y:α} (h:lt (key x) (key y)=true):cf x y < 0:=by
  rw [<-H.hcf] at h;exact of_decide_eq_true h
theorem SrtR.notless (H:SrtR P k enc key cf g cb blk off len d0 w0) {x y:α} (h:lt (key x) (key y)=false):¬ cf x y < 0:=by
  rw [<-H.hcf] at h;exact of_decide_eq_false h
theorem symLeft_srt (L:SrtP P k) (H:SrtR P k enc key cf g cb blk off len d0 w0) (cap a m b:Nat) (w:World) (PX Y S:List α) (x:α) (ha:a=PX.length) (hm:m=a+1) (hb:b=m+Y.length) (hY:Sorted key Y) (hl:PX.length+1+Y.length+S.length=len)
    (S0:SWK enc k w0 blk off (PX++([x]++(Y++S))).toArray w):Calls P 230 #[.slice (some ⟨blk,off,none⟩) len cap,.int .i64 a,.int .i64 m,.int .i64 b,.func (.func g) #[] cb] w fun e w'=>e=.returned (.tuple #[])/\SWK enc k w0 blk off (PX++(mrg key [x] Y++S)).toArray w':=by
  have mixed:=L.mixed;have t0:=L.t0;have a0:=L.a0;have z0:=L.z0;have v0:=L.v0;have t3:=L.t3;have a3:=L.a3;have z3:=L.z3;have v3:=L.v3;have tU:=L.tU;have aU:=L.aU;have zU:=L.zU;have uU:=run_underlying L.tU;have u3:=run_underlying L.t3;have t4:=L.t4;have a4:=L.a4;have z4:=L.z4;have v4:=L.v4;have tS:=L.tS;have aS:=L.aS;have zS:=L.zS;have vS:=L.vS;have tC:=L.tC;have aC:=L.aC;have zC:=L.zC;have aE:=L.aE;have zE:=L.zE
  have FG:=L.fSym
  have eg:=H.eg
  obtain ⟨D,hD⟩:∃ D,(PX++([x]++(Y++S))).toArray=D:=⟨_,rfl⟩
  have hsz:D.size=len:=by rw [<-hD];simp;omega
  have hs:=H.hs
  have hlen:=H.hsz
  have hx:D[a]! = x:=by rw [<-hD,List.singleton_append];exact get_at _ _ _ _ ha
  have hy:∀ (i:Nat) (h0:m<=i) (h1:i - m < Y.length),D[i]! = Y[i - m]:=fun i h0 h1=>by
    rw [<-hD,getYn PX [x] Y S i (by simp;omega) (by simp;omega)];congr 1;simp;omega
  have HIN:Aside (∀ i,m<=i->i<=b->(m < i->lt (key D[i - 1]!) (key x)=true)->(i < b->lt (key D[i]!) (key x)=false)->mrg key [x] Y=Y.take (i - m)++x :: Y.drop (i - m)):=fun i h0 h1 h2 h3 =>
    ins_left key x Y (i - m) hY (by omega) (fun h=>by have:=h2 (by omega);rw [hy (i - 1) (by omega) (by omega)] at this;simpa [show i - 1 - m=i - m - 1 by omega] using this) (fun h=>by have:=h3 (by omega);rw [hy i (by omega) (by omega)] at this;exact this)
  have HSW:Aside (∀ q,a<=q->q - a < Y.length->swp (PX++(Y.take (q - a)++x :: (Y.drop (q - a)++S))).toArray q (q+1)=(PX++(Y.take (q+1 - a)++x :: (Y.drop (q+1 - a)++S))).toArray):=fun q h0 h1=>by
    have:=swp_up PX Y S x (q - a) q (q+1) h1 (by omega) (by omega)
    rw [show q - a+1=q+1 - a by omega] at this
    exact this
  have HSZ:Aside (∀ t,(PX++(Y.take t++x :: (Y.drop t++S))).toArray.size=len):=fun t=>by simp;omega
  have S0:Aside (SWK enc k w0 blk off D w):=by rw [hD] at S0;exact S0
  have HD:Aside (D=(PX++(Y.take (a - a)++x :: (Y.drop (a - a)++S))).toArray):=by show _=_;rw [<-hD];simp
  have e1:(m:Int) - (a:Int)=1:=by omega
  have bl:b<=len:=by omega
  have am:a+1<=m:=by omega
  have ma:m<=a+1:=by omega
  have mb:m<=b:=by omega
  have yb:Y.length+m<=b:=by omega
  have by':b<=Y.length+m:=by omega
  clear hD hy hY ha hm hb hl L
  go_enter FG,Tryz.ntmps230
  go_wp2
  go_loopg [10,11] (b - m) (fun kx s10 s11 wr=>∃ i j:Nat,s10=.int .i64 i/\s11=.int .i64 j/\m<=i/\i<=j/\j<=b/\j - i<=kx/\Aside (SWK enc k w0 blk off D wr)/\Aside ((m < i->lt (key D[i - 1]!) (key x)=true)/\(j < b->lt (key D[j]!) (key x)=false)))
  case atStart=>exact ⟨m,b,rfl,rfl,Nat.le_refl _,mb,Nat.le_refl _,Nat.le_refl _,S0,(show _/\_ from ⟨fun h=>absurd h (Nat.lt_irrefl _),fun h=>absurd h (Nat.lt_irrefl _)⟩)⟩
  case round =>
    clear S0
    obtain ⟨i,j,rfl,rfl,hmi,hij,hjb,hkx,S1,I⟩:=hrel
    by_cases hlt:i < j
    · have hltz:(i:Int) < (j:Int):=by omega
      obtain ⟨h,hh⟩:∃ h:Nat,h=(i+j) / 2:=⟨_,rfl⟩
      have eh:((i:Int)+(j:Int)) / 2=(h:Int):=by omega
      have h1:i<=h:=by omega
      have h2:h < j:=by omega
      obtain ⟨y,hy⟩:∃ y,D[h]! = y:=⟨_,rfl⟩
      have b1:(h:Int) < (len:Int):=by omega
      have b2:(a:Int) < (len:Int):=by omega
      have l1:=S1.out.ld H.R (by omega) P (h) (by omega)
      have l2:=S1.out.ld H.R (by omega) P (a) (by omega)
      rw [hy] at l1
      rw [hx] at l2
      have hcg:=S1.out.cmp H.hC (by omega) y x
      have S3:Aside (∀ n os,SWK enc k w0 blk off D (grow (wr.drewN n) os)):=fun n os=>S1.out.grown n os
      clear hh
      cases hc:lt (key y) (key x) with
      | true =>
        have hlv:=H.less hc
        have hlw:=decide_eq_true hlv
        have I2:Aside ((m < h+1->lt (key D[h+1 - 1]!) (key x)=true)/\(j < b->lt (key D[j]!) (key x)=false)):=⟨fun _=>by rw [Nat.add_sub_cancel,hy];exact hc,I.out.2⟩
        clear S1 I hc hy
        go_wp2_with fail
        go_quiet_grown (first | (go_at_fn g;refine Calls.grown_of (hcg _ _)))
        clear l1 l2 hcg
        have S4:Aside (SWK enc k w0 blk off D (grow (wr.drewN nq) osq)):=S3.out nq osq
        clear S3
        generalize grow (wr.drewN nq) osq=w2 at S4 ⊢
        go_wp2
        go_roundg (j - (h+1))
        case measure=>omega
        case rel=>exact ⟨h+1,j,by go_num,rfl,by omega,by omega,hjb,Nat.le_refl _,S4,I2⟩
      | false =>
        have hlv:=H.notless hc
        have hlw:=decide_eq_false hlv
        have I2:Aside ((m < i->lt (key D[i - 1]!) (key x)=true)/\(h < b->lt (key D[h]!) (key x)=false)):=⟨I.out.1,fun _=>by rw [hy];exact hc⟩
        clear S1 I hc hy
        go_wp2_with fail
        go_quiet_grown (first | (go_at_fn g;refine Calls.grown_of (hcg _ _)))
        clear l1 l2 hcg
        have S4:Aside (SWK enc k w0 blk off D (grow (wr.drewN nq) osq)):=S3.out nq osq
        clear S3
        generalize grow (wr.drewN nq) osq=w2 at S4 ⊢
        go_wp2
        go_roundg (h - i)
        case measure=>omega
        case rel=>exact ⟨i,h,rfl,by first | rfl | go_num,hmi,h1,by omega,Nat.le_refl _,S4,I2⟩
    · have hltz:¬ (i:Int) < (j:Int):=by omega
      obtain rfl:j=i:=by omega
      have hmr:=HIN.out j hmi hjb I.out.1 I.out.2
      have HM:Aside (mrg key [x] Y=Y.take (j - m)++x :: Y.drop (j - m)):=hmr
      have S2:Aside (SWK enc k w0 blk off (PX++(Y.take (a - a)++x :: (Y.drop (a - a)++S))).toArray wr):=by
        show SWK _ _ _ _ _ _ _;rw [<-HD.out];exact S1.out
      clear hmr I S1 HIN HD hx hsz
      go_wp2
      go_loopg [13] (b - a) (fun kx s13 wr2=>∃ q:Nat,s13=.int .i64 q/\a<=q/\q<=j - 1/\j - q<=kx/\Aside (SWK enc k w0 blk off (PX++(Y.take (q - a)++x :: (Y.drop (q - a)++S))).toArray wr2))
      case atStart=>exact ⟨a,rfl,Nat.le_refl _,by omega,by omega,S2⟩
      case round =>
        clear S2
        obtain ⟨q,rfl,haq,hqj,hkq,S5⟩:=hrel
        by_cases hql:q < j - 1
        · have hqz:(q:Int) < (j:Int) - 1:=by omega
          have hst:=HSW.out q haq (by omega)
          have hsz:=HSZ.out (q - a)
          obtain ⟨dk,hdk⟩:∃ dk,(PX++(Y.take (q - a)++x :: (Y.drop (q - a)++S))).toArray=dk:=⟨_,rfl⟩
          rw [hdk] at hst hsz S5
          have p0:(0:Int)<=(q:Int)+1:=by omega
          have e0:((q:Int)+1).toNat=q+1:=by omega
          have z0':(q:Int)+1 < (len:Int):=by omega
          have z1':(q:Int) < (len:Int):=by omega
          have S6:Aside (SWK enc k w0 blk off (swp dk q (q+1)) ((wr.drew.setCells blk (off+q*k) (enc dk[q+1]!)).setCells blk (off+(q+1)*k) (enc dk[q]!))):=S5.out.swapped H.R q (q+1) (by omega) (by omega)
          have l1:=S5.out.ld1 H.R (by omega) P q (by omega)
          have l2:=S5.out.ld1 H.R (by omega) P (q+1) (by omega)
          have s1:=S5.out.st1 H.R (by omega) P q (by omega) dk[q+1]!
          have s2:=S5.out.st2 H.R (by omega) P q (q+1) (by omega) (by omega) dk[q+1]! dk[q]!
          have n1:(enc dk[q]!).length=k:=H.R.hk _
          have n2:(enc dk[q+1]!).length=k:=H.R.hk _
          generalize enc dk[q]! = cI at S6 l1 s2 n1
          generalize enc dk[q+1]! = cJ at S6 l2 s1 s2 n2
          rw [hst] at S6
          clear S5 hst hdk
          go_wp2_with fail
          go_big_region_o
          clear l1 l2 s1 s2
          generalize (wr.drew.setCells blk (off+q*k) cJ).setCells blk (off+(q+1)*k) cI=w2 at S6 ⊢
          go_wp2
          go_roundg (j - (q+1))
          case measure=>omega
          case rel=>exact ⟨q+1,by go_num,by omega,by omega,Nat.le_refl _,S6⟩
        · have hqz:¬ (q:Int) < (j:Int) - 1:=by omega
          have hq:q - a=j - m:=by omega
          have S7:=S5.out
          rw [hq] at S7
          clear S5
          go_wp2
          (try simp only [Exit.inBlock,Exit.then]);refine bodyPost_ret (results_none rfl _ _ _) rfl ?_
          refine ⟨rfl,?_⟩
          rw [HM.out,List.append_assoc,List.cons_append]
          exact S7
theorem symRight_srt (L:SrtP P k) (H:SrtR P k enc key cf g cb blk off len d0 w0) (cap a m b:Nat) (w:World) (PX X S:List α) (y:α) (ha:a=PX.length) (hm:m=a+X.length) (hb:b=m+1) (h2:2<=X.length) (hX:Sorted key X) (hl:PX.length+X.length+1+S.length=len)
    (S0:SWK enc k w0 blk off (PX++(X++([y]++S))).toArray w):Calls P 230 #[.slice (some ⟨blk,off,none⟩) len cap,.int .i64 a,.int .i64 m,.int .i64 b,.func (.func g) #[] cb] w fun e w'=>e=.returned (.tuple #[])/\SWK enc k w0 blk off (PX++(mrg key X [y]++S)).toArray w':=by
  have mixed:=L.mixed;have t0:=L.t0;have a0:=L.a0;have z0:=L.z0;have v0:=L.v0;have t3:=L.t3;have a3:=L.a3;have z3:=L.z3;have v3:=L.v3;have tU:=L.tU;have aU:=L.aU;have zU:=L.zU;have uU:=run_underlying L.tU;have u3:=run_underlying L.t3;have t4:=L.t4;have a4:=L.a4;have z4:=L.z4;have v4:=L.v4;have tS:=L.tS;have aS:=L.aS;have zS:=L.zS;have vS:=L.vS;have tC:=L.tC;have aC:=L.aC;have zC:=L.zC;have aE:=L.aE;have zE:=L.zE
  have FG:=L.fSym
  have eg:=H.eg
  obtain ⟨D,hD⟩:∃ D,(PX++(X++([y]++S))).toArray=D:=⟨_,rfl⟩
  have hsz:D.size=len:=by rw [<-hD];simp;omega
  have hs:=H.hs
  have hlen:=H.hsz
  have hx:D[m]! = y:=by
    have:=get_at (PX++X) S y m (by simp;omega)
    rw [List.append_assoc] at this
    rw [<-hD,List.singleton_append]
    exact this
  have hy:∀ (i:Nat) (h0:a<=i) (h1:i - a < X.length),D[i]! = X[i - a]:=fun i h0 h1=>by
    rw [<-hD,getXn PX X [y] S i (by omega) (by omega)];congr 1;omega
  have HIN:Aside (∀ i,a<=i->i<=m->(a < i->lt (key y) (key D[i - 1]!)=false)->(i < m->lt (key y) (key D[i]!)=true)->mrg key X [y]=X.take (i - a)++y :: X.drop (i - a)):=fun i h0 h1 h2 h3 =>
    ins_right key y X (i - a) hX (by omega) (fun h=>by have:=h2 (by omega);rw [hy (i - 1) (by omega) (by omega)] at this;simpa [show i - 1 - a=i - a - 1 by omega] using this) (fun h=>by have:=h3 (by omega);rw [hy i (by omega) (by omega)] at this;exact this)
  have HSW:Aside (∀ q,a<=q->q - a < X.length->swp (PX++(X.take (q+1 - a)++y :: (X.drop (q+1 - a)++S))).toArray (q+1) q=(PX++(X.take (q - a)++y :: (X.drop (q - a)++S))).toArray):=fun q h0 h1=>by
    have:=swp_down PX X S y (q - a) q (q+1) h1 (by omega) (by omega)
    rw [show q - a+1=q+1 - a by omega] at this
    exact this
  have HSZ:Aside (∀ t,(PX++(X.take t++y :: (X.drop t++S))).toArray.size=len):=fun t=>by simp;omega
  have S0:Aside (SWK enc k w0 blk off D w):=by rw [hD] at S0;exact S0
  have HD:Aside (D=(PX++(X.take (m - a)++y :: (X.drop (m - a)++S))).toArray):=by
    show _=_;rw [<-hD,List.take_of_length_le (by omega),List.drop_eq_nil_of_le (by omega)];simp
  have e1:(b:Int) - (m:Int)=1:=by omega
  have e2:¬ (m:Int) - (a:Int)=1:=by omega
  have e2':((m:Int) - (a:Int)==1)=false:=beq_eq_false_iff_ne.2 e2
  have bl:b<=len:=by omega
  have am:a<=m:=by omega
  have mb:m+1<=b:=by omega
  have bm:b<=m+1:=by omega
  have yb:X.length+a<=m:=by omega
  have by':m<=X.length+a:=by omega
  clear hD hy hX ha hm hb hl L
  go_enter FG,Tryz.ntmps230
  go_wp2
  go_loopg [14,15] (m - a) (fun kx s10 s11 wr=>∃ i j:Nat,s10=.int .i64 i/\s11=.int .i64 j/\a<=i/\i<=j/\j<=m/\j - i<=kx/\Aside (SWK enc k w0 blk off D wr)/\Aside ((a < i->lt (key y) (key D[i - 1]!)=false)/\(j < m->lt (key y) (key D[j]!)=true)))
  case atStart=>exact ⟨a,m,rfl,rfl,Nat.le_refl _,am,Nat.le_refl _,Nat.le_refl _,S0,(show _/\_ from ⟨fun h=>absurd h (Nat.lt_irrefl _),fun h=>absurd h (Nat.lt_irrefl _)⟩)⟩
  case round =>
    clear S0
    obtain ⟨i,j,rfl,rfl,hmi,hij,hjb,hkx,S1,I⟩:=hrel
    by_cases hlt:i < j
    · have hltz:(i:Int) < (j:Int):=by omega
      obtain ⟨h,hh⟩:∃ h:Nat,h=(i+j) / 2:=⟨_,rfl⟩
      have eh:((i:Int)+(j:Int)) / 2=(h:Int):=by omega
      have h1:i<=h:=by omega
      have h2:h < j:=by omega
      obtain ⟨z,hz⟩:∃ z,D[h]! = z:=⟨_,rfl⟩
      have b1:(h:Int) < (len:Int):=by omega
      have b2:(m:Int) < (len:Int):=by omega
      have l1:=S1.out.ld H.R (by omega) P (m) (by omega)
      have l2:=S1.out.ld H.R (by omega) P (h) (by omega)
      rw [hx] at l1
      rw [hz] at l2
      have hcg:=S1.out.cmp H.hC (by omega) y z
      have S3:Aside (∀ n os,SWK enc k w0 blk off D (grow (wr.drewN n) os)):=fun n os=>S1.out.grown n os
      clear hh
      cases hc:lt (key y) (key z) with
      | false =>
        have hlv:=H.notless hc
        have hlw:=decide_eq_false hlv
        have I2:Aside ((a < h+1->lt (key y) (key D[h+1 - 1]!)=false)/\(j < m->lt (key y) (key D[j]!)=true)):=⟨fun _=>by rw [Nat.add_sub_cancel,hz];exact hc,I.out.2⟩
        clear S1 I hc hz
        go_wp2_with fail
        go_quiet_grown (first | (go_at_fn g;refine Calls.grown_of (hcg _ _)))
        clear l1 l2 hcg
        have S4:Aside (SWK enc k w0 blk off D (grow (wr.drewN nq) osq)):=S3.out nq osq
        clear S3
        generalize grow (wr.drewN nq) osq=w2 at S4 ⊢
        go_wp2
        go_roundg (j - (h+1))
        case measure=>omega
        case rel=>exact ⟨h+1,j,by go_num,rfl,by omega,by omega,hjb,Nat.le_refl _,S4,I2⟩
      | true =>
        have hlv:=H.less hc
        have hlw:=decide_eq_true hlv
        have I2:Aside ((a < i->lt (key y) (key D[i - 1]!)=false)/\(h < m->lt (key y) (key D[h]!)=true)):=⟨I.out.1,fun _=>by rw [hz];exact hc⟩
        clear S1 I hc hz
        go_wp2_with fail
        go_quiet_grown (first | (go_at_fn g;refine Calls.grown_of (hcg _ _)))
        clear l1 l2 hcg
        have S4:Aside (SWK enc k w0 blk off D (grow (wr.drewN nq) osq)):=S3.out nq osq
        clear S3
        generalize grow (wr.drewN nq) osq=w2 at S4 ⊢
        go_wp2
        go_roundg (h - i)
        case measure=>omega
        case rel=>exact ⟨i,h,rfl,by first | rfl | go_num,hmi,h1,by omega,Nat.le_refl _,S4,I2⟩
    · have hltz:¬ (i:Int) < (j:Int):=by omega
      obtain rfl:j=i:=by omega
      have hmr:=HIN.out j hmi hjb I.out.1 I.out.2
      have HM:Aside (mrg key X [y]=X.take (j - a)++y :: X.drop (j - a)):=hmr
      have S2:Aside (SWK enc k w0 blk off (PX++(X.take (m - a)++y :: (X.drop (m - a)++S))).toArray wr):=by
        show SWK _ _ _ _ _ _ _;rw [<-HD.out];exact S1.out
      clear hmr I S1 HIN HD hx hsz
      go_wp2
      go_loopg [17] (b - a) (fun kx s13 wr2=>∃ q:Nat,s13=.int .i64 q/\j<=q/\q<=m/\q - j<=kx/\Aside (SWK enc k w0 blk off (PX++(X.take (q - a)++y :: (X.drop (q - a)++S))).toArray wr2))
      case atStart=>exact ⟨m,rfl,hjb,Nat.le_refl _,by omega,S2⟩
      case round =>
        clear S2
        obtain ⟨qq,rfl,hjq,hqm,hkq,S5⟩:=hrel
        by_cases hql:j < qq
        · obtain ⟨q,rfl⟩:∃ q,qq=q+1:=⟨qq - 1,by omega⟩
          have hqz:(j:Int) < (q:Int)+1:=by omega
          have hst:=HSW.out q (by omega) (by omega)
          have hsz:=HSZ.out (q+1 - a)
          obtain ⟨dk,hdk⟩:∃ dk,(PX++(X.take (q+1 - a)++y :: (X.drop (q+1 - a)++S))).toArray=dk:=⟨_,rfl⟩
          rw [hdk] at hst hsz S5
          have p0:(0:Int)<=(q:Int)+1:=by omega
          have e0:((q:Int)+1).toNat=q+1:=by omega
          have z0':(q:Int)+1 < (len:Int):=by omega
          have z1':(q:Int) < (len:Int):=by omega
          have hwp:IntKind.i64.wrap (q:Int)=(q:Int):=by rw [IntKind.wrap_i64];omega
          have S6:Aside (SWK enc k w0 blk off (swp dk (q+1) q) ((wr.drew.setCells blk (off+(q+1)*k) (enc dk[q]!)).setCells blk (off+q*k) (enc dk[q+1]!))):=S5.out.swapped H.R (q+1) q (by omega) (by omega)
          have l1:=S5.out.ld1 H.R (by omega) P q (by omega)
          have l2:=S5.out.ld1 H.R (by omega) P (q+1) (by omega)
          have s1:=S5.out.st1 H.R (by omega) P (q+1) (by omega) dk[q]!
          have s2:=S5.out.st2 H.R (by omega) P (q+1) q (by omega) (by omega) dk[q]! dk[q+1]!
          have n1:(enc dk[q]!).length=k:=H.R.hk _
          have n2:(enc dk[q+1]!).length=k:=H.R.hk _
          generalize enc dk[q]! = cI at S6 l1 s1 s2 n1
          generalize enc dk[q+1]! = cJ at S6 l2 s2 n2
          rw [hst] at S6
          clear S5 hst hdk
          go_wp2_with fail
          go_big_region_o
          clear l1 l2 s1 s2
          generalize (wr.drew.setCells blk (off+(q+1)*k) cI).setCells blk (off+q*k) cJ=w2 at S6 ⊢
          go_wp2
          go_roundg (q - j)
          case measure=>omega
          case rel=>exact ⟨q,by first | rfl | go_num | (congr 1;omega),by omega,by omega,Nat.le_refl _,S6⟩
        · have hqz:¬ (j:Int) < (qq:Int):=by omega
          obtain rfl:qq=j:=by omega
          have S7:=S5.out
          clear S5
          go_wp2
          (try simp only [Exit.inBlock,Exit.then]);refine bodyPost_ret (results_none rfl _ _ _) rfl ?_
          refine ⟨rfl,?_⟩
          rw [HM.out,List.append_assoc,List.cons_append]
          exact S7
end Ca
end Go.Proofs.YtobfaibofhmpgaaGreatDoor
