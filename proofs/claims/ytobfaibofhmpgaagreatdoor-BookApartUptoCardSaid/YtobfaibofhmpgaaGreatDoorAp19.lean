import Derived.Test.YtobfaibofhmpgaaGreatDoorAp17
set_option linter.unusedVariables false
set_option maxHeartbeats 4000000
set_option maxRecDepth 1000000
namespace Go.Proofs.YtobfaibofhmpgaaGreatDoor.Ca
open Go.Shelf Go.RowKit Go.Lib Go.Sort
variable {P:Program} {α:Type} [Inhabited α] {k:Nat} {enc:α->List Value} {key:α->RowB} {cf:α->α->Int} {g:Nat} {cb:Array Value} {blk off len:Nat} {d0:Array α} {w0:World}
def SymDone (P:Program) (k:Nat) (enc:α->List Value) (key:α->RowB) (g:Nat) (cb:Array Value) (blk off len cap:Nat) (w0:World) (N:Nat):Prop :=
  ∀ (a m b:Nat) (w:World) (PX X Y S:List α),X.length+Y.length<=N->0 < X.length->0 < Y.length->a=PX.length->m=a+X.length->b=m+Y.length->Sorted key X->Sorted key Y->PX.length+X.length+Y.length+S.length=len->
    SWK enc k w0 blk off (PX++(X++(Y++S))).toArray w->
    Calls P 230 #[.slice (some ⟨blk,off,none⟩) len cap,.int .i64 a,.int .i64 m,.int .i64 b,.func (.func g) #[] cb] w fun e w'=>e=.returned (.tuple #[])/\SWK enc k w0 blk off (PX++(mrg key X Y++S)).toArray w'
omit [Inhabited α] in
theorem mrg_le_nil {X Y:List α} (h:X=[]\/Y=[]):mrg key X Y=X++Y:=by
  rcases h with rfl | rfl
  · rw [mrg_nil];rfl
  · rw [mrg_right];simp
theorem symMain_srt (L:SrtP P k) (H:SrtR P k enc key cf g cb blk off len d0 w0) (cap:Nat) (N:Nat) (IH:SymDone P k enc key g cb blk off len cap w0 N) (a m b:Nat) (w:World) (PX X Y S:List α) (hN:X.length+Y.length<=N+1) (hx2:2<=X.length) (hy2:2<=Y.length) (ha:a=PX.length) (hm:m=a+X.length) (hb:b=m+Y.length)
    (hX:Sorted key X) (hY:Sorted key Y) (hl:PX.length+X.length+Y.length+S.length=len) (S0:SWK enc k w0 blk off (PX++(X++(Y++S))).toArray w):Calls P 230 #[.slice (some ⟨blk,off,none⟩) len cap,.int .i64 a,.int .i64 m,.int .i64 b,.func (.func g) #[] cb] w fun e w'=>e=.returned (.tuple #[])/\SWK enc k w0 blk off (PX++(mrg key X Y++S)).toArray w':=by
  have mixed:=L.mixed;have t0:=L.t0;have a0:=L.a0;have z0:=L.z0;have v0:=L.v0;have t3:=L.t3;have a3:=L.a3;have z3:=L.z3;have v3:=L.v3;have tU:=L.tU;have aU:=L.aU;have zU:=L.zU;have uU:=run_underlying L.tU;have u3:=run_underlying L.t3;have t4:=L.t4;have a4:=L.a4;have z4:=L.z4;have v4:=L.v4;have tS:=L.tS;have aS:=L.aS;have zS:=L.zS;have vS:=L.vS;have tC:=L.tC;have aC:=L.aC;have zC:=L.zC;have aE:=L.aE;have zE:=L.zE
  have FG:=L.fSym
  have eg:=H.eg
  have eR:∀ args w,(callFunc 244 args).run P w=.ok (.enter 244 args) w:=enters_of L.fRot (by kernel_rfl) rfl
  have eS:∀ args w,(callFunc 230 args).run P w=.ok (.enter 230 args) w:=enters_of L.fSym (by kernel_rfl) rfl
  have hs:=H.hs
  have hlen:=H.hsz
  obtain ⟨D,hD⟩:∃ D,(PX++(X++(Y++S))).toArray=D:=⟨_,rfl⟩
  have hsz:D.size=len:=by rw [<-hD];simp;omega
  obtain ⟨mid,hmid⟩:∃ mid:Nat,mid=(a+b) / 2:=⟨_,rfl⟩
  obtain ⟨n,hn⟩:∃ n:Nat,n=mid+m:=⟨_,rfl⟩
  have emid:((a:Int)+(b:Int)) / 2=(mid:Int):=by omega
  have en:(mid:Int)+(m:Int)=(n:Int):=by omega
  obtain ⟨pv,hpv⟩:∃ pv:Nat,pv=n - 1:=⟨_,rfl⟩
  have epv:(n:Int) - 1=(pv:Int):=by omega
  have q1:¬ (m:Int) - (a:Int)=1:=by omega
  have q1':((m:Int) - (a:Int)==1)=false:=beq_eq_false_iff_ne.2 q1
  have q2:¬ (b:Int) - (m:Int)=1:=by omega
  have q2':((b:Int) - (m:Int)==1)=false:=beq_eq_false_iff_ne.2 q2
  have bl:b<=len:=by omega
  have am:a+2<=m:=by omega
  have mb:m+2<=b:=by omega
  have m1:a+b<=2*mid+1:=by omega
  have m2:2*mid<=a+b:=by omega
  have n1:n<=mid+m:=by omega
  have n2:mid+m<=n:=by omega
  have p1:pv+1<=n:=by omega
  have p2:n<=pv+1:=by omega
  -- what the cut leaves
  have CUT:Aside (∀ s s0 r0:Nat,((mid < m/\s0=n - b/\r0=mid)\/(m<=mid/\s0=a/\r0=m))->s0<=s->s<=r0->(s0 < s->lt (key D[n - s]!) (key D[s - 1]!)=false)->(s < r0->lt (key D[n - 1 - s]!) (key D[s]!)=true)->
      ∃ X1 X2 Y1 Y2:List α,X1.length+a=s/\s+X2.length=m/\m+Y1.length=n - s/\n - s+Y2.length=b/\X=X1++X2/\Y=Y1++Y2/\Sorted key X1/\Sorted key X2/\Sorted key Y1/\Sorted key Y2/\mrg key X Y=mrg key X1 Y1++mrg key X2 Y2):=fun s s0 r0 hc h0 h1 g1 g2 =>
    ⟨X.take (s - a),X.drop (s - a),Y.take (n - s - m),Y.drop (n - s - m),by simp;omega,by simp;omega,by simp;omega,by simp;omega,(List.take_append_drop _ _).symm,(List.take_append_drop _ _).symm,sorted_take key hX _,sorted_drop key hX _,sorted_take key hY _,sorted_drop key hY _,
      sym_cut key PX X Y S a m b mid n s s0 r0 ha hm hb hmid hn hc h0 h1 (by rw [hD];exact g1) (by rw [hD];exact g2) hX hY⟩
  have CR:Aside (∀ (s E:Nat) (W:World) (X1 X2 Y1 Y2:List α),X1.length+a=s->s+X2.length=m->m+Y1.length=E->E+Y2.length=b->0 < X2.length->0 < Y1.length->SWK enc k w0 blk off (PX++(X1++(X2++(Y1++(Y2++S))))).toArray W->
      Calls P 244 #[.slice (some ⟨blk,off,none⟩) len cap,.int .i64 s,.int .i64 m,.int .i64 E,.func (.func g) #[] cb] W fun e w'=>e=.returned (.tuple #[])/\SWK enc k w0 blk off (PX++(X1++(Y1++(X2++(Y2++S))))).toArray w'):=fun s E W X1 X2 Y1 Y2 h1 h2 h3 h4 h5 h6 h7=>by
    have:=rotate_srt L enc g cb blk off cap len s m E d0 w0 W H.R H.hs (PX++X1) X2 Y1 (Y2++S) (by simp;omega) (by omega) (by omega) h5 h6 (by simp;omega) (by rw [List.append_assoc];exact h7) H.hsz
    simpa only [List.append_assoc] using this
  have C1:Aside (∀ (s:Nat) (W:World) (X1 X2 Y1 Y2:List α),X1.length+a=s->s+Y1.length=mid->mid+X2.length+Y2.length=b->0 < X1.length->0 < Y1.length->Sorted key X1->Sorted key Y1->SWK enc k w0 blk off (PX++(X1++(Y1++(X2++(Y2++S))))).toArray W->
      Calls P 230 #[.slice (some ⟨blk,off,none⟩) len cap,.int .i64 a,.int .i64 s,.int .i64 mid,.func (.func g) #[] cb] W fun e w'=>e=.returned (.tuple #[])/\SWK enc k w0 blk off (PX++(mrg key X1 Y1++(X2++(Y2++S)))).toArray w'):=fun s W X1 X2 Y1 Y2 h1 h2 h3 h4 h5 h6 h7 h8 =>
    IH a s mid W PX X1 Y1 (X2++(Y2++S)) (by omega) h4 h5 ha (by omega) (by omega) h6 h7 (by simp;omega) h8
  have C2:Aside (∀ (E:Nat) (W:World) (M1 X2 Y2:List α),M1.length+a=mid->mid+X2.length=E->E+Y2.length=b->0 < X2.length->0 < Y2.length->Sorted key X2->Sorted key Y2->SWK enc k w0 blk off (PX++(M1++(X2++(Y2++S)))).toArray W->
      Calls P 230 #[.slice (some ⟨blk,off,none⟩) len cap,.int .i64 mid,.int .i64 E,.int .i64 b,.func (.func g) #[] cb] W fun e w'=>e=.returned (.tuple #[])/\SWK enc k w0 blk off (PX++(M1++(mrg key X2 Y2++S))).toArray w'):=fun E W M1 X2 Y2 h1 h2 h3 h4 h5 h6 h7 h8=>by
    have:=IH mid E b W (PX++M1) X2 Y2 S (by omega) h4 h5 (by simp;omega) (by omega) (by omega) h6 h7 (by simp;omega) (by rw [List.append_assoc];exact h8)
    simpa only [List.append_assoc] using this
  have FIN:Aside (∀ (X1 X2 Y1 Y2:List α) (W:World),mrg key X Y=mrg key X1 Y1++mrg key X2 Y2->SWK enc k w0 blk off (PX++(mrg key X1 Y1++(mrg key X2 Y2++S))).toArray W->SWK enc k w0 blk off (PX++(mrg key X Y++S)).toArray W):=fun X1 X2 Y1 Y2 W h1 h2=>by
    rw [h1,List.append_assoc];exact h2
  have HD:Aside (D=(PX++(X++(Y++S))).toArray):=hD.symm
  have S0:Aside (SWK enc k w0 blk off D w):=by rw [hD] at S0;exact S0
  clear hD IH hX hY ha hm hb hl hN hmid hn hpv L
  rcases Nat.lt_or_ge mid m with k1 | k1
  · have kz : (mid:Int) < (m:Int):=by omega
    obtain ⟨s0,hs0⟩:∃ s0:Nat,s0=n - b:=⟨_,rfl⟩
    have e20:(n:Int) - (b:Int)=(s0:Int):=by omega
    have k2:s0+b<=n:=by omega
    have k3:n<=s0+b:=by omega
    clear hs0
    have hsr:s0<=mid:=by omega
    have hr0:mid < m+1:=by omega
    have hr1:mid<=mid+1:=by omega
    have has:a<=s0:=by omega
    have hbnd:n<=s0+b:=by omega
    have hpr:m+mid<=n:=by omega
    go_enter FG,Tryz.ntmps230
    go_wp2
    go_loopg [20,21] (mid - s0) (fun kx s20 s21 wr=>∃ s r:Nat,s20=.int .i64 s/\s21=.int .i64 r/\s0<=s/\s<=r/\r<=mid/\r - s<=kx/\Aside (SWK enc k w0 blk off D wr)/\Aside ((s0 < s->lt (key D[n - s]!) (key D[s - 1]!)=false)/\(r < mid->lt (key D[n - 1 - r]!) (key D[r]!)=true)))
    case atStart=>exact ⟨s0,mid,rfl,rfl,Nat.le_refl _,hsr,Nat.le_refl _,Nat.le_refl _,S0,(show _/\_ from ⟨fun h=>absurd h (Nat.lt_irrefl _),fun h=>absurd h (Nat.lt_irrefl _)⟩)⟩
    case round =>
      clear S0
      obtain ⟨s,r,rfl,rfl,h1,hsr',h2,hkx,S1,I⟩:=hrel
      by_cases hlt:s < r
      · have hltz:(s:Int) < (r:Int):=by omega
        obtain ⟨c,hc0⟩:∃ c:Nat,c=(s+r) / 2:=⟨_,rfl⟩
        have ec:((s:Int)+(r:Int)) / 2=(c:Int):=by omega
        have c1:s<=c:=by omega
        have c2:c < r:=by omega
        obtain ⟨pc,hpc⟩:∃ pc:Nat,pc=pv - c:=⟨_,rfl⟩
        have epc:(pv:Int) - (c:Int)=(pc:Int):=by omega
        have rpc:IntKind.i64.wrap (pc:Int)=(pc:Int):=by rw [IntKind.wrap_i64];omega
        have b1:(pc:Int) < (len:Int):=by omega
        have b2:(c:Int) < (len:Int):=by omega
        have hpc1:n - (c+1)=pc:=by omega
        have hpc2:n - 1 - c=pc:=by omega
        obtain ⟨y,hy⟩:∃ y,D[pc]! = y:=⟨_,rfl⟩
        obtain ⟨x,hx⟩:∃ x,D[c]! = x:=⟨_,rfl⟩
        have l1:=S1.out.ld H.R (by omega) P (pc) (by omega)
        have l2:=S1.out.ld H.R (by omega) P (c) (by omega)
        rw [hy] at l1
        rw [hx] at l2
        have hcg:=S1.out.cmp H.hC (by omega) y x
        have S3:Aside (∀ n os,SWK enc k w0 blk off D (grow (wr.drewN n) os)):=fun n os=>S1.out.grown n os
        clear hc0 hpc
        cases hc:lt (key y) (key x) with
        | false =>
          have hlv:=H.notless hc
          have hlw:=decide_eq_false hlv
          have I2:Aside ((s0 < c+1->lt (key D[n - (c+1)]!) (key D[c+1 - 1]!)=false)/\(r < mid->lt (key D[n - 1 - r]!) (key D[r]!)=true)):=⟨fun _=>by rw [hpc1,Nat.add_sub_cancel,hy,hx];exact hc,I.out.2⟩
          clear S1 I hc hy hx hpc1 hpc2
          go_wp2_with fail
          go_quiet_grown (first | (go_at_fn g;refine Calls.grown_of (hcg _ _)))
          clear l1 l2 hcg
          have S4:Aside (SWK enc k w0 blk off D (grow (wr.drewN nq) osq)):=S3.out nq osq
          clear S3
          generalize grow (wr.drewN nq) osq=w2 at S4 ⊢
          go_wp2
          go_roundg (r - (c+1))
          case measure=>omega
          case rel=>exact ⟨c+1,r,by go_num,rfl,by omega,by omega,h2,Nat.le_refl _,S4,I2⟩
        | true =>
          have hlv:=H.less hc
          have hlw:=decide_eq_true hlv
          have I2:Aside ((s0 < s->lt (key D[n - s]!) (key D[s - 1]!)=false)/\(c < mid->lt (key D[n - 1 - c]!) (key D[c]!)=true)):=⟨I.out.1,fun _=>by rw [hpc2,hy,hx];exact hc⟩
          clear S1 I hc hy hx hpc1 hpc2
          go_wp2_with fail
          go_quiet_grown (first | (go_at_fn g;refine Calls.grown_of (hcg _ _)))
          clear l1 l2 hcg
          have S4:Aside (SWK enc k w0 blk off D (grow (wr.drewN nq) osq)):=S3.out nq osq
          clear S3
          generalize grow (wr.drewN nq) osq=w2 at S4 ⊢
          go_wp2
          go_roundg (c - s)
          case measure=>omega
          case rel=>exact ⟨s,c,rfl,by first | rfl | go_num,h1,c1,by omega,Nat.le_refl _,S4,I2⟩
      · have hltz : ¬ (s:Int) < (r:Int):=by omega
        obtain rfl:r=s:=by omega
        obtain ⟨X1,X2,Y1,Y2,x1,x2,y1,y2,eX,eY,o1,o2,o3,o4,HM⟩:=CUT.out r s0 mid (Or.inl ⟨k1,by omega,rfl⟩) h1 h2 I.out.1 I.out.2
        have S2:Aside (SWK enc k w0 blk off (PX++(X1++(X2++(Y1++(Y2++S))))).toArray wr):=by
          have:=S1.out
          rw [HD.out,eX,eY] at this
          simp only [List.append_assoc] at this
          exact this
        have HM':Aside (mrg key X Y=mrg key X1 Y1++mrg key X2 Y2):=HM
        have OO:Aside (Sorted key X1/\Sorted key X2/\Sorted key Y1/\Sorted key Y2):=⟨o1,o2,o3,o4⟩
        obtain ⟨E,hE⟩:∃ E:Nat,E=n - r:=⟨_,rfl⟩
        have eE:(n:Int) - (r:Int)=(E:Int):=by omega
        have E1:E+r<=n:=by omega
        have E2:n<=E+r:=by omega
        rw [<-hE] at y1 y2
        have HX:Aside (X1.length+a=r/\r+X2.length=m/\m+Y1.length=E/\E+Y2.length=b):=⟨x1,x2,y1,y2⟩
        have v1:X1.length+a<=r:=by omega
        have v2:r<=X1.length+a:=by omega
        have v3:r+X2.length<=m:=by omega
        have v4:m<=r+X2.length:=by omega
        have v5:m+Y1.length<=E:=by omega
        have v6:E<=m+Y1.length:=by omega
        have v7:E+Y2.length<=b:=by omega
        have v8:b<=E+Y2.length:=by omega
        clear hE x1 x2 y1 y2 eX eY o1 o2 o3 o4 HM S1 I CUT HD hsz
        have z2:=H.R
        by_cases u1:r < m
        · have f1 : (r:Int) < (m:Int):=by omega
          have f3:(mid:Int) < (E:Int):=by omega
          by_cases u2:m < E
          · have f2:(m:Int) < (E:Int):=by omega
            have f5:(r:Int) < (mid:Int):=by omega
            have cr:=CR.out r E wr X1 X2 Y1 Y2 HX.out.1 HX.out.2.1 HX.out.2.2.1 HX.out.2.2.2 (by omega) (by omega) S2.out
            by_cases u3:a < r
            · have f4:(a:Int) < (r:Int):=by omega
              by_cases u4:E < b
              · have f6:(E:Int) < (b:Int):=by omega
                go_wp2_with fail
                go_at_call 244
                refine cr.mono ?_
                rintro e wA ⟨rfl,SA'⟩
                have SA:Aside (SWK enc k w0 blk off (PX++(X1++(Y1++(X2++(Y2++S))))).toArray wA):=SA'
                clear cr SA' S2
                have c1:=C1.out r _ X1 X2 Y1 Y2 HX.out.1 (by omega) (by omega) (by omega) (by omega) OO.out.1 OO.out.2.2.1 SA.out
                go_wp2_with fail
                go_at_call 230
                refine c1.mono ?_
                rintro e wB ⟨rfl,SB'⟩
                have SB:Aside (SWK enc k w0 blk off (PX++(mrg key X1 Y1++(X2++(Y2++S)))).toArray wB):=SB'
                have hm1:(mrg key X1 Y1).length+a=mid:=by rw [mrg_len];omega
                clear c1 SB' SA
                have c2:=C2.out E _ (mrg key X1 Y1) X2 Y2 hm1 (by omega) (by omega) (by omega) (by omega) OO.out.2.1 OO.out.2.2.2 SB.out
                have HM1:Aside ((mrg key X1 Y1).length+a=mid):=hm1
                clear hm1
                go_wp2_with fail
                go_at_call 230
                refine c2.mono ?_
                rintro e wC ⟨rfl,SC'⟩
                have SC:Aside (SWK enc k w0 blk off (PX++(mrg key X1 Y1++(mrg key X2 Y2++S))).toArray wC):=SC'
                clear c2 SC' SB
                go_wp2
                go_end0
                exact ⟨rfl,FIN.out X1 X2 Y1 Y2 _ HM'.out SC.out⟩
              · have f6:¬ (E:Int) < (b:Int):=by omega
                have ny:Y2=[]:=List.eq_nil_of_length_eq_zero (by omega)
                go_wp2_with fail
                go_at_call 244
                refine cr.mono ?_
                rintro e wA ⟨rfl,SA'⟩
                have SA:Aside (SWK enc k w0 blk off (PX++(X1++(Y1++(X2++(Y2++S))))).toArray wA):=SA'
                clear cr SA' S2
                have c1:=C1.out r _ X1 X2 Y1 Y2 HX.out.1 (by omega) (by omega) (by omega) (by omega) OO.out.1 OO.out.2.2.1 SA.out
                go_wp2_with fail
                go_at_call 230
                refine c1.mono ?_
                rintro e wB ⟨rfl,SB'⟩
                have SB:Aside (SWK enc k w0 blk off (PX++(mrg key X1 Y1++(X2++(Y2++S)))).toArray wB):=SB'
                have hm1:(mrg key X1 Y1).length+a=mid:=by rw [mrg_len];omega
                clear c1 SB' SA
                have SC:Aside (SWK enc k w0 blk off (PX++(mrg key X1 Y1++(mrg key X2 Y2++S))).toArray wB):=by
                  show SWK _ _ _ _ _ _ _;rw [mrg_le_nil (X:=X2) (Or.inr ny),List.append_assoc];exact SB.out
                clear SB hm1
                go_wp2
                go_end0
                exact ⟨rfl,FIN.out X1 X2 Y1 Y2 _ HM'.out SC.out⟩
            · have f4:¬ (a:Int) < (r:Int):=by omega
              have nx:X1=[]:=List.eq_nil_of_length_eq_zero (by omega)
              by_cases u4:E < b
              · have f6:(E:Int) < (b:Int):=by omega
                go_wp2_with fail
                go_at_call 244
                refine cr.mono ?_
                rintro e wA ⟨rfl,SA'⟩
                have SA:Aside (SWK enc k w0 blk off (PX++(X1++(Y1++(X2++(Y2++S))))).toArray wA):=SA'
                clear cr SA' S2
                have SB:Aside (SWK enc k w0 blk off (PX++(mrg key X1 Y1++(X2++(Y2++S)))).toArray wA):=by
                  show SWK _ _ _ _ _ _ _;rw [mrg_le_nil (Or.inl nx),List.append_assoc];exact SA.out
                have hm1:(mrg key X1 Y1).length+a=mid:=by rw [mrg_len];omega
                clear SA
                have c2:=C2.out E _ (mrg key X1 Y1) X2 Y2 hm1 (by omega) (by omega) (by omega) (by omega) OO.out.2.1 OO.out.2.2.2 SB.out
                have HM1:Aside ((mrg key X1 Y1).length+a=mid):=hm1
                clear hm1
                go_wp2_with fail
                go_at_call 230
                refine c2.mono ?_
                rintro e wC ⟨rfl,SC'⟩
                have SC:Aside (SWK enc k w0 blk off (PX++(mrg key X1 Y1++(mrg key X2 Y2++S))).toArray wC):=SC'
                clear c2 SC' SB
                go_wp2
                go_end0
                exact ⟨rfl,FIN.out X1 X2 Y1 Y2 _ HM'.out SC.out⟩
              · have f6:¬ (E:Int) < (b:Int):=by omega
                have ny:Y2=[]:=List.eq_nil_of_length_eq_zero (by omega)
                go_wp2_with fail
                go_at_call 244
                refine cr.mono ?_
                rintro e wA ⟨rfl,SA'⟩
                have SA:Aside (SWK enc k w0 blk off (PX++(X1++(Y1++(X2++(Y2++S))))).toArray wA):=SA'
                clear cr SA' S2
                have SB:Aside (SWK enc k w0 blk off (PX++(mrg key X1 Y1++(X2++(Y2++S)))).toArray wA):=by
                  show SWK _ _ _ _ _ _ _;rw [mrg_le_nil (Or.inl nx),List.append_assoc];exact SA.out
                have hm1:(mrg key X1 Y1).length+a=mid:=by rw [mrg_len];omega
                clear SA
                have SC:Aside (SWK enc k w0 blk off (PX++(mrg key X1 Y1++(mrg key X2 Y2++S))).toArray wA):=by
                  show SWK _ _ _ _ _ _ _;rw [mrg_le_nil (X:=X2) (Or.inr ny),List.append_assoc];exact SB.out
                clear SB hm1
                go_wp2
                go_end0
                exact ⟨rfl,FIN.out X1 X2 Y1 Y2 _ HM'.out SC.out⟩
          · have f2:¬ (m:Int) < (E:Int):=by omega
            have f4:(a:Int) < (r:Int):=by omega
            have f5:¬ (r:Int) < (mid:Int):=by omega
            have f6:(E:Int) < (b:Int):=by omega
            have ny1:Y1=[]:=List.eq_nil_of_length_eq_zero (by omega)
            have SA:Aside (SWK enc k w0 blk off (PX++(X1++(Y1++(X2++(Y2++S))))).toArray wr):=by
              have:=S2.out;rw [ny1] at this ⊢;exact this
            have SB:Aside (SWK enc k w0 blk off (PX++(mrg key X1 Y1++(X2++(Y2++S)))).toArray wr):=by
              show SWK _ _ _ _ _ _ _;rw [mrg_le_nil (Or.inr ny1),List.append_assoc];exact SA.out
            clear SA S2
            have hm1:(mrg key X1 Y1).length+a=mid:=by rw [mrg_len];omega
            have c2:=C2.out E _ (mrg key X1 Y1) X2 Y2 hm1 (by omega) (by omega) (by omega) (by omega) OO.out.2.1 OO.out.2.2.2 SB.out
            have HM1:Aside ((mrg key X1 Y1).length+a=mid):=hm1
            clear hm1
            go_wp2_with fail
            go_at_call 230
            refine c2.mono ?_
            rintro e wC ⟨rfl,SC'⟩
            have SC:Aside (SWK enc k w0 blk off (PX++(mrg key X1 Y1++(mrg key X2 Y2++S))).toArray wC):=SC'
            clear c2 SC' SB
            go_wp2
            go_end0
            exact ⟨rfl,FIN.out X1 X2 Y1 Y2 _ HM'.out SC.out⟩
        · exfalso;omega
  · have kz : ¬ (mid:Int) < (m:Int):=by omega
    have hsr:a<=m:=by omega
    have hr0:m < m+1:=by omega
    have hr1:m<=mid+1:=by omega
    have has:a<=a:=by omega
    have hbnd:n<=a+b:=by omega
    have hpr:m+m<=n:=by omega
    go_enter FG,Tryz.ntmps230
    go_wp2
    go_loopg [20,21] (m - a) (fun kx s20 s21 wr=>∃ s r:Nat,s20=.int .i64 s/\s21=.int .i64 r/\a<=s/\s<=r/\r<=m/\r - s<=kx/\Aside (SWK enc k w0 blk off D wr)/\Aside ((a < s->lt (key D[n - s]!) (key D[s - 1]!)=false)/\(r < m->lt (key D[n - 1 - r]!) (key D[r]!)=true)))
    case atStart=>exact ⟨a,m,rfl,rfl,Nat.le_refl _,hsr,Nat.le_refl _,Nat.le_refl _,S0,(show _/\_ from ⟨fun h=>absurd h (Nat.lt_irrefl _),fun h=>absurd h (Nat.lt_irrefl _)⟩)⟩
    case round =>
      clear S0
      obtain ⟨s,r,rfl,rfl,h1,hsr',h2,hkx,S1,I⟩:=hrel
      by_cases hlt:s < r
      · have hltz:(s:Int) < (r:Int):=by omega
        obtain ⟨c,hc0⟩:∃ c:Nat,c=(s+r) / 2:=⟨_,rfl⟩
        have ec:((s:Int)+(r:Int)) / 2=(c:Int):=by omega
        have c1:s<=c:=by omega
        have c2:c < r:=by omega
        obtain ⟨pc,hpc⟩:∃ pc:Nat,pc=pv - c:=⟨_,rfl⟩
        have epc:(pv:Int) - (c:Int)=(pc:Int):=by omega
        have rpc:IntKind.i64.wrap (pc:Int)=(pc:Int):=by rw [IntKind.wrap_i64];omega
        have b1:(pc:Int) < (len:Int):=by omega
        have b2:(c:Int) < (len:Int):=by omega
        have hpc1:n - (c+1)=pc:=by omega
        have hpc2:n - 1 - c=pc:=by omega
        obtain ⟨y,hy⟩:∃ y,D[pc]! = y:=⟨_,rfl⟩
        obtain ⟨x,hx⟩:∃ x,D[c]! = x:=⟨_,rfl⟩
        have l1:=S1.out.ld H.R (by omega) P (pc) (by omega)
        have l2:=S1.out.ld H.R (by omega) P (c) (by omega)
        rw [hy] at l1
        rw [hx] at l2
        have hcg:=S1.out.cmp H.hC (by omega) y x
        have S3:Aside (∀ n os,SWK enc k w0 blk off D (grow (wr.drewN n) os)):=fun n os=>S1.out.grown n os
        clear hc0 hpc
        cases hc:lt (key y) (key x) with
        | false =>
          have hlv:=H.notless hc
          have hlw:=decide_eq_false hlv
          have I2:Aside ((a < c+1->lt (key D[n - (c+1)]!) (key D[c+1 - 1]!)=false)/\(r < m->lt (key D[n - 1 - r]!) (key D[r]!)=true)):=⟨fun _=>by rw [hpc1,Nat.add_sub_cancel,hy,hx];exact hc,I.out.2⟩
          clear S1 I hc hy hx hpc1 hpc2
          go_wp2_with fail
          go_quiet_grown (first | (go_at_fn g;refine Calls.grown_of (hcg _ _)))
          clear l1 l2 hcg
          have S4:Aside (SWK enc k w0 blk off D (grow (wr.drewN nq) osq)):=S3.out nq osq
          clear S3
          generalize grow (wr.drewN nq) osq=w2 at S4 ⊢
          go_wp2
          go_roundg (r - (c+1))
          case measure=>omega
          case rel=>exact ⟨c+1,r,by go_num,rfl,by omega,by omega,h2,Nat.le_refl _,S4,I2⟩
        | true =>
          have hlv:=H.less hc
          have hlw:=decide_eq_true hlv
          have I2:Aside ((a < s->lt (key D[n - s]!) (key D[s - 1]!)=false)/\(c < m->lt (key D[n - 1 - c]!) (key D[c]!)=true)):=⟨I.out.1,fun _=>by rw [hpc2,hy,hx];exact hc⟩
          clear S1 I hc hy hx hpc1 hpc2
          go_wp2_with fail
          go_quiet_grown (first | (go_at_fn g;refine Calls.grown_of (hcg _ _)))
          clear l1 l2 hcg
          have S4:Aside (SWK enc k w0 blk off D (grow (wr.drewN nq) osq)):=S3.out nq osq
          clear S3
          generalize grow (wr.drewN nq) osq=w2 at S4 ⊢
          go_wp2
          go_roundg (c - s)
          case measure=>omega
          case rel=>exact ⟨s,c,rfl,by first | rfl | go_num,h1,c1,by omega,Nat.le_refl _,S4,I2⟩
      · have hltz : ¬ (s:Int) < (r:Int):=by omega
        obtain rfl:r=s:=by omega
        obtain ⟨X1,X2,Y1,Y2,x1,x2,y1,y2,eX,eY,o1,o2,o3,o4,HM⟩:=CUT.out r a m (Or.inr ⟨k1,rfl,rfl⟩) h1 h2 I.out.1 I.out.2
        have S2:Aside (SWK enc k w0 blk off (PX++(X1++(X2++(Y1++(Y2++S))))).toArray wr):=by
          have:=S1.out
          rw [HD.out,eX,eY] at this
          simp only [List.append_assoc] at this
          exact this
        have HM':Aside (mrg key X Y=mrg key X1 Y1++mrg key X2 Y2):=HM
        have OO:Aside (Sorted key X1/\Sorted key X2/\Sorted key Y1/\Sorted key Y2):=⟨o1,o2,o3,o4⟩
        obtain ⟨E,hE⟩:∃ E:Nat,E=n - r:=⟨_,rfl⟩
        have eE:(n:Int) - (r:Int)=(E:Int):=by omega
        have E1:E+r<=n:=by omega
        have E2:n<=E+r:=by omega
        rw [<-hE] at y1 y2
        have HX:Aside (X1.length+a=r/\r+X2.length=m/\m+Y1.length=E/\E+Y2.length=b):=⟨x1,x2,y1,y2⟩
        have v1:X1.length+a<=r:=by omega
        have v2:r<=X1.length+a:=by omega
        have v3:r+X2.length<=m:=by omega
        have v4:m<=r+X2.length:=by omega
        have v5:m+Y1.length<=E:=by omega
        have v6:E<=m+Y1.length:=by omega
        have v7:E+Y2.length<=b:=by omega
        have v8:b<=E+Y2.length:=by omega
        clear hE x1 x2 y1 y2 eX eY o1 o2 o3 o4 HM S1 I CUT HD hsz
        have z2:=H.R
        by_cases u1:r < m
        · have f1 : (r:Int) < (m:Int):=by omega
          have f3:(mid:Int) < (E:Int):=by omega
          by_cases u2:m < E
          · have f2:(m:Int) < (E:Int):=by omega
            have f5:(r:Int) < (mid:Int):=by omega
            have cr:=CR.out r E wr X1 X2 Y1 Y2 HX.out.1 HX.out.2.1 HX.out.2.2.1 HX.out.2.2.2 (by omega) (by omega) S2.out
            by_cases u3:a < r
            · have f4:(a:Int) < (r:Int):=by omega
              by_cases u4:E < b
              · have f6:(E:Int) < (b:Int):=by omega
                go_wp2_with fail
                go_at_call 244
                refine cr.mono ?_
                rintro e wA ⟨rfl,SA'⟩
                have SA:Aside (SWK enc k w0 blk off (PX++(X1++(Y1++(X2++(Y2++S))))).toArray wA):=SA'
                clear cr SA' S2
                have c1:=C1.out r _ X1 X2 Y1 Y2 HX.out.1 (by omega) (by omega) (by omega) (by omega) OO.out.1 OO.out.2.2.1 SA.out
                go_wp2_with fail
                go_at_call 230
                refine c1.mono ?_
                rintro e wB ⟨rfl,SB'⟩
                have SB:Aside (SWK enc k w0 blk off (PX++(mrg key X1 Y1++(X2++(Y2++S)))).toArray wB):=SB'
                have hm1:(mrg key X1 Y1).length+a=mid:=by rw [mrg_len];omega
                clear c1 SB' SA
                have c2:=C2.out E _ (mrg key X1 Y1) X2 Y2 hm1 (by omega) (by omega) (by omega) (by omega) OO.out.2.1 OO.out.2.2.2 SB.out
                have HM1:Aside ((mrg key X1 Y1).length+a=mid):=hm1
                clear hm1
                go_wp2_with fail
                go_at_call 230
                refine c2.mono ?_
                rintro e wC ⟨rfl,SC'⟩
                have SC:Aside (SWK enc k w0 blk off (PX++(mrg key X1 Y1++(mrg key X2 Y2++S))).toArray wC):=SC'
                clear c2 SC' SB
                go_wp2
                go_end0
                exact ⟨rfl,FIN.out X1 X2 Y1 Y2 _ HM'.out SC.out⟩
              · have f6:¬ (E:Int) < (b:Int):=by omega
                have ny:Y2=[]:=List.eq_nil_of_length_eq_zero (by omega)
                go_wp2_with fail
                go_at_call 244
                refine cr.mono ?_
                rintro e wA ⟨rfl,SA'⟩
                have SA:Aside (SWK enc k w0 blk off (PX++(X1++(Y1++(X2++(Y2++S))))).toArray wA):=SA'
                clear cr SA' S2
                have c1:=C1.out r _ X1 X2 Y1 Y2 HX.out.1 (by omega) (by omega) (by omega) (by omega) OO.out.1 OO.out.2.2.1 SA.out
                go_wp2_with fail
                go_at_call 230
                refine c1.mono ?_
                rintro e wB ⟨rfl,SB'⟩
                have SB:Aside (SWK enc k w0 blk off (PX++(mrg key X1 Y1++(X2++(Y2++S)))).toArray wB):=SB'
                have hm1:(mrg key X1 Y1).length+a=mid:=by rw [mrg_len];omega
                clear c1 SB' SA
                have SC:Aside (SWK enc k w0 blk off (PX++(mrg key X1 Y1++(mrg key X2 Y2++S))).toArray wB):=by
                  show SWK _ _ _ _ _ _ _;rw [mrg_le_nil (X:=X2) (Or.inr ny),List.append_assoc];exact SB.out
                clear SB hm1
                go_wp2
                go_end0
                exact ⟨rfl,FIN.out X1 X2 Y1 Y2 _ HM'.out SC.out⟩
            · have f4:¬ (a:Int) < (r:Int):=by omega
              have nx:X1=[]:=List.eq_nil_of_length_eq_zero (by omega)
              by_cases u4:E < b
              · have f6:(E:Int) < (b:Int):=by omega
                go_wp2_with fail
                go_at_call 244
                refine cr.mono ?_
                rintro e wA ⟨rfl,SA'⟩
                have SA:Aside (SWK enc k w0 blk off (PX++(X1++(Y1++(X2++(Y2++S))))).toArray wA):=SA'
                clear cr SA' S2
                have SB:Aside (SWK enc k w0 blk off (PX++(mrg key X1 Y1++(X2++(Y2++S)))).toArray wA):=by
                  show SWK _ _ _ _ _ _ _;rw [mrg_le_nil (Or.inl nx),List.append_assoc];exact SA.out
                have hm1:(mrg key X1 Y1).length+a=mid:=by rw [mrg_len];omega
                clear SA
                have c2:=C2.out E _ (mrg key X1 Y1) X2 Y2 hm1 (by omega) (by omega) (by omega) (by omega) OO.out.2.1 OO.out.2.2.2 SB.out
                have HM1:Aside ((mrg key X1 Y1).length+a=mid):=hm1
                clear hm1
                go_wp2_with fail
                go_at_call 230
                refine c2.mono ?_
                rintro e wC ⟨rfl,SC'⟩
                have SC:Aside (SWK enc k w0 blk off (PX++(mrg key X1 Y1++(mrg key X2 Y2++S))).toArray wC):=SC'
                clear c2 SC' SB
                go_wp2
                go_end0
                exact ⟨rfl,FIN.out X1 X2 Y1 Y2 _ HM'.out SC.out⟩
              · have f6:¬ (E:Int) < (b:Int):=by omega
                have ny:Y2=[]:=List.eq_nil_of_length_eq_zero (by omega)
                go_wp2_with fail
                go_at_call 244
                refine cr.mono ?_
                rintro e wA ⟨rfl,SA'⟩
                have SA:Aside (SWK enc k w0 blk off (PX++(X1++(Y1++(X2++(Y2++S))))).toArray wA):=SA'
                clear cr SA' S2
                have SB:Aside (SWK enc k w0 blk off (PX++(mrg key X1 Y1++(X2++(Y2++S)))).toArray wA):=by
                  show SWK _ _ _ _ _ _ _;rw [mrg_le_nil (Or.inl nx),List.append_assoc];exact SA.out
                have hm1:(mrg key X1 Y1).length+a=mid:=by rw [mrg_len];omega
                clear SA
                have SC:Aside (SWK enc k w0 blk off (PX++(mrg key X1 Y1++(mrg key X2 Y2++S))).toArray wA):=by
                  show SWK _ _ _ _ _ _ _;rw [mrg_le_nil (X:=X2) (Or.inr ny),List.append_assoc];exact SB.out
                clear SB hm1
                go_wp2
                go_end0
                exact ⟨rfl,FIN.out X1 X2 Y1 Y2 _ HM'.out SC.out⟩
          · exfalso;omega
        · have f1:¬ (r:Int) < (m:Int):=by omega
          have f3:¬ (mid:Int) < (E:Int):=by omega
          have f4:(a:Int) < (r:Int):=by omega
          have nx2:X2=[]:=List.eq_nil_of_length_eq_zero (by omega)
          by_cases u5:r < mid
          · have f5:(r:Int) < (mid:Int):=by omega
            have SA:Aside (SWK enc k w0 blk off (PX++(X1++(Y1++(X2++(Y2++S))))).toArray wr):=by
              have:=S2.out;rw [nx2] at this ⊢;exact this
            clear S2
            have c1:=C1.out r _ X1 X2 Y1 Y2 HX.out.1 (by omega) (by omega) (by omega) (by omega) OO.out.1 OO.out.2.2.1 SA.out
            go_wp2_with fail
            go_at_call 230
            refine c1.mono ?_
            rintro e wB ⟨rfl,SB'⟩
            have SB:Aside (SWK enc k w0 blk off (PX++(mrg key X1 Y1++(X2++(Y2++S)))).toArray wB):=SB'
            have hm1:(mrg key X1 Y1).length+a=mid:=by rw [mrg_len];omega
            clear c1 SB' SA
            have SC:Aside (SWK enc k w0 blk off (PX++(mrg key X1 Y1++(mrg key X2 Y2++S))).toArray wB):=by
              show SWK _ _ _ _ _ _ _;rw [mrg_le_nil (X:=X2) (Or.inl nx2),List.append_assoc];exact SB.out
            clear SB hm1
            go_wp2
            go_end0
            exact ⟨rfl,FIN.out X1 X2 Y1 Y2 _ HM'.out SC.out⟩
          · have f5:¬ (r:Int) < (mid:Int):=by omega
            have ny1:Y1=[]:=List.eq_nil_of_length_eq_zero (by omega)
            have SA:Aside (SWK enc k w0 blk off (PX++(X1++(Y1++(X2++(Y2++S))))).toArray wr):=by
              have:=S2.out;rw [nx2] at this ⊢;exact this
            clear S2
            have SB:Aside (SWK enc k w0 blk off (PX++(mrg key X1 Y1++(X2++(Y2++S)))).toArray wr):=by
              show SWK _ _ _ _ _ _ _;rw [mrg_le_nil (Or.inr ny1),List.append_assoc];exact SA.out
            have hm1:(mrg key X1 Y1).length+a=mid:=by rw [mrg_len];omega
            clear SA
            have SC:Aside (SWK enc k w0 blk off (PX++(mrg key X1 Y1++(mrg key X2 Y2++S))).toArray wr):=by
              show SWK _ _ _ _ _ _ _;rw [mrg_le_nil (X:=X2) (Or.inl nx2),List.append_assoc];exact SB.out
            clear SB hm1
            go_wp2
            go_end0
            exact ⟨rfl,FIN.out X1 X2 Y1 Y2 _ HM'.out SC.out⟩
theorem sym_srt (L:SrtP P k) (H:SrtR P k enc key cf g cb blk off len d0 w0) (cap:Nat):∀ N,SymDone P k enc key g cb blk off len cap w0 N
  | 0=>fun a m b w PX X Y S hN hx hy _ _ _ _ _ _ _=>absurd hN (by omega)
  | N + 1=>fun a m b w PX X Y S hN hx hy ha hm hb hX hY hl S0=>by
    have IH:=sym_srt L H cap N
    by_cases h1:X.length=1
    · obtain ⟨x,rfl⟩:=List.length_eq_one_iff.1 h1
      exact symLeft_srt L H cap a m b w PX Y S x ha (by simpa using hm) hb hY (by simpa using hl) S0
    · by_cases h2:Y.length=1
      · obtain ⟨y,rfl⟩:=List.length_eq_one_iff.1 h2
        exact symRight_srt L H cap a m b w PX X S y ha hm (by simpa using hb) (by omega) hX (by simpa using hl) S0
      · exact symMain_srt L H cap N IH a m b w PX X Y S hN (by omega) (by omega) ha hm hb hX hY hl S0
end Go.Proofs.YtobfaibofhmpgaaGreatDoor.Ca
