import Derived.Test.YtobfaibofhmpgaaGreatDoorAp32
set_option linter.unusedVariables false
set_option maxHeartbeats 8000000
set_option maxRecDepth 1000000
namespace Go.Proofs.YtobfaibofhmpgaaGreatDoor
namespace Bs
open Ca
open Go.Shelf Go.RowKit Go.Lib Go.Sort
variable {P:Program} {α:Type} [Inhabited α] {k:Nat} {enc:α->List Value} {key:α->RowB} {cf:α->α->Int} {g:Nat} {cb:Array Value} {blk off len:Nat} {d0:Array α} {w0:World}
structure PassAt (key:α->RowB) (L0:List α) (len bs rs a:Nat) (P1 R1:List α):Prop where
  ha:P1.length=a
  l:a+R1.length=len
  p:∀ R',Runs key bs R'->Runs key bs (P1++R')
  r:Runs key rs R1
  e:Same key (P1++R1) L0
omit [Inhabited α] in
theorem Runs.two {bs:Nat} {R:List α} (h:Runs key bs R) (hl:2*bs<=R.length):Sorted key (R.take bs)/\Sorted key ((R.drop bs).take bs)/\Runs key bs ((R.drop bs).drop bs) :=
  ⟨(Runs.one key h).1,(Runs.one key (Runs.one key h).2).1,(Runs.one key (Runs.one key h).2).2⟩
omit [Inhabited α] in
theorem PassAt.step {L0:List α} {len bs a:Nat} {P1 R1:List α} (h:PassAt key L0 len (2*bs) bs a P1 R1) (hl:2*bs<=R1.length) :
    PassAt key L0 len (2*bs) bs (a+2*bs) (P1++mrg key (R1.take bs) ((R1.drop bs).take bs)) ((R1.drop bs).drop bs):=by
  obtain ⟨s1,s2,s3⟩:=Runs.two h.r hl
  have hm:(mrg key (R1.take bs) ((R1.drop bs).take bs)).length=2*bs:=by rw [mrg_len];simp;omega
  refine ⟨by rw [List.length_append,hm,h.ha],by have:=h.l;simp;omega,fun R' hR=>?_,s3,?_⟩
  · rw [List.append_assoc]
    exact h.p _ (.cons _ _ (mrg_sorted key s1 s2) hm hR)
  · refine Same.trans key ?_ h.e
    rw [List.append_assoc]
    have e:R1=(R1.take bs++(R1.drop bs).take bs)++(R1.drop bs).drop bs:=by rw [List.append_assoc,List.take_append_drop,List.take_append_drop]
    conv=>rhs;rw [e]
    exact (mrg_same key s1).ctx key P1 _
omit [Inhabited α] in
theorem PassAt.last2 {L0:List α} {len bs a:Nat} {P1 R1:List α} (h:PassAt key L0 len (2*bs) bs a P1 R1) (hl:R1.length < 2*bs) :
    Runs key (2*bs) (P1++(mrg key (R1.take bs) (R1.drop bs)++[]))/\Same key (P1++(mrg key (R1.take bs) (R1.drop bs)++[])) L0:=by
  have o:=Runs.one key h.r
  have s2:Sorted key (R1.drop bs):=Runs.sorted key o.2 (by simp;omega)
  rw [List.append_nil]
  refine ⟨h.p _ (.last _ (mrg_sorted key o.1 s2) (by rw [mrg_len];simp;omega)),Same.trans key ?_ h.e⟩
  have:=(mrg_same key (ys:=R1.drop bs) o.1).ctx key P1 []
  simpa using this
omit [Inhabited α] in
theorem PassAt.last1 {L0:List α} {len bs a:Nat} {P1 R1:List α} (h:PassAt key L0 len (2*bs) bs a P1 R1) (hl:R1.length<=bs):Runs key (2*bs) (P1++R1) :=
  h.p _ (.last _ (Runs.sorted key h.r hl) (by omega))
structure HeadAt (key:α->RowB) (L0:List α) (len a:Nat) (P1 R1:List α):Prop where
  ha:P1.length=a
  l:a+R1.length=len
  p:∀ R',Runs key 20 R'->Runs key 20 (P1++R')
  e:Same key (P1++R1) L0
omit [Inhabited α] in
theorem HeadAt.step {L0:List α} {len a:Nat} {P1 R1 X':List α} (h:HeadAt key L0 len a P1 R1) (hl:20<=R1.length) (h1:X'.length=(R1.take 20).length) (h2:Sorted key X') (h3:Same key X' (R1.take 20)) :
    HeadAt key L0 len (a+20) (P1++X') (R1.drop 20):=by
  have hx:X'.length=20:=by rw [h1];simp;omega
  refine ⟨by rw [List.length_append,hx,h.ha],by have:=h.l;simp;omega,fun R' hR=>?_,?_⟩
  · rw [List.append_assoc];exact h.p _ (.cons _ _ h2 hx hR)
  · refine Same.trans key ?_ h.e
    rw [List.append_assoc]
    conv=>rhs;rw [<-List.take_append_drop 20 R1]
    exact h3.ctx key P1 _
omit [Inhabited α] in
theorem HeadAt.last {L0:List α} {len a:Nat} {P1 R1 X':List α} (h:HeadAt key L0 len a P1 R1) (hl:R1.length < 20) (h1:X'.length=R1.length) (h2:Sorted key X') (h3:Same key X' R1):Runs key 20 (P1++X')/\Same key (P1++X') L0/\(P1++X').length=len :=
  ⟨h.p _ (.last _ h2 (by omega)),Same.trans key (by have:=h3.ctx key P1 [];simpa using this) h.e,by have:=h.ha;have:=h.l;simp;omega⟩
structure RunsAt (key:α->RowB) (L0:List α) (len bs:Nat) (L1:List α):Prop where
  r:Runs key bs L1
  e:Same key L1 L0
  l:L1.length=len
theorem stable_srt (L:SrtP P k) (H:SrtR P k enc key cf g cb blk off len d0 w0) (cap:Nat) (w:World) (L0:List α) (hl:L0.length=len) (hsm:len<=1099511627776) (S0:SWK enc k w0 blk off L0.toArray w) :
    Calls P 147 #[.slice (some ⟨blk,off,none⟩) len cap,.int .i64 len,.func (.func g) #[] cb] w fun e w'=>e=.returned (.tuple #[])/\∃ L1,Sorted key L1/\Same key L1 L0/\L1.length=len/\SWK enc k w0 blk off L1.toArray w':=by
  have mixed:=L.mixed;have t0:=L.t0;have a0:=L.a0;have z0:=L.z0;have v0:=L.v0;have t3:=L.t3;have a3:=L.a3;have z3:=L.z3;have v3:=L.v3;have tU:=L.tU;have aU:=L.aU;have zU:=L.zU;have uU:=run_underlying L.tU;have u3:=run_underlying L.t3;have t4:=L.t4;have a4:=L.a4;have z4:=L.z4;have v4:=L.v4;have tS:=L.tS;have aS:=L.aS;have zS:=L.zS;have vS:=L.vS;have tC:=L.tC;have aC:=L.aC;have zC:=L.zC;have aE:=L.aE;have zE:=L.zE
  have FG:=L.fStable
  have eI:∀ args w,(callFunc 171 args).run P w=.ok (.enter 171 args) w:=enters_of L.fIns (by kernel_rfl) rfl
  have eS:∀ args w,(callFunc 172 args).run P w=.ok (.enter 172 args) w:=enters_of L.fSym (by kernel_rfl) rfl
  have CI:Aside (∀ (a b:Nat) (W:World) (PX X S:List α),a=PX.length->b=a+X.length->PX.length+X.length+S.length=len->SWK enc k w0 blk off (PX++(X++S)).toArray W->
      Calls P 171 #[.slice (some ⟨blk,off,none⟩) len cap,.int .i64 a,.int .i64 b,.func (.func g) #[] cb] W fun e w'=>e=.returned (.tuple #[])/\∃ X',X'.length=X.length/\Sorted key X'/\Same key X' X/\SWK enc k w0 blk off (PX++(X'++S)).toArray w') :=
    fun a b W PX X S h1 h2 h3 h4=>ins_srt L H cap a b W PX X S h1 h2 h3 h4
  have CS:Aside (∀ (a m b:Nat) (W:World) (PX X Y S:List α),0 < X.length->0 < Y.length->a=PX.length->m=a+X.length->b=m+Y.length->Sorted key X->Sorted key Y->PX.length+X.length+Y.length+S.length=len->SWK enc k w0 blk off (PX++(X++(Y++S))).toArray W->
      Calls P 172 #[.slice (some ⟨blk,off,none⟩) len cap,.int .i64 a,.int .i64 m,.int .i64 b,.func (.func g) #[] cb] W fun e w'=>e=.returned (.tuple #[])/\SWK enc k w0 blk off (PX++(mrg key X Y++S)).toArray w') :=
    fun a m b W PX X Y S h1 h2 h3 h4 h5 h6 h7 h8 h9=>sym_srt L H cap _ a m b W PX X Y S (Nat.le_refl _) h1 h2 h3 h4 h5 h6 h7 h8 h9
  have A0:Aside (HeadAt key L0 len 0 [] L0):=⟨rfl,by omega,fun R' h=>h,Same.refl key _⟩
  have S0:Aside (SWK enc k w0 blk off ([]++L0).toArray w):=S0
  clear L
  go_enter FG,Tryz.ntmps147
  go_wp2
  go_loopg [7,8] len (fun kx s7 s8 wr=>∃ (a b:Nat) (P1 R1:List α),s7=.int .i64 a/\s8=.int .i64 b/\b<=a+20/\a+20<=b/\a<=len/\len - a<=kx/\Aside (HeadAt key L0 len a P1 R1)/\Aside (SWK enc k w0 blk off (P1++R1).toArray wr))
  case atStart=>exact ⟨0,20,[],L0,by first | rfl | go_num,by first | rfl | go_num,by omega,by omega,Nat.zero_le _,by omega,A0,S0⟩
  case round =>
    clear S0 A0
    obtain ⟨a,b,P1,R1,rfl,rfl,hb1,hb2,hal,hkx,HA,S1⟩:=hrel
    have hla:=HA.out.ha
    have hll:=HA.out.l
    by_cases hlt:b<=len
    · have hltz:(b:Int)<=(len:Int):=by omega
      have c:=CI.out a b wr P1 (R1.take 20) (R1.drop 20) hla.symm (by simp;omega) (by simp;omega) (by rw [List.take_append_drop];exact S1.out)
      have NX:Aside (∀ W,(∃ X',X'.length=(R1.take 20).length/\Sorted key X'/\Same key X' (R1.take 20)/\SWK enc k w0 blk off (P1++(X'++R1.drop 20)).toArray W)->∃ (P2 R2:List α),HeadAt key L0 len (a+20) P2 R2/\SWK enc k w0 blk off (P2++R2).toArray W):=fun W ⟨X',h1,h2,h3,h4⟩ =>
        ⟨P1++X',R1.drop 20,HA.out.step (by omega) h1 h2 h3,by rw [List.append_assoc];exact h4⟩
      clear S1 HA hla hll CS CI
      go_wp2_with fail
      go_at_call 171
      refine c.mono ?_
      rintro e wA ⟨rfl,hX⟩
      obtain ⟨P2,R2,HA2,S2⟩:=NX.out _ hX
      have eab:a+20=b:=by omega
      rw [eab] at HA2
      have HA2':Aside (HeadAt key L0 len b P2 R2):=HA2
      have S2':Aside (SWK enc k w0 blk off (P2++R2).toArray wA):=S2
      clear c NX hX HA2 S2 eab
      go_wp2
      go_roundg (len - b)
      case measure=>omega
      case rel=>exact ⟨b,b+20,P2,R2,rfl,by go_num,by omega,by omega,hlt,Nat.le_refl _,HA2',S2'⟩
    · have hltz : ¬ (b:Int)<=(len:Int):=by omega
      have hR:R1.length < 20:=by omega
      have c:=CI.out a len wr P1 R1 [] hla.symm (by omega) (by simp;omega) (by simpa using S1.out)
      have NX:Aside (∀ W,(∃ X',X'.length=R1.length/\Sorted key X'/\Same key X' R1/\SWK enc k w0 blk off (P1++(X'++[])).toArray W)->∃ L1,RunsAt key L0 len 20 L1/\SWK enc k w0 blk off L1.toArray W):=fun W ⟨X',h1,h2,h3,h4⟩=>by
        obtain ⟨q1,q2,q3⟩:=HA.out.last hR h1 h2 h3
        exact ⟨P1++X',⟨q1,q2,q3⟩,by rw [List.append_nil] at h4;exact h4⟩
      clear S1 HA hla hll CI hR
      go_wp2_with fail
      go_at_call 171
      refine c.mono ?_
      rintro e wA ⟨rfl,hX⟩
      obtain ⟨L1,RA,S2⟩:=NX.out _ hX
      have RA':Aside (RunsAt key L0 len 20 L1):=RA
      have S2':Aside (SWK enc k w0 blk off L1.toArray wA):=S2
      clear c NX hX RA S2
      go_wp2
      go_loopg [6,7,8] (len+1) (fun kx s6 s7 s8 wr=>∃ (bs:Nat) (L1:List α),s6=.int .i64 bs/\20<=bs/\bs<=2*len+20/\len+1 - bs<=kx/\Aside (RunsAt key L0 len bs L1)/\Aside (SWK enc k w0 blk off L1.toArray wr))
      case atStart=>exact ⟨20,L1,rfl,Nat.le_refl _,by omega,by omega,RA',S2'⟩
      case round =>
        clear S2' RA'
        obtain ⟨bs,L2,rfl,hbs,hbs2,hkx2,RA,S1⟩:=hrel
        by_cases hlt2:bs < len
        · have hltz2:(bs:Int) < (len:Int):=by omega
          have PA0:Aside (PassAt key L0 len (2*bs) bs 0 [] L2):=⟨rfl,by have:=RA.out.l;omega,fun R' h=>h,RA.out.r,RA.out.e⟩
          have S2:Aside (SWK enc k w0 blk off ([]++L2).toArray wr):=S1.out
          clear RA S1
          go_wp2
          go_loopg [7,8] (len+1) (fun kx s7 s8 wr=>∃ (a b:Nat) (P1 R1:List α),s7=.int .i64 a/\s8=.int .i64 b/\b<=a+2*bs/\a+2*bs<=b/\a<=len/\len - a<=kx/\Aside (PassAt key L0 len (2*bs) bs a P1 R1)/\Aside (SWK enc k w0 blk off (P1++R1).toArray wr))
          case atStart=>exact ⟨0,2*bs,[],L2,by first | rfl | go_num,by first | rfl | go_num | (congr 1;omega),by omega,by omega,Nat.zero_le _,by omega,PA0,S2⟩
          case round =>
            clear S2 PA0
            obtain ⟨a,b,P1,R1,rfl,rfl,hb1,hb2,hal,hkx,PA,S1⟩:=hrel
            have hla:=PA.out.ha
            have hll:=PA.out.l
            by_cases hlt3:b<=len
            · have hltz3:(b:Int)<=(len:Int):=by omega
              obtain ⟨m,hm⟩:∃ m:Nat,m=a+bs:=⟨_,rfl⟩
              have em:(a:Int)+(bs:Int)=(m:Int):=by omega
              obtain ⟨s1,s2,s3⟩:=Runs.two PA.out.r (by omega)
              have c:=CS.out a m b wr P1 (R1.take bs) ((R1.drop bs).take bs) ((R1.drop bs).drop bs) (by simp;omega) (by simp;omega) hla.symm (by simp;omega) (by simp;omega) s1 s2 (by simp;omega) (by rw [List.take_append_drop bs (R1.drop bs),List.take_append_drop];exact S1.out)
              have PN:Aside (PassAt key L0 len (2*bs) bs (a+2*bs) (P1++mrg key (R1.take bs) ((R1.drop bs).take bs)) ((R1.drop bs).drop bs)):=PA.out.step (by omega)
              obtain ⟨M,hM⟩:∃ M,mrg key (R1.take bs) ((R1.drop bs).take bs)=M:=⟨_,rfl⟩
              obtain ⟨T,hT⟩:∃ T,(R1.drop bs).drop bs=T:=⟨_,rfl⟩
              rw [hM,hT] at c PN
              clear hM hT s1 s2 s3 hm S1 PA hla hll CS
              go_wp2_with fail
              go_at_call 172
              refine c.mono ?_
              rintro e wB ⟨rfl,hX⟩
              have eab:a+2*bs=b:=by omega
              have PN2:=PN.out
              rw [eab] at PN2
              have PN':Aside (PassAt key L0 len (2*bs) bs b (P1++M) T):=PN2
              have S2':Aside (SWK enc k w0 blk off ((P1++M)++T).toArray wB):=by show SWK _ _ _ _ _ _ _;rw [List.append_assoc];exact hX
              clear c hX PN PN2 eab
              go_wp2
              go_roundg (len - b)
              case measure=>omega
              case rel=>exact ⟨b,b+2*bs,P1++M,T,rfl,by first | go_num | (congr 1;omega),by omega,by omega,hlt3,Nat.le_refl _,PN',S2'⟩
            · have hltz3:¬ (b:Int)<=(len:Int):=by omega
              obtain ⟨m,hm⟩:∃ m:Nat,m=a+bs:=⟨_,rfl⟩
              have em:(a:Int)+(bs:Int)=(m:Int):=by omega
              by_cases hml:m < len
              · have hmlz:(m:Int) < (len:Int):=by omega
                have o:=Runs.one key PA.out.r
                have c:=CS.out a m len wr P1 (R1.take bs) (R1.drop bs) [] (by simp;omega) (by simp;omega) hla.symm (by simp;omega) (by simp;omega) o.1 (Runs.sorted key o.2 (by simp;omega)) (by simp;omega) (by rw [List.append_nil,List.take_append_drop];exact S1.out)
                obtain ⟨q1,q2⟩:=PA.out.last2 (by omega)
                have q3:(P1++(mrg key (R1.take bs) (R1.drop bs)++[])).length=len:=by simp [mrg_len];omega
                obtain ⟨M,hM⟩:∃ M,mrg key (R1.take bs) (R1.drop bs)=M:=⟨_,rfl⟩
                rw [hM] at c q1 q2 q3
                have RN:Aside (RunsAt key L0 len (2*bs) (P1++(M++[]))):=⟨q1,q2,q3⟩
                clear o hM hm S1 PA hla hll CS q1 q2 q3
                go_wp2_with fail
                go_at_call 172
                refine c.mono ?_
                rintro e wB ⟨rfl,hX⟩
                have S2':Aside (SWK enc k w0 blk off (P1++(M++[])).toArray wB):=hX
                clear c hX
                go_wp2
                go_roundg (len+1 - 2*bs)
                case measure=>omega
                case rel=>exact ⟨2*bs,P1++(M++[]),by first | rfl | go_num | (congr 1;omega),by omega,by omega,Nat.le_refl _,RN,S2'⟩
              · have hmlz:¬ (m:Int) < (len:Int):=by omega
                have RN:Aside (RunsAt key L0 len (2*bs) (P1++R1)):=⟨PA.out.last1 (by omega),PA.out.e,by simp;omega⟩
                clear hm PA hla hll CS
                go_wp2
                go_roundg (len+1 - 2*bs)
                case measure=>omega
                case rel=>exact ⟨2*bs,P1++R1,by first | rfl | go_num | (congr 1;omega),by omega,by omega,Nat.le_refl _,RN,S1⟩
        · have hltz2:¬ (bs:Int) < (len:Int):=by omega
          have FI:Aside (∃ L1,Sorted key L1/\Same key L1 L0/\L1.length=len/\SWK enc k w0 blk off L1.toArray wr):=⟨L2,Runs.sorted key RA.out.r (by have:=RA.out.l;omega),RA.out.e,RA.out.l,S1.out⟩
          clear RA S1 CS
          go_wp2
          go_end0
          exact ⟨rfl,FI.out⟩
theorem sort_srt (L:SrtP P k) (H:SrtR P k enc key cf g cb blk off len d0 w0) (cap:Nat) (w:World) (L0:List α) (hl:L0.length=len) (hsm:len<=1099511627776) (S0:SWK enc k w0 blk off L0.toArray w) :
    Calls P 117 #[.slice (some ⟨blk,off,none⟩) len cap,.func (.func g) #[] cb] w fun e w'=>e=.returned (.tuple #[])/\∃ L1,Sorted key L1/\Same key L1 L0/\L1.length=len/\SWK enc k w0 blk off L1.toArray w':=by
  have c:=stable_srt L H cap w L0 hl hsm S0
  have mixed:=L.mixed;have t0:=L.t0;have a0:=L.a0;have z0:=L.z0;have v0:=L.v0;have t3:=L.t3;have a3:=L.a3;have z3:=L.z3;have v3:=L.v3;have tU:=L.tU;have aU:=L.aU;have zU:=L.zU;have uU:=run_underlying L.tU;have u3:=run_underlying L.t3;have t4:=L.t4;have a4:=L.a4;have z4:=L.z4;have v4:=L.v4;have tS:=L.tS;have aS:=L.aS;have zS:=L.zS;have vS:=L.vS;have tC:=L.tC;have aC:=L.aC;have zC:=L.zC;have aE:=L.aE;have zE:=L.zE
  have FG:=L.fSort
  have eI:∀ args w,(callFunc 147 args).run P w=.ok (.enter 147 args) w:=enters_of L.fStable (by kernel_rfl) rfl
  clear L S0 H hl
  go_enter FG,Tryz.ntmps117
  go_wp2_with fail
  go_at_call 147
  refine c.mono ?_
  rintro e wA ⟨rfl,hX⟩
  have hX':=Lib.hid hX
  clear c hX
  go_wp2
  go_end0
  exact ⟨rfl,hX'.out⟩
end Bs
namespace Bo
open Go.Shelf Go.RowKit Go.Lib Go.Sort
open Ca (Sorted Same)
instance:Inhabited Note:=⟨⟨0,[],false⟩⟩
def encN (n:Note):List Value:=[.int .i64 (n.chg:Int),sv n.name,.bool n.was]
theorem encN_len (x:Note):(encN x).length=3:=rfl
theorem flat_get3:∀ (ps:List Note) (t:Nat),t < ps.length*3->(nc ps)[t]?=some ((encN ps[t / 3]!)[t % 3]!)
  | [],t,h=>by simp at h
  | p :: ps,t,h=>by
    by_cases h4:t < 3
    · rcases (by omega:t=0\/t=1\/t=2) with rfl | rfl | rfl<;>rfl
    · have:=flat_get3 ps (t - 3) (by simp at h;omega)
      obtain ⟨u,rfl⟩:∃ u,t=u+3:=⟨t - 3,by omega⟩
      rw [Nat.add_sub_cancel] at this
      have e1:(u+3) / 3=u / 3+1:=by omega
      have e2:(u+3) % 3=u % 3:=by omega
      rw [e1,e2]
      show (nc ps)[u]?=_
      rw [this]
      simp
theorem flatK_nc (ps:List Note):(flatK encN 3 ps.toArray).toList=nc ps:=by
  apply List.ext_getElem?
  intro t
  by_cases ht:t < ps.length*3
  · rw [flat_get3 ps t ht]
    unfold flatK
    simp only [Array.toList_map,Array.toList_range,List.size_toArray]
    rw [List.getElem?_map,List.getElem?_range ht]
    simp
  · rw [List.getElem?_eq_none (by
      have:=size_flatK encN 3 ps.toArray
      rw [Array.length_toList,this];simp;omega),List.getElem?_eq_none (by rw [nc_len];omega)]
theorem holdsN {w:World} {g n:Nat} {cur:Array Value} {e:TypeId} {ps:List Note} (hb:w.heap[g]?=some (.cells cur e (0,0))) (hn:ps.length=n) (ht:cur.toList.take (n*3)=nc ps):HoldsK encN 3 w g 0 ps.toArray:=by
  subst hn
  intro j hj
  have hj':j < ps.length*3:=by rw [size_flatK] at hj;simpa using hj
  refine ⟨?_,by simp [World.frozen?,hb]⟩
  have h1:(cur.toList.take (ps.length*3))[j]?=(nc ps)[j]?:=by rw [ht]
  rw [List.getElem?_take_of_lt hj'] at h1
  simp only [World.cell?,hb,Nat.zero_add]
  simp only [Option.isSome_none,Bool.false_eq_true,if_false]
  rw [<-Array.getElem?_toList,h1,flat_get3 ps j hj',get_flatK encN 3 ps.toArray j (by simpa using hj')]
  simp
theorem heap_srtN {w:World} {g m:Nat} {os:Array Obj} {cur:Array Value} {e:TypeId} {fr:Nat × Nat} (d:Array Note) (hb:w.heap[g]?=some (.cells cur e fr)) :
    (sortWorldK encN 3 w g 0 m d os).heap[g]?=some (.cells (putCells id 0 (flatK encN 3 d) cur) e fr):=by
  have hg:g < w.heap.size:=(Array.getElem?_eq_some_iff.1 hb).1
  unfold sortWorldK putRowK
  rw [heap_grow_old _ _ (by simpa using hg)]
  simp [putRow,mapBlock,Sort.ahead,Array.getElem?_modify,hb,onCells]
theorem grown_srtN {w:World} {g m:Nat} {os:Array Obj} (d:Array Note):w.grownBy (sortWorldK encN 3 w g 0 m d os) (some g):=by
  unfold sortWorldK putRowK
  refine ⟨rfl,rfl,rfl,by simp,fun k hk hne=>?_⟩
  rw [heap_grow_old _ _ (by simpa using hk)]
  have:g≠k:=fun e=>hne (by rw [e])
  simp [putRow,mapBlock,Sort.ahead,Array.getElem?_modify,this]
theorem take_srtN (cur:Array Value) (ps:List Note) (h:ps.length*3<=cur.size):(putCells id 0 (flatK encN 3 ps.toArray) cur).toList.take (ps.length*3)=nc ps:=by
  rw [<-flatK_nc ps]
  apply List.ext_getElem?
  intro j
  have hsz:(flatK encN 3 ps.toArray).size=ps.length*3:=by rw [size_flatK];simp
  by_cases hj:j < ps.length*3
  · rw [List.getElem?_take_of_lt hj,Array.getElem?_toList,Array.getElem?_toList]
    simp [putCells,hsz,hj,show j < cur.size by omega]
  · rw [List.getElem?_take_eq_none (by omega),List.getElem?_eq_none (by rw [Array.length_toList,hsz];omega)]
def cfN (x y:Note):Int:=Lib.compareBytes x.name y.name
theorem byName_any (x y:Note) (W:World):Calls Tryz.prog 118 (#[.agg (encN x).toArray,.agg (encN y).toArray]++#[]) W fun e w'=>e=.returned (.int .i64 (cfN x y))/\∃ q os',w'=grow (W.drewN q) os':=by
  obtain ⟨sx,hsx⟩:∃ s:ByteArray,(⟨x.name.toArray⟩:ByteArray)=s:=⟨_,rfl⟩
  obtain ⟨sy,hsy⟩:∃ s:ByteArray,(⟨y.name.toArray⟩:ByteArray)=s:=⟨_,rfl⟩
  have ex:(encN x).toArray=#[.int .i64 (x.chg:Int),.string sx,.bool x.was]:=by unfold encN sv;rw [hsx]
  have ey:(encN y).toArray=#[.int .i64 (y.chg:Int),.string sy,.bool y.was]:=by unfold encN sv;rw [hsy]
  rw [ex,ey]
  have cC:=fun W=>Tryz.strings_Compare sx sy W
  have hcf:cfN x y=Lib.compareBytes sx.data.toList sy.data.toList:=by unfold cfN;rw [<-hsx,<-hsy]
  obtain ⟨r,hr⟩:∃ r,Lib.compareBytes sx.data.toList sy.data.toList=r:=⟨_,rfl⟩
  rw [hr] at cC hcf
  rw [hcf]
  clear hcf hr ex ey hsx hsy
  show Calls Tryz.prog 118 #[.agg #[.int .i64 (x.chg:Int),.string sx,.bool x.was],.agg #[.int .i64 (y.chg:Int),.string sy,.bool y.was]] W _
  go_enter Tryz.func118,Tryz.ntmps118
  go_wp2_with (go_at_call 119;refine (cC _).mono ?_;rintro e w' ⟨rfl,rfl⟩)
  go_ret
  exact ⟨rfl,0,_,by rw [alloc_eq_grow,alloc_eq_grow,grow_grow];rfl⟩
theorem sortN_any (L0:List Note) (gb cap n:Nat) (w:World) (hn:L0.length=n) (hs:w.ownsRow 0 113 3 (.slice (some ⟨gb,0,none⟩) n cap) n (nc L0)) (hl:n<=1099511627776) :
    Calls Tryz.prog 117 #[.slice (some ⟨gb,0,none⟩) n cap,.func (.func 118) #[] #[]] w fun e w'=>e=.returned (.tuple #[])/\∃ L1,Sorted nameN L1/\Same nameN L1 L0/\L1.length=n/\w'.ownsRow 0 113 3 (.slice (some ⟨gb,0,none⟩) n cap) n (nc L1)/\Kp [gb] w w':=by
  rcases hs.2 with ⟨h',_⟩ | ⟨g',cap',cur,h',hb,hg,hnc,hcm,hcs,htake⟩
  · simp at h'
  simp only [Value.slice.injEq,Option.some.injEq,Addr.mk.injEq,and_true,true_and] at h'
  obtain ⟨rfl,rfl⟩:=h'
  have hgl:=(Array.getElem?_eq_some_iff.1 hg).1
  have hH:HoldsK encN 3 w gb 0 L0.toArray:=holdsN hg hn htake
  have R:RowK encN 3 w gb 0 L0.toArray:=⟨encN_len,fun x v hv=>by simp [encN] at hv;rcases hv with rfl | rfl | rfl<;>rfl,hH,hgl⟩
  have H:Bs.SrtR Tryz.prog 3 encN nameN cfN 118 #[] gb 0 n L0.toArray w :=
    ⟨R,by simpa using hn,fun m os dk _ x y=>byName_any x y _,fun x y=>Ca.cmp_lt _ _,enters_of Tryz.func118 (by kernel_rfl) rfl,by omega⟩
  refine (Bs.sort_srt Bs.srtP H cap w L0 hn hl (SWK.start hH)).mono ?_
  rintro e w' ⟨rfl,L1,q1,q2,q3,m,os,rfl⟩
  refine ⟨rfl,L1,q1,q2,q3,⟨by rw [nc_len,q3],.inr ⟨gb,cap,_,rfl,Nat.zero_le _,heap_srtN _ hg,hnc,hcm,by simp [putCells,hcs],?_⟩⟩,(Kp.refl _ _).grown (grown_srtN L1.toArray) fun k hk=>by cases hk;exact .inl (by simp)⟩
  have:=take_srtN cur L1 (by rw [q3,hcs];exact Nat.mul_le_mul_right 3 hnc)
  rw [q3] at this
  exact this
theorem sortN_nil (w:World):Calls Tryz.prog 117 #[.slice none 0 0,.func (.func 118) #[] #[]] w fun e w'=>e=.returned (.tuple #[])/\Below w.heap.size w w':=by
  have cI:∀ W (z:Int),0<=z->z<=20->Calls Tryz.prog 171 #[.slice none 0 0,.int .i64 z,.int .i64 0,.func (.func 118) #[] #[]] W fun e w'=>e=.returned (.tuple #[])/\w'=W:=fun W z h1 h2=>by
    have hz:¬ z+1 < 0:=by omega
    go_enter Tryz.func171,Tryz.ntmps171
    go_wp2
    refine wp_loop_rounds 1 ?_
    rw [rounds_succ]
    go_wp2
    go_end0
    exact ⟨rfl,rfl⟩
  have cS:Calls Tryz.prog 147 #[.slice none 0 0,.int .i64 0,.func (.func 118) #[] #[]] w fun e w'=>e=.returned (.tuple #[])/\w'=w:=by
    have c0:=cI w 0 (by omega) (by omega)
    go_enter Tryz.func147,Tryz.ntmps147
    go_wp2
    refine wp_loop_rounds 1 ?_
    rw [rounds_succ]
    go_wp2_with fail
    go_at_call 171
    refine c0.mono ?_
    rintro e w1 ⟨rfl,rfl⟩
    clear c0 cI
    go_wp2
    refine wp_loop_rounds 1 ?_
    rw [rounds_succ]
    go_wp2
    go_end0
    exact ⟨rfl,rfl⟩
  go_enter Tryz.func117,Tryz.ntmps117
  go_wp2_with (go_at_call 147;refine cS.mono ?_;rintro e w1 ⟨rfl,rfl⟩)
  go_end0
  exact ⟨rfl,Below.refl _ _⟩
theorem compact_nil (w:World):Calls Tryz.prog 120 #[.slice none 0 0,.func (.func 121) #[] #[]] w fun e w'=>e=.returned (.slice none 0 0)/\Below w.heap.size w w':=by
  go_enter Tryz.func120,Tryz.ntmps120
  go_wp2
  go_ret
  exact ⟨rfl,Below.refl _ _⟩
end Bo
namespace Bo
open Go.Lib Go.RowKit
theorem ShIs.len {w:World} {sb bm:Nat} {L:Bks} {s:Sh} (hL:L.map Prod.fst=s.books):(bM L).length=s.books.length:=by rw [<-hL];simp [bM]
theorem sh_ne {w:World} {sb bm:Nat} {L:Bks} {chg:Nat} (h:ShIs w sb bm L chg):sb≠bm:=by have:=h.apart;unfold fpS at this;rw [List.nodup_cons] at this;exact fun e=>this.1 (by rw [e];simp)
theorem create_any (w0 w:World) (sb bm:Nat) (L:Bks) (s:Sh) (n:ByteArray) (hG:Grd w0 w) (h:ShIs w sb bm L s.chg) (hL:L.map Prod.fst=s.books) (hO:ShOk s) (hn:n.size<=140737488355328) (hchg:s.chg < 4611686018427387904) :
    Calls Tryz.prog 19 #[pv sb,.string n] w fun e w'=>∃ v,e=.returned v/\ShDid w w' sb bm L v (makeC envP s n.data.toList):=by
  have hk:=keyOf_str Tryz.underlying9 n (by unfold maxLen;omega)
  obtain ⟨wB,hwB⟩:∃ wB,w.alloc repO=wB:=⟨_,rfl⟩
  have hB0:Below w.heap.size w wB:=by rw [<-hwB];exact (Below.refl _ _).alloc (Nat.le_refl _) _
  have hsB:w.heap.size < wB.heap.size:=by rw [<-hwB];simp
  have hres:wB.heap[w.heap.size]?=some (.cells #[.int .i64 0,.int .i64 0,.string ⟨#[]⟩,.slice none 0 0,.string ⟨#[]⟩] 29 (0,0)):=by rw [<-hwB];exact heap_alloc_new w _
  have hlts:=h.lt sb (by simp [fpS])
  have hltm:=h.lt bm (by simp [fpS])
  have hsm:=sh_ne h
  have cG:=Pa.segment_any n wB hn (hG.below hB0).t
  have hM16:=ShIs.len (w:=w) (sb:=sb) (bm:=bm) hL
  -- where nothing is done
  have hno:∀ (st:Nat) (W:World),Below wB.heap.size wB W->makeC envP s n.data.toList=(s,{ st:=st })->W.heap[w.heap.size]?=some (.cells #[.int .i64 0,.int .i64 0,.string ⟨#[]⟩,.slice none 0 0,.string ⟨#[]⟩] 29 (0,0))/\ShDid w (put5 W w.heap.size (st:Int) 0 noS noE noS) sb bm L (repV (st:Int) 0 noS noE noS) (makeC envP s n.data.toList):=fun st W hW hE=>by
    rw [hE]
    exact ⟨(hW.block _ hsB).trans hres,ShDid.same h hL (below_put5 (below_then hB0 hW) (Nat.le_refl _) _ _ _ _ _)⟩
  have hno':=Lib.hid hno
  have cS:=fun m W=>status_any m W
  clear hG hno
  by_cases hf:Pa.fits n.data.toList=true
  rotate_left
  · have hE:makeC envP s n.data.toList=(s,{ st:=403 }):=by unfold makeC;rw [if_pos (by show Pa.fits _=false;simpa using hf)]
    have hE':=Lib.hid hE
    have cG2:=cG.mono (fun e w' hP=>(show e=.returned (.tuple #[.string ⟨#[]⟩,.int .i64 60])/\Below wB.heap.size wB w' from ⟨(by
      rcases hP.1 with ⟨_,h⟩ | ⟨h,_⟩
      · exact h
      · exact absurd h hf),hP.2⟩))
    clear cG hf h hL hO hres hB0 hE
    go_enter Tryz.func19,Tryz.ntmps19
    go_wp2_with fail
    go_at_call 37
    refine cG2.mono ?_
    rintro e w1 ⟨rfl,hb1⟩
    have hb1':=Lib.hid hb1
    clear cG2 hb1
    go_wp2_with fail
    go_at_call 18
    refine (cS 403 w1).mono ?_
    rintro e w2 ⟨rfl,hb2⟩
    obtain ⟨hr3,hX⟩:=hno'.out 403 w2 (below_then hb1'.out hb2) hE'.out
    have hX':=Lib.hid hX
    obtain ⟨p0,p1,p2,p3,p4,f0,f1,f2,f3,f4⟩:=res5 hr3
    clear hX cS hb2 hwB
    go_wp2
    exact rep_fin rfl rfl hr3 ⟨_,rfl,hX'.out⟩
  have cG2:=cG.mono (fun e w' hP=>(show (∃ x:ByteArray,e=.returned (.tuple #[.string x,.int .i64 0]))/\Below wB.heap.size wB w' from ⟨(by
      rcases hP.1 with ⟨h,_⟩ | ⟨_,x,_,h⟩
      · rw [hf] at h;cases h
      · exact ⟨x,h⟩),hP.2⟩))
  clear cG
  -- behind the segment
  have hat:∀ W,Below wB.heap.size wB W->W.cell? ⟨sb,1,none⟩=some (.map (some bm))/\MapIs Tryz.prog 9 W bm (bM L)/\W.heap[sb]?=some (.cells #[.int .i64 (s.chg:Int),.map (some bm)] 61 (0,0)):=fun W hW=>by
    have hw:=below_then hB0 hW
    exact ⟨(sh2 h.blk (hw.block sb hlts)).2.1,h.map.block (hw.block bm hltm),(hw.block sb hlts).trans h.blk⟩
  have hat':=Lib.hid hat
  have hlk:=atL_look L n.data.toList
  have hbk:=atL_bk hL n.data.toList
  cases hb:atL L n.data.toList with
  | some x =>
    rw [hb] at hlk hbk
    have hE:makeC envP s n.data.toList=(s,{ st:=405 }):=by
      unfold makeC
      rw [if_neg (by show ¬ Pa.fits _=false;simp [hf]),if_pos (by rw [hbk];rfl)]
    have hE':=Lib.hid hE
    have hlk':(lookM (bM L) n.data.toList).getD (.pointer none)=pv x.2.c:=by rw [hlk];rfl
    clear hf h hL hO hres hB0 hE hat hlk hbk hb
    go_enter Tryz.func19,Tryz.ntmps19
    go_wp2_with fail
    go_at_call 37
    refine cG2.mono ?_
    rintro e w1 ⟨⟨y,rfl⟩,hb1⟩
    obtain ⟨x1,m1,_⟩:=hat'.out w1 hb1
    have hb1':=Lib.hid hb1
    clear cG2 hb1
    go_wp2_with (first | (at_lookup;refine wp_look _ rfl _ _ 59 rfl 9 62 keyed Tryz.underlying59 (zeroC _) bm _ rfl m1 _ _ rfl hk _ hlk' ?_) | fail)
    go_at_call 18
    refine (cS 405 w1).mono ?_
    rintro e w2 ⟨rfl,hb2⟩
    obtain ⟨hr3,hX⟩:=hno'.out 405 w2 (below_then hb1'.out hb2) hE'.out
    have hX':=Lib.hid hX
    obtain ⟨p0,p1,p2,p3,p4,f0,f1,f2,f3,f4⟩:=res5 hr3
    clear hX cS hb2 hwB
    go_wp2
    exact rep_fin rfl rfl hr3 ⟨_,rfl,hX'.out⟩
  | none =>
    rw [hb] at hlk hbk
    have hlk':(lookM (bM L) n.data.toList).getD (.pointer none)=.pointer none:=by rw [hlk];rfl
    by_cases h16:16<=s.books.length
    · have hE:makeC envP s n.data.toList=(s,{ st:=507 }):=by
        unfold makeC
        rw [if_neg (by show ¬ Pa.fits _=false;simp [hf]),if_neg (by rw [hbk];simp),if_pos h16]
      have hE':=Lib.hid hE
      have hge:(16:Int)<=((bM L).length:Int):=by rw [hM16];omega
      clear hf h hL hO hres hB0 hE hat hlk hbk hb
      go_enter Tryz.func19,Tryz.ntmps19
      go_wp2_with fail
      go_at_call 37
      refine cG2.mono ?_
      rintro e w1 ⟨⟨y,rfl⟩,hb1⟩
      obtain ⟨x1,m1,_⟩:=hat'.out w1 hb1
      have hb1':=Lib.hid hb1
      clear cG2 hb1
      go_wp2_with (first | (at_lookup;refine wp_look _ rfl _ _ 59 rfl 9 62 keyed Tryz.underlying59 (zeroC _) bm _ rfl m1 _ _ rfl hk _ hlk' ?_) | (at_len;refine wp_len _ rfl _ 59 rfl 9 62 Tryz.underlying59 bm _ rfl m1 ?_) | fail)
      go_at_call 18
      refine (cS 507 w1).mono ?_
      rintro e w2 ⟨rfl,hb2⟩
      obtain ⟨hr3,hX⟩:=hno'.out 507 w2 (below_then hb1'.out hb2) hE'.out
      have hX':=Lib.hid hX
      obtain ⟨p0,p1,p2,p3,p4,f0,f1,f2,f3,f4⟩:=res5 hr3
      clear hX cS hb2 hwB
      go_wp2
      exact rep_fin rfl rfl hr3 ⟨_,rfl,hX'.out⟩
    · have hlt16:¬ (16:Int)<=((bM L).length:Int):=by rw [hM16];omega
      obtain ⟨c1,hc1⟩:∃ c1,s.chg+1=c1:=⟨_,rfl⟩
      have hE:makeC envP s n.data.toList=({ chg:=s.chg+1,books:=insBy (fun b=>b.name) ⟨n.data.toList,s.chg+1,s.chg+1,[],[]⟩ s.books },{ st:=201,tag:=s.chg+1 }):=by
        unfold makeC
        rw [if_neg (by show ¬ Pa.fits _=false;simp [hf]),if_neg (by rw [hbk];simp),if_neg h16]
      -- behind the map's store
      have hfin:∀ w1 w4,Below wB.heap.size wB w1->MapIs Tryz.prog 9 w4 bm (putM (bM L) n.data.toList (pv (w1.heap.size+1)))->
          (((w1.setCell ⟨sb,0,none⟩ (.int .i64 (c1:Int))).alloc (.map #[] 0)).alloc (.cells #[.int .i64 (c1:Int),.int .i64 (c1:Int),.map (some w1.heap.size),.slice none 0 0] 92)).mapTurned w4 bm->
          w4.heap[w.heap.size]?=some (.cells #[.int .i64 0,.int .i64 0,.string ⟨#[]⟩,.slice none 0 0,.string ⟨#[]⟩] 29 (0,0))/\ShDid w (put5 w4 w.heap.size 201 (c1:Int) noS noE noS) sb bm L (repV 201 (c1:Int) noS noE noS) (makeC envP s n.data.toList):=fun w1 w4 hb1 hm4 ht=>by
        rw [hE,hc1]
        have hw1:=below_then hB0 hb1
        have hK1:Kp [sb,bm] w (w1.setCell ⟨sb,0,none⟩ (.int .i64 (c1:Int))):=(Kp.of_below hw1).setCell (.inl (by simp)) _
        have hsz1:(w1.setCell ⟨sb,0,none⟩ (.int .i64 (c1:Int))).heap.size=w1.heap.size:=by simp
        have hlt1:w.heap.size < w1.heap.size:=Nat.lt_of_lt_of_le hsB hb1.size
        have h2:=MapIs.made (w1.setCell ⟨sb,0,none⟩ (.int .i64 (c1:Int))) Tryz.prog 9
        rw [hsz1] at h2
        obtain ⟨w2,hw2⟩:∃ w2,(w1.setCell ⟨sb,0,none⟩ (.int .i64 (c1:Int))).alloc (.map #[] 0)=w2:=⟨_,rfl⟩
        have hsz2:w2.heap.size=w1.heap.size+1:=by rw [<-hw2];simp
        have hK2:Kp [sb,bm] w w2:=by rw [<-hw2];exact hK1.belowThen ((Below.refl _ _).alloc (Nat.le_refl _) _)
        rw [hw2] at h2 ht
        obtain ⟨w3,hw3⟩:∃ w3,w2.alloc (.cells #[.int .i64 (c1:Int),.int .i64 (c1:Int),.map (some w1.heap.size),.slice none 0 0] 92)=w3:=⟨_,rfl⟩
        have hB3:Below w2.heap.size w2 w3:=by rw [<-hw3];exact (Below.refl _ _).alloc (Nat.le_refl _) _
        have hK3:Kp [sb,bm] w w3:=hK2.belowThen hB3
        have hc3:w3.heap[w1.heap.size+1]?=some (.cells #[.int .i64 (c1:Int),.int .i64 (c1:Int),.map (some w1.heap.size),.slice none 0 0] 92 (0,0)):=by
          rw [<-hw3,<-hsz2];exact heap_alloc_new w2 _
        have hm3:MapIs Tryz.prog 9 w3 w1.heap.size []:=h2.block (hB3.block _ (by omega))
        rw [hw3] at ht
        have hk4:=turned_kp ht
        have hK4:Kp [sb,bm] w w4:=hK3.trans (hk4.mono fun k hk=>by simp at hk;simp [hk])
        have hbs:w1.heap[sb]?=some (.cells #[.int .i64 (s.chg:Int),.map (some bm)] 61 (0,0)):=(hw1.block sb hlts).trans h.blk
        have hs1:(w1.setCell ⟨sb,0,none⟩ (.int .i64 (c1:Int))).heap[sb]?=some (.cells #[.int .i64 (c1:Int),.map (some bm)] 61 (0,0)):=set_heap hbs 0 _
        have old:∀ k,k < w1.heap.size->k≠bm->w4.heap[k]?=(w1.setCell ⟨sb,0,none⟩ (.int .i64 (c1:Int))).heap[k]?:=fun k hk hne=>by
          have s3:=hB3.size
          rw [hk4.block k (by omega) (by simpa using hne),hB3.block k (by omega),<-hw2]
          exact heap_alloc_old _ _ _ (by simpa using hk)
        have hs4:=(old sb (by omega) hsm).trans hs1
        have hr4:w4.heap[w.heap.size]?=some (.cells #[.int .i64 0,.int .i64 0,.string ⟨#[]⟩,.slice none 0 0,.string ⟨#[]⟩] 29 (0,0)):=by
          rw [old _ hlt1 (by omega),Below.heap_setCell _ _ _ _ (by show w.heap.size≠sb;omega)]
          exact (hb1.block _ hsB).trans hres
        have s3:=hB3.size
        have hlt3:w1.heap.size+1 < w3.heap.size:=(Array.getElem?_eq_some_iff.1 hc3).1
        have hltb1:bm < w1.heap.size:=by omega
        have hc4:=(hk4.block (w1.heap.size+1) hlt3 (by simp;omega)).trans hc3
        have hm4':MapIs Tryz.prog 9 w4 w1.heap.size []:=hm3.block (hk4.block _ (by omega) (by simp;omega))
        refine ⟨hr4,rep_tag (st:=201),insBy (fun x:Bk × Pl=>x.1.name) (⟨n.data.toList,c1,c1,[],[]⟩,⟨w1.heap.size+1,w1.heap.size,.slice none 0 0⟩) L,?_⟩
        have hK5:Kp [sb,bm] w (put5 w4 w.heap.size 201 (c1:Int) noS noE noS):=hK4.put5 (Nat.le_refl _) _ _ _ _ _
        have hF:=h.more (b:=⟨n.data.toList,c1,c1,[],[]⟩) (p:=⟨w1.heap.size+1,w1.heap.size,.slice none 0 0⟩) (w':=put5 w4 w.heap.size 201 (c1:Int) noS noE noS) (chg':=c1) hK5
          (by rw [put5_block _ _ _ _ _ _ _ (by omega)];exact hs4) (hm4.block (put5_block _ _ _ _ _ _ _ (by omega)))
          (fun x hx e=>by have:=List.find?_eq_none.1 hb x hx;simp at this;exact this e)
          ⟨by rw [put5_block _ _ _ _ _ _ _ (by show w1.heap.size+1≠_;omega)];exact hc4,hm4'.block (put5_block _ _ _ _ _ _ _ (by show w1.heap.size≠_;omega)),World.ownsRow_nil _ _ _ 3⟩
          (fun k hk=>by unfold Pl.fp at hk;simp [Value.ownBlock] at hk;rcases hk with rfl | rfl<;>omega) (by unfold Pl.fp;simp [Value.ownBlock]) (insBy_perm (fun x:Bk × Pl=>x.1.name) _ L)
        exact ⟨hF.1,insL_fst hL _ _,hK5.mono fun k hk=>by simp at hk;rcases hk with rfl | rfl<;>simp [fpS],hF.2,nilE⟩
      have hfin':=Lib.hid hfin
      have hlen:(bM L).length < maxLen:=by unfold maxLen;omega
      clear hf h hL hO hres hB0 hE hat hlk hbk hb hfin hno'
      go_enter Tryz.func19,Tryz.ntmps19
      go_wp2_with fail
      go_at_call 37
      refine cG2.mono ?_
      rintro e w1 ⟨⟨y,rfl⟩,hb1⟩
      obtain ⟨x1,m1,k1⟩:=hat'.out w1 hb1
      have cN:=next_any w1 sb bm s.chg k1 hchg
      rw [hc1] at cN
      have hb1':=Lib.hid hb1
      have hx2:(w1.setCell ⟨sb,0,none⟩ (.int .i64 (c1:Int))).cell? ⟨sb,1,none⟩=some (.map (some bm)):=by
        rw [Lib.cell_of_heap (set_heap k1 0 _) 1];rfl
      have hm2:∀ o o',MapIs Tryz.prog 9 (((w1.setCell ⟨sb,0,none⟩ (.int .i64 (c1:Int))).alloc o).alloc o') bm (bM L):=fun o o'=>m1.block (by
        have hl:=m1.lt
        rw [heap_alloc_old _ _ _ (by simp;omega),heap_alloc_old _ _ _ (by simp;omega),Below.heap_setCell _ _ _ _ (by show bm≠sb;exact fun e=>hsm e.symm)])
      have hm2':=Lib.hid hm2
      clear cG2 hb1 hm2 k1
      go_wp2_with (first | (at_lookup;refine wp_look _ rfl _ _ 59 rfl 9 62 keyed Tryz.underlying59 (zeroC _) bm _ rfl m1 _ _ rfl hk _ hlk' ?_) | (at_len;refine wp_len _ rfl _ 59 rfl 9 62 Tryz.underlying59 bm _ rfl m1 ?_) | fail)
      go_at_call 38
      refine cN.mono ?_
      rintro e w1' ⟨rfl,rfl⟩
      clear cN m1 x1
      have hmm:=@run_makeMap Tryz.prog
      go_wp2_with (first | (at_mapUpdate;refine wp_store _ rfl _ _ _ 59 rfl 9 62 keyed Tryz.underlying59 bm _ rfl (hm2'.out _ _) hlen _ _ _ rfl rfl hk ?_;intro w4 hm4 ht4;obtain ⟨hr3,hX⟩:=hfin'.out w1 w4 hb1'.out hm4 ht4;have hX':=Lib.hid hX;obtain ⟨p0,p1,p2,p3,p4,f0,f1,f2,f3,f4⟩:=res5 hr3) | fail)
      exact rep_fin rfl rfl hr3 ⟨_,rfl,hX'.out⟩
end Bo
end Go.Proofs.YtobfaibofhmpgaaGreatDoor
