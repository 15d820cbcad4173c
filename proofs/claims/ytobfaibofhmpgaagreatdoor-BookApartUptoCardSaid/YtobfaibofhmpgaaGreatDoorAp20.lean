import Derived.Test.YtobfaibofhmpgaaGreatDoorAp18
import Derived.Test.YtobfaibofhmpgaaGreatDoorAp19
set_option linter.unusedVariables false
set_option maxHeartbeats 4000000
set_option maxRecDepth 1000000
namespace Go.Proofs.YtobfaibofhmpgaaGreatDoor
namespace Ca
open Go.Shelf Go.RowKit Go.Lib Go.Sort
variable {P:Program} {α:Type} [Inhabited α] {k:Nat} {enc:α->List Value} {key:α->RowB} {cf:α->α->Int} {g:Nat} {cb:Array Value} {blk off len:Nat} {d0:Array α} {w0:World}
structure PassAt (key:α->RowB) (L0:List α) (len bs rs a:Nat) (P1 R1:List α):Prop where
  ha:P1.length=a
  l:a+R1.length=len
  p:∀ R',Runs key bs R'->Runs key bs (P1++R')
  r:Runs key rs R1
  e:Same key (P1++R1) L0
omit [Inhabited α] in
theorem Runs.two {bs:Nat} {R:List α} (h:Runs key bs R) (hl:2*bs<=R.length):Sorted key (R.take bs)/\Sorted key ((R.drop bs).take bs)/\Runs key bs ((R.drop bs).drop bs) :=
  ⟨(Runs.one key h).1,(Runs.one key (Runs.one key h).2).1,(Runs.one key (Runs.one key h).2).2⟩
omit [Inhabited α] in
theorem PassAt.step {L0:List α} {len bs a:Nat} {P1 R1:List α} (h:PassAt key L0 len (2*bs) bs a P1 R1) (hl:2*bs<=R1.length) :
    PassAt key L0 len (2*bs) bs (a+2*bs) (P1++mrg key (R1.take bs) ((R1.drop bs).take bs)) ((R1.drop bs).drop bs):=by
  obtain ⟨s1,s2,s3⟩:=Runs.two h.r hl
  have hm:(mrg key (R1.take bs) ((R1.drop bs).take bs)).length=2*bs:=by rw [mrg_len];simp;omega
  refine ⟨by rw [List.length_append,hm,h.ha],by have:=h.l;simp;omega,fun R' hR=>?_,s3,?_⟩
  · rw [List.append_assoc]
    exact h.p _ (.cons _ _ (mrg_sorted key s1 s2) hm hR)
  · refine Same.trans key ?_ h.e
    rw [List.append_assoc]
    have e:R1=(R1.take bs++(R1.drop bs).take bs)++(R1.drop bs).drop bs:=by rw [List.append_assoc,List.take_append_drop,List.take_append_drop]
    conv=>rhs;rw [e]
    exact (mrg_same key s1).ctx key P1 _
omit [Inhabited α] in
theorem PassAt.last2 {L0:List α} {len bs a:Nat} {P1 R1:List α} (h:PassAt key L0 len (2*bs) bs a P1 R1) (hl:R1.length < 2*bs) :
    Runs key (2*bs) (P1++(mrg key (R1.take bs) (R1.drop bs)++[]))/\Same key (P1++(mrg key (R1.take bs) (R1.drop bs)++[])) L0:=by
  have o:=Runs.one key h.r
  have s2:Sorted key (R1.drop bs):=Runs.sorted key o.2 (by simp;omega)
  rw [List.append_nil]
  refine ⟨h.p _ (.last _ (mrg_sorted key o.1 s2) (by rw [mrg_len];simp;omega)),Same.trans key ?_ h.e⟩
  have:=(mrg_same key (ys:=R1.drop bs) o.1).ctx key P1 []
  simpa using this
omit [Inhabited α] in
theorem PassAt.last1 {L0:List α} {len bs a:Nat} {P1 R1:List α} (h:PassAt key L0 len (2*bs) bs a P1 R1) (hl:R1.length<=bs):Runs key (2*bs) (P1++R1) :=
  h.p _ (.last _ (Runs.sorted key h.r hl) (by omega))
structure HeadAt (key:α->RowB) (L0:List α) (len a:Nat) (P1 R1:List α):Prop where
  ha:P1.length=a
  l:a+R1.length=len
  p:∀ R',Runs key 20 R'->Runs key 20 (P1++R')
  e:Same key (P1++R1) L0
omit [Inhabited α] in
theorem HeadAt.step {L0:List α} {len a:Nat} {P1 R1 X':List α} (h:HeadAt key L0 len a P1 R1) (hl:20<=R1.length) (h1:X'.length=(R1.take 20).length) (h2:Sorted key X') (h3:Same key X' (R1.take 20)) :
    HeadAt key L0 len (a+20) (P1++X') (R1.drop 20):=by
  have hx:X'.length=20:=by rw [h1];simp;omega
  refine ⟨by rw [List.length_append,hx,h.ha],by have:=h.l;simp;omega,fun R' hR=>?_,?_⟩
  · rw [List.append_assoc];exact h.p _ (.cons _ _ h2 hx hR)
  · refine Same.trans key ?_ h.e
    rw [List.append_assoc]
    conv=>rhs;rw [<-List.take_append_drop 20 R1]
    exact h3.ctx key P1 _
omit [Inhabited α] in
theorem HeadAt.last {L0:List α} {len a:Nat} {P1 R1 X':List α} (h:HeadAt key L0 len a P1 R1) (hl:R1.length < 20) (h1:X'.length=R1.length) (h2:Sorted key X') (h3:Same key X' R1):Runs key 20 (P1++X')/\Same key (P1++X') L0/\(P1++X').length=len :=
  ⟨h.p _ (.last _ h2 (by omega)),Same.trans key (by have:=h3.ctx key P1 [];simpa using this) h.e,by have:=h.ha;have:=h.l;simp;omega⟩
structure RunsAt (key:α->RowB) (L0:List α) (len bs:Nat) (L1:List α):Prop where
  r:Runs key bs L1
  e:Same key L1 L0
  l:L1.length=len
theorem stable_srt (L:SrtP P k) (H:SrtR P k enc key cf g cb blk off len d0 w0) (cap:Nat) (w:World) (L0:List α) (hl:L0.length=len) (hsm:len<=1099511627776) (S0:SWK enc k w0 blk off L0.toArray w) :
    Calls P 200 #[.slice (some ⟨blk,off,none⟩) len cap,.int .i64 len,.func (.func g) #[] cb] w fun e w'=>e=.returned (.tuple #[])/\∃ L1,Sorted key L1/\Same key L1 L0/\L1.length=len/\SWK enc k w0 blk off L1.toArray w':=by
  have mixed:=L.mixed;have t0:=L.t0;have a0:=L.a0;have z0:=L.z0;have v0:=L.v0;have t3:=L.t3;have a3:=L.a3;have z3:=L.z3;have v3:=L.v3;have tU:=L.tU;have aU:=L.aU;have zU:=L.zU;have uU:=run_underlying L.tU;have u3:=run_underlying L.t3;have t4:=L.t4;have a4:=L.a4;have z4:=L.z4;have v4:=L.v4;have tS:=L.tS;have aS:=L.aS;have zS:=L.zS;have vS:=L.vS;have tC:=L.tC;have aC:=L.aC;have zC:=L.zC;have aE:=L.aE;have zE:=L.zE
  have FG:=L.fStable
  have eI:∀ args w,(callFunc 229 args).run P w=.ok (.enter 229 args) w:=enters_of L.fIns (by kernel_rfl) rfl
  have eS:∀ args w,(callFunc 230 args).run P w=.ok (.enter 230 args) w:=enters_of L.fSym (by kernel_rfl) rfl
  have CI:Aside (∀ (a b:Nat) (W:World) (PX X S:List α),a=PX.length->b=a+X.length->PX.length+X.length+S.length=len->SWK enc k w0 blk off (PX++(X++S)).toArray W->
      Calls P 229 #[.slice (some ⟨blk,off,none⟩) len cap,.int .i64 a,.int .i64 b,.func (.func g) #[] cb] W fun e w'=>e=.returned (.tuple #[])/\∃ X',X'.length=X.length/\Sorted key X'/\Same key X' X/\SWK enc k w0 blk off (PX++(X'++S)).toArray w') :=
    fun a b W PX X S h1 h2 h3 h4=>ins_srt L H cap a b W PX X S h1 h2 h3 h4
  have CS:Aside (∀ (a m b:Nat) (W:World) (PX X Y S:List α),0 < X.length->0 < Y.length->a=PX.length->m=a+X.length->b=m+Y.length->Sorted key X->Sorted key Y->PX.length+X.length+Y.length+S.length=len->SWK enc k w0 blk off (PX++(X++(Y++S))).toArray W->
      Calls P 230 #[.slice (some ⟨blk,off,none⟩) len cap,.int .i64 a,.int .i64 m,.int .i64 b,.func (.func g) #[] cb] W fun e w'=>e=.returned (.tuple #[])/\SWK enc k w0 blk off (PX++(mrg key X Y++S)).toArray w') :=
    fun a m b W PX X Y S h1 h2 h3 h4 h5 h6 h7 h8 h9=>sym_srt L H cap _ a m b W PX X Y S (Nat.le_refl _) h1 h2 h3 h4 h5 h6 h7 h8 h9
  have A0:Aside (HeadAt key L0 len 0 [] L0):=⟨rfl,by omega,fun R' h=>h,Same.refl key _⟩
  have S0:Aside (SWK enc k w0 blk off ([]++L0).toArray w):=S0
  clear L
  go_enter FG,Tryz.ntmps200
  go_wp2
  go_loopg [7,8] len (fun kx s7 s8 wr=>∃ (a b:Nat) (P1 R1:List α),s7=.int .i64 a/\s8=.int .i64 b/\b<=a+20/\a+20<=b/\a<=len/\len - a<=kx/\Aside (HeadAt key L0 len a P1 R1)/\Aside (SWK enc k w0 blk off (P1++R1).toArray wr))
  case atStart=>exact ⟨0,20,[],L0,by first | rfl | go_num,by first | rfl | go_num,by omega,by omega,Nat.zero_le _,by omega,A0,S0⟩
  case round =>
    clear S0 A0
    obtain ⟨a,b,P1,R1,rfl,rfl,hb1,hb2,hal,hkx,HA,S1⟩:=hrel
    have hla:=HA.out.ha
    have hll:=HA.out.l
    by_cases hlt:b<=len
    · have hltz:(b:Int)<=(len:Int):=by omega
      have c:=CI.out a b wr P1 (R1.take 20) (R1.drop 20) hla.symm (by simp;omega) (by simp;omega) (by rw [List.take_append_drop];exact S1.out)
      have NX:Aside (∀ W,(∃ X',X'.length=(R1.take 20).length/\Sorted key X'/\Same key X' (R1.take 20)/\SWK enc k w0 blk off (P1++(X'++R1.drop 20)).toArray W)->∃ (P2 R2:List α),HeadAt key L0 len (a+20) P2 R2/\SWK enc k w0 blk off (P2++R2).toArray W):=fun W ⟨X',h1,h2,h3,h4⟩ =>
        ⟨P1++X',R1.drop 20,HA.out.step (by omega) h1 h2 h3,by rw [List.append_assoc];exact h4⟩
      clear S1 HA hla hll CS CI
      go_wp2_with fail
      go_at_call 229
      refine c.mono ?_
      rintro e wA ⟨rfl,hX⟩
      obtain ⟨P2,R2,HA2,S2⟩:=NX.out _ hX
      have eab:a+20=b:=by omega
      rw [eab] at HA2
      have HA2':Aside (HeadAt key L0 len b P2 R2):=HA2
      have S2':Aside (SWK enc k w0 blk off (P2++R2).toArray wA):=S2
      clear c NX hX HA2 S2 eab
      go_wp2
      go_roundg (len - b)
      case measure=>omega
      case rel=>exact ⟨b,b+20,P2,R2,rfl,by go_num,by omega,by omega,hlt,Nat.le_refl _,HA2',S2'⟩
    · have hltz : ¬ (b:Int)<=(len:Int):=by omega
      have hR:R1.length < 20:=by omega
      have c:=CI.out a len wr P1 R1 [] hla.symm (by omega) (by simp;omega) (by simpa using S1.out)
      have NX:Aside (∀ W,(∃ X',X'.length=R1.length/\Sorted key X'/\Same key X' R1/\SWK enc k w0 blk off (P1++(X'++[])).toArray W)->∃ L1,RunsAt key L0 len 20 L1/\SWK enc k w0 blk off L1.toArray W):=fun W ⟨X',h1,h2,h3,h4⟩=>by
        obtain ⟨q1,q2,q3⟩:=HA.out.last hR h1 h2 h3
        exact ⟨P1++X',⟨q1,q2,q3⟩,by rw [List.append_nil] at h4;exact h4⟩
      clear S1 HA hla hll CI hR
      go_wp2_with fail
      go_at_call 229
      refine c.mono ?_
      rintro e wA ⟨rfl,hX⟩
      obtain ⟨L1,RA,S2⟩:=NX.out _ hX
      have RA':Aside (RunsAt key L0 len 20 L1):=RA
      have S2':Aside (SWK enc k w0 blk off L1.toArray wA):=S2
      clear c NX hX RA S2
      go_wp2
      go_loopg [6,7,8] (len+1) (fun kx s6 s7 s8 wr=>∃ (bs:Nat) (L1:List α),s6=.int .i64 bs/\20<=bs/\bs<=2*len+20/\len+1 - bs<=kx/\Aside (RunsAt key L0 len bs L1)/\Aside (SWK enc k w0 blk off L1.toArray wr))
      case atStart=>exact ⟨20,L1,rfl,Nat.le_refl _,by omega,by omega,RA',S2'⟩
      case round =>
        clear S2' RA'
        obtain ⟨bs,L2,rfl,hbs,hbs2,hkx2,RA,S1⟩:=hrel
        by_cases hlt2:bs < len
        · have hltz2:(bs:Int) < (len:Int):=by omega
          have PA0:Aside (PassAt key L0 len (2*bs) bs 0 [] L2):=⟨rfl,by have:=RA.out.l;omega,fun R' h=>h,RA.out.r,RA.out.e⟩
          have S2:Aside (SWK enc k w0 blk off ([]++L2).toArray wr):=S1.out
          clear RA S1
          go_wp2
          go_loopg [7,8] (len+1) (fun kx s7 s8 wr=>∃ (a b:Nat) (P1 R1:List α),s7=.int .i64 a/\s8=.int .i64 b/\b<=a+2*bs/\a+2*bs<=b/\a<=len/\len - a<=kx/\Aside (PassAt key L0 len (2*bs) bs a P1 R1)/\Aside (SWK enc k w0 blk off (P1++R1).toArray wr))
          case atStart=>exact ⟨0,2*bs,[],L2,by first | rfl | go_num,by first | rfl | go_num | (congr 1;omega),by omega,by omega,Nat.zero_le _,by omega,PA0,S2⟩
          case round =>
            clear S2 PA0
            obtain ⟨a,b,P1,R1,rfl,rfl,hb1,hb2,hal,hkx,PA,S1⟩:=hrel
            have hla:=PA.out.ha
            have hll:=PA.out.l
            by_cases hlt3:b<=len
            · have hltz3:(b:Int)<=(len:Int):=by omega
              obtain ⟨m,hm⟩:∃ m:Nat,m=a+bs:=⟨_,rfl⟩
              have em:(a:Int)+(bs:Int)=(m:Int):=by omega
              obtain ⟨s1,s2,s3⟩:=Runs.two PA.out.r (by omega)
              have c:=CS.out a m b wr P1 (R1.take bs) ((R1.drop bs).take bs) ((R1.drop bs).drop bs) (by simp;omega) (by simp;omega) hla.symm (by simp;omega) (by simp;omega) s1 s2 (by simp;omega) (by rw [List.take_append_drop bs (R1.drop bs),List.take_append_drop];exact S1.out)
              have PN:Aside (PassAt key L0 len (2*bs) bs (a+2*bs) (P1++mrg key (R1.take bs) ((R1.drop bs).take bs)) ((R1.drop bs).drop bs)):=PA.out.step (by omega)
              obtain ⟨M,hM⟩:∃ M,mrg key (R1.take bs) ((R1.drop bs).take bs)=M:=⟨_,rfl⟩
              obtain ⟨T,hT⟩:∃ T,(R1.drop bs).drop bs=T:=⟨_,rfl⟩
              rw [hM,hT] at c PN
              clear hM hT s1 s2 s3 hm S1 PA hla hll CS
              go_wp2_with fail
              go_at_call 230
              refine c.mono ?_
              rintro e wB ⟨rfl,hX⟩
              have eab:a+2*bs=b:=by omega
              have PN2:=PN.out
              rw [eab] at PN2
              have PN':Aside (PassAt key L0 len (2*bs) bs b (P1++M) T):=PN2
              have S2':Aside (SWK enc k w0 blk off ((P1++M)++T).toArray wB):=by show SWK _ _ _ _ _ _ _;rw [List.append_assoc];exact hX
              clear c hX PN PN2 eab
              go_wp2
              go_roundg (len - b)
              case measure=>omega
              case rel=>exact ⟨b,b+2*bs,P1++M,T,rfl,by first | go_num | (congr 1;omega),by omega,by omega,hlt3,Nat.le_refl _,PN',S2'⟩
            · have hltz3:¬ (b:Int)<=(len:Int):=by omega
              obtain ⟨m,hm⟩:∃ m:Nat,m=a+bs:=⟨_,rfl⟩
              have em:(a:Int)+(bs:Int)=(m:Int):=by omega
              by_cases hml:m < len
              · have hmlz:(m:Int) < (len:Int):=by omega
                have o:=Runs.one key PA.out.r
                have c:=CS.out a m len wr P1 (R1.take bs) (R1.drop bs) [] (by simp;omega) (by simp;omega) hla.symm (by simp;omega) (by simp;omega) o.1 (Runs.sorted key o.2 (by simp;omega)) (by simp;omega) (by rw [List.append_nil,List.take_append_drop];exact S1.out)
                obtain ⟨q1,q2⟩:=PA.out.last2 (by omega)
                have q3:(P1++(mrg key (R1.take bs) (R1.drop bs)++[])).length=len:=by simp [mrg_len];omega
                obtain ⟨M,hM⟩:∃ M,mrg key (R1.take bs) (R1.drop bs)=M:=⟨_,rfl⟩
                rw [hM] at c q1 q2 q3
                have RN:Aside (RunsAt key L0 len (2*bs) (P1++(M++[]))):=⟨q1,q2,q3⟩
                clear o hM hm S1 PA hla hll CS q1 q2 q3
                go_wp2_with fail
                go_at_call 230
                refine c.mono ?_
                rintro e wB ⟨rfl,hX⟩
                have S2':Aside (SWK enc k w0 blk off (P1++(M++[])).toArray wB):=hX
                clear c hX
                go_wp2
                go_roundg (len+1 - 2*bs)
                case measure=>omega
                case rel=>exact ⟨2*bs,P1++(M++[]),by first | rfl | go_num | (congr 1;omega),by omega,by omega,Nat.le_refl _,RN,S2'⟩
              · have hmlz:¬ (m:Int) < (len:Int):=by omega
                have RN:Aside (RunsAt key L0 len (2*bs) (P1++R1)):=⟨PA.out.last1 (by omega),PA.out.e,by simp;omega⟩
                clear hm PA hla hll CS
                go_wp2
                go_roundg (len+1 - 2*bs)
                case measure=>omega
                case rel=>exact ⟨2*bs,P1++R1,by first | rfl | go_num | (congr 1;omega),by omega,by omega,Nat.le_refl _,RN,S1⟩
        · have hltz2:¬ (bs:Int) < (len:Int):=by omega
          have FI:Aside (∃ L1,Sorted key L1/\Same key L1 L0/\L1.length=len/\SWK enc k w0 blk off L1.toArray wr):=⟨L2,Runs.sorted key RA.out.r (by have:=RA.out.l;omega),RA.out.e,RA.out.l,S1.out⟩
          clear RA S1 CS
          go_wp2
          go_end0
          exact ⟨rfl,FI.out⟩
theorem sort_srt (L:SrtP P k) (H:SrtR P k enc key cf g cb blk off len d0 w0) (cap:Nat) (w:World) (L0:List α) (hl:L0.length=len) (hsm:len<=1099511627776) (S0:SWK enc k w0 blk off L0.toArray w) :
    Calls P 168 #[.slice (some ⟨blk,off,none⟩) len cap,.func (.func g) #[] cb] w fun e w'=>e=.returned (.tuple #[])/\∃ L1,Sorted key L1/\Same key L1 L0/\L1.length=len/\SWK enc k w0 blk off L1.toArray w':=by
  have c:=stable_srt L H cap w L0 hl hsm S0
  have mixed:=L.mixed;have t0:=L.t0;have a0:=L.a0;have z0:=L.z0;have v0:=L.v0;have t3:=L.t3;have a3:=L.a3;have z3:=L.z3;have v3:=L.v3;have tU:=L.tU;have aU:=L.aU;have zU:=L.zU;have uU:=run_underlying L.tU;have u3:=run_underlying L.t3;have t4:=L.t4;have a4:=L.a4;have z4:=L.z4;have v4:=L.v4;have tS:=L.tS;have aS:=L.aS;have zS:=L.zS;have vS:=L.vS;have tC:=L.tC;have aC:=L.aC;have zC:=L.zC;have aE:=L.aE;have zE:=L.zE
  have FG:=L.fSort
  have eI:∀ args w,(callFunc 200 args).run P w=.ok (.enter 200 args) w:=enters_of L.fStable (by kernel_rfl) rfl
  clear L S0 H hl
  go_enter FG,Tryz.ntmps168
  go_wp2_with fail
  go_at_call 200
  refine c.mono ?_
  rintro e wA ⟨rfl,hX⟩
  have hX':=Lib.hid hX
  clear c hX
  go_wp2
  go_end0
  exact ⟨rfl,hX'.out⟩
end Ca
namespace Ca
open Go.Shelf Go.RowKit Go.Lib Go.Sort
open Li (LD PD sv POwn)
instance:Inhabited LD:=⟨⟨[],[],[],[]⟩⟩
abbrev Hdr:Type:=Option Addr × Nat × Nat
abbrev LV:Type:=LD × Hdr
instance:Inhabited LV:=⟨(default,(none,0,0))⟩
def toV (h:Hdr):Value:=.slice h.1 h.2.1 h.2.2
def hdr:Value->Hdr
  | .slice A n c=>(A,n,c)
  | _=>(none,0,0)
theorem toV_hdr {v:Value} (h:∃ A n c,v=.slice A n c):toV (hdr v)=v:=by obtain ⟨A,n,c,rfl⟩:=h;rfl
def encL (p:LV):List Value:=[sv p.1.group,sv p.1.name,toV p.2,sv p.1.value]
def keyV (p:LV):RowB:=keyL p.1
theorem encL_len (x:LV):(encL x).length=4:=rfl
theorem flat_get {α:Type} [Inhabited α] (f:α->List Value) (hf:∀ x,(f x).length=4):∀ (ps:List α) (t:Nat),t < ps.length*4->(ps.flatMap f)[t]?=some ((f ps[t / 4]!)[t % 4]!)
  | [],t,h=>by simp at h
  | p :: ps,t,h=>by
    rw [List.flatMap_cons]
    by_cases h4:t < 4
    · rw [List.getElem?_append_left (by rw [hf];exact h4)]
      have e1:t / 4=0:=by omega
      have e2:t % 4=t:=by omega
      rw [e1,e2]
      have hlt:t < (f p).length:=by rw [hf];exact h4
      rw [List.getElem?_eq_getElem hlt]
      simp [hlt]
    · rw [List.getElem?_append_right (by rw [hf];omega),hf,flat_get f hf ps (t - 4) (by simp at h;omega)]
      have e1:t / 4=(t - 4) / 4+1:=by omega
      have e2:t % 4=(t - 4) % 4:=by omega
      rw [e1,e2]
      simp
theorem flat_len {α:Type} (f:α->List Value) (hf:∀ x,(f x).length=4) (ps:List α):(ps.flatMap f).length=ps.length*4:=by
  induction ps with
  | nil=>rfl
  | cons p ps ih=>rw [List.flatMap_cons,List.length_append,hf,ih,List.length_cons];omega
theorem flatK_list {α:Type} [Inhabited α] (f:α->List Value) (hf:∀ x,(f x).length=4) (ps:List α):(flatK f 4 ps.toArray).toList=ps.flatMap f:=by
  apply List.ext_getElem?
  intro t
  by_cases ht:t < ps.length*4
  · rw [flat_get f hf ps t ht]
    unfold flatK
    simp only [Array.toList_map,Array.toList_range,List.size_toArray]
    rw [List.getElem?_map,List.getElem?_range ht]
    simp
  · rw [List.getElem?_eq_none (by
      have:=size_flatK f 4 ps.toArray
      rw [Array.length_toList,this];simp;omega),List.getElem?_eq_none (by rw [flat_len f hf];omega)]
theorem lcells_zip:∀ (Ls:List LD) (hs:List Hdr),Ls.length=hs.length->lcells Ls (hs.map toV)=(Ls.zip hs).flatMap encL
  | [],[],_=>rfl
  | L :: Ls,v :: vs,h=>by
    have:=lcells_zip Ls vs (by simpa using h)
    rw [List.map_cons,lcells,this,List.zip_cons_cons,List.flatMap_cons];rfl
  | [],_ :: _,h=>by simp at h
  | _ :: _,[],h=>by simp at h
theorem holdsK_block {w:World} {g n:Nat} {cur:Array Value} {e:TypeId} {ps:List LV} (hb:w.heap[g]?=some (.cells cur e (0,0))) (hn:ps.length=n) (ht:cur.toList.take (n*4)=ps.flatMap encL):HoldsK encL 4 w g 0 ps.toArray:=by
  subst hn
  intro j hj
  have hj':j < ps.length*4:=by rw [size_flatK] at hj;simpa using hj
  refine ⟨?_,by simp [World.frozen?,hb]⟩
  have h1:(cur.toList.take (ps.length*4))[j]?=(ps.flatMap encL)[j]?:=by rw [ht]
  rw [List.getElem?_take_of_lt hj'] at h1
  simp only [World.cell?,hb,Nat.zero_add]
  simp only [Option.isSome_none,Bool.false_eq_true,if_false]
  rw [<-Array.getElem?_toList,h1,flat_get encL encL_len ps j hj',get_flatK encL 4 ps.toArray j (by simpa using hj')]
  simp
theorem heap_srt {w:World} {g m:Nat} {os:Array Obj} {cur:Array Value} {e:TypeId} {fr:Nat × Nat} (d:Array LV) (hb:w.heap[g]?=some (.cells cur e fr)) :
    (sortWorldK encL 4 w g 0 m d os).heap[g]?=some (.cells (putCells id 0 (flatK encL 4 d) cur) e fr):=by
  have hg:g < w.heap.size:=(Array.getElem?_eq_some_iff.1 hb).1
  unfold sortWorldK putRowK
  rw [heap_grow_old _ _ (by simpa using hg)]
  simp [putRow,mapBlock,Sort.ahead,Array.getElem?_modify,hb,onCells]
theorem grown_srt {w:World} {g m:Nat} {os:Array Obj} (d:Array LV):w.grownBy (sortWorldK encL 4 w g 0 m d os) (some g):=by
  unfold sortWorldK putRowK
  refine ⟨rfl,rfl,rfl,by simp,fun k hk hne=>?_⟩
  rw [heap_grow_old _ _ (by simpa using hk)]
  have:g≠k:=fun e=>hne (by rw [e])
  simp [putRow,mapBlock,Sort.ahead,Array.getElem?_modify,this]
theorem take_srt (cur:Array Value) (ps:List LV) (h:ps.length*4<=cur.size):(putCells id 0 (flatK encL 4 ps.toArray) cur).toList.take (ps.length*4)=ps.flatMap encL:=by
  rw [<-flatK_list encL encL_len ps]
  apply List.ext_getElem?
  intro j
  have hsz:(flatK encL 4 ps.toArray).size=ps.length*4:=by rw [size_flatK];simp
  by_cases hj:j < ps.length*4
  · rw [List.getElem?_take_of_lt hj,Array.getElem?_toList,Array.getElem?_toList]
    simp [putCells,hsz,hj,show j < cur.size by omega]
  · rw [List.getElem?_take_eq_none (by omega),List.getElem?_eq_none (by rw [Array.length_toList,hsz];omega)]
theorem same_mem {α:Type} {key:α->RowB} {s t:List α} (h:Same key s t) {x:α} (hx:x∈s):x∈t:=by
  have:x∈s.filter (fun y=>decide (key y=key x)):=List.mem_filter.2 ⟨hx,by simp⟩
  rw [h (key x)] at this
  exact (List.mem_filter.1 this).1
theorem sorted_fst {ps:List LV} (h:Sorted keyV ps):Sorted keyL (ps.map Prod.fst):=by
  unfold Sorted at h ⊢
  rw [List.pairwise_map]
  exact h
theorem same_fst {ps qs:List LV} (h:Same keyV ps qs):∀ m,(ps.map Prod.fst).filter (fun L=>decide (keyL L=m))=(qs.map Prod.fst).filter (fun L=>decide (keyL L=m)):=fun m=>by
  rw [List.filter_map,List.filter_map]
  have:=h m
  unfold keyV at this
  show (ps.filter fun x=>decide (keyL x.1=m)).map Prod.fst=(qs.filter fun x=>decide (keyL x.1=m)).map Prod.fst
  rw [this]
theorem zip_self {α β:Type}:∀ qs:List (α × β),(qs.map Prod.fst).zip (qs.map Prod.snd)=qs
  | []=>rfl
  | q :: qs=>by rw [List.map_cons,List.map_cons,List.zip_cons_cons,zip_self qs]
theorem LsOwn.sorts {w:World} {B:Nat} {v:Value} {Ls:List LD} (h:LsOwn B v Ls w) (hne:Ls≠[]) (hnm:∀ L∈Ls,L.name≠[]) :
    ∃ (g cap:Nat) (ps:List LV),v=.slice (some ⟨g,0,none⟩) Ls.length cap/\B<=g/\g < w.heap.size/\ps.length=Ls.length/\HoldsK encL 4 w g 0 ps.toArray/\
      ∀ (W:World) (qs:List LV),SWK encL 4 w g 0 qs.toArray W->Sorted keyV qs->Same keyV qs ps->qs.length=Ls.length->LsOwn B v (srt Ls) W/\Left w B W:=by
  obtain ⟨vs0,hl0,hrow0,hv0⟩:=h
  have hsl:vs0=(vs0.map hdr).map toV:=by
    rw [List.map_map]
    apply List.ext_getElem?
    intro t
    rw [List.getElem?_map]
    cases hu:vs0[t]? with
    | none=>rfl
    | some u =>
      have ht:=(List.getElem?_eq_some_iff.1 hu).1
      have hp:=hv0 t (Ls[t]'(by omega)) u (List.getElem?_eq_getElem _) hu
      obtain ⟨ao,c,hc⟩:=hp.form
      show some u=some (toV (hdr u))
      rw [toV_hdr ⟨_,_,_,hc⟩]
  obtain ⟨vs,hvs⟩:∃ vs,vs0.map hdr=vs:=⟨_,rfl⟩
  rw [hvs] at hsl
  have hl:Ls.length=vs.length:=by rw [<-hvs,List.length_map];exact hl0
  rw [hsl] at hrow0 hv0
  obtain ⟨h1,h2 | ⟨g,cap,cur,e1,e2,e3,e4,e5,e6,e7⟩⟩:=hrow0
  · exact absurd (List.eq_nil_of_length_eq_zero h2.2) hne
  · have hg:=(Array.getElem?_eq_some_iff.1 e3).1
    have hrow:w.ownsRow B 203 4 v Ls.length (lcells Ls (vs.map toV)):=⟨h1,.inr ⟨g,cap,cur,e1,e2,e3,e4,e5,e6,e7⟩⟩
    have hpl:(Ls.zip vs).length=Ls.length:=by rw [List.length_zip,<-hl];omega
    have hfst:(Ls.zip vs).map Prod.fst=Ls:=by rw [List.map_fst_zip];omega
    rw [lcells_zip Ls vs hl] at e7
    refine ⟨g,cap,Ls.zip vs,e1,e2,hg,hpl,holdsK_block e3 hpl e7,fun W qs hW hs hsm hql=>?_⟩
    obtain ⟨m,os,rfl⟩:=hW
    have hgr:=grown_srt (w:=w) (g:=g) (m:=m) (os:=os) qs.toArray
    have hsrt:qs.map Prod.fst=srt Ls:=srt_uniq Ls _ hnm (sorted_fst hs) (fun k=>by rw [same_fst hsm k,hfst])
    have hlen:(srt Ls).length=Ls.length:=by rw [<-hsrt,List.length_map,hql]
    refine ⟨⟨(qs.map Prod.snd).map toV,by rw [hlen,List.length_map,List.length_map,hql],⟨?_,?_⟩,fun j L u hL hu=>?_⟩,fun B' A hb hb1 hb2=>hb.grown hgr hb2 (fun k hk=>by cases hk;omega)⟩
    · rw [<-hsrt,lcells_zip _ _ (by simp),flat_len encL encL_len]
      simp
    · refine .inr ⟨g,cap,_,by rw [e1,hlen],e2,heap_srt _ e3,by rw [hlen];exact e4,e5,by simp [putCells,e6],?_⟩
      rw [hlen,<-hql,take_srt cur qs (by rw [hql,e6];exact Nat.mul_le_mul_right 4 e4),<-hsrt,lcells_zip _ _ (by simp)]
      rw [zip_self]
    · rw [<-hsrt] at hL
      rw [List.map_map] at hu
      rw [List.getElem?_map] at hL hu
      obtain ⟨q,hq,rfl⟩:=Option.map_eq_some_iff.1 hL
      obtain ⟨q',hq',rfl⟩:=Option.map_eq_some_iff.1 hu
      rw [hq] at hq'
      obtain rfl:=Option.some.inj hq'
      have hmem:=same_mem hsm (List.mem_of_getElem? hq)
      obtain ⟨i,hi,hie⟩:=List.getElem_of_mem hmem
      have hi2:i < Ls.length:=by rw [hpl] at hi;exact hi
      have hL2:Ls[i]?=some q.1:=by
        rw [<-hie,List.getElem_zip,List.getElem?_eq_getElem hi2]
      have hv2:(vs.map toV)[i]?=some (toV q.2):=by
        rw [List.getElem?_map,<-hie,List.getElem_zip,List.getElem?_eq_getElem (by omega)];rfl
      have hp:=hv0 i q.1 (toV q.2) hL2 hv2
      exact pBeside hp hrow (by rw [e1];exact hgr)
end Ca
namespace Ca
open Li (LD PD canL chk)
def few (ns:List Row):Prop:=ns.count kBEGIN=0/\ns.count kEND=0/\ns.count kVERSION=0/\ns.count kN<=1/\ns.count kUID<=1/\ns.count kKIND<=1/\ns.count kBDAY<=1/\ns.count kREV<=1
theorem cntOK_few (ns:List Row):cntOK ns=true↔few ns/\0 < ns.count kFN:=by
  unfold cntOK few
  rw [decide_eq_true_eq]
  constructor
  · rintro ⟨a,b,c,d,e,f,g,h,i⟩;exact ⟨⟨a,b,c,d,e,f,g,h⟩,i⟩
  · rintro ⟨⟨a,b,c,d,e,f,g,h⟩,i⟩;exact ⟨a,b,c,d,e,f,g,h,i⟩
def namesL (Ls:List LD):List Row:=Ls.map fun L=>Ch.up L.name
end Ca
namespace Li
open Go.Lib Go.RowKit Bu
theorem wvs_end:∀ (vs:List Row) (v:Row) (m:UInt8),wvs m (vs++[v])=wvs m vs++(if vs=[] then m else 44) :: wval v
  | [],v,m=>by simp [wvs]
  | u :: vs,v,m=>by
    have:=wvs_end vs v 44
    simp only [List.cons_append,wvs,this]
    cases vs<;>simp
theorem wvs_more:∀ (a b:List Row) (m:UInt8),(wvs m a).length<=(wvs m (a++b)).length
  | [],b,m=>by simp [wvs]
  | u :: a,b,m=>by
    have:=wvs_more a b 44
    simp only [List.cons_append,wvs,List.length_cons,List.length_append]
    omega
theorem wval_le (vs:List Row) (i:Nat) (v:Row) (h:vs[i]?=some v):(wval v).length<=(wvs 61 vs).length:=by
  obtain ⟨hl,hv⟩:=List.getElem?_eq_some_iff.1 h
  have h1:=wvs_more (vs.take (i+1)) (vs.drop (i+1)) 61
  rw [List.take_append_drop,List.take_succ_eq_append_getElem hl,hv,wvs_end,List.length_append,List.length_cons] at h1
  omega
theorem esc_wval (v:Row):(esc v).length<=(wval v).length:=by
  unfold wval
  split
  · simp;omega
  · omega
theorem esc_ge:∀ v:Row,v.length<=(esc v).length
  | []=>Nat.le_refl _
  | c :: l=>by
    have:=esc_ge l
    have:=(esc1_len c).1
    rw [esc_cons,List.length_append,List.length_cons]
    omega
theorem wprm_le (L:LD) (k:Nat) (p:PD) (h:L.params[k]?=some p):(wprms (L.params.take k)).length+(wprm p).length<=(wprms L.params).length:=by
  have h1:=wprms_take L.params k p h
  have h2:=wprms_take_le L.params (k+1)
  rw [h1,List.length_append] at h2
  exact h2
theorem vals_pr:∀ (n:Nat) {l r:Row} {vs:List Row} (m:UInt8),l.length<=n->vals l=some (vs,r)->(wvs m vs).length+3*r.length<=3*l.length+3/\r.length<=l.length
  | n, l, r,vs,m,hn,h=>by
    cases hr:rawC l with
    | none=>rw [vals_none hr] at h;cases h
    | some p =>
      obtain ⟨a,q⟩:=p
      obtain ⟨⟨p1,q1,e,_⟩,hl⟩:=rawC_tells hr
      have hlen:=congrArg List.length e
      simp only [List.length_append] at hlen
      have hm:=mean_len a
      have hw:=wval_len (mean a)
      by_cases hc:q.head?=some 44
      · have hlt:=tail_lt hc
        rw [vals_more hr hc] at h
        obtain ⟨⟨us,u⟩,hu,he⟩:=Option.map_eq_some_iff.1 h
        simp only [Prod.mk.injEq] at he
        obtain ⟨rfl,rfl⟩:=he
        match n,hn with
        | 0,hn=>omega
        | n+1,hn =>
          obtain ⟨h1,h2⟩:=vals_pr n 44 (by omega) hu
          simp only [wvs,List.length_cons,List.length_append]
          omega
      · rw [vals_last hr hc] at h
        have h:=Option.some.inj h
        simp only [Prod.mk.injEq] at h
        obtain ⟨rfl,rfl⟩:=h
        simp only [wvs,List.length_cons,List.length_append,List.length_nil]
        omega
theorem prms_pr : ∀ (n:Nat) {l r:Row} {ps:List PD},l.length<=n->prms l=.ok ps r->(wprms ps).length+3*r.length<=3*l.length
  | n, l, r,ps,hn,h=>by
    by_cases h59:l.head?=some 59
    · have hlt:=tail_lt h59
      cases hnc:nameC l.tail with
      | none=>rw [prms_bad1 h59 hnc] at h;cases h
      | some q =>
        obtain ⟨m,r1⟩:=q
        have hl1:=congrArg List.length (nameC_some hnc).1
        rw [List.length_append] at hl1
        by_cases h61:r1.head?=some 61
        · have hlt1:=tail_lt h61
          cases hv:vals r1.tail with
          | none=>rw [prms_bad3 h59 hnc h61 hv] at h;cases h
          | some q =>
            obtain ⟨vs,r2⟩:=q
            obtain ⟨h1,h2⟩:=vals_pr _ 61 (Nat.le_refl _) hv
            rw [prms_more h59 hnc h61 hv] at h
            cases hp:prms r2 with
            | bad e=>rw [hp] at h;cases h
            | ok qs u =>
              rw [hp] at h
              simp only [PR.more,PR.ok.injEq] at h
              obtain ⟨rfl,rfl⟩:=h
              match n,hn with
              | 0,hn=>omega
              | n+1,hn =>
                have i1:=prms_pr n (by omega) hp
                rw [wprms_cons,List.length_append]
                unfold wprm
                simp only [List.length_cons,List.length_append]
                omega
        · rw [prms_bad2 h59 hnc h61] at h;cases h
    · rw [prms_end h59] at h
      simp only [PR.ok.injEq] at h
      obtain ⟨rfl,rfl⟩:=h
      simp [wprms]
theorem parse_len {s:Row} {L:LD} (h:parse s=.ok L):(pr L).length<=3*s.length:=by
  unfold parse at h
  split at h
  · cases hn:namesC s with
    | none=>rw [hn] at h;cases h
    | some p =>
      obtain ⟨g,n,r⟩:=p
      rw [hn] at h
      dsimp only at h
      have hg:(if g=[] then n else g++46 :: n).length+r.length<=s.length:=by
        unfold namesC at hn
        cases hc:nameC s with
        | none=>rw [hc] at hn;cases hn
        | some p =>
          obtain ⟨m,q⟩:=p
          have h1:=congrArg List.length (nameC_some hc).1
          rw [List.length_append] at h1
          rw [hc] at hn
          dsimp only at hn
          split at hn
          · rename_i h46
            obtain ⟨⟨p1,p2⟩,hp,he⟩:=Option.map_eq_some_iff.1 hn
            simp only [Prod.mk.injEq] at he
            obtain ⟨rfl,rfl,rfl⟩:=he
            have h2:=congrArg List.length (nameC_some hp).1
            have h3:=tail_lt h46
            rw [List.length_append] at h2
            split
            · omega
            · simp only [List.length_append,List.length_cons];omega
          · have hn:=Option.some.inj hn
            simp only [Prod.mk.injEq] at hn
            obtain ⟨rfl,rfl,rfl⟩:=hn
            rw [if_pos rfl];omega
      unfold fin at h
      cases hp:prms r with
      | bad e=>rw [hp] at h;cases h
      | ok ps q =>
        rw [hp] at h
        dsimp only at h
        split at h
        · rename_i h58
          simp only [LR.ok.injEq] at h
          subst h
          have h1:=prms_pr _ (Nat.le_refl _) hp
          have h2:=tail_lt h58
          unfold pr
          simp only [List.nil_append,List.length_append,List.length_cons]
          omega
        · cases h
  · cases h
theorem mem_at {α:Type} {x:α}:∀ {l:List α},x∈l->∃ i:Nat,l[i]?=some x
  | [],h=>by cases h
  | y :: l,h=>by
    rcases List.mem_cons.1 h with rfl | h
    · exact ⟨0,rfl⟩
    · obtain ⟨i,hi⟩:=mem_at h
      exact ⟨i+1,hi⟩
theorem small_pr {L:LD} (h:(pr L).length<=140737488355328):SmallL L:=by
  unfold pr at h
  simp only [List.length_append,List.length_cons] at h
  refine ⟨?_,?_,by omega,fun p hp=>?_⟩
  · split at h
    · rename_i hg;rw [hg];simp
    · simp only [List.length_append,List.length_cons] at h;omega
  · split at h
    · omega
    · simp only [List.length_append,List.length_cons] at h;omega
  · obtain ⟨k,hk⟩:=mem_at hp
    have h1:=wprm_le L k p hk
    have h2:(wprm p).length=1+p.name.length+(wvs 61 p.vals).length:=by unfold wprm;rw [List.length_cons,List.length_append];omega
    refine ⟨by omega,fun v hv=>?_⟩
    obtain ⟨i,hi⟩:=mem_at hv
    have h3:=wval_le p.vals i v hi
    have h4:=esc_wval v
    have h5:=esc_ge v
    omega
structure SzL (N:Nat) (L:LD):Prop where
  g:L.group.length<=N
  n:L.name.length<=N
  v:L.value.length<=N
  k:L.params.length<=N
  pn:∀ p∈L.params,p.name.length<=N
  pk:∀ p∈L.params,p.vals.length<=N
theorem wprms_count:∀ ps:List PD,ps.length<=(wprms ps).length
  | []=>Nat.zero_le _
  | p :: ps=>by
    have:=wprms_count ps
    have e:wprms (p :: ps)=wprm p++wprms ps:=by unfold wprms;rw [List.flatMap_cons]
    rw [e,List.length_append,List.length_cons]
    have:1<=(wprm p).length:=by unfold wprm;simp
    omega
theorem wvs_count:∀ (m:UInt8) (vs:List Row),vs.length<=(wvs m vs).length
  | m,[]=>Nat.zero_le _
  | m,v :: vs=>by
    have:=wvs_count 44 vs
    unfold wvs
    simp only [List.length_cons,List.length_append]
    omega
theorem sz_pr {L:LD} {N:Nat} (h:(pr L).length<=N):SzL N L:=by
  unfold pr at h
  simp only [List.length_append,List.length_cons] at h
  have hc:=wprms_count L.params
  have hp:∀ p∈L.params,p.name.length<=N/\p.vals.length<=N:=fun p hp=>by
    obtain ⟨k,hk⟩:=mem_at hp
    have h1:=wprm_le L k p hk
    have h2:(wprm p).length=1+p.name.length+(wvs 61 p.vals).length:=by unfold wprm;rw [List.length_cons,List.length_append];omega
    have h3:=wvs_count 61 p.vals
    exact ⟨by omega,by omega⟩
  refine ⟨?_,?_,by omega,by omega,fun p h=>(hp p h).1,fun p h=>(hp p h).2⟩
  · split at h
    · rename_i hg;rw [hg];simp
    · simp only [List.length_append,List.length_cons] at h;omega
  · split at h
    · omega
    · simp only [List.length_append,List.length_cons] at h;omega
end Li
namespace Ca
open Li (LD PD canL chk pr)
theorem first_split {α:Type} (p:α->Bool):∀ (t r:List α) (a:α),t.filter p=a :: r->∃ t1 t2,t=t1++a :: t2/\(∀ x∈t1,p x=false)/\t2.filter p=r
  | [],r,a,h=>by cases h
  | b :: t,r,a,h=>by
    by_cases hb:p b=true
    · rw [List.filter_cons_of_pos hb] at h
      injection h with h1 h2
      subst h1
      exact ⟨[],t,rfl,(fun x hx=>by cases hx),h2⟩
    · have hb':p b=false:=by simpa using hb
      rw [List.filter_cons_of_neg hb] at h
      obtain ⟨t1,t2,rfl,h2,h3⟩:=first_split p t r a h
      exact ⟨b :: t1,t2,rfl,(fun x hx=>by
        rcases List.mem_cons.1 hx with rfl | hx
        · exact hb'
        · exact h2 x hx),h3⟩
theorem same_perm {α:Type} (key:α->RowB):∀ (s t:List α),Same key s t->s.Perm t
  | [],t,h=>by
    cases t with
    | nil=>exact List.Perm.nil
    | cons b t =>
      have:=h (key b)
      rw [List.filter_cons_of_pos (by simp)] at this
      cases this
  | a :: s,t,h=>by
    have h0:=h (key a)
    rw [List.filter_cons_of_pos (by simp)] at h0
    obtain ⟨t1,t2,rfl,h2,h3⟩:=first_split (fun x=>decide (key x=key a)) t _ a h0.symm
    have hs:Same key s (t1++t2):=fun m=>by
      have hm:=h m
      by_cases e:key a=m
      · subst e
        have e0:t1.filter (fun x=>decide (key x=key a))=[]:=List.filter_eq_nil_iff.2 (fun x hx=>by rw [h2 x hx];simp)
        rw [List.filter_append,e0,h3,List.nil_append]
      · rw [List.filter_cons_of_neg (by simpa using e),List.filter_append,List.filter_cons_of_neg (by simpa using e)] at hm
        rw [hm,List.filter_append]
    exact ((same_perm key s (t1++t2) hs).cons a).trans List.perm_middle.symm
theorem perm_sum {s t:List Nat} (h:s.Perm t):s.sum=t.sum:=by
  induction h with
  | nil=>rfl
  | cons x _ ih=>simp [ih]
  | swap x y l=>simp;omega
  | trans _ _ ih1 ih2=>exact ih1.trans ih2
theorem perm_few {s t:List Row} (h:s.Perm t):few s↔few t:=by
  unfold few
  rw [h.count_eq,h.count_eq,h.count_eq,h.count_eq,h.count_eq,h.count_eq,h.count_eq,h.count_eq]
theorem right_iff (Ls:List LD):rightB Ls=true↔(∀ L∈Ls,okV (Ch.up L.name) L.value=true)/\few (namesL Ls)/\0 < (namesL Ls).count kFN:=by
  unfold rightB
  rw [Bool.and_eq_true,List.all_eq_true,cntOK_few];rfl
theorem right_perm {s t:List LD} (h:s.Perm t) (hr:rightB s=true):rightB t=true:=by
  rw [right_iff] at hr ⊢
  have hn:(namesL s).Perm (namesL t):=h.map _
  refine ⟨fun L hL=>hr.1 L (h.mem_iff.2 hL),(perm_few hn).1 hr.2.1,by rw [<-hn.count_eq];exact hr.2.2⟩
def canC (Ls:List LD):List LD:=srt (Ls.map can1)
theorem checkE_zero {Ls:List LD}:checkE Ls=0↔(∀ L∈Ls,chk L=0)/\rightB Ls=true:=by
  unfold checkE
  cases h:Ls.find? (fun L=>decide (chk L≠0)) with
  | some L =>
    have h1:=List.find?_some h
    have h2:=List.mem_of_find?_eq_some h
    simp only [decide_eq_true_eq] at h1
    constructor
    · intro h3;exact absurd h3 h1
    · rintro ⟨h3,_⟩;exact absurd (h3 L h2) h1
  | none =>
    have h1:∀ L∈Ls,chk L=0:=fun L hL=>by
      have:=List.find?_eq_none.1 h L hL
      simpa using this
    dsimp only
    by_cases hr:rightB Ls=true
    · rw [if_pos hr];exact ⟨fun _=>⟨h1,hr⟩,fun _=>rfl⟩
    · rw [if_neg hr];exact ⟨(fun h=>by cases h),fun h=>absurd h.2 hr⟩
theorem okV_anew {n v:Row} (h:okV n v=true):∃ x,anewV n v=some x:=by
  unfold okV at h
  rw [Bool.and_eq_true] at h
  exact Option.isSome_iff_exists.1 h.1
theorem right_anew {Ls:List LD} (h:rightB Ls=true):∀ L∈Ls,∃ x,anewV (Ch.up L.name) L.value=some x:=fun L hL=>okV_anew (((right_iff Ls).1 h).1 L hL)
theorem right_ne {Ls:List LD} (h:rightB Ls=true):Ls≠[]:=fun e=>by
  have:=((right_iff Ls).1 h).2.2
  rw [e] at this
  exact absurd this (by decide)
theorem names_can (Ls:List LD):namesL (Ls.map can1)=namesL Ls:=by
  unfold namesL
  rw [List.map_map]
  apply List.map_congr_left
  intro L _
  show Ch.up (can1 L).name=_
  rw [can1_name,up_up]
theorem right_can {Ls:List LD} (h:rightB Ls=true):rightB (Ls.map can1)=true:=by
  have ha:=right_anew h
  rw [right_iff] at h ⊢
  refine ⟨fun M hM=>?_,by rw [names_can];exact h.2.1,by rw [names_can];exact h.2.2⟩
  obtain ⟨L,hL,rfl⟩:=List.mem_map.1 hM
  obtain ⟨x,hx⟩:=ha L hL
  have:=h.1 L hL
  rw [can1_is hx]
  show okV (Ch.up (Ch.up L.name)) x=true
  rw [up_up,okV_again hx];exact this
theorem can_names {Ls:List LD} (h:∀ L∈Ls,chk L=0):∀ M∈Ls.map can1,M.name≠[]:=fun M hM=>by
  obtain ⟨L,hL,rfl⟩:=List.mem_map.1 hM
  rw [can1_name]
  intro e
  exact name_ne (h L hL) (List.eq_nil_of_length_eq_zero (by rw [<-Ch.up_length,e];rfl))
theorem srt_perm {X:List LD} (h:∀ M∈X,M.name≠[]):(srt X).Perm X:=same_perm keyL _ _ (fun m=>(srt_spec X h).2 m)
theorem canC_perm {Ls:List LD} (h:∀ L∈Ls,chk L=0):(canC Ls).Perm (Ls.map can1):=srt_perm (can_names h)
theorem canC_check {Ls:List LD} (h:checkE Ls=0):checkE (canC Ls)=0:=by
  obtain ⟨h1,h2⟩:=checkE_zero.1 h
  refine checkE_zero.2 ⟨fun M hM=>?_,right_perm (canC_perm h1).symm (right_can h2)⟩
  obtain ⟨L,hL,rfl⟩:=List.mem_map.1 ((canC_perm h1).mem_iff.1 hM)
  obtain ⟨x,hx⟩:=right_anew h2 L hL
  exact chk_can1 hx (h1 L hL)
theorem anewV_len {n v x:Row} (h:anewV n v=some x):x.length<=2*v.length:=by
  unfold anewV at h
  split at h
  · obtain ⟨t,ht,rfl⟩:=Option.map_eq_some_iff.1 h
    have h1:=Va.text_len ht
    have h2:=Va.put_len t
    omega
  · split at h
    · obtain ⟨t,ht,rfl⟩:=Option.map_eq_some_iff.1 h
      unfold Va.list at ht
      obtain ⟨l,hl,rfl⟩:=Option.map_eq_some_iff.1 ht
      have h1:=Va.putL_listS l
      have h2:=Va.signs_len _ _ l (Nat.le_refl _) hl
      omega
    · split at h
      · obtain ⟨t,ht,rfl⟩:=Option.map_eq_some_iff.1 h
        unfold Va.fields at ht
        obtain ⟨l,hl,rfl⟩:=Option.map_eq_some_iff.1 ht
        have h1:=Va.putF_fldS l
        have h2:=Va.signs_len _ _ l (Nat.le_refl _) hl
        omega
      · cases h;omega
theorem wprms_can:∀ ps:List PD,(Li.wprms (ps.map Li.canP)).length=(Li.wprms ps).length
  | []=>rfl
  | p :: ps=>by
    have ih:=wprms_can ps
    unfold Li.wprms at ih ⊢
    rw [List.map_cons,List.flatMap_cons,List.flatMap_cons,List.length_append,List.length_append,ih]
    congr 1
    unfold Li.wprm Li.canP
    simp only [List.length_cons,List.length_append,Ch.up_length]
theorem pr_can {L:LD} {x:Row} (h:anewV (Ch.up L.name) L.value=some x):(pr (can1 L)).length<=2*(pr L).length:=by
  have hl:=anewV_len h
  rw [can1_is h]
  unfold Li.pr
  simp only [List.length_append,List.length_cons,wprms_can]
  have e:(if Ch.up L.group=[] then Ch.up L.name else Ch.up L.group++46 :: Ch.up L.name).length=(if L.group=[] then L.name else L.group++46 :: L.name).length:=by
    by_cases hg:L.group=[]
    · rw [if_pos hg,if_pos (by rw [hg];rfl),Ch.up_length]
    · rw [if_neg hg,if_neg (fun e=>hg (List.eq_nil_of_length_eq_zero (by rw [<-Ch.up_length,e];rfl)))]
      simp only [List.length_append,List.length_cons,Ch.up_length]
  rw [e]
  omega
def prsum (Ls:List LD):Nat:=(Ls.map fun L=>(pr L).length+1).sum
theorem prsum_mem {Ls:List LD} {L:LD} (h:L∈Ls):(pr L).length+1<=prsum Ls:=by
  unfold prsum
  induction Ls with
  | nil=>cases h
  | cons M Ls ih =>
    rw [List.map_cons,List.sum_cons]
    rcases List.mem_cons.1 h with rfl | h
    · omega
    · have:=ih h;omega
theorem prsum_len (Ls:List LD):Ls.length<=prsum Ls:=by
  unfold prsum
  induction Ls with
  | nil=>simp
  | cons M Ls ih=>rw [List.map_cons,List.sum_cons,List.length_cons];omega
theorem prsum_perm {s t:List LD} (h:s.Perm t):prsum s=prsum t:=perm_sum (h.map _)
theorem prsum_can {Ls:List LD} (h:∀ L∈Ls,∃ x,anewV (Ch.up L.name) L.value=some x):prsum (Ls.map can1)<=2*prsum Ls:=by
  unfold prsum
  induction Ls with
  | nil=>simp
  | cons M Ls ih =>
    simp only [List.map_cons,List.sum_cons]
    have:=ih (fun L hL=>h L (by simp [hL]))
    obtain ⟨x,hx⟩:=h M (by simp)
    have:=pr_can hx
    omega
theorem prsum_canC {Ls:List LD} (h:checkE Ls=0):prsum (canC Ls)<=2*prsum Ls:=by
  obtain ⟨h1,h2⟩:=checkE_zero.1 h
  rw [prsum_perm (canC_perm h1)]
  exact prsum_can (right_anew h2)
end Ca
end Go.Proofs.YtobfaibofhmpgaaGreatDoor
