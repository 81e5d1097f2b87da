import Derived.Test.YtdhgmaonolgpnaaGreatDoorMh
set_option linter.unusedSimpArgs false
set_option maxHeartbeats 4000000
set_option maxRecDepth 100000
namespace Go.Proofs.YtdhgmaonolgpnaaGreatDoor
section
open Go.RowKit
theorem g_at(s:ByteArray)(a j:Nat)(h:a+j<s.size):s[a+j].toNat=St.g (s.data.toList.drop a) j:=by
 unfold St.g;rw[List.getD_eq_getElem?_getD,Kf,Jg (by rw[<-Lib.size_eq];exact h)];rfl
theorem yY(s:ByteArray)(a:Nat)(w:World)(hs:s.size<=4000000000000000000)(ha:a<s.size):
  Calls Tryz.prog 35 #[.string s,.int .i64 a] w λe w'=>e=.returned (.int .i64 (St.utf8 (s.data.toList.drop a)))/\w=w':=by
 have hlen:(s.data.toList.drop a).length=s.size-a:=by rw[JJ,<-Lib.size_eq]
 unfold St.utf8;rw[hlen];have g0:=g_at s a 0 (by omega);have hg:∀j (h:a+j<s.size),s[a+j].toNat=St.g (s.data.toList.drop a) j:=g_at s a;have hlt:∀j,St.g (s.data.toList.drop a) j<256:=St.CS _;generalize hb:St.g (s.data.toList.drop a)=b at g0 hg hlt ⊢;clear hb hlen;have h0:s[a].toNat=b 0:=g0;have HG:=Jf hg;have HL:=Jf hlt;have H0:=Jf h0;clear hg hlt g0 h0;generalize hc0:s[a]=c0;have hix:∀h,s[a]'h=c0:=λ_=>hc0;rw[hc0] at H0;clear hc0;have h256:=c0.toNat_lt;by_cases k1:b 0<128
 .rw[St.uG k1 (by omega)];have k1':c0.toNat<128:=by rw[H0.out];exact k1
  go_enter Tryz.func35,Tryz.ntmps35
  go_wp2
  go_ret;exact⟨rfl,rfl⟩
 .by_cases k2:b 0<192\/248<=b 0
  .rw[St.mL (by omega)];have k2':(128<=c0.toNat/\c0.toNat<192)\/248<=c0.toNat:=by rw[H0.out];omega
   clear k1 k2;rcases k2' with⟨q1,q2⟩|q;all_goals
    go_enter Tryz.func35,Tryz.ntmps35
    go_wp2
    go_ret;exact⟨rfl,rfl⟩
  .have hcls:(192<=b 0/\b 0<224)\/(224<=b 0/\b 0<240)\/(240<=b 0/\b 0<248):=by omega
   clear k1 k2;rcases hcls with⟨q1,q2⟩|⟨q1,q2⟩|⟨q1,q2⟩
   .have p1:192<=c0.toNat:=by rw[H0.out];exact q1
    have p2:c0.toNat<224:=by rw[H0.out];exact q2
    have HC:=Jf (show St.Cls 2 128 192 (b 0) from .inl ⟨rfl,rfl,rfl,q1,q2⟩);have hv0:St.jt 0 (b 0-192):=by unfold St.jt;omega
    have hz:(c0.toNat:Int)-192=((b 0-192:Nat):Int):=by rw[H0.out];omega
    have HZ:=Jf hz;clear hz;by_cases hsh:s.size<a+2
    .rw[St.lg HC.out (by omega)];go_enter Tryz.func35,Tryz.ntmps35
     go_wp2
     go_ret;exact⟨rfl,rfl⟩
    .have d128:decide ((c0.toNat:Int)<128)=false:=by simp;omega
     have d224:decide ((c0.toNat:Int)<224)=true:=by simp;omega
     have d240:decide ((c0.toNat:Int)<240)=true:=by simp;omega
     have d248:decide ((c0.toNat:Int)<248)=true:=by simp;omega
     have dsh:decide ((s.size:Int)<(a:Int)+2)=false:=by simp;omega
     go_enter Tryz.func35,Tryz.ntmps35
     go_wp2
     rw[HZ.out]
     go_loop [8,9] (λv t=>∃i:Nat,1<=i/\i<=2/\t=.int .i64 (i:Int)/\v=.int .i64 (St.acc (b 0-192) b (i-1))/\St.lK b (i-1)/\St.jt (i-1) (St.acc (b 0-192) b (i-1))) (λ_ t=>4-(intOf t).toNat)
     case atStart=>exact⟨1,by omega,by omega,rfl,rfl,λm h1 h2=>by omega,hv0⟩
     case round=>
      obtain⟨i,hi,hin,rfl,rfl,hco,hbd⟩:=hrel;have hv1:St.acc (b 0-192) b (i-1)<8388608:=hbd.2.2.2;by_cases hlt:i<2
      .have HACC:=Jf (show St.acc (b 0-192) b i=64*St.acc (b 0-192) b (i-1)+b i-128 by
        obtain⟨j,rfl⟩:∃j,i=j+1:=⟨i-1,by omega⟩;rfl)
       have hb1:=HL.out i;have hai:a+i<s.size:=by omega
       have HGJ:=Jf (HG.out i hai);generalize hcj:s[a+i]=cj at HGJ;have hixj:∀h,s[a+i]'h=cj:=λ_=>hcj;have h256j:=cj.toNat_lt;clear hcj;have hvj:=Jf (λh=>hbd.next (by omega) (d:=b i) h);have HCO:=Jf hco;clear hco;generalize St.acc (b 0-192) b (i-1)=v at HACC hv1 hbd hvj ⊢;by_cases hcont:128<=b i/\b i<192
       .obtain⟨d1,d2⟩:=hcont;have d1':128<=cj.toNat:=by rw[HGJ.out];exact d1
        have d2':cj.toNat<192:=by rw[HGJ.out];exact d2
        have HV:=Jf (show 64*(v:Int)+(cj.toNat:Int)-128=((64*v+b i-128:Nat):Int) by rw[HGJ.out];omega)
        go_wp2
        go_round
        case rel=>exact⟨i+1,by omega,by omega,by go_num,(by rw[KP,HACC.out,<-HV.out]),(by
         have:=St.lK.next HCO.out (by rw[KQ hi];exact⟨d1,d2⟩);rw[KQ hi] at this;rw[KP];exact this),(by
         have:=hvj.out d2;rw[KQ hi] at this;rw[KP,HACC.out];exact this)⟩
        case measure=>simp[intOf];omega
       .have HW:=Jf (St.mK (len:=s.size-a) (j:=i) HC.out (by omega) (by omega) (by omega));have hcc:cj.toNat<128\/192<=cj.toNat:=by rw[HGJ.out];omega
        clear hcont;rcases hcc with hcc|hcc;all_goals
         go_wp2
         go_ret;refine⟨?_,rfl⟩;rw[HW.out];rfl
      .obtain rfl:i=2:=by omega
       have HE:=Jf (St.oM (len:=s.size-a) HC.out (by omega) hco);have HCO:=Jf hco;clear hco;generalize St.acc (b 0-192) b (2-1)=v at HE hv1 hbd ⊢;have hways:v<128\/(128<=v/\1114111<v)\/(128<=v/\v<=1114111/\55296<=v/\v<57344)\/(128<=v/\v<=1114111/\v<55296)\/(128<=v/\v<=1114111/\57344<=v):=by omega
       rcases hways with t|⟨t1,t2⟩|⟨t1,t2,t3,t4⟩|⟨t1,t2,t3⟩|⟨t1,t2,t3⟩
       .go_wp2
        go_ret;refine⟨?_,rfl⟩;rw[HE.out,Jo (.inl t)];rfl
       .go_wp2
        go_ret;refine⟨?_,rfl⟩;rw[HE.out,Jo (.inr (.inl t2))];rfl
       .go_wp2
        go_ret;refine⟨?_,rfl⟩;rw[HE.out,Jo (.inr (.inr ⟨t3,t4⟩))];rfl
       .go_wp2
        go_ret;refine⟨?_,rfl⟩;rw[HE.out,Jj (by omega)];rfl
       .go_wp2
        go_ret;refine⟨?_,rfl⟩;rw[HE.out,Jj (by omega)];rfl
   .have p1:224<=c0.toNat:=by rw[H0.out];exact q1
    have p2:c0.toNat<240:=by rw[H0.out];exact q2
    have HC:=Jf (show St.Cls 3 2048 224 (b 0) from .inr<| .inl ⟨rfl,rfl,rfl,q1,q2⟩);have hv0:St.jt 0 (b 0-224):=by unfold St.jt;omega
    have hz:(c0.toNat:Int)-224=((b 0-224:Nat):Int):=by rw[H0.out];omega
    have HZ:=Jf hz;clear hz;by_cases hsh:s.size<a+3
    .rw[St.lg HC.out (by omega)];go_enter Tryz.func35,Tryz.ntmps35
     go_wp2
     go_ret;exact⟨rfl,rfl⟩
    .have d128:decide ((c0.toNat:Int)<128)=false:=by simp;omega
     have d224:decide ((c0.toNat:Int)<224)=false:=by simp;omega
     have d240:decide ((c0.toNat:Int)<240)=true:=by simp;omega
     have d248:decide ((c0.toNat:Int)<248)=true:=by simp;omega
     have dsh:decide ((s.size:Int)<(a:Int)+3)=false:=by simp;omega
     go_enter Tryz.func35,Tryz.ntmps35
     go_wp2
     rw[HZ.out]
     go_loop [8,9] (λv t=>∃i:Nat,1<=i/\i<=3/\t=.int .i64 (i:Int)/\v=.int .i64 (St.acc (b 0-224) b (i-1))/\St.lK b (i-1)/\St.jt (i-1) (St.acc (b 0-224) b (i-1))) (λ_ t=>4-(intOf t).toNat)
     case atStart=>exact⟨1,by omega,by omega,rfl,rfl,λm h1 h2=>by omega,hv0⟩
     case round=>
      obtain⟨i,hi,hin,rfl,rfl,hco,hbd⟩:=hrel;have hv1:St.acc (b 0-224) b (i-1)<8388608:=hbd.2.2.2;by_cases hlt:i<3
      .have HACC:=Jf (show St.acc (b 0-224) b i=64*St.acc (b 0-224) b (i-1)+b i-128 by
        obtain⟨j,rfl⟩:∃j,i=j+1:=⟨i-1,by omega⟩;rfl)
       have hb1:=HL.out i;have hai:a+i<s.size:=by omega
       have HGJ:=Jf (HG.out i hai);generalize hcj:s[a+i]=cj at HGJ;have hixj:∀h,s[a+i]'h=cj:=λ_=>hcj;have h256j:=cj.toNat_lt;clear hcj;have hvj:=Jf (λh=>hbd.next (by omega) (d:=b i) h);have HCO:=Jf hco;clear hco;generalize St.acc (b 0-224) b (i-1)=v at HACC hv1 hbd hvj ⊢;by_cases hcont:128<=b i/\b i<192
       .obtain⟨d1,d2⟩:=hcont;have d1':128<=cj.toNat:=by rw[HGJ.out];exact d1
        have d2':cj.toNat<192:=by rw[HGJ.out];exact d2
        have HV:=Jf (show 64*(v:Int)+(cj.toNat:Int)-128=((64*v+b i-128:Nat):Int) by rw[HGJ.out];omega)
        go_wp2
        go_round
        case rel=>exact⟨i+1,by omega,by omega,by go_num,(by rw[KP,HACC.out,<-HV.out]),(by
         have:=St.lK.next HCO.out (by rw[KQ hi];exact⟨d1,d2⟩);rw[KQ hi] at this;rw[KP];exact this),(by
         have:=hvj.out d2;rw[KQ hi] at this;rw[KP,HACC.out];exact this)⟩
        case measure=>simp[intOf];omega
       .have HW:=Jf (St.mK (len:=s.size-a) (j:=i) HC.out (by omega) (by omega) (by omega));have hcc:cj.toNat<128\/192<=cj.toNat:=by rw[HGJ.out];omega
        clear hcont;rcases hcc with hcc|hcc;all_goals
         go_wp2
         go_ret;refine⟨?_,rfl⟩;rw[HW.out];rfl
      .obtain rfl:i=3:=by omega
       have HE:=Jf (St.oM (len:=s.size-a) HC.out (by omega) hco);have HCO:=Jf hco;clear hco;generalize St.acc (b 0-224) b (3-1)=v at HE hv1 hbd ⊢;have hways:v<2048\/(2048<=v/\1114111<v)\/(2048<=v/\v<=1114111/\55296<=v/\v<57344)\/(2048<=v/\v<=1114111/\v<55296)\/(2048<=v/\v<=1114111/\57344<=v):=by omega
       rcases hways with t|⟨t1,t2⟩|⟨t1,t2,t3,t4⟩|⟨t1,t2,t3⟩|⟨t1,t2,t3⟩
       .go_wp2
        go_ret;refine⟨?_,rfl⟩;rw[HE.out,Jo (.inl t)];rfl
       .go_wp2
        go_ret;refine⟨?_,rfl⟩;rw[HE.out,Jo (.inr (.inl t2))];rfl
       .go_wp2
        go_ret;refine⟨?_,rfl⟩;rw[HE.out,Jo (.inr (.inr ⟨t3,t4⟩))];rfl
       .go_wp2
        go_ret;refine⟨?_,rfl⟩;rw[HE.out,Jj (by omega)];rfl
       .go_wp2
        go_ret;refine⟨?_,rfl⟩;rw[HE.out,Jj (by omega)];rfl
   .have p1:240<=c0.toNat:=by rw[H0.out];exact q1
    have p2:c0.toNat<248:=by rw[H0.out];exact q2
    have HC:=Jf (show St.Cls 4 65536 240 (b 0) from .inr<| .inr ⟨rfl,rfl,rfl,q1,q2⟩);have hv0:St.jt 0 (b 0-240):=by unfold St.jt;omega
    have hz:(c0.toNat:Int)-240=((b 0-240:Nat):Int):=by rw[H0.out];omega
    have HZ:=Jf hz;clear hz;by_cases hsh:s.size<a+4
    .rw[St.lg HC.out (by omega)];go_enter Tryz.func35,Tryz.ntmps35
     go_wp2
     go_ret;exact⟨rfl,rfl⟩
    .have d128:decide ((c0.toNat:Int)<128)=false:=by simp;omega
     have d224:decide ((c0.toNat:Int)<224)=false:=by simp;omega
     have d240:decide ((c0.toNat:Int)<240)=false:=by simp;omega
     have d248:decide ((c0.toNat:Int)<248)=true:=by simp;omega
     have dsh:decide ((s.size:Int)<(a:Int)+4)=false:=by simp;omega
     go_enter Tryz.func35,Tryz.ntmps35
     go_wp2
     rw[HZ.out]
     go_loop [8,9] (λv t=>∃i:Nat,1<=i/\i<=4/\t=.int .i64 (i:Int)/\v=.int .i64 (St.acc (b 0-240) b (i-1))/\St.lK b (i-1)/\St.jt (i-1) (St.acc (b 0-240) b (i-1))) (λ_ t=>4-(intOf t).toNat)
     case atStart=>exact⟨1,by omega,by omega,rfl,rfl,λm h1 h2=>by omega,hv0⟩
     case round=>
      obtain⟨i,hi,hin,rfl,rfl,hco,hbd⟩:=hrel;have hv1:St.acc (b 0-240) b (i-1)<8388608:=hbd.2.2.2;by_cases hlt:i<4
      .have HACC:=Jf (show St.acc (b 0-240) b i=64*St.acc (b 0-240) b (i-1)+b i-128 by
        obtain⟨j,rfl⟩:∃j,i=j+1:=⟨i-1,by omega⟩;rfl)
       have hb1:=HL.out i;have hai:a+i<s.size:=by omega
       have HGJ:=Jf (HG.out i hai);generalize hcj:s[a+i]=cj at HGJ;have hixj:∀h,s[a+i]'h=cj:=λ_=>hcj;have h256j:=cj.toNat_lt;clear hcj;have hvj:=Jf (λh=>hbd.next (by omega) (d:=b i) h);have HCO:=Jf hco;clear hco;generalize St.acc (b 0-240) b (i-1)=v at HACC hv1 hbd hvj ⊢;by_cases hcont:128<=b i/\b i<192
       .obtain⟨d1,d2⟩:=hcont;have d1':128<=cj.toNat:=by rw[HGJ.out];exact d1
        have d2':cj.toNat<192:=by rw[HGJ.out];exact d2
        have HV:=Jf (show 64*(v:Int)+(cj.toNat:Int)-128=((64*v+b i-128:Nat):Int) by rw[HGJ.out];omega)
        go_wp2
        go_round
        case rel=>exact⟨i+1,by omega,by omega,by go_num,(by rw[KP,HACC.out,<-HV.out]),(by
         have:=St.lK.next HCO.out (by rw[KQ hi];exact⟨d1,d2⟩);rw[KQ hi] at this;rw[KP];exact this),(by
         have:=hvj.out d2;rw[KQ hi] at this;rw[KP,HACC.out];exact this)⟩
        case measure=>simp[intOf];omega
       .have HW:=Jf (St.mK (len:=s.size-a) (j:=i) HC.out (by omega) (by omega) (by omega));have hcc:cj.toNat<128\/192<=cj.toNat:=by rw[HGJ.out];omega
        clear hcont;rcases hcc with hcc|hcc;all_goals
         go_wp2
         go_ret;refine⟨?_,rfl⟩;rw[HW.out];rfl
      .obtain rfl:i=4:=by omega
       have HE:=Jf (St.oM (len:=s.size-a) HC.out (by omega) hco);have HCO:=Jf hco;clear hco;generalize St.acc (b 0-240) b (4-1)=v at HE hv1 hbd ⊢;have hways:v<65536\/(65536<=v/\1114111<v)\/(65536<=v/\v<=1114111/\55296<=v/\v<57344)\/(65536<=v/\v<=1114111/\v<55296)\/(65536<=v/\v<=1114111/\57344<=v):=by omega
       rcases hways with t|⟨t1,t2⟩|⟨t1,t2,t3,t4⟩|⟨t1,t2,t3⟩|⟨t1,t2,t3⟩
       .go_wp2
        go_ret;refine⟨?_,rfl⟩;rw[HE.out,Jo (.inl t)];rfl
       .go_wp2
        go_ret;refine⟨?_,rfl⟩;rw[HE.out,Jo (.inr (.inl t2))];rfl
       .exfalso;omega
       .exfalso;omega
       .go_wp2
        go_ret;refine⟨?_,rfl⟩;rw[HE.out,Jj (by omega)];rfl
theorem St.yS(f:Nat)(l:Jd)(h:l≠[]):St.fi (f+1) l=if St.utf8 l=0 then false else St.fi f (l.drop (St.utf8 l)):=by
 cases l with
 |nil=>exact absurd rfl h
 |cons c t=>rfl
theorem St.Bf(f:Nat):St.fi f []=true:=by cases f<;>rfl
def GG(l:Jd)(v:Value)(k f:Nat):Prop:=k<=l.length/\l.length-k<=f/\v=.int .i64 k/\St.fi f (l.drop k)=St.text l
theorem Gj(s:ByteArray)(w:World)(hs:s.size<=1000000000000000000):
  Calls Tryz.prog 18 #[.string s] w λe w'=>e=.returned (.bool (St.text s.data.toList))/\w=w':=by
 have hsl:s.data.toList.length=s.size:=(L6 s).symm;have HSL:=Jf hsl;clear hsl;go_enter Tryz.func18,Tryz.ntmps18
 go_wp2
 go_loop [3] (λv=>∃k f,GG s.data.toList v k f) (λv=>s.size-(intOf v).toNat)
 case atStart=>exact⟨0,_,JE _,Nat.sub_le _ _,rfl,rfl⟩
 case round=>
  obtain⟨k,f,hk,hf,rfl,hr⟩:=hrel;rw[HSL.out] at hk hf;have HR:=Jf hr;clear hr;by_cases hlt:k<s.size
  .obtain⟨f,rfl⟩:∃f',f=f'+1:=⟨f-1,by omega⟩;have HU:=Jf (St.yS f (s.data.toList.drop k) (by rw[drop_at s k hlt];simp));have hle:=(St.nS (s.data.toList.drop k)).1;rw[JJ,HSL.out] at hle;go_wp2_with fail;refine(yY s k _ (by omega) hlt).mono ?_;rintro e w' ⟨rfl,rfl⟩;generalize St.utf8 (s.data.toList.drop k)=n at HU hle ⊢;by_cases hn:n=0
   .subst hn
    go_wp2
    go_ret;refine⟨?_,rfl⟩;rw[<-HR.out,HU.out];rfl
   .have hn':((n:Int)==0)=false:=by rw[Jp];omega
    rw[Jj hn,LR] at HU
    go_wp2
    go_round
    case rel=>exact⟨k+n,f,by rw[HSL.out];omega,by rw[HSL.out];omega,by go_num,by rw[<-HR.out,HU.out]⟩
    case measure=>simp[intOf];omega
  .have HE:=Jf (show St.text s.data.toList=true by rw[<-HR.out,Kj (by rw[HSL.out];omega),St.Bf])
   go_wp2
   go_ret;refine⟨?_,rfl⟩;rw[HE.out];rfl
def oi(p:Nat×Nat):Nat:=if p.2<4 then 0 else p.1
def oh(a:Nat)(p:Nat×Nat):Int:=if p.2<4 then((a+p.2:Nat):Int) else -1
def I7(l:Jd)(len a:Nat)(v i:Value)(k r:Nat):Prop:=
 k<=4/\a+k<=len/\Bd k r/\i=.int .i64 ((a+k:Nat):Int)/\v=.int .i64 (r:Int)/\St.cP (4-k) r k (l.drop k)=St.four l
theorem BL(s:ByteArray)(a:Nat)(w:World)(hs:s.size<=4000000000000000000)(ha:a<=s.size):
  Calls Tryz.prog 118 #[.string s,.int .i64 a] w λe w'=>e=.returned (.tuple #[.int .i64 (oi (St.four (s.data.toList.drop a)):Nat),.int .i64 (oh a (St.four (s.data.toList.drop a)))])/\w=w':=by
 have hlen:(s.data.toList.drop a).length=s.size-a:=by rw[JJ,<-Lib.size_eq]
 have HLEN:=Jf hlen;clear hlen;have HG:Hid (∀k (h:a+k<s.size),s[a+k]'h=(s.data.toList.drop a)[k]'(by rw[HLEN.out];omega)):=Jf (λk h=>by rw[List.getElem_drop];rfl);generalize s.data.toList.drop a=l at HLEN HG ⊢;go_enter Tryz.func118,Tryz.ntmps118
 go_wp2
 go_loop [6,7] (λv i=>∃k r,I7 l s.size a v i k r) (λ_ i=>a+4-(intOf i).toNat)
 case atStart=>exact⟨0,0,by omega,by omega,by unfold Bd;omega,rfl,rfl,rfl⟩
 case round=>
  obtain⟨k,r,hk,hks,hr,rfl,rfl,hf⟩:=hrel;have HF:=Jf hf;clear hf;by_cases hk4:k<4
  .have hr4:=hr.lt hk4;by_cases hlt:a+k<s.size
   .have hlk:k<l.length:=by rw[HLEN.out];omega
    have hix:∀h,s[a+k]'h=l[k]:=λh=>HG.out k h;have HS:=Jf (St.xB l (3-k) k r hlk);generalize l[k]=c at HS hix;have h256:=c.toNat_lt;have hways:c.toNat<48\/(48<=c.toNat/\c.toNat<=57)\/(57<c.toNat/\c.toNat<65)\/(65<=c.toNat/\c.toNat<=70)\/(70<c.toNat/\c.toNat<97)\/(97<=c.toNat/\c.toNat<=102)\/102<c.toNat:=by omega
    rcases hways with h|⟨h,h'⟩|⟨h,h'⟩|⟨h,h'⟩|⟨h,h'⟩|⟨h,h'⟩|h
    .have HD:=Jf (show St.je c=none by unfold St.je;rw[Jj (by omega),Jj (by omega),Jj (by omega)])
     go_wp2
     go_ret2
     refine⟨?_,rfl⟩;have e:St.four l=(r,k):=by rw[<-HF.out,show 4-k=3-k+1 by omega,HS.out,HD.out]
     rw[e,oi,oh,Jo hk4,Jo hk4];rfl
    .have HD:=Jf (show St.je c=some (c.toNat-48) by unfold St.je;rw[Jo (by omega)]);have HV:=Jf (show 16*(r:Int)+((c.toNat:Int)-48)=((16*r+(c.toNat-48):Nat):Int) by omega)
     go_wp2
     go_round
     case rel=>exact⟨k+1,16*r+(c.toNat-48),by omega,by omega,hr.next hk4 (by omega),by go_num,by rw[<-HV.out],by rw[<-HF.out,show 4-k=3-k+1 by omega,HS.out,HD.out,show 4-(k+1)=3-k by omega]⟩
     case measure=>simp[intOf];omega
    .have HD:=Jf (show St.je c=none by unfold St.je;rw[Jj (by omega),Jj (by omega),Jj (by omega)])
     go_wp2
     go_ret2
     refine⟨?_,rfl⟩;have e:St.four l=(r,k):=by rw[<-HF.out,show 4-k=3-k+1 by omega,HS.out,HD.out]
     rw[e,oi,oh,Jo hk4,Jo hk4];rfl
    .have HD:=Jf (show St.je c=some (c.toNat-55) by unfold St.je;rw[Jj (by omega),Jj (by omega),Jo (by omega)]);have HV:=Jf (show 16*(r:Int)+((c.toNat:Int)-55)=((16*r+(c.toNat-55):Nat):Int) by omega)
     go_wp2
     go_round
     case rel=>exact⟨k+1,16*r+(c.toNat-55),by omega,by omega,hr.next hk4 (by omega),by go_num,by rw[<-HV.out],by rw[<-HF.out,show 4-k=3-k+1 by omega,HS.out,HD.out,show 4-(k+1)=3-k by omega]⟩
     case measure=>simp[intOf];omega
    .have HD:=Jf (show St.je c=none by unfold St.je;rw[Jj (by omega),Jj (by omega),Jj (by omega)])
     go_wp2
     go_ret2
     refine⟨?_,rfl⟩;have e:St.four l=(r,k):=by rw[<-HF.out,show 4-k=3-k+1 by omega,HS.out,HD.out]
     rw[e,oi,oh,Jo hk4,Jo hk4];rfl
    .have HD:=Jf (show St.je c=some (c.toNat-87) by unfold St.je;rw[Jj (by omega),Jo (by omega)]);have HV:=Jf (show 16*(r:Int)+((c.toNat:Int)-87)=((16*r+(c.toNat-87):Nat):Int) by omega)
     go_wp2
     go_round
     case rel=>exact⟨k+1,16*r+(c.toNat-87),by omega,by omega,hr.next hk4 (by omega),by go_num,by rw[<-HV.out],by rw[<-HF.out,show 4-k=3-k+1 by omega,HS.out,HD.out,show 4-(k+1)=3-k by omega]⟩
     case measure=>simp[intOf];omega
    .have HD:=Jf (show St.je c=none by unfold St.je;rw[Jj (by omega),Jj (by omega),Jj (by omega)])
     go_wp2
     go_ret2
     refine⟨?_,rfl⟩;have e:St.four l=(r,k):=by rw[<-HF.out,show 4-k=3-k+1 by omega,HS.out,HD.out]
     rw[e,oi,oh,Jo hk4,Jo hk4];rfl
   .have HE:=Jf (show St.four l=(r,k) by rw[<-HF.out];exact St.xC _ _ _ _ (by rw[HLEN.out];omega))
    go_wp2
    go_ret2
    refine⟨?_,rfl⟩;rw[HE.out,oi,oh,Jo hk4,Jo hk4];rfl
  .obtain rfl:k=4:=by omega
   have HE:=Jf (show St.four l=(r,4) by rw[<-HF.out];rfl)
   go_wp2
   go_ret2
   refine⟨?_,rfl⟩;rw[HE.out,oi,oh,Jj (by omega),Jj (by omega)];rfl
def nB(p:Nat×Bool):Int:=if p.2=true then(p.1:Int) else -1
theorem pW{p:Nat×Bool}(h:p.2=false):nB p= -1:=by unfold nB;rw[h];rfl
theorem Hb(s:ByteArray)(a:Nat)(w:World)(hs:s.size<=4000000000000000000)(ha:a<=s.size):
  Calls Tryz.prog 119 #[.string s,.int .i64 a] w λe w'=>e=.returned (.int .i64 (nB (St.half (s.data.toList.drop a))))/\w=w':=by
 have hlen:(s.data.toList.drop a).length=s.size-a:=by rw[JJ,<-Lib.size_eq]
 by_cases h6:s.size<a+6
 .have HE:=Jf (show nB (St.half (s.data.toList.drop a))= -1 by
   refine pW ?_;cases hb:(St.half (s.data.toList.drop a)).2 with
   |false=>rfl
   |true=>have:=(St.og hb).2.1;omega)
  go_enter Tryz.func119,Tryz.ntmps119
  go_wp2
  go_ret;refine⟨?_,rfl⟩;rw[HE.out];rfl
 .have la0:a<s.size:=by omega
  have la1:a+1<s.size:=by omega
  have hd0:=drop_at s a la0;have hd1:=drop_at s (a+1) la1;have hix0:∀h,s[a]'h=s.data.toList[a]'(et la0):=λ_=>rfl;have hix1:∀h,s[a+1]'h=s.data.toList[a+1]'(et la1):=λ_=>rfl;have HHX:=Jf (λw=>BL s (a+2) w hs (by omega));rw[hd1] at hd0;rw[hd0];clear hd0 hd1 hlen;generalize s.data.toList[a]'(et la0)=c at hix0 ⊢;generalize s.data.toList[a+1]'(et la1)=d at hix1 ⊢;rw[show a+1+1=a+2 from rfl];generalize s.data.toList.drop (a+2)=t at HHX ⊢;have HH:=Jf (St.qU c d t);by_cases hc:c=92
  .have b1:((c.toNat:Int)==92)=true:=gU 92 hc;have b1':((c.toNat:Int) !=92)=false:=by rw[bne,b1];rfl
   by_cases hd:d=117
   .have b2:((d.toNat:Int)==117)=true:=gU 117 hd;have b2':((d.toNat:Int) !=117)=false:=by rw[bne,b2];rfl
    rw[Jo ⟨hc,hd⟩] at HH;clear hc hd;have hlt:=St.vi t;have hle:=(St.nh t).1;go_enter Tryz.func119,Tryz.ntmps119;go_wp2_with fail;refine(HHX.out _).mono ?_;rintro e w' ⟨rfl,rfl⟩;generalize St.four t=p at HH hlt hle ⊢;obtain⟨v,n⟩:=p;simp only at hlt hle;by_cases hn:n<4
    .have HE:=Jf (show nB (St.half (c::d::t))= -1 by
      refine pW ?_;rw[HH.out];simp only[Lq,Ks]
      left;omega)
     have e1:oh (a+2) (v,n)=((a+2+n:Nat):Int):=by unfold oh;rw[Jo hn]
     have e2:oi (v,n)=0:=by unfold oi;rw[Jo hn]
     rw[e1,e2];clear e1 e2
     go_wp2
     go_ret;refine⟨?_,rfl⟩;rw[HE.out];rfl
    .obtain rfl:n=4:=by omega
     have e1:oh (a+2) (v,4)= -1:=rfl;have e2:oi (v,4)=v:=rfl;rw[e1,e2];clear e1 e2 hn;have hways:v<56320\/(56320<=v/\57344<=v)\/(56320<=v/\v<57344):=by omega
     rcases hways with t1|⟨t1,t2⟩|⟨t1,t2⟩
     .have HE:=Jf (show nB (St.half (c::d::t))= -1 by
       refine pW ?_;rw[HH.out];simp[St.eC];omega)
      go_wp2
      go_ret;refine⟨?_,rfl⟩;rw[HE.out];rfl
     .have HE:=Jf (show nB (St.half (c::d::t))= -1 by
       refine pW ?_;rw[HH.out];simp[St.eC];omega)
      go_wp2
      go_ret;refine⟨?_,rfl⟩;rw[HE.out];rfl
     .have HE:=Jf (show nB (St.half (c::d::t))=v by
       unfold nB;rw[HH.out,Jo (by simp[St.eC];omega)])
      go_wp2
      go_ret;refine⟨?_,rfl⟩;rw[HE.out];rfl
   .have b2:((d.toNat:Int)==117)=false:=bE 117 hd;have b2':((d.toNat:Int) !=117)=true:=by rw[bne,b2];rfl
    rw[Jj (λh=>hd h.2)] at HH;clear hc hd;go_enter Tryz.func119,Tryz.ntmps119
    go_wp2
    go_ret;refine⟨?_,rfl⟩;rw[HH.out];rfl
  .have b1:((c.toNat:Int)==92)=false:=bE 92 hc;have b1':((c.toNat:Int) !=92)=true:=by rw[bne,b1];rfl
   rw[Jj (λh=>hc h.1)] at HH;clear hc;go_enter Tryz.func119,Tryz.ntmps119
   go_wp2
   go_ret;refine⟨?_,rfl⟩;rw[HH.out];rfl
theorem nX(W:World)(b n:Nat)(l:Jd)(hn:l.length=n)(h:∀j (hj:j<l.length),W.cell? ⟨b,j,none⟩=some (.int .u8 l[j].toNat)):
  (convert 93 9 (.slice (some ⟨b,0,none⟩) n n)).run Tryz.prog W=.ok (.string ⟨l.toArray⟩) W:=by
 subst hn;refine NO W 93 9 5 ⟨b,0,none⟩ l.length l Tryz.underlying93 Tryz.underlying5 Tryz.underlying9 ?_;intro j hj;have e:Addr.add ⟨b,0,none⟩ j=⟨b,j,none⟩:=by
  unfold Addr.add;split
  .rename_i e;subst e;rfl
  .rw[JI]
 show W.cell? (Addr.add ⟨b,0,none⟩ j)=_;rw[e,h j hj]
theorem nK(w:World)(v:Int)(zs:List Int)(hz:Lib.encodeRuneZ v=zs):
  (convert 93 9 (.slice (some ⟨w.heap.size,0,none⟩) zs.length zs.length)).run Tryz.prog (w.alloc (.cells (zs.map (Value.int .u8)).toArray 5))=.ok (.string ⟨(Lib.encodeRune v).toArray⟩) (w.alloc (.cells (zs.map (Value.int .u8)).toArray 5)):=by
 subst hz;have hb:=Lib.encodeRuneZ_byte v;unfold Lib.encodeRune;generalize Lib.encodeRuneZ v=zs at hb ⊢;refine nX _ _ _ _ (by rw[JR]) ?_;intro j hj;rw[JR] at hj;have hx:=hb zs[j] (Jv hj);rw[Lj];rw[show(zs[j].toNat.toUInt8).toNat=zs[j].toNat by rw[show zs[j].toNat.toUInt8=UInt8.ofNat zs[j].toNat from rfl,N5];omega];simp[hj];omega
theorem qt(v:Nat)(w:World)(hv:St.scalar v):
  Calls Tryz.prog 120 #[.int .i64 v] w λe w'=>e=.returned (.string ⟨(Lib.encodeRune (v:Int)).toArray⟩)/\Below w.heap.size w w':=by
 have HV:=Jf hv;have hv1:v<=1114111:=by unfold St.scalar at hv;omega
 clear hv;by_cases c1:v<128
 .have hcv:=nK w v [(v:Int)] (MJ (by omega) (by omega));simp only[Kh,Lo,Jl,Jw,JI,Nat.reduceAdd] at hcv;go_enter Tryz.func120,Tryz.ntmps120
  go_wp2
  go_ret;exact⟨rfl,(Ji _ _).alloc (Jh _) _⟩
 .by_cases c2:v<2048
  .have hcv:=nK w v [192+(v:Int)/64,128+(v:Int)%64] (MK (by omega) (by omega));simp only[Kh,Lo,Jl,Jw,JI,Nat.reduceAdd] at hcv;go_enter Tryz.func120,Tryz.ntmps120
   go_wp2
   go_ret;exact⟨rfl,(Ji _ _).alloc (Jh _) _⟩
  .by_cases c3:v<65536
   .have hcv:=nK w v [224+(v:Int)/4096,128+(v:Int)/64%64,128+(v:Int)%64] (Mt (by have:=HV.out;unfold St.scalar at this;omega));have d1:decide ((v:Int)<128)=false:=by simp;omega
    have d2:decide ((v:Int)<2048)=false:=by simp;omega
    have i3:(v:Int)<65536:=by omega
    clear c1 c2 c3 hv1;simp only[Kh,Lo,Jl,Jw,JI,Nat.reduceAdd] at hcv;go_enter Tryz.func120,Tryz.ntmps120
    go_wp2
    go_ret;exact⟨rfl,(Ji _ _).alloc (Jh _) _⟩
   .have hcv:=nK w v [240+(v:Int)/262144,128+(v:Int)/4096%64,128+(v:Int)/64%64,128+(v:Int)%64] (MA (by omega) (by omega));have d1:decide ((v:Int)<128)=false:=by simp;omega
    have d2:decide ((v:Int)<2048)=false:=by simp;omega
    have d3:decide ((v:Int)<65536)=false:=by simp;omega
    have i3:(v:Int)<=1114111:=by omega
    clear c1 c2 c3 hv1;simp only[Kh,Lo,Jl,Jw,JI,Nat.reduceAdd] at hcv;go_enter Tryz.func120,Tryz.ntmps120
    go_wp2
    go_ret;exact⟨rfl,(Ji _ _).alloc (Jh _) _⟩
theorem cu(W:World)(a b:Jd)(h:a.length+b.length<=9223372036854775807):(Op.stringOp .add ⟨a.toArray⟩ ⟨b.toArray⟩).run Tryz.prog W=.ok (.string ⟨(a++b).toArray⟩) W:=by
 rw[run_string_add_sum W _ _ (by rw[K7,K7];omega),ByteArray.mk_append_mk]
theorem FC(W:World)(l:Jd):
  (convert 93 9 (.slice (some ⟨W.heap.size,0,none⟩) l.length l.length)).run Tryz.prog (W.alloc (.cells (l.map (λc=>Value.int .u8 (c.toNat:Int))).toArray 5))=.ok (.string ⟨l.toArray⟩) (W.alloc (.cells (l.map (λc=>Value.int .u8 (c.toNat:Int))).toArray 5)):=by
 refine nX _ _ _ _ rfl ?_;intro j hj;simp[hj]
theorem nG(W:World)(c:UInt8):
  (convert 93 9 (.slice (some ⟨W.heap.size,0,none⟩) 1 1)).run Tryz.prog (W.alloc (.cells #[.int .u8 (c.toNat:Int)] 5))=.ok (.string ⟨[c].toArray⟩) (W.alloc (.cells #[.int .u8 (c.toNat:Int)] 5)):=FC W [c]
theorem bd{fn:Func}{t u v x:Tmp}(h:fn.results=#[.tmp t,.tmp u,.tmp v,.tmp x])(tmps:Array Value)(P:Program)(w:World):
  (results fn tmps).run P w=.ok (.tuple #[tmps.getD t undef,tmps.getD u undef,tmps.getD v undef,tmps.getD x undef]) w:=by
 simp[results,h]
def kG(r:St.Ans)(w:World)(e:Ending)(w':World):Prop:=
 e=.returned (.tuple #[r.text,.int .i64 r.n,.int .i64 r.code,.int .i64 r.place])/\Below w.heap.size w w'
theorem kG.bad{r:St.Ans}{w w':World}{k:Nat}{p p':Int}(hr:r=⟨[],0,k,p⟩)(hp:p=p')(h:Below w.heap.size w w'):
  kG r w (.returned (.tuple #[.string ⟨#[]⟩,.int .i64 0,.int .i64 k,.int .i64 p'])) w':=by
 subst hr hp;exact⟨rfl,h⟩
theorem kG.ok{r:St.Ans}{w w':World}{t:Jd}{n:Nat}{m:Int}(hr:r=⟨t,n,0,0⟩)(hm:(n:Int)=m)(h:Below w.heap.size w w'):
  kG r w (.returned (.tuple #[t,.int .i64 m,.int .i64 0,.int .i64 0])) w':=by
 subst hr hm;exact⟨rfl,h⟩
def IY(w:World)(l:Jd)(n:Nat)(R:St.Res)(o v:Value)(wr:World)(k:Nat):Prop:=
 ∃out f,n<k/\k<=l.length/\v=.int .i64 k/\o=.string ⟨out.toArray⟩/\out.length<=4*k/\l.length-k<f/\St.run f (l.drop k) out k=R/\Below w.heap.size w wr
def Gz(out:Jd)(d:UInt8)(W:World)(o f v:Value)(w2:World)(j:Nat):Prop:=
 j<=8/\v=.int .i64 j/\o=.string ⟨(out++St.hit d j).toArray⟩/\f=.bool (!(St.hit d j).isEmpty)/\Below W.heap.size W w2
theorem toCell(W w2:World)(hb:Below (W.alloc (.cells #[.int .u8 34,.int .u8 92,.int .u8 47,.int .u8 8,.int .u8 12,.int .u8 10,.int .u8 13,.int .u8 9] 5)).heap.size (W.alloc (.cells #[.int .u8 34,.int .u8 92,.int .u8 47,.int .u8 8,.int .u8 12,.int .u8 10,.int .u8 13,.int .u8 9] 5)) w2)(j:Nat)(hj:j<8):
  w2.cell? ⟨W.heap.size,j,none⟩=some (.int .u8 ((St.toL[j]'hj).toNat:Int)):=by
 rw[hb.cell (p:=⟨W.heap.size,j,none⟩) (by simp)]
 match j,hj with
 |0,_=>simp
 |1,_=>simp
 |2,_=>simp
 |3,_=>simp
 |4,_=>simp
 |5,_=>simp
 |6,_=>simp
 |7,_=>simp
theorem frAt:∀(j:Nat) (h:j<8) (hh:j<(⟨#[34,92,47,98,102,110,114,116]⟩:ByteArray).size),(⟨#[34,92,47,98,102,110,114,116]⟩:ByteArray)[j]'hh=St.frL[j]'h:=by decide
theorem sk(s:ByteArray)(a:Int)(w:World)(hs:s.size<=1000000)(ha0: -9223372036854775808<=a)(ha1:a<=9223372036854775807):
  Calls Tryz.prog 87 #[.string s,.int .i64 a] w (kG (St.unq s.data.toList a) w):=by
 have hsl:s.data.toList.length=s.size:=(L6 s).symm;have HSL:=Jf hsl;clear hsl;by_cases h0:a<0\/s.size<=a
 .have HX:=Jf (show St.unq s.data.toList a=⟨[],0,1,a⟩ by
   unfold St.unq;rw[Jj];rintro⟨k1,k2⟩;rw[Kb (by rw[HSL.out];omega)] at k2;cases k2)
  rcases h0 with h0|h0
  .go_enter Tryz.func87,Tryz.ntmps87
   go_wp2
   refine Ju (bd rfl _ _ _) rfl ?_;exact kG.bad HX.out rfl (Ji _ _)
  .have h0':0<=a:=by omega
   go_enter Tryz.func87,Tryz.ntmps87
   go_wp2
   refine Ju (bd rfl _ _ _) rfl ?_;exact kG.bad HX.out rfl (Ji _ _)
 .obtain⟨n,rfl⟩:=Nz (show 0<=a by omega);have hn:n<s.size:=by omega
  clear h0 ha0 ha1;have hix:∀h,s[n]'h=s.data.toList[n]'(et hn):=λ_=>rfl;have HX:=Jf (show St.unq s.data.toList (n:Int)=if s.data.toList[n]'(et hn)=34 then(St.run (s.data.toList.length+1) (s.data.toList.drop (n+1)) [] (n+1)).ans n else⟨[],0,1,n⟩ by
   unfold St.unq;rw[Ku,Jg (et hn)];simp only[Int.natCast_nonneg,JM,true_and])
  generalize s.data.toList[n]'(et hn)=c at hix HX;have dn0:decide ((n:Int)<0)=false:=by simp
  have dsn:decide (s.size<=n)=false:=by simp;omega
  by_cases hc:c=34
  .have b1:((c.toNat:Int)==34)=true:=gU 34 hc;have b2:((c.toNat:Int) !=34)=false:=by rw[bne,b1];rfl
   rw[Jo hc] at HX;clear hc;generalize hR:St.run (s.data.toList.length+1) (s.data.toList.drop (n+1)) [] (n+1)=R at HX;have HR:=Jf hR;clear hR;go_enter Tryz.func87,Tryz.ntmps87;go_wp2_with fail
   go_loopw [8,9] (λo v wr=>∃k,IY w s.data.toList n R o v wr k) (λ_ v _=>s.size-(intOf v).toNat)
   case atStart=>exact⟨n+1,[],_,by omega,by rw[HSL.out];omega,by go_num,rfl,by simp,by omega,HR.out,Ji _ _⟩
   case round=>
    obtain⟨k,out,f,hnk,hk,rfl,rfl,hol,hf,hrun,hW⟩:=hrel;rw[HSL.out] at hk hf;have HRUN:=Jf hrun;clear hrun;obtain⟨f,rfl⟩:∃f',f=f'+1:=⟨f-1,by omega⟩;by_cases hlt:k<s.size
    .have hd:=drop_at s k hlt;have HU8:=Jf (λw=>yY s k w (by omega) hlt);have HEX:=Jf (λn=>Lib.extract_eq s k (k+n));have hix2:∀h,s[k]'h=s.data.toList[k]'(et hlt):=λ_=>rfl;have hdl:(s.data.toList.drop k).length=s.size-k:=by rw[JJ,HSL.out]
     have hdd:∀n,(s.data.toList.drop k).drop n=s.data.toList.drop (k+n):=λn=>by rw[LR]
     rw[hd] at HRUN HU8 HEX hdl hdd;clear hd;generalize s.data.toList[k]'(et hlt)=d at hix2 HRUN HU8 HEX hdl hdd;by_cases hd34:d=34
     .have d1:((d.toNat:Int)==34)=true:=gU 34 hd34;have HRES:=Jf (show R=.ok out (k+1) by rw[<-HRUN.out,hd34,St.dC]);clear hd34 HRUN HU8 HEX hdd hdl;go_wp2_with fail;refine Ju (bd rfl _ _ _) rfl ?_;refine kG.ok (t:=out) (n:=k+1-n) (by rw[HX.out,HRES.out];rfl) ?_ hW;omega
     .have d1:((d.toNat:Int)==34)=false:=bE 34 hd34;by_cases h32:d.toNat<32
      .have HRES:=Jf (show R=.bad 1 (k+0) by rw[<-HRUN.out,St.cV f out k hd34 (by rw[St.eV];rw[Jo h32])]);clear hd34 HRUN HU8 HEX hdd hdl;go_wp2_with fail;refine Ju (bd rfl _ _ _) rfl ?_;exact kG.bad (k:=1) (p:=((k+0:Nat):Int)) (by rw[HX.out,HRES.out];rfl) (by omega) hW
      .by_cases h92:d=92
       .have d2:((d.toNat:Int)==92)=true:=gU 92 h92;have d3:((d.toNat:Int) !=92)=false:=by rw[bne,d2];rfl
        clear HU8 HEX;have h256:=d.toNat_lt;by_cases h1:k+1=s.size
        .have h1':((k:Int)+1==(s.size:Int))=true:=by simp;omega
         have HRES:=Jf (show R=.bad 1 (k+1) by
          rw[<-HRUN.out,St.cV f out k hd34 (k:=1) (o:=1) (by rw[Kj (by rw[HSL.out];omega),h92];rfl)])
         clear hd34 HRUN hdd hdl h92;go_wp2_with fail;refine Ju (bd rfl _ _ _) rfl ?_;exact kG.bad (k:=1) (p:=((k+1:Nat):Int)) (by rw[HX.out,HRES.out];rfl) (by omega) hW
        .have h1':((k:Int)+1==(s.size:Int))=false:=by rw[Jp];omega
         have hlt1:k+1<s.size:=by omega
         have hd1':=drop_at s (k+1) hlt1;have hix3:∀h,s[k+1]'h=s.data.toList[k+1]'(et hlt1):=λ_=>rfl;rw[hd1'] at HRUN hdl hdd;clear hd1' h1;generalize s.data.toList[k+1]'(et hlt1)=c1 at hix3 HRUN hdl hdd;rw[show k+1+1=k+2 from rfl] at HRUN hdl hdd;have h256':=c1.toNat_lt;by_cases h117:c1=117
         .have d4:((c1.toNat:Int)==117)=true:=gU 117 h117;have HHX:=Jf (λw=>BL s (k+2) w (by omega) (by omega));have HLW:=Jf (λw h=>Hb s (k+6) w (by omega) h);have hu6:s.data.toList.drop (k+6)=(s.data.toList.drop (k+2)).drop 4:=by rw[LR]
          rw[hu6] at HLW;have hul:(s.data.toList.drop (k+2)).length=s.size-(k+2):=by rw[JJ,HSL.out]
          clear hu6;subst h92 h117;have HCH:=Jf (St.GL (s.data.toList.drop (k+2)));generalize s.data.toList.drop (k+2)=u at HHX HLW HCH HRUN hdl hdd hul;have h4:=St.nh u;have hv16:=St.vi u;have HN:Hid (∀v n,St.four u=(v,n)->St.num u=if n<4 then .bad 1 (2+n)
           else if St.jf v=false/\St.eC v=false then .ok v 6
           else if St.eC v=true\/(St.half (u.drop 4)).2=false then .bad 2 0
           else .ok (65536+(v-55296)*1024+((St.half (u.drop 4)).1-56320)) 12):=Jf (λv n h=>by unfold St.num;rw[h])
          go_wp2_with fail;refine(HHX.out _).mono ?_;rintro e w' ⟨rfl,rfl⟩;cases hf4:St.four u with
          |mk v nn=>
          have HN':=Jf (HN.out v nn hf4);rw[hf4] at h4 hv16;clear HN hf4;simp only at h4 hv16;by_cases hn4:nn<4
          .rw[Jo hn4] at HN';have HRES:=Jf (show R=.bad 1 (k+(2+nn)) by rw[<-HRUN.out,St.cV f out k hd34 (HCH.out.trans HN'.out)]);have e1:oh (k+2) (v,nn)=((k+2+nn:Nat):Int):=by unfold oh;rw[Jo hn4]
           have e2:oi (v,nn)=0:=by unfold oi;rw[Jo hn4]
           rw[e1,e2];clear e1 e2 hd34 HRUN hdd hdl;go_wp2_with fail;refine Ju (bd rfl _ _ _) rfl ?_;exact kG.bad (k:=1) (p:=((k+(2+nn):Nat):Int)) (by rw[HX.out,HRES.out];rfl) (by omega) hW
          .rw[Jj hn4] at HN';obtain rfl:nn=4:=by omega
           have e1:oh (k+2) (v,4)= -1:=rfl;have e2:oi (v,4)=v:=rfl;rw[e1,e2];clear e1 e2 hn4;have hhalf:=@St.og (u.drop 4);go_wp2_with fail;refine(HLW.out _ (by omega)).mono ?_;rintro e w' ⟨rfl,rfl⟩;generalize St.half (u.drop 4)=hf at HN' hhalf ⊢;obtain⟨lv,lb⟩:=hf;simp only at HN' hhalf;have hways:(v<55296)\/(57344<=v)\/(56320<=v/\v<57344)\/(55296<=v/\v<56320):=by omega
           have hrs:=Jf (hdd 6);have hrs2:=Jf (hdd 12);rcases hways with t|t|⟨t1,t2⟩|⟨t1,t2⟩
           .rw[Jo ⟨by unfold St.jf;rw[JV (by omega)];rfl,by unfold St.eC;rw[JV (by omega)];rfl⟩] at HN';have HRES:=Jf (show St.run f (s.data.toList.drop (k+6)) (out++Lib.encodeRune (v:Int)) (k+6)=R by rw[<-HRUN.out,St.bX f out k hd34 (HCH.out.trans HN'.out),hrs.out]);have hel:=St.gZ v;have hu4:=h4.2;have dv1:decide ((55296:Int)<=(v:Int))=false:=by simp;omega
            have hsc:St.scalar v:=.inl t;clear hd34 HRUN hdd hdl hrs hrs2 hhalf HCH HN';generalize nB (lv,lb)=nx;go_wp2_with fail;refine(qt v _ hsc).mono ?_;rintro e w2 ⟨rfl,hb2⟩;generalize Lib.encodeRune (v:Int)=q at HRES hel ⊢;have ha1:=λW=>cu W out q (by omega);go_wp2_with fail;go_roundw;case rel=>exact⟨k+6,out++q,f,by omega,by rw[HSL.out];omega,by go_num,rfl,by rw[Jk];omega,by rw[HSL.out];omega,HRES.out,hW.trans (hb2.mono hW.size)⟩
            case measure=>simp[intOf];omega
           .rw[Jo ⟨by unfold St.jf;rw[JV (show¬v<=56319 by omega),Li],by unfold St.eC;rw[JV (show¬v<=57343 by omega),Li]⟩] at HN';have HRES:=Jf (show St.run f (s.data.toList.drop (k+6)) (out++Lib.encodeRune (v:Int)) (k+6)=R by rw[<-HRUN.out,St.bX f out k hd34 (HCH.out.trans HN'.out),hrs.out]);have hel:=St.gZ v;have hu4:=h4.2;have dv1:decide ((55296:Int)<=(v:Int))=true:=by simp;omega
            have dv2:decide ((v:Int)<56320)=false:=by simp;omega
            have dv3:decide ((v:Int)<57344)=false:=by simp;omega
            have hsc:St.scalar v:=.inr ⟨t,by omega⟩;clear hd34 HRUN hdd hdl hrs hrs2 hhalf HCH HN';generalize nB (lv,lb)=nx;go_wp2_with fail;refine(qt v _ hsc).mono ?_;rintro e w2 ⟨rfl,hb2⟩;generalize Lib.encodeRune (v:Int)=q at HRES hel ⊢;have ha1:=λW=>cu W out q (by omega);go_wp2_with fail;go_roundw;case rel=>exact⟨k+6,out++q,f,by omega,by rw[HSL.out];omega,by go_num,rfl,by rw[Jk];omega,by rw[HSL.out];omega,HRES.out,hW.trans (hb2.mono hW.size)⟩
            case measure=>simp[intOf];omega
           .rw[Jj (λh=>by have:=h.2;unfold St.eC at this;simp at this;omega),Jo (.inl (by unfold St.eC;simp;omega))] at HN';have HRES:=Jf (show R=.bad 2 (k+0) by rw[<-HRUN.out,St.cV f out k hd34 (HCH.out.trans HN'.out)]);have dv1:decide ((55296:Int)<=(v:Int))=true:=by simp;omega
            have dv2:decide ((v:Int)<56320)=false:=by simp;omega
            have dv3:decide ((v:Int)<57344)=true:=by simp;omega
            clear hd34 HRUN hdd hdl hrs hrs2 hhalf HCH HN';generalize nB (lv,lb)=nx;go_wp2_with fail;refine Ju (bd rfl _ _ _) rfl ?_;exact kG.bad (k:=2) (p:=((k+0:Nat):Int)) (by rw[HX.out,HRES.out];rfl) (by omega) hW
           .have hhi:St.jf v=true:=by unfold St.jf;simp;omega
            have hlo:St.eC v=false:=by unfold St.eC;simp;omega
            rw[hhi,hlo,Jj (λh=>by cases h.1)] at HN';have dv1:decide ((55296:Int)<=(v:Int))=true:=by simp;omega
            have dv2:decide ((v:Int)<56320)=true:=by simp;omega
            have dv3:decide ((v:Int)<57344)=true:=by simp;omega
            cases lb
            .rw[Jo (.inr rfl)] at HN';have HRES:=Jf (show R=.bad 2 (k+0) by rw[<-HRUN.out,St.cV f out k hd34 (HCH.out.trans HN'.out)]);clear hd34 HRUN hdd hdl hrs hrs2 hhalf HCH HN' hhi hlo;rw[show nB (lv,false)= -1 from rfl];go_wp2_with fail;refine Ju (bd rfl _ _ _) rfl ?_;exact kG.bad (k:=2) (p:=((k+0:Nat):Int)) (by rw[HX.out,HRES.out];rfl) (by omega) hW
            .rw[Jj (by simp)] at HN';obtain⟨_,hu6,hlv⟩:=hhalf rfl;simp only[St.eC,JH,JF] at hlv;rw[JJ] at hu6;have HRES:=Jf (show St.run f (s.data.toList.drop (k+12)) (out++Lib.encodeRune ((65536+(v-55296)*1024+(lv-56320):Nat):Int)) (k+12)=R by rw[<-HRUN.out,St.bX f out k hd34 (HCH.out.trans HN'.out),hrs2.out]);have hel:=St.gZ (65536+(v-55296)*1024+(lv-56320));have hsc:St.scalar (65536+(v-55296)*1024+(lv-56320)):=by unfold St.scalar;omega
             have hz:(65536:Int)+1024*((v:Int)-55296)+(lv:Int)-56320=((65536+(v-55296)*1024+(lv-56320):Nat):Int):=by omega
             have HZ:=Jf hz;have hlv0:(0:Int)<=(lv:Int):=by omega
             have hlv1:(lv:Int)<=57343:=by omega
             have hv0:(55296:Int)<=(v:Int):=by omega
             have hv1:(v:Int)<=56319:=by omega
             clear hd34 HRUN hdd hdl hrs hrs2 hhalf HCH HN' hhi hlo hz;rw[show nB (lv,true)=(lv:Int) from rfl];go_wp2_with fail;rw[HZ.out];refine(qt _ _ hsc).mono ?_;rintro e w2 ⟨rfl,hb2⟩;generalize Lib.encodeRune ((65536+(v-55296)*1024+(lv-56320):Nat):Int)=q at HRES hel ⊢;have ha1:=λW=>cu W out q (by omega);go_wp2_with fail;go_roundw;case rel=>exact⟨k+12,out++q,f,by omega,by rw[HSL.out];omega,by go_num,rfl,by rw[Jk];omega,by rw[HSL.out];omega,HRES.out,hW.trans (hb2.mono hW.size)⟩
             case measure=>simp[intOf];omega
         .have d4:((c1.toNat:Int)==117)=false:=bE 117 h117;subst h92;have HCH:=Jf (St.GK (u:=s.data.toList.drop (k+2)) h117);have HALL:=Jf (St.GX c1);clear h117;obtain⟨w1,hw1⟩:∃w1,w1=wr:=⟨_,rfl⟩;subst hw1;go_wp2_with fail
          go_loopw [8,17,18] (λo fo v w2=>∃j,Gz out c1 (w1.alloc (.cells #[.int .u8 34,.int .u8 92,.int .u8 47,.int .u8 8,.int .u8 12,.int .u8 10,.int .u8 13,.int .u8 9] 5)) o fo v w2 j) (λ_ _ v _=>8-(intOf v).toNat)
          case atStart=>exact⟨0,by omega,rfl,by rw[St.Fq,JK],rfl,Ji _ _⟩
          case round=>
           obtain⟨j,hj,rfl,rfl,rfl,hb3⟩:=hrel;have hhl:=St.vp c1 j;by_cases hj8:j<8
           .have HNX:=Jf (St.xG c1 j hj8);have hfr:∀h,(⟨#[34,92,47,98,102,110,114,116]⟩:ByteArray)[j]'h=St.frL[j]'hj8:=λh=>frAt j hj8 h;have HTO:=Jf (λnq=>toCell w1 (World.drewN wr nq) (below_drewN hb3 nq) j hj8);generalize St.frL[j]'hj8=x at HNX hfr;generalize St.toL[j]'hj8=y at HNX HTO;generalize St.hit c1 j=hl at HNX hhl ⊢;have HB3:=Jf (λnq=>below_drewN hb3 nq);have i1:(j:Int)<8:=by omega
            have i2:(k:Int)+1<(s.size:Int):=by omega
            go_wp2_with fail;go_quiet (fail);have hto:=HTO.out nq;have hb4:=HB3.out nq;clear hb3 HTO HB3;generalize wr.drewN nq=w4 at hto hb4 ⊢;by_cases hx:x=c1
            .have dx:((x.toNat:Int)==(c1.toNat:Int))=true:=gU c1 hx;rw[Jo hx] at HNX;clear hx;have hcw:=nG w4 y;have ha1:=λW=>cu W (out++hl) [y] (by simp;omega);go_wp2_with fail;go_roundw;case rel=>exact⟨j+1,by omega,by go_num,by rw[HNX.out],by rw[HNX.out];simp,hb4.alloc hb4.size _⟩
             case measure=>simp[intOf];omega
            .have dx:((x.toNat:Int)==(c1.toNat:Int))=false:=bE c1 hx;rw[Jj hx,JK] at HNX;clear hx;go_wp2_with fail;go_roundw;case rel=>exact⟨j+1,by omega,by go_num,by rw[HNX.out],by rw[HNX.out],hb4⟩
             case measure=>simp[intOf];omega
           .obtain rfl:j=8:=by omega
            rw[HALL.out];have hb5:=hW.trans ((((Ji w1.heap.size w1).alloc (Jh _) _).trans (hb3.mono (by simp))).mono hW.size);have hrs:=Jf (hdd 2);cases hsi:St.simple c1 with
            |none=>
             rw[hsi] at HCH;have HRES:=Jf (show R=.bad 1 (k+1) by rw[<-HRUN.out,St.cV f out k hd34 HCH.out]);clear hd34 HRUN hdd hdl hsi HALL hrs;go_wp2_with fail;refine Ju (bd rfl _ _ _) rfl ?_;exact kG.bad (k:=1) (p:=((k+1:Nat):Int)) (by rw[HX.out,HRES.out];rfl) (by omega) hb5
            |some r=>
             rw[hsi] at HCH;have HRES:=Jf (show St.run f (s.data.toList.drop (k+2)) (out++Lib.encodeRune (r:Int)) (k+2)=R by rw[<-HRUN.out,St.bX f out k hd34 HCH.out,hrs.out]);have hel:=St.gZ r;have hne:(Lib.encodeRune (r:Int)).isEmpty=false:=by
              rw[Nk];intro e;have:=(Lib.encodeRuneZ_length (r:Int)).1;rw[Lib.encodeRune,MO] at e;rw[e] at this;simp at this
             simp only[hne];generalize Lib.encodeRune (r:Int)=q at HRES hel ⊢;clear hd34 HRUN hdd hdl hsi HALL hrs hne;go_wp2_with fail;go_roundw;case rel=>exact⟨k+2,out++q,f,by omega,by rw[HSL.out];omega,by go_num,rfl,by rw[Jk];omega,by rw[HSL.out];omega,HRES.out,hb5⟩
             case measure=>simp[intOf];omega
       .have d2:((d.toNat:Int)==92)=false:=bE 92 h92;have d3:((d.toNat:Int) !=92)=true:=by rw[bne,d2];rfl
        have HCHR:=Jf (show St.chr (d::s.data.toList.drop (k+1))=if St.utf8 (d::s.data.toList.drop (k+1))=0 then .bad 2 0 else .ok (St.rune (d::s.data.toList.drop (k+1))) (St.utf8 (d::s.data.toList.drop (k+1))) by rw[St.eV];rw[Jj h32,Jj h92]);have henc:=St.kN (d::s.data.toList.drop (k+1));have hle:=St.nS (d::s.data.toList.drop (k+1));go_wp2_with fail;refine(HU8.out _).mono ?_;rintro e w' ⟨rfl,rfl⟩;generalize St.utf8 (d::s.data.toList.drop (k+1))=m at HCHR henc hle ⊢;by_cases hm:m=0
        .subst hm;rw[Jo rfl] at HCHR;have HRES:=Jf (show R=.bad 2 (k+0) by rw[<-HRUN.out,St.cV f out k hd34 HCHR.out]);clear hd34 HRUN HU8 HEX hdd hdl h92 henc;go_wp2_with fail;refine Ju (bd rfl _ _ _) rfl ?_;exact kG.bad (k:=2) (p:=((k+0:Nat):Int)) (by rw[HX.out,HRES.out];rfl) (by omega) hW
        .rw[Jj hm] at HCHR;have HRES:=Jf (show St.run f (s.data.toList.drop (k+m)) (out++Lib.encodeRune (St.rune (d::s.data.toList.drop (k+1)):Int)) (k+m)=R by rw[<-HRUN.out,St.bX f out k hd34 HCHR.out,hdd]);rw[henc hm] at HRES;rw[hdl] at hle;have hm':((m:Int)==0)=false:=by rw[Jp];omega
         have hex:=HEX.out m;rw[Kz] at hex;generalize hq:(d::s.data.toList.drop (k+1)).take m=q at HRES hex;have hql:q.length<=4:=by rw[<-hq,JL];omega
         have ha1:=λW=>cu W out q (by omega);have hm1:1<=m:=by omega
         clear hd34 HRUN HU8 HEX hdd hdl h92 henc hq hm;go_wp2_with fail;go_roundw;case rel=>exact⟨k+m,out++q,f,by omega,by rw[HSL.out];omega,by go_num,rfl,by rw[Jk];omega,by rw[HSL.out];omega,HRES.out,hW⟩
         case measure=>simp[intOf];omega
    .obtain rfl:k=s.size:=by omega
     have HRES:=Jf (show R=.bad 1 s.size by rw[<-HRUN.out,Kj (by rw[HSL.out];omega)];rfl);clear HRUN;go_wp2_with fail;refine Ju (bd rfl _ _ _) rfl ?_;exact kG.bad (k:=1) (p:=(s.size:Int)) (by rw[HX.out,HRES.out];rfl) rfl hW
  .have b1:((c.toNat:Int)==34)=false:=bE 34 hc;have b2:((c.toNat:Int) !=34)=true:=by rw[bne,b1];rfl
   rw[Jj hc] at HX;clear hc;go_enter Tryz.func87,Tryz.ntmps87;go_wp2_with fail;refine Ju (bd rfl _ _ _) rfl ?_;exact kG.bad HX.out rfl (Ji _ _)
end
