import Derived.Test.YtdhgmaonolgpnaaGreatDoorMh
import Derived.Deep.DeepCutAuto
import Derived.Test.YtdhgmaonolgpnaaGreatDoorVb
set_option linter.unusedSimpArgs false
set_option linter.unusedVariables false
set_option maxHeartbeats 4000000
set_option maxRecDepth 100000
namespace Go.Proofs.YtdhgmaonolgpnaaGreatDoor
section
open Go.RowKit
theorem vS(s:ByteArray)(a:Int)(w:World)(hs:s.size<=4000000000000000000)(h0:0<=a)(h1:a<=s.size):
  Calls Tryz.prog 36 #[.string s,.int .i64 a] w λe w'=>e=.returned (.int .i64 (Nm.pre (s.data.toList.drop a.toNat)).length)/\w=w':=by
 obtain⟨at',rfl⟩:=Nz h0;rw[Ku];have h1':at'<=s.size:=by omega
 clear h0 h1;have hl:(s.data.toList.drop at').length=s.size-at':=by rw[JJ,<-Lib.size_eq]
 have HL:=Jf hl;clear hl;go_enter Tryz.func36,Tryz.ntmps36
 go_wp2
 go_loop [5] (λi=>∃k:Nat,at'+k<=s.size/\i=.int .i64 k/\∀(j:Nat) b,j<k->(s.data.toList.drop at')[j]? =some b->Nm.dig b=true) (λi=>s.size-at'-(intOf i).toNat)
 case atStart=>exact⟨0,by omega,rfl,λj b hj=>absurd hj (Kt _)⟩
 case round=>
  obtain⟨k,hk,rfl,hc⟩:=hrel;have hK:Lib.Kept (∀(j:Nat) b,j<k->(s.data.toList.drop at')[j]? =some b->Nm.dig b=true):=hc;clear hc;by_cases hlt:at'+k<s.size
  .have hg:Lib.Kept ((s.data.toList.drop at')[k]? =some s[at'+k]):=by
    rw[Kf,Jg (by rw[<-Lib.size_eq];exact hlt)];rfl
   by_cases hd:Nm.dig s[at'+k]=true
   .have hd':=hd;simp only[Nm.dig,JH,JF] at hd';obtain⟨hd1,hd2⟩:=hd';have HD:=Jf hd;clear hd
    go_wp2
    go_round
    case rel=>exact⟨k+1,by omega,by go_num,λj b hj hb=>(by
     by_cases e:j=k
     .subst e;rw[hg] at hb;rw[<-Option.some.inj hb];exact HD.out
     .exact hK j b (by omega) hb)⟩
    case measure=>simp[intOf];omega
   .have hp:=Nm.dW Nm.dig (s.data.toList.drop at') k (by rw[HL.out];omega) hK (λb hb=>by rw[hg] at hb;rw[<-Option.some.inj hb];simpa using hd);have HP:=Jf (show(Nm.pre (s.data.toList.drop at')).length=k by rw[Nm.pre,hp.1,JL,HL.out];omega);clear hp;have hd':s[at'+k].toNat<48\/57<s[at'+k].toNat:=by
     simp only[Nm.dig,JH,JF] at hd;omega
    clear hd;rcases hd' with hd'|hd';all_goals
     go_wp2
     go_ret;refine⟨?_,rfl⟩;rw[HP.out];rfl
  .have hp:=Nm.dW Nm.dig (s.data.toList.drop at') k (by rw[HL.out];omega) hK (λb hb=>by rw[Kb (by rw[HL.out];omega)] at hb;cases hb);have HP:=Jf (show(Nm.pre (s.data.toList.drop at')).length=k by rw[Nm.pre,hp.1,JL,HL.out];omega);clear hp
   go_wp2
   go_ret;refine⟨?_,rfl⟩;rw[HP.out];rfl
theorem vR(neg:Bool)(ds:Jd)(x:Int)(w:World):
  Calls Tryz.prog 115 #[.agg #[.bool neg,.string ⟨ds.toArray⟩,.int .i64 x]] w λe w'=>e=.returned (.bool (ds.isEmpty||decide (0<=x)))/\Below w.heap.size w w':=by
 cases ds with
 |nil=>
  go_enter Tryz.func115,Tryz.ntmps115
  go_wp2
  go_ret;exact⟨rfl,(Ji _ _).alloc (Jh _) _⟩
 |cons c r=>
  go_enter Tryz.func115,Tryz.ntmps115
  go_wp2
  go_ret;exact⟨by simp,(Ji _ _).alloc (Jh _) _⟩
theorem one_byte(W:World)(b:Nat)(k:Int)(h:W.cell? ⟨b,0,none⟩=some (.int .u8 k))(h0:0<=k)(h1:k<256):
  (convert 93 9 (.slice (some ⟨b,0,none⟩) 1 1)).run Tryz.prog W=.ok (.string ⟨[UInt8.ofNat k.toNat].toArray⟩) W:=by
 refine NO W 93 9 5 ⟨b,0,none⟩ 1 [UInt8.ofNat k.toNat] Tryz.underlying93 Tryz.underlying5 Tryz.underlying9 ?_;intro j hj;have hj0:j=0:=by simpa using hj
 subst hj0;have e:(UInt8.ofNat k.toNat).toNat=k.toNat:=by rw[N5];omega
 show W.cell? (Addr.add ⟨b,0,none⟩ 0)=_;rw[show Addr.add ⟨b,0,none⟩ 0=⟨b,0,none⟩ from rfl,h];simp only[List.getElem_cons_zero,e];rw[Int.toNat_of_nonneg h0]
theorem bR(W:World)(a b:Jd)(h:a.length+b.length<=9223372036854775807):(Op.stringOp .add ⟨a.toArray⟩ ⟨b.toArray⟩).run Tryz.prog W=.ok (.string ⟨(a++b).toArray⟩) W:=by
 rw[run_string_add_sum W _ _ (by rw[K7,K7];omega),ByteArray.mk_append_mk]
theorem mS(n:Nat)(h:n<=1000000000000):(Lib.decDigits n).length<=21:=by
 have:=M9 n (by omega) (by omega);rw[Nm.kV _ (by omega)] at this;simpa using this
theorem wS(w:World){w2:World}(h:Below w.drew.heap.size w.drew w2):Below w.heap.size w w2:=(Ji _ w).drew.trans h
theorem wT(w:World)(o:Obj){w2:World}(h:Below (w.alloc o).drew.heap.size (w.alloc o).drew w2):Below w.heap.size w w2:=((Ji _ w).alloc (Jh _) o).drew.trans (h.mono (by simp))
theorem Fv(m:Nat):∀(k:Int) (w:World),k.toNat=m->0<=k->k<=1000000000000->
  Calls Tryz.prog 181 #[.int .i64 k] w λe w'=>e=.returned (.string ⟨(Lib.decDigits k.toNat).toArray⟩)/\Below w.heap.size w w':=by
 induction m using Nat.strongRecOn with
 |ind m ih=>
  intro k w hm h0 h1;have IH:=Jf ih;have HM:=Jf hm;clear ih hm;by_cases h10:k<10
  .have HE:=Jf (Nd (i:=k.toNat) (by omega));have hcv:=one_byte (w.alloc (.cells #[.int .u8 (48+k)] 5)) w.heap.size (48+k) (by simp) (by omega) (by omega);generalize hc:[UInt8.ofNat (48+k).toNat]=l at hcv;have HC:=Jf hc;clear hc;go_enter Tryz.func181,Tryz.ntmps181;go_wp2_with fail;go_ret;refine⟨?_,(Ji _ _).alloc (Jh _) _⟩;show Ending.returned (Value.string ⟨l.toArray⟩)=_;rw[HE.out,<-HC.out,show(48+k).toNat=48+k.toNat from by omega]
  .have HE:=Jf (show Lib.decDigits k.toNat=Lib.decDigits (k/10).toNat++[UInt8.ofNat (48+k%10).toNat] by
    rw[Lib.decDigits,dif_neg (by omega),show(k/10).toNat=k.toNat/10 from by omega,show(48+k%10).toNat=48+k.toNat%10 from by omega])
   have hcv:∀W:World,W.cell? ⟨w.heap.size,0,none⟩=some (.int .u8 (48+k%10))->(convert 93 9 (.slice (some ⟨w.heap.size,0,none⟩) 1 1)).run Tryz.prog W=.ok (.string ⟨[UInt8.ofNat (48+k%10).toNat].toArray⟩) W:=λW h=>one_byte W _ _ h (by omega) (by omega);have hcw:∀W:World,(convert 93 9 (.slice (some ⟨W.heap.size,0,none⟩) 1 1)).run Tryz.prog (W.alloc (.cells #[.int .u8 (48+k%10)] 5))=.ok (.string ⟨[UInt8.ofNat (48+k%10).toNat].toArray⟩) (W.alloc (.cells #[.int .u8 (48+k%10)] 5)):=λW=>one_byte _ _ _ (by simp) (by omega) (by omega);have hadd:=λW=>bR W (Lib.decDigits (k/10).toNat) [UInt8.ofNat (48+k%10).toNat] (by have:=mS (k/10).toNat (by omega);simp;omega);generalize hc:[UInt8.ofNat (48+k%10).toNat]=l at hcv hcw hadd HE;generalize hd:Lib.decDigits (k/10).toNat=d at hadd HE;have HD:=Jf hd;clear hc hd;have hq0:0<=k/10:=by omega
   have hq1:k/10<=1000000000000:=by omega
   have hr0:0<=k%10:=by omega
   have hr1:k%10<10:=by omega
   have hwq:k.tdiv 10=k/10:=Int.tdiv_eq_ediv_of_nonneg h0;have hwr:k.tmod 10=k%10:=Int.tmod_eq_emod_of_nonneg h0;have hw1:IntKind.i64.wrap (k/10)=k/10:=IntWalk.i64_in _ (by omega);have hw2:IntKind.i64.wrap (k%10)=k%10:=IntWalk.i64_in _ (by omega);have hw3:IntKind.i64.wrap (48+k%10)=48+k%10:=IntWalk.i64_in _ (by omega);have hw4:IntKind.u8.wrap (48+k%10)=48+k%10:=IntWalk.u8_in _ (by omega);go_enter Tryz.func181,Tryz.ntmps181;go_wp2_with fail
   go_region_with (first|(go_at_call 181;refine(IH.out (k/10).toNat (by have:=HM.out;omega) (k/10) _ rfl hq0 hq1).mono ?_;rw[HD.out];rintro e w2 ⟨rfl,hb2⟩;have ht:Below w.heap.size w w2:=(by with_reducible first|exact wS w hb2|exact wT w _ hb2);obtain⟨hc2,hf2⟩:=wR hb2))
   all_goals
    go_wp2_with fail;go_ret;refine⟨?_,?_⟩
    .show Ending.returned (Value.string ⟨(d++l).toArray⟩)=_;rw[HE.out]
    .with_reducible first|exact ht|exact ht.alloc ht.size _
theorem kI.drew{w:World}{na:Bool}{da:Jd}{xa:Int}{nb:Bool}{db:Jd}{xb:Int}{W:World}(h:kI w na da xa nb db xb W):kI w na da xa nb db xb W.drew:=h.keep (Ji _ W).drew
theorem wU{c k:UInt8}(h:¬c=k):((c.toNat:Int) !=(k.toNat:Int))=true:=by rw[bne,Nm.bw h];rfl
def nE(n:Nat)(x:Int):Bool:= !(decide (60<n)||decide (x< -1000)||decide (1000<x))
theorem rH(neg:Bool)(ds:Jd)(x:Int)(w:World)(hne:ds≠[])(hd:∀c∈ds,Nm.dig c=true)(hh:ds.head?≠some 48)(hl:ds.getLast?≠some 48)(hlen:ds.length<=1000000):
  Calls Tryz.prog 88 #[.agg #[.bool neg,.string ⟨ds.toArray⟩,.int .i64 x]] w λe w'=>e=.returned (.bool (nE ds.length x))/\Below w.heap.size w w':=by
 have hrun:=(Nm.pX ds [] hd (λc h=>by cases h)).1;rw[JK] at hrun;have HR:=Jf hrun;have HD:=Jf hd;have HH:=Jf hh;have HL:=Jf hl;clear hrun hd hh hl;rcases ds with _|⟨c,r⟩
 .exact absurd rfl hne
 .clear hne;have hc:∀W:World,Calls Tryz.prog 36 #[.string ⟨(c::r).toArray⟩,.int .i64 0] W λe w'=>e=.returned (.int .i64 (r.length+1))/\w'=W:=λW=>by
   refine(vS ⟨(c::r).toArray⟩ 0 W (by rw[K7];omega) (by omega) (by omega)).mono ?_;rintro e w' ⟨rfl,rfl⟩;refine⟨?_,rfl⟩;rw[show(⟨(c::r).toArray⟩:ByteArray).data.toList.drop (0:Int).toNat=c::r from rfl,HR.out];simp
  have HCC:=Jf hc;clear hc;have hcv:(c::r).getLast (by simp)≠48:=λe=>HL.out (by rw[MH (by simp),e]);have hc48:c≠48:=λe=>HH.out (by rw[e];rfl);have hix:∀h,(⟨(c::r).toArray⟩:ByteArray)[0]'h=c:=λ_=>rfl;have hixl:∀h,(⟨(c::r).toArray⟩:ByteArray)[r.length]'h=(c::r).getLast (by simp):=λh=>by
   rw[List.getLast_eq_getElem];rfl
  have n1:((c.toNat:Int) !=48)=true:=wU (k:=48) hc48;have n2:(((c::r).getLast (by simp)).toNat !=(48:Int))=true:=wU (k:=48) hcv;generalize (c::r).getLast (by simp)=lc at hixl n2 hcv;clear hcv hc48 HH HL HD;by_cases h1:60<r.length+1
  .have e1:decide (60<(r.length:Int)+1)=true:=by simp;omega
   have HB:=Jf (show nE (r.length+1) x=false by unfold nE;simp;omega);go_enter Tryz.func88,Tryz.ntmps88;go_wp2_with fail;go_quiet ((go_at_call 36;exact Calls.quiet_of_same (HCC.out _)));go_wp2_with fail;go_ret;refine⟨?_,below_drewN ((Ji _ _).alloc (Jh _) _) _⟩;rw[HB.out];rfl
  .have e1:decide (60<(r.length:Int)+1)=false:=by simp;omega
   by_cases h2:x< -1000
   .have e2:decide (x< -1000)=true:=by simpa using h2
    have HB:=Jf (show nE (r.length+1) x=false by unfold nE;simp;omega);go_enter Tryz.func88,Tryz.ntmps88;go_wp2_with fail;go_quiet ((go_at_call 36;exact Calls.quiet_of_same (HCC.out _)));go_wp2_with fail;go_ret;refine⟨?_,below_drewN ((Ji _ _).alloc (Jh _) _) _⟩;rw[HB.out];rfl
   .have e2:decide (x< -1000)=false:=by simpa using h2
    by_cases h3:1000<x
    .have e3:decide (1000<x)=true:=by simpa using h3
     have HB:=Jf (show nE (r.length+1) x=false by unfold nE;simp;omega);go_enter Tryz.func88,Tryz.ntmps88;go_wp2_with fail;go_quiet ((go_at_call 36;exact Calls.quiet_of_same (HCC.out _)));go_wp2_with fail;go_ret;refine⟨?_,below_drewN ((Ji _ _).alloc (Jh _) _) _⟩;rw[HB.out];rfl
    .have e3:decide (1000<x)=false:=by simpa using h3
     have HB:=Jf (show nE (r.length+1) x=true by unfold nE;simp;omega);go_enter Tryz.func88,Tryz.ntmps88;go_wp2_with fail;go_quiet ((go_at_call 36;exact Calls.quiet_of_same (HCC.out _)));go_wp2_with fail;go_ret;refine⟨?_,below_drewN ((Ji _ _).alloc (Jh _) _) _⟩;rw[HB.out];rfl
def iD(s:ByteArray)(a:Int)(t:Jd):Prop:=0<=a/\a<=s.size/\s.data.toList.drop a.toNat=t
theorem iD.some{s:ByteArray}{a:Int}{c:UInt8}{r:Jd}(h:iD s a (c::r)):a<s.size/\(∀h,s[a.toNat]'h=c)/\iD s (a+1) r:=by
 obtain⟨h0,h1,h2⟩:=h;have hlt:a.toNat<s.data.toList.length:=by
  rcases KW a.toNat s.data.toList.length with h|h
  .exact h
  .rw[Kj h] at h2;cases h2
 have he:=JO hlt;rw[h2] at he;have hlt':a.toNat<s.size:=by rw[L6];exact hlt
 refine⟨by omega,λh=>?_,by omega,by omega,?_⟩
 .exact(O0 he).1.symm
 .rw[show(a+1).toNat=a.toNat+1 from by omega];exact(O0 he).2.symm
theorem iD.none{s:ByteArray}{a:Int}(h:iD s a []):¬a<s.size:=by
 obtain⟨h0,h1,h2⟩:=h;have:=Kk List.length h2;rw[JJ,<-Lib.size_eq] at this;simp at this;omega
theorem iD.more{s:ByteArray}{a:Int}{t:Jd}(h:iD s a t)(n:Nat)(hn:n<=t.length):iD s (a+n) (t.drop n):=by
 obtain⟨h0,h1,h2⟩:=h;have:=Kk List.length h2;rw[JJ,<-Lib.size_eq] at this;refine⟨by omega,by omega,?_⟩;rw[show(a+n).toNat=a.toNat+n from by omega,<-List.drop_drop,h2]
theorem iD.digits{s:ByteArray}{a:Int}{t:Jd}(h:iD s a t):iD s (a+((Nm.pre t).length:Nat)) (Nm.suf t):=by
 have:=h.more (Nm.pre t).length (Nm.pZ t);have e:t.drop (Nm.pre t).length=Nm.suf t:=by
  have h2:=Nm.iR t;have h3:(Nm.pre t++Nm.suf t).drop (Nm.pre t).length=Nm.suf t:=MU;rw[h2] at h3;exact h3
 rw[e] at this;exact this
theorem iD.J0{s:ByteArray}{a:Int}{t:Jd}(h:iD s a t):a=(s.size:Int)-t.length:=by
 obtain⟨h0,h1,h2⟩:=h;have:=Kk List.length h2;rw[JJ,<-Lib.size_eq] at this;omega
theorem sw{s:ByteArray}{a:Int}{t:Jd}(h:iD s a t)(hs:s.size<=4000000000000000000)(w:World):
  Calls Tryz.prog 36 #[.string s,.int .i64 a] w λe w'=>e=.returned (.int .i64 (Nm.pre t).length)/\w=w':=by
 have:=vS s a w hs h.1 h.2.1;rw[h.2.2] at this;exact this
def CutA(s:ByteArray)(t:Jd)(v:Value):Prop:=∃a1,v=.int .i64 a1/\iD s a1 t
def CutB(s:ByteArray)(a:Int)(t:Jd)(v:Value):Prop:=∃n:Int,v=.int .i64 n/\0<=n/\iD s (a+n) t
def CutC(s:ByteArray)(t3:Jd)(v:Value):Prop:=∃a5 t5,v=.int .i64 a5/\iD s a5 t5/\Nm.cG t3=Nm.cO t5
def isE(t:Jd):Bool:=t.head?==some 101||t.head?==some 69
def mo(t:Jd):Bool:=t.head?==some 43||t.head?==some 45
def Ends(s:ByteArray)(t0:Jd)(w:World)(e:Ending)(w':World):Prop:=e=.returned (.tuple #[.int .i64 (s.size-(Nm.bA t0).1.length),.bool (Nm.bA t0).2])/\w=w'
theorem Ends.of{s:ByteArray}{t0 t:Jd}{a:Int}{b:Bool}(w:World)(F:iD s a t)(h:Nm.bA t0=(t,b)):Ends s t0 w (.returned (.tuple #[.int .i64 a,b])) w:=by
 unfold Ends;rw[h,F.J0];exact⟨rfl,rfl⟩
theorem BE(s:ByteArray)(a:Int)(t0:Jd)(w:World)(F0:iD s a t0)(hs:s.size<=4000000000000000000):
  Calls Tryz.prog 55 #[.string s,.int .i64 a] w (Ends s t0 w):=by
 have b0:=F0.1;have b1:=F0.2.1;go_enter Tryz.func55,Tryz.ntmps55;go_upto_region 2 with(fail);go_cut [18] (λv18 wx=>v18=.bool (t0.head?==some 45)/\w=wx);case first=>
  rcases t0 with _|⟨c,r⟩
  .have hz:=F0.none;go_wp2_with fail
   go_meet
   exact⟨rfl,rfl⟩
  .obtain⟨hlt,hix,-⟩:=F0.some;by_cases hc:c=45
   .have hb:((c.toNat:Int)==45)=true:=Nm.dL hc;have HC:=Jf hc;clear hc;go_wp2_with fail
    go_meet
    exact⟨by simp[HC.out],rfl⟩
   .have hb:((c.toNat:Int)==45)=false:=Nm.bw hc;have HC:=Jf hc;clear hc;go_wp2_with fail
    go_meet
    exact⟨by simp[HC.out],rfl⟩
 case rest=>
 obtain⟨rfl,rfl⟩:=hcut;go_upto_if 18 with(fail)
 go_cut [6] (λv6 wx=>CutA s (Lib.trimPrefix t0 [45]) v6/\w=wx);case first=>
  by_cases h:t0.head?=some 45
  .obtain⟨r,rfl⟩:∃r,t0=45::r:=by
    cases t0 with
    |nil=>cases h
    |cons d t=>exact⟨t,by rw[JY h]⟩
   have F1:=F0.some.2.2;rw[show((45::r:Jd).head?==some 45)=true from rfl];go_wp2_with fail
   go_meet
   exact⟨⟨_,rfl,by rw[(Nm.ki r).2];exact F1⟩,rfl⟩
  .rw[show(t0.head?==some 45)=false from by simpa using h];have HP:=Jf (Nm.lA t0 (λc hc e=>h (by rw[hc,e]))).2;clear h;go_wp2_with fail
   go_meet
   exact⟨⟨_,rfl,by rw[HP.out];exact F0⟩,rfl⟩
 case rest=>
 obtain⟨⟨a1,rfl,F1⟩,rfl⟩:=hcut;have HE:=Jf (show Nm.bA t0=if(Nm.pre (Lib.trimPrefix t0 [45])).isEmpty then(Lib.trimPrefix t0 [45],false) else Nm.cG (if(Lib.trimPrefix t0 [45]).head?=some 48 then(Lib.trimPrefix t0 [45]).drop 1 else Nm.suf (Lib.trimPrefix t0 [45])) from rfl);generalize Lib.trimPrefix t0 [45]=t1 at F1 HE;have c0:=F1.1;have c1:=F1.2.1;go_wp2_with fail;refine(sw F1 hs _).mono ?_;rintro e w' ⟨rfl,rfl⟩;have hps:=Nm.iR t1;have F2:=F1.digits;have HPS:=Jf hps;clear hps;rcases hp:Nm.pre t1 with _|⟨d,q⟩
 .rw[hp] at HE;clear F2 HPS hp;go_wp2_with fail
  go_ret2
  exact Ends.of w F1 (by rw[HE.out];rfl)
 rw[hp] at HE F2 HPS;clear hp;have ht1:t1=d::(q++Nm.suf t1):=HPS.out.symm;have hq0:((q.length:Int)+1==0)=false:=by rw[Jp];omega
 have F1':iD s a1 (d::(q++Nm.suf t1)):=ht1▸F1;have hh:t1.head?=some d:=Kk List.head? ht1;have hdr:t1.drop 1=q++Nm.suf t1:=Kk (List.drop 1) ht1;have HE2:=Jf (show Nm.bA t0=Nm.cG (if d=48 then q++Nm.suf t1 else Nm.suf t1) by
  rw[HE.out,hh,hdr];simp only[Mg,Ki,Kq,JM])
 clear HE HPS hh hdr F1;generalize Nm.suf t1=st at F2 F1' HE2;clear ht1;obtain⟨hlt,hix,F3⟩:=F1'.some;clear F1';go_upto_if 30 with(fail)
 go_cut [7] (λv7 wx=>CutB s a1 (if d=48 then q++st else st) v7/\w=wx);case first=>
  by_cases hc:d=48
  .have hb:((d.toNat:Int)==48)=true:=Nm.dL hc;have HC:=Jf hc;clear hc;go_wp2_with fail
   go_meet
   exact⟨⟨1,rfl,by omega,by rw[Jo HC.out];exact F3⟩,rfl⟩
  .have hb:((d.toNat:Int)==48)=false:=Nm.bw hc;have HC:=Jf hc;clear hc;go_wp2_with fail
   go_meet
   exact⟨⟨(q.length:Int)+1,rfl,by omega,by rw[Jj HC.out];simpa using F2⟩,rfl⟩
 case rest=>
 obtain⟨⟨n,rfl,hn0,F4⟩,rfl⟩:=hcut;generalize (if d=48 then q++st else st)=t3 at F4 HE2;clear F2 F3 hix hlt hq0;have d0:=F4.1;have d1:=F4.2.1;go_upto_region 10 with(fail);go_cut [43] (λv43 wx=>v43=.bool (t3.head?==some 46)/\w=wx);case first=>
  rcases t3 with _|⟨c,r⟩
  .have hz:=F4.none;go_wp2_with fail
   go_meet
   exact⟨rfl,rfl⟩
  .obtain⟨hlt,hix,-⟩:=F4.some;by_cases hc:c=46
   .have hb:((c.toNat:Int)==46)=true:=Nm.dL hc;have HC:=Jf hc;clear hc;go_wp2_with fail
    go_meet
    exact⟨by simp[HC.out],rfl⟩
   .have hb:((c.toNat:Int)==46)=false:=Nm.bw hc;have HC:=Jf hc;clear hc;go_wp2_with fail
    go_meet
    exact⟨by simp[HC.out],rfl⟩
 case rest=>
 obtain⟨rfl,rfl⟩:=hcut;go_upto_if 43 with(fail)
 go_cut [6] (λv6 wx=>CutC s t3 v6/\w=wx);case first=>
  by_cases h:t3.head?=some 46
  .obtain⟨u,rfl⟩:∃u,t3=46::u:=by
    cases t3 with
    |nil=>cases h
    |cons d t=>exact⟨t,by rw[JY h]⟩
   rw[show((46::u:Jd).head?==some 46)=true from rfl];have F5:=F4.some.2.2;have e0:=F5.2.1;have HP:=Jf (show Nm.cG (46::u)=if(Nm.pre u).isEmpty then(Nm.suf u,false) else Nm.cO (Nm.suf u) from rfl);clear h;go_wp2_with fail;refine(sw F5 hs _).mono ?_;rintro e w' ⟨rfl,rfl⟩;have F6:=F5.digits;generalize Nm.suf u=su at F6 HP;rcases hp:Nm.pre u with _|⟨x,y⟩
   .rw[hp] at HP F6;clear hp;go_wp2_with fail
    go_ret2
    refine Ends.of w (t:=su) ?_ (by rw[HE2.out,HP.out];rfl);simpa using F6
   .rw[hp] at HP F6;clear hp;have f0:=F6.2.1;simp only[Jl] at f0 F6;have hy0:((y.length:Int)+1==0)=false:=by rw[Jp];omega
    have f1:a1+n+1+((y.length:Int)+1)<=s.size:=by omega
    go_wp2_with fail
    go_meet
    exact⟨⟨_,su,rfl,by simpa using F6,by rw[HP.out];rfl⟩,rfl⟩
  .rw[show(t3.head?==some 46)=false from by simpa using h];have HP:=Jf (Nm.ez t3 h);clear h;go_wp2_with fail
   go_meet
   exact⟨⟨_,t3,rfl,F4,HP.out⟩,rfl⟩
 case rest=>
 obtain⟨⟨a5,t5,rfl,F5,hE5⟩,rfl⟩:=hcut;have HE3:=Jf (HE2.out.trans hE5);clear HE2 hE5 F4 d0 d1 hn0;have d0:=F5.1;have d1:=F5.2.1;go_upto_region 15 with(fail);go_cut [70] (λv70 wx=>v70=.bool (isE t5)/\w=wx);case first=>
  rcases t5 with _|⟨c,r⟩
  .have hz:=F5.none;go_wp2_with fail
   go_meet
   exact⟨rfl,rfl⟩
  .obtain⟨hlt,hix,-⟩:=F5.some;by_cases hc:c=101
   .have hb:((c.toNat:Int)==101)=true:=Nm.dL hc;have HC:=Jf hc;clear hc;go_wp2_with fail
    go_meet
    exact⟨by simp[isE,HC.out],rfl⟩
   .have hb:((c.toNat:Int)==101)=false:=Nm.bw hc;have HC:=Jf hc;clear hc;by_cases hd:c=69
    .have hb2:((c.toNat:Int)==69)=true:=Nm.dL hd;have HD:=Jf hd;clear hd;go_wp2_with fail
     go_meet
     exact⟨by simp[isE,HD.out],rfl⟩
    .have hb2:((c.toNat:Int)==69)=false:=Nm.bw hd;have HD:=Jf hd;clear hd;go_wp2_with fail
     go_meet
     exact⟨by simp[isE,HC.out,HD.out],rfl⟩
 case rest=>
 obtain⟨rfl,rfl⟩:=hcut;by_cases h:isE t5=true;case neg=>
  have hf:isE t5=false:=by simpa using h
  rw[hf];have HX:=Jf (show Nm.cO t5=(t5,true) by
   cases t5 with
   |nil=>rfl
   |cons c r=>exact Nm.mf c r (λe=>h (by rcases e with rfl|rfl<;>rfl)))
  clear h hf;go_wp2_with fail
  go_ret2
  exact Ends.of w F5 (by rw[HE3.out,HX.out])
 rw[h];obtain⟨c,v,rfl,hc⟩:∃c v,t5=c::v/\(c=101\/c=69):=by
  cases t5 with
  |nil=>cases h
  |cons c v=>exact⟨c,v,rfl,by simpa[isE] using h⟩
 have HX:=Jf (HE3.out.trans (Nm.qE c v hc));clear HE3 hc h;have F6:=F5.some.2.2;have g0:=F6.2.1;clear F5;go_upto_region 17 with(fail);go_cut [88] (λv88 wx=>v88=.bool (mo v)/\w=wx);case first=>
  rcases v with _|⟨c,r⟩
  .have hz:=F6.none;go_wp2_with fail
   go_meet
   exact⟨rfl,rfl⟩
  .obtain⟨hlt,hix,-⟩:=F6.some;by_cases hc:c=43
   .have hb:((c.toNat:Int)==43)=true:=Nm.dL hc;have HC:=Jf hc;clear hc;go_wp2_with fail
    go_meet
    exact⟨by simp[mo,HC.out],rfl⟩
   .have hb:((c.toNat:Int)==43)=false:=Nm.bw hc;have HC:=Jf hc;clear hc;by_cases hd:c=45
    .have hb2:((c.toNat:Int)==45)=true:=Nm.dL hd;have HD:=Jf hd;clear hd;go_wp2_with fail
     go_meet
     exact⟨by simp[mo,HD.out],rfl⟩
    .have hb2:((c.toNat:Int)==45)=false:=Nm.bw hd;have HD:=Jf hd;clear hd;go_wp2_with fail
     go_meet
     exact⟨by simp[mo,HC.out,HD.out],rfl⟩
 case rest=>
 obtain⟨rfl,rfl⟩:=hcut;go_upto_if 88 with(fail)
 go_cut [6] (λv6 wx=>CutA s (Nm.aU v) v6/\w=wx);case first=>
  by_cases h:mo v=true
  .rw[h];obtain⟨k,z,rfl,hk⟩:∃k z,v=k::z/\(k=45\/k=43):=by
    cases v with
    |nil=>cases h
    |cons k z=>exact⟨k,z,rfl,by simp[mo] at h;exact h.symm⟩
   have F7:=F6.some.2.2;have i0:=F7.2.1;have HU:=Jf (show Nm.aU (k::z)=z by simp only[Nm.aU];rw[Jo hk]);clear hk h;go_wp2_with fail
   go_meet
   exact⟨⟨_,rfl,by rw[HU.out];exact F7⟩,rfl⟩
  .have hf:mo v=false:=by simpa using h
   rw[hf];have HU:=Jf (show Nm.aU v=v by
    cases v with
    |nil=>rfl
    |cons k z=>
     simp only[Nm.aU];rw[Jj (λe=>h (by rcases e with rfl|rfl<;>rfl))])
   clear h hf;go_wp2_with fail
   go_meet
   exact⟨⟨_,rfl,by rw[HU.out];exact F6⟩,rfl⟩
 case rest=>
 obtain⟨⟨a7,rfl,F7⟩,rfl⟩:=hcut;generalize Nm.aU v=u7 at F7 HX;clear F6 g0;have i0:=F7.1;have i1:=F7.2.1;go_wp2_with fail;refine(sw F7 hs _).mono ?_;rintro e w' ⟨rfl,rfl⟩;have F8:=F7.digits;generalize Nm.suf u7=su at F8 HX;have j1:=F8.2.1;rcases hp:Nm.pre u7 with _|⟨x,y⟩
 .rw[hp] at HX F8;clear hp j1;go_wp2_with fail
  go_ret2
  refine Ends.of w (t:=su) ?_ (by rw[HX.out];rfl);simpa using F8
 .rw[hp] at HX F8 j1;clear hp;have hy0:((y.length:Int)+1==0)=false:=by rw[Jp];omega
  simp only[Jl] at j1;have j2:a7+((y.length:Int)+1)<=s.size:=by omega
  go_wp2_with fail
  go_ret2
  refine Ends.of w (t:=su) ?_ (by rw[HX.out];rfl);simpa using F8
end
section
open Go.RowKit Js
def uH(t:Jd):Prop:=∀k,k+4<=t.length->t[k]? ≠some 92/\¬([36,114,101,102]:Jd)<+:t.drop k
open Classical in
noncomputable def iL(t:Jd):Jd:=if uH t/\t.length<=150 then t else[]
theorem qo{t:Jd}(h:iL t=t):uH t/\t.length<=150:=by
 unfold iL at h;split at h
 .rename_i hc;exact hc
 .subst h;exact⟨λk hk=>by simp at hk,by simp⟩
theorem qn{t:Jd}(h:¬(uH t/\t.length<=150)):iL t=[]:=by unfold iL;rw[Jj h]
theorem tH(t:Jd):(iL t).length<=150:=by
 unfold iL;split
 .rename_i h;exact h.2
 .simp
def tC(t:Jd)(w:World)(e:Ending)(w':World):Prop:=e=.returned (.string ⟨(iL t).toArray⟩)/\w'=w
def Gw(t:Jd)(w:World)(i:Value)(wr:World):Prop:=∃j:Nat,j<=t.length/\i=.int .i64 j/\(∀k,k<j->k+4<=t.length->t[k]? ≠some 92/\¬([36,114,101,102]:Jd)<+:t.drop k)/\wr=w
theorem wQ(t:Jd)(w:World)(hs:t.length<=1000000000000000000):
  Calls Tryz.prog 7 #[.string ⟨t.toArray⟩] w (tC t w):=by
 go_enter Tryz.func7,Tryz.ntmps7;go_wp2_with fail
 go_loopw [3] (Gw t w) (λv _=>t.length-(intOf v).toNat)
 case atStart=>exact⟨0,by omega,rfl,λk hk=>absurd hk (Kt _),rfl⟩
 case round=>
  obtain⟨j,hj,rfl,hl,rfl⟩:=hrel;have HL:=Jf hl;clear hl;by_cases hlt:j+4<=t.length
  .obtain⟨xs,hxs⟩:∃x,(t.drop j).take 4=x:=⟨_,rfl⟩;have hex:(⟨t.toArray⟩:ByteArray).extract j (j+4)=⟨xs.toArray⟩:=by
    rw[MT,<-hxs,show j+4-j=4 by omega]
   have HXS:=Jf hxs;obtain⟨c,hc⟩:∃c,t[j]'(by omega)=c:=⟨_,rfl⟩;have hix:∀h,(⟨t.toArray⟩:ByteArray)[j]'h=c:=λh=>by rw[<-hc];rfl
   have HC:=Jf (show t[j]? =some c by rw[Jg (by omega),hc]);clear hxs hc;by_cases hr:xs=[36,114,101,102]
   .have e1:(xs==[36,114,101,102])=true:=by rw[hr];rfl
    have HNC:=Jf (show iL t=[] from qn λh=>(h.1 j hlt).2 (NC.2 (by rw[<-hr,<-HXS.out];simp)));clear hr;go_wp2_with fail;go_ret;rw[tC,HNC.out];exact⟨rfl,rfl⟩
   .have e1:(xs==[36,114,101,102])=false:=by rw[Jp];exact hr
    have HR:=Jf (show¬([36,114,101,102]:Jd)<+:t.drop j fromλh=>hr (by
     rw[<-HXS.out,NC.1 h];rfl))
    clear hr;by_cases c1:c=92
    .have b1:((c.toNat:Int)==92)=true:=by rw[c1];rfl
     have HNC:=Jf (show iL t=[] from qn λh=>(h.1 j hlt).1 (by rw[HC.out,c1]));clear c1;go_wp2_with fail;go_ret;rw[tC,HNC.out];exact⟨rfl,rfl⟩
    .have b1:((c.toNat:Int)==92)=false:=by
      rw[Jp];intro e;exact c1 (L4.1 (by have:c.toNat=92:=by omega
                                        rw[this];rfl))
     have HN:=Jf (show∀k,k<j+1->k+4<=t.length->t[k]? ≠some 92/\¬([36,114,101,102]:Jd)<+:t.drop k fromλk hk h4=>by
      rcases KW k j with h|h
      .exact HL.out k h h4
      .obtain rfl:k=j:=by omega
       exact⟨λe=>c1 (by rw[HC.out] at e;injection e),HR.out⟩)
     clear c1;go_wp2_with fail;go_roundw;case rel=>exact⟨j+1,by omega,by go_num,HN.out,rfl⟩
     case measure=>simp[intOf];omega
  .have HCL:=Jf (show uH t fromλk hk=>HL.out k (by omega) hk);by_cases h150:150<t.length
   .have HNC:=Jf (show iL t=[] from qn λh=>by have:=h.2;omega);go_wp2_with fail;go_ret;rw[tC,HNC.out];exact⟨rfl,rfl⟩
   .have HNC:=Jf (show iL t=t by unfold iL;rw[Jo ⟨HCL.out,by omega⟩]);go_wp2_with fail;go_ret;rw[tC,HNC.out];exact⟨rfl,rfl⟩
end
