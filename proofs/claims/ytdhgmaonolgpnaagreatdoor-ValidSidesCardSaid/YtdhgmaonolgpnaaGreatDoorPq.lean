import Derived.Test.YtdhgmaonolgpnaaGreatDoorPp
import Derived.Test.YtdhgmaonolgpnaaGreatDoorSf
import Derived.Test.YtdhgmaonolgpnaaGreatDoorMo
set_option linter.unusedSimpArgs false
set_option linter.unusedVariables false
set_option maxHeartbeats 1000000
set_option maxRecDepth 100000
namespace Go.Proofs.YtdhgmaonolgpnaaGreatDoor
section
open Go.RowKit Pt
def Strs(c:Cl)(A:Option Addr)(l:List Jd):Prop:=∀i n,l[i]? =some n->∃g o,A=some ⟨g,o,none⟩/\c ⟨g,o+i,none⟩=some (.string ⟨n.toArray⟩)
theorem Strs.keep{c c':Cl}(h:c.le c'){A:Option Addr}{l:List Jd}(hs:Strs c A l):Strs c' A l:=λi n hi=>by
 obtain⟨g,o,h1,h2⟩:=hs i n hi;exact⟨g,o,h1,h _ _ h2⟩
def GC(w:World)(l:List Jd)(o v:Value)(wr:World):Prop:=
 ∃j:Nat,j<=l.length/\v=.int .i64 j/\o=.string ⟨(text (l.take j)).toArray⟩/\Below w.heap.size w wr
def I8(w:World)(out n:Jd)(o v:Value)(wr:World):Prop:=
 ∃k:Nat,k<=n.length/\v=.int .i64 k/\o=.string ⟨(out++name (n.take k)).toArray⟩/\Below w.heap.size w wr
theorem tk(n:Jd)(k:Nat):(name (n.take k)).length<=(name n).length:=by
 have e:name n=name (n.take k)++name (n.drop k):=by rw[<-py,Lb]
 rw[e,Jk];omega
theorem BX(n:Jd):n.length<=(name n).length:=by
 induction n with
 |nil=>simp[name]
 |cons c n ih=>
  have e:name (c::n)=esc c++name n:=by simp[name]
  rw[e,Jk,Jl];have:=BG c;omega
theorem lU(l:List Jd)(j:Nat)(h:j<l.length):(text (l.take j)).length+(1+(name l[j]).length)<=(text l).length:=by
 have e:text l=text (l.take (j+1))++text (l.drop (j+1)):=by rw[<-bK,Lb]
 rw[e,oI l j h];simp only[Jk,Jl];omega
theorem l7(l:List Jd)(A:Option Addr)(e:Nat)(w:World)(hs:Strs w.cell? A l)(he:l.length<=e)(hm:e<=maxLen)(hlen:(text l).length<=10000000):
  Calls Tryz.prog 47 #[.slice A l.length e] w λe w'=>e=.returned (.string ⟨(text l).toArray⟩)/\Below w.heap.size w w':=by
 unfold maxLen at hm;have HS:=Jf hs;clear hs;go_enter Tryz.func47,Tryz.ntmps47;go_wp2_with fail
 go_loopw [3,4] (GC w l) (λ_ v _=>l.length-(intOf v).toNat)
 case atStart=>exact⟨0,by omega,rfl,by simp[text],Ji _ _⟩
 case round=>
  obtain⟨j,hj,rfl,rfl,hW⟩:=hrel;have HW:=Jf hW;clear hW;by_cases hlt:j<l.length
  .obtain⟨g,o,rfl,hc⟩:=HS.out j _ (Jg hlt);have hc1:=aa HW.out _ _ hc;have HTK:=Jf (oI l j hlt);have hl1:=lU l j hlt;have HC:=Jf hc;clear hc;generalize l[j]=n at*
   have hnn:n.length<=10000000:=by have:=BX n;omega
   generalize hta:text (l.take j)=ta at*
   have ha1:=λW=>cu W ta [47] (by simp only[Jy];omega);generalize htb:ta++[47]=tb at*
   have hbl:tb.length=ta.length+1:=by rw[<-htb];simp
   have HTB:=Jf htb;clear htb;go_wp2_with fail
   go_loopw [3,5] (I8 w tb n) (λ_ v _=>n.length-(intOf v).toNat)
   case atStart=>exact⟨0,by omega,rfl,by simp[name],HW.out⟩
   case round=>
    obtain⟨k,hk,rfl,rfl,hW2⟩:=hrel;have HW2:=Jf hW2;clear hW2 hc1;have hc1:=aa HW2.out _ _ HC.out;have hsz:(⟨n.toArray⟩:ByteArray).size=n.length:=K7 n;by_cases hk2:k<n.length
    .have HN:=Jf (Dd n k hk2);have hnl:=tk n k;have hix:∀h,(⟨n.toArray⟩:ByteArray)[k]'h=n[k]:=λ_=>rfl;generalize hnk:n[k]=c at HN hix;generalize htc:tb++name (n.take k)=tc at*
     have hcl:tc.length<=20000000:=by rw[<-htc,Jk];omega
     have HTC:=Jf htc;clear htc hnl;by_cases c1:c=126
     .have hE:=Jf (show esc c=[126,48] by unfold esc;rw[Jo c1]);have b1:((c.toNat:Int)==126)=true:=by rw[c1];rfl
      have ha2:=λW=>cu W tc [126,48] (by simp;omega);clear c1
      go_wp2
      go_roundw;case rel=>exact⟨k+1,by omega,by go_num,by rw[HN.out,hE.out,<-HTC.out];simp,HW2.out⟩
      case measure=>simp[intOf];omega
     .have b1:((c.toNat:Int)==126)=false:=bE 126 c1;by_cases c2:c=47
      .have hE:=Jf (show esc c=[126,49] by unfold esc;rw[Jj c1,Jo c2]);have b2:((c.toNat:Int)==47)=true:=by rw[c2];rfl
       have ha2:=λW=>cu W tc [126,49] (by simp;omega);clear c1 c2
       go_wp2
       go_roundw;case rel=>exact⟨k+1,by omega,by go_num,by rw[HN.out,hE.out,<-HTC.out];simp,HW2.out⟩
       case measure=>simp[intOf];omega
      .have hE:=Jf (show esc c=[c] by unfold esc;rw[Jj c1,Jj c2]);have b2:((c.toNat:Int)==47)=false:=bE 47 c2;have ha2:=λW=>cu W tc [c] (by simp;omega);have hcw:=nG wr c;clear c1 c2
       go_wp2
       go_roundw;case rel=>exact⟨k+1,by omega,by go_num,by rw[HN.out,hE.out,<-HTC.out];simp,HW2.out.alloc HW2.out.size _⟩
       case measure=>simp[intOf];omega
    .obtain rfl:k=n.length:=by omega
     rw[JC]
     go_wp2
     go_roundw;case rel=>exact⟨j+1,by omega,by go_num,by rw[HTK.out,<-HTB.out];simp[hta],HW2.out⟩
     case measure=>simp[intOf];omega
  .obtain rfl:j=l.length:=by omega
   rw[JC]
   go_wp2
   go_ret;exact⟨rfl,HW.out⟩
end
namespace Pt
theorem yp(nm:Jd):(Nm.pre nm).length=nm.length↔nm.all Nm.dig=true:=by
 constructor
 .intro h;have hs:Nm.pre nm=nm:=(Lm Nm.dig).eq_of_length h;rw[Km];intro c hc;exact Nm.gB nm c (by rw[hs];exact hc)
 .intro h;have:Nm.pre nm=nm:=by
   have:=(Nm.pX nm [] (λc hc=>(Km.1 h) c hc) (λc hc=>by cases hc)).1;rwa[JK] at this
  rw[this]
theorem Gt(nm:Jd)(j:Nat)(h:j<nm.length):Nm.val (nm.take (j+1))=10*Nm.val (nm.take j)+(nm[j].toNat-48):=by
 rw[Jr h,Nm.za]
theorem E9(nm:Jd)(h:nm.all Nm.dig=true)(hl:nm.length<=18)(j:Nat):Nm.val (nm.take j)<1000000000000000000:=by
 have h1:=Nm.wA (nm.take j) (λc hc=>(Km.1 h) c (KG hc));have h2:(nm.take j).length<=18:=by rw[JL];omega
 have h3:10^(nm.take j).length<=10^18:=NZ (by omega) h2;omega
theorem Gs(nm:Jd)(h:nm.all Nm.dig=true)(hl:nm.length<=18)(j:Nat)(hj:j<nm.length):Nm.val (nm.take j)<100000000000000000:=by
 have h1:=Nm.wA (nm.take j) (λc hc=>(Km.1 h) c (KG hc));have h2:(nm.take j).length<=17:=by rw[JL];omega
 have h3:10^(nm.take j).length<=10^17:=NZ (by omega) h2;omega
end Pt
section
open Go.RowKit Pt
def Eo(nm:Jd)(w:World)(v i:Value)(wr:World):Prop:=
 ∃j:Nat,j<=nm.length/\i=.int .i64 j/\v=.int .i64 (Nm.val (nm.take j))/\wr=w
theorem vL(nm:Jd)(n:Nat)(e:Bool)(w:World)(hn:n<=1000000000000)(hl:nm.length<=1000000000000):
  Calls Tryz.prog 20 #[nm,.int .i64 n,e] w λr w'=>r=.returned (.tuple #[.int .i64 (index nm n e).1,.bool (index nm n e).2])/\w'=w:=by
 by_cases h0:e=true/\nm=[45]
 .obtain⟨rfl,rfl⟩:=h0;go_enter Tryz.func20,Tryz.ntmps20;go_wp2_with fail
  go_ret2
  exact⟨by simp[index],rfl⟩
 rcases nm with _|⟨c,r⟩
 .have HI:=Jf (show index [] n e=(0,false) by unfold index;rw[Jj h0,Jo (.inl rfl)]);clear h0;have q0:(([]:Jd)==[45])=false:=rfl;cases e;all_goals
   go_enter Tryz.func20,Tryz.ntmps20;go_wp2_with fail
   go_ret2
   exact⟨by rw[HI.out];rfl,rfl⟩
 .have hq:e=false\/(e=true/\((c::r)==[45])=false):=by
   cases e with
   |false=>exact .inl rfl
   |true=>exact .inr ⟨rfl,by rw[Jp];exactλh=>h0 ⟨rfl,h⟩⟩
  have HRUN:=Jf (show Calls Tryz.prog 36 #[.string ⟨(c::r).toArray⟩,.int .i64 0] w λe w'=>e=.returned (.int .i64 (Nm.pre (c::r)).length)/\w=w' from by
   simpa using vS ⟨(c::r).toArray⟩ 0 w (by rw[K7];omega) (by omega) (by omega))
  have HSZ:=Jf (K7 (c::r));have hix:∀h,(⟨(c::r).toArray⟩:ByteArray)[0]'h=c:=λ_=>rfl;by_cases hd:(c::r).all Nm.dig=true
  .have hpl:=(yp (c::r)).2 hd;have HR2:=Jf (show Calls Tryz.prog 36 #[.string ⟨(c::r).toArray⟩,.int .i64 0] w λe w'=>e=.returned (.int .i64 ((r.length:Int)+1))/\w=w' from by
    have:=HRUN.out;rw[hpl] at this;simpa using this)
   clear HRUN;have HD:=Jf hd;by_cases h1:1<=r.length/\c=48
   .have HI:=Jf (show index (c::r) n e=(0,false) by
     unfold index;rw[Jj h0,Jo (.inr (.inr (.inl ⟨by simp only[Jl];omega,by rw[h1.2];rfl⟩)))])
    have g1:(1:Int)<(r.length:Int)+1:=by omega
    have g2:(c.toNat:Int)=48:=by rw[h1.2];rfl
    clear h0 h1 hd hpl;rcases hq with rfl|⟨rfl,hq⟩;all_goals
     go_enter Tryz.func20,Tryz.ntmps20;go_wp2_with fail;refine HR2.out.mono ?_;rintro e' w' ⟨rfl,rfl⟩;go_wp2_with fail
     go_ret2
     exact⟨by rw[HI.out];rfl,rfl⟩
   .have hh:(r.length:Int)+1<=1\/((1:Int)<(r.length:Int)+1/\¬(c.toNat:Int)=48):=by
     by_cases h2:1<=r.length
     .refine .inr ⟨by omega,λh3=>h1 ⟨h2,L4.1 ?_⟩⟩;show c.toNat=48;omega
     .exact .inl (by omega)
    have h1':¬(1<(c::r).length/\(c::r).head?=some 48):=λh2=>h1 ⟨by have:=h2.1;simp only[Jl] at this;omega,by simpa using h2.2⟩;by_cases h18:18<(c::r).length
    .have HI:=Jf (show index (c::r) n e=(0,false) by
      unfold index;rw[Jj h0,Jo (.inr (.inr (.inr h18)))])
     have g3:(18:Int)<(r.length:Int)+1:=by simp only[Jl] at h18;omega
     clear h0 h1 h1' hd hpl h18;rcases hh with hh|⟨g1,g2⟩
     .omega
     rcases hq with rfl|⟨rfl,hq⟩;all_goals
      go_enter Tryz.func20,Tryz.ntmps20;go_wp2_with fail;refine HR2.out.mono ?_;rintro e' w' ⟨rfl,rfl⟩;go_wp2_with fail
      go_ret2
      exact⟨by rw[HI.out];rfl,rfl⟩
    .have HI:=Jf (show index (c::r) n e=if Nm.val (c::r)<n\/(Nm.val (c::r)=n/\e=true) then(Nm.val (c::r),true) else(0,false) by
      unfold index;rw[Jj h0,Jj];rintro(h|h|h|h)
      .cases h
      .exact h hd
      .exact h1' h
      .exact h18 h)
     have g3:(r.length:Int)+1<=18:=by simp only[Jl] at h18;omega
     have HL18:=Jf (show(c::r).length<=18 by omega);have HVT:=Jf (Gt (c::r));have hv18:=E9 (c::r) hd (by omega) (c::r).length;rw[JC] at hv18;have HV17:=Jf (Gs (c::r) hd (by omega));have HDG:=Jf (show∀j (h:j<(c::r).length),48<=((c::r)[j]).toNat/\((c::r)[j]).toNat<=57 fromλj h=>by
      have:=(Km.1 hd) _ (Jv h);simpa[Nm.dig] using this)
     clear h0 h1 h1' hd hpl h18;have hh2:(r.length:Int)+1<=1\/((1:Int)<(r.length:Int)+1/\¬(c.toNat:Int)=48/\((c.toNat:Int)==48)=false):=by
      rcases hh with h|⟨h,h2⟩
      .exact .inl h
      .exact .inr ⟨h,h2,by simpa using h2⟩
     clear hh;rcases hh2 with g1|⟨g1,g2,g4⟩;all_goals
      rcases hq with rfl|⟨rfl,hq⟩
     all_goals
      go_enter Tryz.func20,Tryz.ntmps20;go_wp2_with fail;refine HR2.out.mono ?_;rintro e' w' ⟨rfl,rfl⟩;go_wp2_with fail
      go_loopw [8,9] (Eo (c::r) w) (λ_ i _=>(c::r).length-(intOf i).toNat)
      case atStart=>exact⟨0,by omega,rfl,rfl,rfl⟩
      case round=>
       obtain⟨j,hj,rfl,rfl,rfl⟩:=hrel;by_cases hlt:j<(c::r).length
       .have hv:=HV17.out j hlt;have hdg:=HDG.out j hlt;have hvt:=HVT.out j hlt;have hjx:∀h,(⟨(c::r).toArray⟩:ByteArray)[j]'h=(c::r)[j]:=λ_=>rfl;have hlt':(j:Int)<(r.length:Int)+1:=by simp only[Jl] at hlt;omega
        generalize hx:(c::r)[j]=x at*
        generalize Nm.val ((c::r).take j)=v at*
        have HVT2:=Jf hvt;clear hvt;go_wp2_with fail;go_roundw;case rel=>exact⟨j+1,by omega,by go_num,by rw[HVT2.out];congr 1;omega,rfl⟩
        case measure=>simp[intOf];omega
       .obtain rfl:j=(c::r).length:=by omega
        rw[JC];have HI2:=HI.out;generalize Nm.val (c::r)=v at*
        by_cases k1:v<n
        .rw[Jo (.inl k1)] at HI2;have HI3:=Jf HI2;have k2:(v:Int)<(n:Int):=by omega
         clear HI2 HI HV17 HDG HVT;go_wp2_with fail
         go_ret2
         exact⟨by rw[HI3.out];rfl,rfl⟩
        .by_cases k2:v=n
         .subst k2;have k3:¬(v:Int)<(v:Int):=by omega
          have HI3:=Jf HI2;clear HI2 HI HV17 HDG HVT;go_wp2_with fail
          go_ret2
          exact⟨by rw[HI3.out];simp,rfl⟩
         .rw[Jj (by rintro(h|⟨h,_⟩)<;>omega)] at HI2;have HI3:=Jf HI2;have k3:¬(v:Int)<(n:Int):=by omega
          have k4:¬(v:Int)=(n:Int):=by omega
          have k5:((v:Int)==(n:Int))=false:=by simpa using k4
          clear HI2 HI HV17 HDG HVT;go_wp2_with fail
          go_ret2
          exact⟨by rw[HI3.out];rfl,rfl⟩
  .have hpl:¬(Nm.pre (c::r)).length=(c::r).length:=λh=>hd ((yp _).1 h);have HI:=Jf (show index (c::r) n e=(0,false) by unfold index;rw[Jj h0,Jo (.inr (.inl hd))]);have hp1:(((Nm.pre (c::r)).length:Int) !=(r.length:Int)+1)=true:=by rw[LV];simp only[Jl] at hpl;omega
   generalize (Nm.pre (c::r)).length=q at*
   clear h0 hd hpl;rcases hq with rfl|⟨rfl,hq⟩;all_goals
    go_enter Tryz.func20,Tryz.ntmps20;go_wp2_with fail;refine HRUN.out.mono ?_;rintro e' w' ⟨rfl,rfl⟩;go_wp2_with fail
    go_ret2
    exact⟨by rw[HI.out];rfl,rfl⟩
theorem zU:(Tryz.prog.info? 9).map (λi=>(i.zero,i.size,i.bytes))=some (some (.string ⟨#[]⟩),1,16):=by kernel_rfl
theorem kg(W:World)(c:UInt8):
  (convert 93 9 (.slice (some ⟨W.heap.size,0,none⟩) 1 1)).run Tryz.prog (W.alloc (.cells #[.int .u8 (c.toNat:Int)] 5)).drew=.ok (.string ⟨[c].toArray⟩) (W.alloc (.cells #[.int .u8 (c.toNat:Int)] 5)).drew:=by
 refine nX _ _ 1 [c] rfl ?_;intro j hj;have hj':j=0:=by simp at hj;omega
 subst hj';simp
def strs(l:List Jd):List Value:=l.map λn=>Value.string ⟨n.toArray⟩
theorem yN(a b:List Jd):strs (a++b)=strs a++strs b:=by simp[strs]
theorem eZ{w:World}{base:Nat}{e:TypeId}{size g n cap:Nat}{xs:List Value}(h:w.ownsRow base e size (.slice (some ⟨g,0,none⟩) n cap) n xs)(i:Nat)(u:Value):
  (w.setCell ⟨g,i,none⟩ u).ownsRow base e size (.slice (some ⟨g,0,none⟩) n cap) n (xs.set i u):=by
 obtain⟨hl,h⟩:=h;rcases h with⟨h,_⟩|⟨g',cap',cur,hv,hb,hc,h1,h2,h3,h4⟩
 .cases h
 .injection hv with ha hn hcap;injection ha with ha;injection ha with hg _ _;subst hg hcap;refine⟨by simpa using hl,.inr ⟨g,cap,cur.setIfInBounds i u,rfl,hb,?_,h1,h2,by simpa using h3,?_⟩⟩
  .simp[World.setCell,KC,hc]
  .rw[Array.toList_setIfInBounds,List.take_set,h4]
theorem AH{w:World}{base:Nat}{e:TypeId}{g n cap:Nat}{xs:List Value}(h:w.ownsRow base e 1 (.slice (some ⟨g,0,none⟩) n cap) n xs){i:Nat}{u:Value}(hi:xs[i]? =some u):
  w.cell? ⟨g,i,none⟩=some u/\w.frozen? ⟨g,i,none⟩=false/\base<=g/\g<w.heap.size:=by
 obtain⟨hl,h⟩:=h;rcases h with⟨h,_⟩|⟨g',cap',cur,hv,hb,hc,h1,h2,h3,h4⟩
 .cases h
 .injection hv with ha hn hcap;injection ha with ha;injection ha with hg _ _;subst hg hcap;refine⟨?_,frozen_of_row w g i cur e hc,hb,(KE.1 hc).1⟩;rw[Ml w g i cur e (0,0) hc];rw[<-h4] at hi;have:=Jm.1 hi;obtain⟨h5,h6⟩:=this;rw[Nf] at h6;rw[<-Array.getElem?_toList,Jm];exact⟨_,h6⟩
def GD(t:Jd)(w:World)(e:Ending)(w':World):Prop:=
 Below w.heap.size w w'/\((∃l A cp,parse t=.ok l/\e=.returned (.tuple #[.slice A l.length cp,.int .i64 (-1)])/\w'.ownsRow w.heap.size 9 1 (.slice A l.length cp) l.length (strs l))\/
  (∃p:Nat,parse t=.bad p/\e=.returned (.tuple #[.slice none 0 0,.int .i64 p])))
structure nV (t:Jd) (w:World) (i:Nat) (l:List Jd) (A:Option Addr) (cp:Nat) (wr:World):Prop where
 hi:i<=t.length
 own:wr.ownsRow w.heap.size 9 1 (.slice A l.length cp) l.length (strs l)
 below:Below w.heap.size w wr
 res:go (t.drop i) i l=parse t
 first:l=[]->(t.drop i).head?=some 47
 len:l.length<=i
 lens:∀n∈l,n.length<=i
def EB(t:Jd)(w:World)(v4 v5:Value)(wr:World):Prop:=
 ∃(i:Nat) (l:List Jd) (A:Option Addr) (cp:Nat),v5=.int .i64 i/\v4=.slice A l.length cp/\nV t w i l A cp wr
theorem jo{s:Jd}{w wr:World}{i i' g cp:Nat}{a:List Jd}{b:Jd}{c:UInt8}(h:nV s w i (a++[b]) (some ⟨g,0,none⟩) cp wr)(hi:i<i')(hi2:i'<=s.length)
  (hgo:go (s.drop i') i' (push (a++[b]) c)=parse s) (hg:w.heap.size<=g) (o:Obj):
  nV s w i' (push (a++[b]) c) (some ⟨g,0,none⟩) cp (((wr.setCell ⟨g,a.length,none⟩ (.string ⟨(b++[c]).toArray⟩)).alloc o).drew):=by
 have hl:(push (a++[b]) c).length=(a++[b]).length:=iS (by simp) c;refine⟨hi2,?_,(((h.below.setCell (p:=⟨g,a.length,none⟩) hg _).alloc ?_ o).drew),hgo,λe=>absurd e (Hl _ _),by have:=h.len;omega,?_⟩
 .have:=(eZ h.own a.length (.string ⟨(b++[c]).toArray⟩)).alloc o;rw[hl];have e:strs (push (a++[b]) c)=(strs (a++[b])).set a.length (.string ⟨(b++[c]).toArray⟩):=by
   rw[jI];simp[strs]
  rw[e];exact this
 .have:=h.below.size;simpa[World.setCell] using this
 .intro n hn;rw[jI] at hn;rcases Jq.1 hn with k|k
  .have:=h.lens n (Lf _ k);omega
  .have hb:=h.lens b (by simp);simp at k;subst k;simp;omega
theorem C3(w:World)(base:Nat):w.ownsRow base 9 1 (.slice none 0 0) 0 (strs []):=⟨rfl,.inl ⟨rfl,rfl⟩⟩
theorem sf(t:Jd)(w:World)(hs:t.length<=100000):
  Calls Tryz.prog 19 #[.string ⟨t.toArray⟩] w (GD t w):=by
 rcases t with _|⟨c0,t0⟩
 .go_enter Tryz.func19,Tryz.ntmps19;go_wp2_with fail
  go_ret2
  exact⟨Ji _ _,.inl ⟨[],none,0,rfl,rfl,C3 _ _⟩⟩
 by_cases h47:c0=47
 .subst h47;have HR:=Jf (show parse (47::t0)=go (47::t0) 0 [] by show(if(47:UInt8)=47 then go (47::t0) 0 [] else Res.bad 0)=_;exact Jo rfl);have hlt0:(47::t0).length=t0.length+1:=rfl;have hix0:∀h,(⟨((47:UInt8)::t0).toArray⟩:ByteArray)[0]'h=47:=λ_=>rfl;obtain⟨i0,hi0,hz0,hz1,hz2⟩:=info_parts zU;go_enter Tryz.func19,Tryz.ntmps19;go_wp2_with fail
  go_loopw [4,5] (EB (47::t0) w) (λ_ v _=>(47::t0).length-(intOf v).toNat)
  case atStart=>exact⟨0,[],none,0,rfl,rfl,⟨by omega,C3 _ _,Ji _ _,HR.out.symm,λ_=>rfl,Jh _,λn hn=>by cases hn⟩⟩
  case round=>
   obtain⟨i,l,A,cp,rfl,rfl,hP⟩:=hrel;have HP:=Jf hP;have hi:=hP.hi;have hll:=hP.len;clear hP hix0 HR;generalize (47:UInt8)::t0=s at*
   clear hlt0;by_cases hlt:i<s.length
   .obtain⟨c,hc⟩:∃c,s[i]=c:=⟨_,rfl⟩;have hix:∀h,(⟨s.toArray⟩:ByteArray)[i]'h=c:=λh=>by rw[<-hc];rfl
    have HD:=Jf (show s.drop i=c::s.drop (i+1) by rw[JO hlt,hc]);have HG:=Jf (show go (c::s.drop (i+1)) i l=parse s by rw[<-HD.out];exact HP.out.res);by_cases c1:c=47
    .have b1:((c.toNat:Int)==47)=true:=by rw[c1];rfl
     have HN:=Jf (show go (s.drop (i+1)) (i+1) (l++[[]])=parse s by have:=HG.out;rw[lp,Jo c1] at this;exact this);clear c1;have HOWN:=Jf HP.out.own;go_wp2_with (at_builtin;refine wpList_append_own _ rfl _ _ 40 rfl w.heap.size 9 i0 (.string ⟨#[]⟩) 1 16 Tryz.underlying40 hi0 hz0 hz1 hz2 rfl (by decide) _ _ _ rfl (HOWN.out.alloc _) ⟨wr.heap.size,0,none⟩ 1 1 [.string ⟨#[]⟩] rfl rfl ?c1 ?c2 ?c3 ?c4 ?c5 ?_);case c1=>
      intro j u hj
      match j,hj with
      |0,hj=>simp at hj;subst hj;simp[Addr.add]
     case c2=>intro u hu;simp at hu;subst hu;rfl
     case c3=>unfold maxLen;omega
     case c4=>omega
     case c5=>have:=HP.out.below.size;simp;omega
     intro v' w2 hown' hgrow _;obtain⟨g,cap,rfl⟩:∃g cap,v'=.slice (some ⟨g,0,none⟩) (l.length+1) cap:=by
      rcases hown'.2 with⟨_,h0⟩|⟨g,cap,cur,hv,_⟩
      .omega
      .exact⟨g,cap,hv⟩
     have HOWN':=Jf hown';have HB:=Jf ((HP.out.below.alloc (by have:=HP.out.below.size;omega) _).grown hgrow (by have:=HP.out.below.size;simp;omega) (λk hk=>(HOWN.out.lt k hk).1));clear hown' hgrow;go_wp2_with fail;go_roundw;case rel=>
      refine⟨i+1,l++[[]],some ⟨g,0,none⟩,cap,by go_num,by simp,⟨by omega,?_,HB.out,HN.out,by simp,by simp;omega,?_⟩⟩
      .have:=HOWN'.out;rw[show(l++[([]:Jd)]).length=l.length+1 by simp,yN];exact this
      .intro n hn;rcases Jq.1 hn with h|h
       .have:=HP.out.lens n h;omega
       .simp at h;subst h;simp
     case measure=>simp[intOf];omega
    .have b1:((c.toNat:Int)==47)=false:=bE 47 c1;have HNE:=Jf (show l≠[] fromλh=>by
      have:=HP.out.first h;rw[HD.out] at this;simp at this;exact c1 this)
     by_cases c2:c=126
     .have b2:((c.toNat:Int)==126)=true:=by rw[c2];rfl
      have b2':(c.toNat:Int)=126:=by rw[c2];rfl
      by_cases hend:i+1=s.length
      .have HR2:=Jf (show parse s=.bad i by
        have:=HG.out;rw[lp,Jj c1,Jo c2,show s.drop (i+1)=[] by rw[hend,KR]] at this;exact this.symm)
       have b3:((i:Int)+1==(s.length:Int))=true:=by rw[Ln];omega
       clear c1 c2;go_wp2_with fail
       go_ret2
       exact⟨HP.out.below,.inr ⟨i,HR2.out,rfl⟩⟩
      .have b3:((i:Int)+1==(s.length:Int))=false:=by rw[Jp];omega
       have hlt2:i+1<s.length:=by omega
       obtain⟨d,hd⟩:∃d,s[i+1]=d:=⟨_,rfl⟩;have hix2:∀h,(⟨s.toArray⟩:ByteArray)[i+1]'h=d:=λh=>by rw[<-hd];rfl
       have HN0:=Jf (show(if d=48 then go (s.drop (i+2)) (i+2) (push l 126) else if d=49 then go (s.drop (i+2)) (i+2) (push l 47) else .bad i)=parse s by
        have:=HG.out;rw[lp,Jj c1,Jo c2,JO hlt2,hd] at this;exact this)
       clear c1 c2;by_cases d48:d=48
       .have HN:=Jf (show go (s.drop (i+2)) (i+2) (push l 126)=parse s by have:=HN0.out;rwa[Jo d48] at this);have b4:((d.toNat:Int) !=48)=false:=by rw[d48];rfl
        have b5:((d.toNat:Int)==49)=false:=by rw[d48];rfl
        clear HN0 d48;obtain⟨a,b,rfl⟩:∃a b,l=a++[b]:=⟨_,_,(LQ HNE.out).symm⟩;have hown:=HP.out.own;obtain⟨g,rfl⟩:∃g,A=some ⟨g,0,none⟩:=by
         rcases hown.2 with⟨_,h⟩|⟨g,cap,cur,hv,_⟩
         .simp at h
         .injection hv with h1 _ _;exact⟨g,h1⟩
        obtain⟨k0,k1,k2,k3⟩:=AH hown (show(strs (a++[b]))[a.length]? =some (.string ⟨b.toArray⟩) by simp[strs]);have hbl:=HP.out.lens b (by simp);have HB:=Jf HP.out.below;have HOWN:=Jf hown;have HLENS:=Jf HP.out.lens;clear hown;have hn0:(a++[b]).length=a.length+1:=by simp
        rw[hn0] at hll ⊢;have hs1:IntKind.i64.wrap (((a.length+1:Nat):Int)-1)=(a.length:Int):=by rw[show(((a.length+1:Nat):Int)-1)=(a.length:Int) by omega];exact IntWalk.i64_in _ (by omega)
        have ha1:=λW=>cu W b [126] (by simp only[Jy];omega);have hcw1:(convert 93 9 (.slice (some ⟨wr.heap.size,0,none⟩) 1 1)).run Tryz.prog (wr.alloc (.cells #[.int .u8 126] 5))=.ok (.string ⟨[126].toArray⟩) (wr.alloc (.cells #[.int .u8 126] 5)):=nG wr 126;have hcw2:(convert 93 9 (.slice (some ⟨wr.heap.size,0,none⟩) 1 1)).run Tryz.prog (wr.alloc (.cells #[.int .u8 (126:Int)] 5)).drew=.ok (.string ⟨[126].toArray⟩) (wr.alloc (.cells #[.int .u8 (126:Int)] 5)).drew:=kg wr 126;go_wp2_with fail
        go_region
        have hfin:=jo HP.out (i':=i+2) (c:=126) (by omega) (by omega) HN.out k2 (.cells #[.int .u8 (126:Int)] 5);have HFIN:=Jf hfin;clear hfin;go_wp2_with fail;go_roundw;case rel=>exact⟨i+2,push (a++[b]) 126,some ⟨g,0,none⟩,cp,by go_num,by rw[iS (by simp)];simp,HFIN.out⟩
        case measure=>simp[intOf];omega
       .by_cases d49:d=49
        .have HN:=Jf (show go (s.drop (i+2)) (i+2) (push l 47)=parse s by have:=HN0.out;rwa[Jj d48,Jo d49] at this);have b4:((d.toNat:Int) !=48)=true:=by rw[d49];rfl
         have b5:((d.toNat:Int)==49)=true:=by rw[d49];rfl
         have b6:((d.toNat:Int) !=49)=false:=by rw[d49];rfl
         clear HN0 d48 d49;obtain⟨a,b,rfl⟩:∃a b,l=a++[b]:=⟨_,_,(LQ HNE.out).symm⟩;have hown:=HP.out.own;obtain⟨g,rfl⟩:∃g,A=some ⟨g,0,none⟩:=by
          rcases hown.2 with⟨_,h⟩|⟨g,cap,cur,hv,_⟩
          .simp at h
          .injection hv with h1 _ _;exact⟨g,h1⟩
         obtain⟨k0,k1,k2,k3⟩:=AH hown (show(strs (a++[b]))[a.length]? =some (.string ⟨b.toArray⟩) by simp[strs]);have hbl:=HP.out.lens b (by simp);have HB:=Jf HP.out.below;have HOWN:=Jf hown;have HLENS:=Jf HP.out.lens;clear hown;have hn0:(a++[b]).length=a.length+1:=by simp
         rw[hn0] at hll ⊢;have hs1:IntKind.i64.wrap (((a.length+1:Nat):Int)-1)=(a.length:Int):=by rw[show(((a.length+1:Nat):Int)-1)=(a.length:Int) by omega];exact IntWalk.i64_in _ (by omega)
         have ha1:=λW=>cu W b [47] (by simp only[Jy];omega);have hcw1:(convert 93 9 (.slice (some ⟨wr.heap.size,0,none⟩) 1 1)).run Tryz.prog (wr.alloc (.cells #[.int .u8 47] 5))=.ok (.string ⟨[47].toArray⟩) (wr.alloc (.cells #[.int .u8 47] 5)):=nG wr 47;have hcw2:(convert 93 9 (.slice (some ⟨wr.heap.size,0,none⟩) 1 1)).run Tryz.prog (wr.alloc (.cells #[.int .u8 (47:Int)] 5)).drew=.ok (.string ⟨[47].toArray⟩) (wr.alloc (.cells #[.int .u8 (47:Int)] 5)).drew:=kg wr 47;go_wp2_with fail
         go_region
         have hfin:=jo HP.out (i':=i+2) (c:=47) (by omega) (by omega) HN.out k2 (.cells #[.int .u8 (47:Int)] 5);have HFIN:=Jf hfin;clear hfin;go_wp2_with fail;go_roundw;case rel=>exact⟨i+2,push (a++[b]) 47,some ⟨g,0,none⟩,cp,by go_num,by rw[iS (by simp)];simp,HFIN.out⟩
         case measure=>simp[intOf];omega
        .have HR2:=Jf (show parse s=.bad i by have:=HN0.out;rw[Jj d48,Jj d49] at this;exact this.symm);have b4:((d.toNat:Int) !=48)=true:=by have:=bE 48 d48;simpa using this
         have b6:((d.toNat:Int) !=49)=true:=by have:=bE 49 d49;simpa using this
         clear HN0 d48 d49;go_wp2_with fail
         go_ret2
         exact⟨HP.out.below,.inr ⟨i,HR2.out,rfl⟩⟩
     .have b2:((c.toNat:Int)==126)=false:=bE 126 c2;have HN:=Jf (show go (s.drop (i+1)) (i+1) (push l c)=parse s by have:=HG.out;rw[lp,Jj c1,Jj c2] at this;exact this);clear c1 c2;obtain⟨a,b,rfl⟩:∃a b,l=a++[b]:=⟨_,_,(LQ HNE.out).symm⟩;have hown:=HP.out.own;obtain⟨g,rfl⟩:∃g,A=some ⟨g,0,none⟩:=by
       rcases hown.2 with⟨_,h⟩|⟨g,cap,cur,hv,_⟩
       .simp at h
       .injection hv with h1 _ _;exact⟨g,h1⟩
      obtain⟨k0,k1,k2,k3⟩:=AH hown (show(strs (a++[b]))[a.length]? =some (.string ⟨b.toArray⟩) by simp[strs]);have hbl:=HP.out.lens b (by simp);have HB:=Jf HP.out.below;have HOWN:=Jf hown;have HLENS:=Jf HP.out.lens;clear hown;have hn0:(a++[b]).length=a.length+1:=by simp
      rw[hn0] at hll ⊢;have hs1:IntKind.i64.wrap (((a.length+1:Nat):Int)-1)=(a.length:Int):=by rw[show(((a.length+1:Nat):Int)-1)=(a.length:Int) by omega];exact IntWalk.i64_in _ (by omega)
      have ha1:=λW=>cu W b [c] (by simp only[Jy];omega);have hcw1:=nG wr c;have hcw2:(convert 93 9 (.slice (some ⟨wr.heap.size,0,none⟩) 1 1)).run Tryz.prog (wr.alloc (.cells #[.int .u8 ((c).toNat:Int)] 5)).drew=.ok (.string ⟨[c].toArray⟩) (wr.alloc (.cells #[.int .u8 ((c).toNat:Int)] 5)).drew:=kg wr c;go_wp2_with fail
      go_region
      have hfin:=jo HP.out (i':=i+1) (c:=c) (by omega) (by omega) HN.out k2 (.cells #[.int .u8 ((c).toNat:Int)] 5);have HFIN:=Jf hfin;clear hfin;go_wp2_with fail;go_roundw;case rel=>exact⟨i+1,push (a++[b]) c,some ⟨g,0,none⟩,cp,by go_num,by rw[iS (by simp)];simp,HFIN.out⟩
      case measure=>simp[intOf];omega
   .obtain rfl:i=s.length:=by omega
    have HR2:=Jf (show parse s=.ok l by have:=HP.out.res;rw[KR] at this;exact this.symm);go_wp2_with fail
    go_ret2
    exact⟨HP.out.below,.inl ⟨l,A,cp,HR2.out,rfl,HP.out.own⟩⟩
 .have hc:((c0.toNat:Int) !=47)=true:=by
   rw[LV];intro e;exact h47 (L4.1 (by show c0.toNat=47;omega))
  have hix:∀h,(⟨(c0::t0).toArray⟩:ByteArray)[0]'h=c0:=λ_=>rfl;have hc2:¬(c0.toNat:Int)=47:=by rwa[LV] at hc
  have HR:=Jf (show parse (c0::t0)=.bad 0 from Jj h47);clear h47;go_enter Tryz.func19,Tryz.ntmps19;go_wp2_with fail
  go_ret2
  exact⟨Ji _ _,.inr ⟨0,HR.out,rfl⟩⟩
theorem DA{w:World}{B:Nat}{A:Option Addr}{cp:Nat}{l:List Jd}(h:w.ownsRow B 9 1 (.slice A l.length cp) l.length (strs l)):Strs w.cell? A l/\l.length<=cp/\cp<=maxLen/\(A=none->l.length=0/\cp=0):=by
 obtain⟨hl,⟨h,h0⟩|⟨g,cap,cur,hv,hb,hc,h1,h2,h3,h4⟩⟩:=h
 .injection h with _ _ h2;subst h2;refine⟨λi n hi=>?_,by omega,by unfold maxLen;omega,λ_=>⟨h0,rfl⟩⟩;have:=(Jm.1 hi).1;omega
 .injection hv with ha hn hcap;subst hcap ha;refine⟨λi n hi=>⟨g,0,rfl,?_⟩,h1,h2,λh=>by cases h⟩;rw[JI,Ml w g i cur 9 (0,0) hc];have hx:(strs l)[i]? =some (.string ⟨n.toArray⟩):=by simp[strs,hi]
  rw[<-h4] at hx;have hx2:=Jm.1 hx;obtain⟨h5,h6⟩:=hx2;rw[Nf] at h6;rw[<-Array.getElem?_toList,Jm];exact⟨_,h6⟩
theorem tz(n:Nat)(w:World)(h:n<=1000000):Calls Tryz.prog 153 #[.int .i64 n] w λe w'=>e=.returned (.string ⟨(Lib.decDigits n).toArray⟩)/\Below w.heap.size w w':=by
 have HI:=Jf (Fv n (n:Int) w (by omega) (by omega) (by omega));rw[show((n:Int)).toNat=n by omega] at HI;go_enter Tryz.func153,Tryz.ntmps153;go_wp2_with fail;refine HI.out.mono ?_;rintro e w1 ⟨rfl,hb⟩;go_wp2_with fail;go_ret;exact⟨rfl,hb⟩
end
