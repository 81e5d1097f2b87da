import Derived.Test.YtdhgmaonolgpnaaGreatDoorMq
set_option linter.unusedSimpArgs false
set_option linter.unusedVariables false
set_option maxHeartbeats 8000000
set_option maxRecDepth 100000
namespace Go.Proofs.YtdhgmaonolgpnaaGreatDoor
section
open Go.RowKit Js
def js{α:Type}(b:Bool)(l:Nat):Ps.R α->Ps.R α
 |.ok v u=>if b=true then .bad 4 l else .ok v u
 |.bad c k=>.bad c k
def Da(f d:Nat)(t:Jd)(b:Bool):Ps.R Vl:=eJ (eJ (js b (Ps.skip t).length (Ps.bn (Ps.skip t))).bM (Ps.lit [58])) (Ps.value f d)
theorem Hd(f d:Nat)(t:Jd)(acc:List Js.Mem)(key:Jd)(hk:∀k u,Ps.bn (Ps.skip t)=.ok k u->key=k):Ps.ee (f+1) d t acc=match Da f d t (Js.find acc key).isSome with
  |.bad c l=>.bad c l
  |.ok v t2=>if t2.head?=some 44 then Ps.ee f d t2.tail (Ps.ins acc key v) else(Ps.lit [125] t2).map (λ_=>Ps.mkO (Ps.ins acc key v)):=by
 rw[Ps.ee];unfold Da;cases hq:Ps.bn (Ps.skip t) with
 |bad c l=>rfl
 |ok k u=>
  obtain rfl:=hk k u hq;simp only[js];by_cases hf:(Js.find acc key).isSome=true
  .rw[Jo hf,Jo hf];rfl
  .rw[Jj hf,Jj hf];simp only[Ps.R.bM,eJ];rw[FD];cases hs:Ps.skip u with
   |nil=>rfl
   |cons c t4=>
    simp only[KZ,MX,JM];by_cases hc:c=58
    .rw[Jo hc,Jo hc];simp only;cases Ps.value f d t4 with
     |bad c l=>rfl
     |ok v t2=>
      cases t2 with
      |nil=>rfl
      |cons c u=>
       simp only[KZ,MX,JM];by_cases h:c=44
       .rw[Jo h,Jo h]
       .rw[Jj h,Jj h,FD];by_cases h2:c=125
        .subst h2;rfl
        .rw[Jj h2,Jj (by simpa using h2)];rfl
    .rw[Jj hc,Jj hc]
theorem xV(t:Jd)(b:Bool):∀v u,eJ (js b (Ps.skip t).length (Ps.bn (Ps.skip t))).bM (Ps.lit [58])=.ok v u->u.length+2<=t.length:=by
 intro v u h;cases hq:Ps.bn (Ps.skip t) with
 |bad c l=>rw[hq] at h;cases h
 |ok k t2=>
  rw[hq] at h;simp only[js] at h;split at h
  .cases h
  .have h1:=Ps.fR hq;have h2:=Kk List.length (Ps.jj (show Ps.lit [58] (Ps.skip t2)=.ok v u from h));have h3:=Ps.aC t2;have h4:=Ps.aC t;simp at h2;omega
theorem xW(f d:Nat)(t:Jd)(b:Bool)(hd:d<=32){v:Vl}{t2:Jd}(h:Da f d t b=.ok v t2):t2.length+3<=t.length:=by
 unfold Da at h;cases hq:eJ (js b (Ps.skip t).length (Ps.bn (Ps.skip t))).bM (Ps.lit [58]) with
 |bad c l=>rw[hq] at h;cases h
 |ok x u=>
  have h1:=xV t b x u hq;rw[hq] at h;have h2:=(Ps.told f).1 d u hd;rw[show Ps.value f d u=.ok v t2 from h] at h2;have:=h2.2;have:=size_pos v;omega
theorem Fc{α:Type}{rb:Nat}{s:ByteArray}{d:Nat}{w:World}{r:Ps.R α}(h:bo rb s d w r)(p l:Nat)(hp:p+l=s.size):
  Calls Tryz.prog 27 #[.pointer (some ⟨rb,0,none⟩),.int .i64 p,.int .i64 4] w λe w'=>e=.returned (.tuple #[])/\bo rb s d w' (js true l r)/\ak rb w w':=by
 cases r with
 |ok v u=>obtain⟨a,hR⟩:=h;exact iN hR p 4 l hp (by omega)
 |bad c k=>
  refine(qI h _ _).mono ?_;rintro e w' ⟨rfl,rfl⟩;exact⟨rfl,h,.refl _ _⟩
theorem Gl{α:Type}(l:Nat)(r:Ps.R α):js false l r=r:=by cases r<;>rfl
theorem FR{m:List Js.Mem}{key:Jd}{n:Nat}{p:Js.Mem}(hn:n=(m.takeWhile (Ps.less key)).length)(hp:m[n]? =some p):¬Lib.compareBytes p.1 key= -1:=by
 subst hn
 induction m with
 |nil=>simp at hp
 |cons q m ih=>
  by_cases hq:Ps.less key q=true
  .rw[Nb hq] at hp;exact ih (by simpa using hp)
  .rw[Na hq] at hp;simp at hp;subst hp;simpa[Ps.less] using hq
def Ia(rb:Nat)(s:ByteArray)(u:Jd)(d f:Nat)(R:Ps.R Vl)(w:World)(k:Nat)(wr:World):Prop:=
 ∃a t A cp acc f',Rd wr rb s a t (d+1)/\t.length=k/\acc.length+t.length<=u.length/\3*t.length+2<=f'/\f'<=f/\Ps.ee f' (d+1) t acc=R/\(acc=[]->¬t.head?=some 125)/\
  iG wr (w.heap.size+2) A cp acc/\Blk wr w.heap.size 31 ag/\Blk wr (w.heap.size+1) 31 (pR (.slice A acc.length cp))/\ak rb w wr
def Keyed(rb:Nat)(s:ByteArray)(d:Nat)(r:Ps.R Jd)(A:Option Addr)(cp:Nat)(acc:List Js.Mem)(w wr:World):Prop:=
 bo rb s (d+1) wr r/\iG wr (w.heap.size+2) A cp acc/\Blk wr w.heap.size 31 ag/\Blk wr (w.heap.size+1) 31 (pR (.slice A acc.length cp))/\ak rb w wr
theorem CW{w w':World}{o:Obj}{n c:Nat}(hg:((w.alloc o).drew).grownBy w' (Value.slice (some ⟨w.heap.size,0,none⟩) n c).ownBlock):Below w.heap.size w w':=
 (((Ji _ _).alloc (Jh _) o).drew).grown hg (by simp) (λk hk=>by cases hk;exact Jh _)
theorem zQ{w w':World}{o:Obj}{n c:Nat}(hg:(w.alloc o).grownBy w' (Value.slice (some ⟨w.heap.size,0,none⟩) n c).ownBlock):Below w.heap.size w w':=
 ((Ji _ _).alloc (Jh _) o).grown hg (by simp) (λk hk=>by cases hk;exact Jh _)
theorem FO{A A':Option Addr}{n c n' c' b h:Nat}(hA:∀ad,A=some ad->b<=ad.block)(hh:b<=h)(hat:(Value.slice A' n' c').ownBlock=(Value.slice A n c).ownBlock\/(Value.slice A' n' c').ownBlock=some h):∀ad,A'=some ad->b<=ad.block:=by
 rintro ad rfl;rcases hat with e|e
 .cases A with
  |none=>cases e
  |some x=>
   have:ad.block=x.block:=by simpa[Value.ownBlock] using e
   rw[this];exact hA x rfl
 .have:ad.block=h:=by simpa[Value.ownBlock] using e
  omega
theorem C2{A:Option Addr}{n c b k:Nat}(hA:∀ad,A=some ad->b<=ad.block)(hk:(Value.slice A n c).ownBlock=some k):b<=k:=by
 cases A with
 |none=>cases hk
 |some x=>have:x.block=k:=by simpa[Value.ownBlock] using hk
          rw[<-this];exact hA x rfl
theorem Gf{w w':World}{B:Nat}{e:TypeId}{A:Option Addr}{n cp k:Nat}{flat:List Value}(h:w.ownsRow B e 9 (.slice A n cp) n flat)(hk:k<=n)(hh:∀b,b<w.heap.size->w'.heap[b]? =w.heap[b]?):Src w' A k cp (flat.take (k*9)):=by
 have hl:=ai h;have hfl:=h.1;cases A with
 |none=>
  obtain⟨rfl,rfl⟩:=hl.2.2.1 rfl;obtain rfl:k=0:=by omega
  exact .inl ⟨rfl,rfl,rfl,by simp⟩
 |some ad=>
  obtain⟨g,rfl,hg1,hg2⟩:=hl.2.2.2 ad rfl;refine .inr ⟨_,rfl,λj u hu=>?_⟩;rw[KN] at hu;split at hu
  .rw[Nn,JI,Ka (w:=w) (hh g hg2)];exact ax h _ _ hu
  .cases hu
theorem Hr{w w':World}{B:Nat}{e:TypeId}{size:Nat}{A:Option Addr}{n cp:Nat}{flat:List Value}(h:w.ownsRow B e size (.slice A n cp) n flat)(hh:∀b,b<w.heap.size->w'.heap[b]? =w.heap[b]?):Src w' A n cp flat:=by
 have hl:=ai h;cases A with
 |none=>
  obtain⟨rfl,rfl⟩:=hl.2.2.1 rfl;exact .inl ⟨rfl,rfl,rfl,K6 (by have:=h.1;omega)⟩
 |some ad=>
  obtain⟨g,rfl,hg1,hg2⟩:=hl.2.2.2 ad rfl;refine .inr ⟨_,rfl,λj u hu=>?_⟩;rw[Nn,JI,Ka (w:=w) (hh g hg2)];exact ax h _ _ hu
def IX(rb:Nat)(s:ByteArray)(d:Nat)(rv:Ps.R Vl)(m:List Js.Mem)(w wr:World):Prop:=
 ∃A cp,bo rb s (d+1) wr rv/\iG wr (w.heap.size+2) A cp m/\Blk wr w.heap.size 31 ag/\Blk wr (w.heap.size+1) 31 (pR (.slice A m.length cp))/\ak rb w wr
theorem FV{rb:Nat}{s:ByteArray}{d:Nat}{rv:Ps.R Vl}{acc m:List Js.Mem}{w wc w15:World}{A A3:Option Addr}{cp c3:Nat}(hrb:rb<w.heap.size)(hS:ak rb w wc)(hz:Blk wc w.heap.size 31 ag)(hv:Blk wc (w.heap.size+1) 31 (pR (.slice A acc.length cp)))
  (hA:bo rb s (d+1) wc rv) (hb:Below wc.heap.size wc w15) (hrow:iG w15 (w.heap.size+2) A3 c3 m):IX rb s d rv m w (w15.setCell ⟨w.heap.size+1,7,none⟩ (.slice A3 m.length c3)):=by
 have hset:∀k,k≠w.heap.size+1->(w15.setCell ⟨w.heap.size+1,7,none⟩ (.slice A3 m.length c3)).heap[k]? =w15.heap[k]? :=λk hk=>JG _ _ _ _ hk;have hvl:=hv.lt;refine⟨A3,c3,hA.far ?_,hrow.keep (λk hk _=>hset k (by omega)),(hset _ (by omega)).trans (hz.on hb),?_,?_⟩
 .rw[hset _ (by omega),hb.block _ (by omega)]
 .exact Blk.ei (l:=[.int .i64 5,.bool false,.bool false,.string ⟨#[]⟩,.int .i64 0,.string ⟨#[]⟩,.slice none 0 0,.slice A acc.length cp]) (hv.on hb) 7 _
 .have h2:=hS.trans (.aJ hb);refine⟨h2.os,h2.tape,h2.output,by simpa[World.setCell] using h2.size,λk hk hr=>by rw[hset _ (by omega)];exact h2.block k hk hr⟩
theorem Ge{w w':World}{B:Nat}{e:TypeId}{A AJ:Option Addr}{n cp k:Nat}{flat:List Value}(h:w.ownsRow B e 9 (.slice A n cp) n flat)(hk:k<=n)(hA:(if cp=k then A else Option.map (λx=>x.add (k*9)) A)=AJ)(hh:∀b,b<w.heap.size->w'.heap[b]? =w.heap[b]?):Src w' AJ (n-k) (cp-k) (flat.drop (k*9)):=by
 have hl:=ai h;have hfl:=h.1;cases A with
 |none=>
  obtain⟨rfl,rfl⟩:=hl.2.2.1 rfl;obtain rfl:k=0:=by omega
  rw[Jo rfl] at hA;subst hA;exact .inl ⟨rfl,rfl,rfl,K6 (by rw[JJ,hfl])⟩
 |some ad=>
  obtain⟨g,rfl,hg1,hg2⟩:=hl.2.2.2 ad rfl;by_cases hc:cp=k
  .rw[Jo hc] at hA;subst hA;refine .inr ⟨_,rfl,λj u hu=>?_⟩;have:=(Jm.1 hu).1;rw[JJ,hfl] at this;have:=hl.1;omega
  .rw[Jj hc] at hA;subst hA;refine .inr ⟨_,rfl,λj u hu=>?_⟩;rw[Kf] at hu;have e1:((⟨g,0,none⟩:Addr).add (k*9)).add j=⟨g,k*9+j,none⟩:=by rw[Nn,Nn];simp
   rw[e1,Ka (w:=w) (hh g hg2)];exact ax h _ _ hu
def gP(vb xb:Nat)(mv c0 c1 c2 c3 c4 c5 c6 c7:Value)(w w':World):Prop:=
 (w'.cell? ⟨xb,0,none⟩=some c0/\w'.cell? ⟨xb,1,none⟩=some c1/\w'.cell? ⟨xb,2,none⟩=some c2/\w'.cell? ⟨xb,3,none⟩=some c3/\w'.cell? ⟨xb,4,none⟩=some c4/\w'.cell? ⟨xb,5,none⟩=some c5/\w'.cell? ⟨xb,6,none⟩=some c6/\w'.cell? ⟨xb,7,none⟩=some c7)/\
  w'.cell? ⟨vb,7,none⟩=some mv/\Below w.heap.size w w'
theorem gP.on{vb xb:Nat}{mv c0 c1 c2 c3 c4 c5 c6 c7:Value}{w W w1:World}(h:gP vb xb mv c0 c1 c2 c3 c4 c5 c6 c7 w W)(hb:Below W.heap.size W w1):gP vb xb mv c0 c1 c2 c3 c4 c5 c6 c7 w w1:=by
 obtain⟨⟨h0,h1,h2,h3,h4,h5,h6,h7⟩,h8,h9⟩:=h;have hc:∀b i v,W.cell? ⟨b,i,none⟩=some v->w1.cell? ⟨b,i,none⟩=some v:=λb i v h=>(hb.cell (p:=⟨b,i,none⟩) (Jn W _ h)).trans h;exact⟨⟨hc _ _ _ h0,hc _ _ _ h1,hc _ _ _ h2,hc _ _ _ h3,hc _ _ _ h4,hc _ _ _ h5,hc _ _ _ h6,hc _ _ _ h7⟩,hc _ _ _ h8,h9.trans (hb.mono h9.size)⟩
theorem gP.drew{vb xb:Nat}{mv c0 c1 c2 c3 c4 c5 c6 c7:Value}{w W:World}(h:gP vb xb mv c0 c1 c2 c3 c4 c5 c6 c7 w W):gP vb xb mv c0 c1 c2 c3 c4 c5 c6 c7 w W.drew:=⟨h.1,h.2.1,h.2.2.drew⟩
theorem gP.alloc{vb xb:Nat}{mv c0 c1 c2 c3 c4 c5 c6 c7:Value}{w W:World}(h:gP vb xb mv c0 c1 c2 c3 c4 c5 c6 c7 w W)(o:Obj):gP vb xb mv c0 c1 c2 c3 c4 c5 c6 c7 w (W.alloc o):=h.on ((Ji _ _).alloc (Jh _) _)
theorem yj{rb:Nat}{s:ByteArray}{a:Nat}{c:UInt8}{u:Jd}{d:Nat}{w:World}(f:Nat)(HVC:∀f',f'<=f->VC f')(h:Rd w rb s a (c::u) d)(hs0:s.size<=100000)(hdl:d<32)(hh:¬(Ps.skip u).head?=some 125)(hf:3*u.length+3<=f+1):
  Calls Tryz.prog 51 #[.pointer (some ⟨rb,0,none⟩)] w (eR rb s d (Ps.obj (f+1) d u) w):=by
 have hs:s.size<=1000000:=by omega
 have HO:=Jf (ly (h.on (fD w)) hs (by omega));have hrb:=h.lt;have hus:u.length<=1000000:=by have:=h.2.1;simp only[Jl] at this;omega
 have HRQ:=Jf (show Ps.obj (f+1) d u=Ps.ee f (d+1) (Ps.skip u) [] from by unfold Ps.obj;rw[Jj (by omega),Jj hh]);have HZ:=Jf ((Blk.new w 31 ag).alloc (.cells (pR (.slice none 0 0)) 31));have HV:=Jf (Blk.cW w (.cells ag 31) 31 (pR (.slice none 0 0)));have HB:=Jf (fD w);have HH:=Jf hh;have HVC':=Jf HVC;have hskl:=Ps.aC u;clear h hh HVC;rw[HRQ.out];generalize hRR:Ps.ee f (d+1) (Ps.skip u) []=R;have HRR:=Jf hRR;clear HRQ hRR;go_enter Tryz.func51,Tryz.ntmps51;go_wp2_with fail;refine HO.out.mono ?_;rintro e w2 ⟨rfl,hRB,hS⟩;rw[Jj (by omega)] at hRB;obtain⟨a2,hR2⟩:=hRB;have HR2:=Jf hR2;have HS:=Jf ((ak.aJ HB.out).trans hS);have HZ2:=Jf (hS.blk HZ.out (by omega));have HV2:=Jf (hS.blk HV.out (by omega));clear hR2 hS;go_wp2_with fail
 go_loopg [4,5,6,7,8,9,10] (Ps.skip u).length (λk _ _ _ _ _ _ _ wr=>Ia rb s u d f R w k wr)
 case atStart=>exact⟨a2,Ps.skip u,none,0,[],f,HR2.out,rfl,by simpa using hskl,by omega,Jh _,HRR.out,λ_=>HH.out,iG.nil _ _,HZ2.out,HV2.out,HS.out⟩
 case round=>
  obtain⟨a1,t,A,cp,acc,f',hR,hk,hal,hf1,hf2,hel,hne,hrow,hz,hv,hW⟩:=hrel;obtain⟨f',rfl⟩:∃f0,f'=f0+1:=⟨f'-1,by omega⟩;have HK:=Jf hk;have HEL:=Jf hel;have HR:=Jf hR;have HROW:=Jf hrow;have hal2:acc.length<=1000000:=by omega
  have HZ3:=Jf hz;have HV3:=Jf hv;have HW:=Jf hW;have HP:=Jf (bS hR (by omega));have hv7:=hv.cell 7;obtain⟨c0,c1,c2,c3,c4⟩:=hR.1.cJ;have hwl:=hv.lt;have hcond:((hd t:Int) !=125)=true\/(((hd t:Int) !=125)=false/\decide (0<acc.length)=true):=by
   by_cases e:t.head?=some 125
   .exact .inr ⟨Hy e,by
     cases acc with
     |nil=>exact absurd e (hne rfl)
     |cons x l=>simp⟩
   .exact .inl (BK e)
  have HBL:=Jf (λn=>dP (HR.out.drewN n) (show s.size<=1000000000000 by omega));clear hel hR hrow hz hv hW hne hk;generalize hd t=q at HP hcond;go_upto_region 3 with(fail);go_cut [29] from 14 to 98 (λb wc=>b=.bool true/\∃n,wc=wr.drewN n);case first=>
   rcases hcond with q1|⟨q1,q2⟩;all_goals
    go_wp2_with fail;refine HP.out.mono ?_;rintro e w3 ⟨rfl,n,rfl⟩;go_wp2_with fail
    go_meet
    case rel=>exact⟨rfl,n,rfl⟩
  case rest=>
   obtain⟨rfl,n,rfl⟩:=hcut;clear hcond HP hv7;go_wp2_with fail;refine(HBL.out n).mono ?_;rintro e w3 ⟨rfl,⟨a3,hR3⟩,hS3⟩;have HS3:=Jf ((HW.out.drewN n).trans hS3);have HZ4:=Jf (show Blk w3 w.heap.size 31 ag from hS3.blk HZ3.out (by omega));have HV4:=Jf (show Blk w3 (w.heap.size+1) 31 (pR (.slice A acc.length cp)) from hS3.blk HV3.out (by omega));have HROW3:=Jf (show iG w3 (w.heap.size+2) A cp acc from HROW.out.keep (λk hk hlt=>hS3.block k hlt (by omega)));have HT:=Jf (Cj hR3 hs);have hal3:=hR3.2.1;have HA3:=Jf hal3;clear c0 c1 c2 c3 c4;obtain⟨c0,c1,c2,c3,c4⟩:=hR3.1.cJ;clear hR3 hS3 hal3;go_wp2_with fail;refine HT.out.mono ?_;rintro e w4 ⟨key,rfl,hkey,hA4,hS4⟩;have HKEY:=Jf hkey;have HA4:=Jf hA4;have HS4:=Jf (HS3.out.trans hS4);have HZ5:=Jf (hS4.blk HZ4.out (by omega));have HV5:=Jf (hS4.blk HV4.out (by omega));have HROW4:=Jf (HROW3.out.keep (λk hk hlt=>hS4.block k hlt (by omega)));clear c0 c1 c2 c3 c4 hkey hA4 hS4;obtain⟨v0,v1,v2,v3,v4,v5,v6,v7⟩:=HV5.out.eight;have HFI:=Jf (yu (Ps.mkO acc) key _ w4 (In.keep (xS _ _) _ _ (HROW4.out.in_ (Jh _))));go_wp2_with fail;refine HFI.out.mono ?_;rintro e w5 ⟨x,rfl,hx,hb5⟩;obtain⟨k1,b1,n1,g1,x1,s1,A1,l1,p1,B1,m1,d1,rfl⟩:=In.cells hx;have hfk:(Ps.mkO acc).find key=Js.find acc key:=by simp[Vl.find]
   rw[hfk];generalize hb:(Js.find acc key).isSome=b;have HBE:=Jf hb;have h56:Below w4.heap.size w4 (w5.alloc (.cells #[.int .i64 k1,b1,n1,g1,.int .i64 x1,s1,.slice A1 l1 p1,.slice B1 m1 d1] 31)):=hb5.alloc hb5.size _;have HA6:=Jf (HA4.out.far (h56.block rb (by have:=HS4.out.size;omega)));have HS6:=Jf (HS4.out.trans (.aJ h56));have HZ6:=Jf (HZ5.out.on h56);have HV6:=Jf (HV5.out.on h56);have HROW6:=Jf (HROW4.out.keep (λk hk hlt=>h56.block k hlt));clear hfk hb hx hb5 h56 v0 v1 v2 v3 v4 v5 v6 v7;go_upto_if 44 with(fail)
   go_cut [] from 14 to 98 (λwc=>Keyed rb s d (js b (Ps.skip t).length (Ps.bn (Ps.skip t))) A cp acc w wc);case first=>
    cases b with
    |true=>
     go_wp2_with fail;refine(Fc HA6.out a3 (Ps.skip t).length HA3.out).mono ?_;rintro e w7 ⟨rfl,hA7,hS7⟩;have HF:=Jf (show Keyed rb s d (js true (Ps.skip t).length (Ps.bn (Ps.skip t))) A cp acc w w7 from⟨hA7,HROW6.out.keep (λk hk hlt=>hS7.block k hlt (by omega)),hS7.blk HZ6.out (by omega),hS7.blk HV6.out (by omega),HS6.out.trans hS7⟩);clear hA7 hS7;go_wp2_with fail
     go_meet
     case rel=>exact HF.out
    |false=>
     have HF:=Jf (show Keyed rb s d (js false (Ps.skip t).length (Ps.bn (Ps.skip t))) A cp acc w _ from⟨by rw[Gl];exact HA6.out,HROW6.out,HZ6.out,HV6.out,HS6.out⟩);go_wp2_with fail
     go_meet
     case rel=>exact HF.out
   case rest=>
    obtain⟨hA,hrow,hz,hv,hS⟩:=hcut;have he:=HEL.out;rw[Hd f' (d+1) t acc key HKEY.out,HBE.out] at he;have HE:=Jf he;have HLEN:=Jf (xV t b);have HROW7:=Jf hrow;have HZ7:=Jf hz;have HV7:=Jf hv;have HS7:=Jf hS;have HBA:=Jf (cQ hA (show s.size<=1000000000000 by omega));clear he hA hrow hz hv hS;go_wp2_with fail;refine HBA.out.mono ?_;rintro e w8 ⟨rfl,hA8,hS8⟩;have HW8:=Jf (iC hA8 (show s.size<=1000000000000 by omega) ⟨#[58]⟩ (by decide) (by decide));have HS8:=Jf hS8;clear hA8 hS8;go_wp2_with fail;refine HW8.out.mono ?_;rintro e w9 ⟨rfl,hA9,hS9⟩;have HS9:=Jf (HS8.out.trans hS9);have HVA:=Jf (Eb (HVC'.out f' (by omega)) hA9 hs0 (by omega) (λv u e=>by have:=HLEN.out v u e;omega));clear hA9 hS9;go_wp2_with fail;refine HVA.out.mono ?_;rintro e w10 ⟨v,x,rfl,hin,hS10,hv10,hA10⟩;obtain⟨k1,b1,n1,g1,x1,s1,A1,l1,p1,B1,m1,d1,rfl⟩:=In.cells hin;have h9z:=HS9.out.size;have hw11:Below w10.heap.size w10 (w10.alloc (.cells #[.int .i64 k1,b1,n1,g1,.int .i64 x1,s1,.slice A1 l1 p1,.slice B1 m1 d1] 31)):=(Ji _ _).alloc (Jh _) _;have hS11:=hS10.trans (.aJ hw11);have HX11:=Jf (Blk.new w10 31 #[.int .i64 k1,b1,n1,g1,.int .i64 x1,s1,.slice A1 l1 p1,.slice B1 m1 d1]);have HIN11:=Jf (show v.In ((w10.alloc (.cells #[.int .i64 k1,b1,n1,g1,.int .i64 x1,s1,.slice A1 l1 p1,.slice B1 m1 d1] 31)).on (w.heap.size+2<=·)) (vlV k1 b1 n1 g1 x1 s1 (.slice A1 l1 p1) (.slice B1 m1 d1)) from In.keep (λp y hp=>by
     obtain⟨e1,e2⟩:=ah.1 hp;have hl7:=HV7.out.lt;have hl8:=HS8.out.size;exact ah.2 ⟨by have:=hS10.size;omega,by rw[ME _ _ _ (Jn w10 _ e2)];exact e2⟩) _ _ hin)
    have HS11:=Jf (HS7.out.trans (HS9.out.trans hS11));have HV11:=Jf ((HS9.out.trans hS11).blk HV7.out (by omega));have HZ11:=Jf ((HS9.out.trans hS11).blk HZ7.out (by omega));have HROW11:=Jf (HROW7.out.keep (λk hk hlt=>(HS9.out.trans hS11).block k hlt (by omega)));have HA11:=Jf (hA10.far (hw11.block rb (by have:=hS10.size;have:=HS9.out.size;have:=HS7.out.size;omega)));have HV10:=Jf hv10;have hxb:w.heap.size+2<=w10.heap.size:=by have:=HV7.out.lt;have:=(HS9.out.trans hS10).size;omega
    clear hin hS10 hv10 hA10 hw11 hS11 h9z;go_wp2_with fail;generalize w10.alloc (.cells #[.int .i64 k1,b1,n1,g1,.int .i64 x1,s1,.slice A1 l1 p1,.slice B1 m1 d1] 31)=w11 at*
    generalize w10.heap.size=xb at*
    obtain⟨n0,hn0⟩:∃n0,n0=(acc.takeWhile (Ps.less key)).length:=⟨_,rfl⟩;have hn0l:n0<=acc.length:=by rw[hn0];exact(Lm _).length_le
    have HN0:=Jf hn0;clear hn0;have hv7:=HV11.out.cell 7;have hvl:=HV11.out.lt
    go_loop [9] (λi=>∃j:Nat,j<=n0/\i=.int .i64 j) (λi=>n0-(intOf i).toNat)
    case atStart=>exact⟨0,JE _,rfl⟩
    case round=>
     obtain⟨j,hj,rfl⟩:=hrel;obtain⟨flat,hown,hone,hel⟩:=HROW11.out;have hole:=ai hown;have HOWN:=Jf hown;have HONE:=Jf hone;have HELS:=Jf hel;have hcp1:=hole.1;have hcp2:=hole.2.1;unfold maxLen at hcp2;have HNIL:=Jf hole.2.2.1;have HAD:=Jf hole.2.2.2;clear hown hone hel hole;by_cases hjn:j<n0
     .obtain⟨g,rfl,hg1,hg2⟩:∃g,A=some ⟨g,0,none⟩/\w.heap.size+2<=g/\g<w11.heap.size:=by
       cases A with
       |none=>have:=(HNIL.out rfl).1;omega
       |some ad=>obtain⟨g,rfl,h1,h2⟩:=HAD.out ad rfl;exact⟨g,rfl,h1,h2⟩
      have hp:=Jg (show j<acc.length by omega);have hc:=ax HOWN.out _ _ (HELS.out j _ hp).1;have hless:Op.bytesLess acc[j].1 key=true:=by
       rw[Nm.eN];have hm:acc[j]∈acc.takeWhile (Ps.less key):=by
        have e:=pJ (Kc (p:=Ps.less key) (l:=acc));rw[<-e,<-HN0.out];exact List.mem_take_iff_getElem.2 ⟨j,by omega,rfl⟩
       exact K5 (Ps.lG hm)
      have hjl:j<acc.length:=by omega
      clear hp;generalize acc[j].1=kj at hc hless;go_wp2_with fail
      go_round
      case rel=>exact⟨j+1,by omega,by go_num⟩
      case measure=>simp[intOf];omega
     .obtain rfl:j=n0:=by omega
      have hstop:decide (j<acc.length)=false\/(decide (j<acc.length)=true/\∃g,∃kj:Jd,A=some ⟨g,0,none⟩/\w11.cell? ⟨g,j*9,none⟩=some (.string ⟨kj.toArray⟩)/\Op.bytesLess kj key=false):=by
       by_cases hjl:j<acc.length
       .right
        refine⟨by simpa using hjl,?_⟩;obtain⟨g,rfl,hg1,hg2⟩:∃g,A=some ⟨g,0,none⟩/\w.heap.size+2<=g/\g<w11.heap.size:=by
         cases A with
         |none=>have:=(HNIL.out rfl).1;omega
         |some ad=>obtain⟨g,rfl,h1,h2⟩:=HAD.out ad rfl;exact⟨g,rfl,h1,h2⟩
        have hp:=Jg hjl;refine⟨g,_,rfl,ax HOWN.out _ _ (HELS.out j _ hp).1,?_⟩;rw[Nm.eN];exact JV (FR HN0.out hp)
       .left;simpa using hjl
      go_upto_region 14 with(fail);go_cut [68] from 54 to 70 (λb wc=>b=.bool false/\wc=w11);case first=>
       rcases hstop with q1|⟨q1,g,kj,rfl,q2,q3⟩
       .go_wp2_with fail
        go_meet
        case rel=>exact⟨rfl,rfl⟩
       .have hjl:j<acc.length:=by simpa using q1
        go_wp2_with fail
        go_meet
        case rel=>exact⟨rfl,rfl⟩
      case rest=>
       obtain⟨rfl,rfl⟩:=hcut;clear hstop;obtain⟨z0,z1,z2,z3,z4,z5,z6,z7⟩:=HX11.out.eight;have hxl:=HX11.out.lt;go_wp2_with fail;obtain⟨i0,hi0,hz0,hz1,hz2⟩:=Fs;obtain⟨AJ,hAJ⟩:∃AJ,(if cp=j then A else Option.map (λx=>x.add (j*9)) A)=AJ:=⟨_,rfl⟩;have hfl:=HOWN.out.1;have HDL:=Jf (show(flat.drop (j*9)).length=(acc.length-j)*9 by rw[JJ,hfl];omega);have HD1:=Jf (show∀u∈flat.drop (j*9),u.oneCell'=true fromλu hu=>HONE.out u (Lw hu));have HOWND:=Jf (show((wc.alloc (.cells #[key,.int .i64 k1,b1,n1,g1,.int .i64 x1,s1,.slice A1 l1 p1,.slice B1 m1 d1] 95)).drew).ownsRow (w.heap.size+2) 95 9 (.slice (some ⟨wc.heap.size,0,none⟩) 1 1) 1 [.string ⟨key.toArray⟩,.int .i64 k1,.bool b1,.bool n1,.string ⟨g1.toArray⟩,.int .i64 x1,.string ⟨s1.toArray⟩,.slice A1 l1 p1,.slice B1 m1 d1] from Kv wc #[key,.int .i64 k1,b1,n1,g1,.int .i64 x1,s1,.slice A1 l1 p1,.slice B1 m1 d1] 1 (by omega) (by unfold maxLen;omega) rfl);have HSRC:=Jf (show Src ((wc.alloc (.cells #[key,.int .i64 k1,b1,n1,g1,.int .i64 x1,s1,.slice A1 l1 p1,.slice B1 m1 d1] 95)).drew) AJ (acc.length-j) (cp-j) (flat.drop (j*9)) from Ge HOWN.out hn0l hAJ (λk hk=>LA _ _ _ hk));clear hfl;have HF0:=Jf (show gP (w.heap.size+1) xb (.slice A acc.length cp) (.int .i64 k1) (.bool b1) (.bool n1) (.string ⟨g1.toArray⟩) (.int .i64 x1) (.string ⟨s1.toArray⟩) (.slice A1 l1 p1) (.slice B1 m1 d1) wc wc from⟨⟨z0,z1,z2,z3,z4,z5,z6,z7⟩,hv7,Ji _ _⟩);have HF:=Jf (show gP (w.heap.size+1) xb (.slice A acc.length cp) (.int .i64 k1) (.bool b1) (.bool n1) (.string ⟨g1.toArray⟩) (.int .i64 x1) (.string ⟨s1.toArray⟩) (.slice A1 l1 p1) (.slice B1 m1 d1) wc wc.drew from⟨⟨z0,z1,z2,z3,z4,z5,z6,z7⟩,hv7,(Ji _ _).drew⟩)
       go_region_held3 (λw'=>(w'.cell? ⟨xb,0,none⟩=some (.int .i64 k1)/\w'.cell? ⟨xb,1,none⟩=some (.bool b1)/\w'.cell? ⟨xb,2,none⟩=some (.bool n1)/\w'.cell? ⟨xb,3,none⟩=some (.string ⟨g1.toArray⟩)/\w'.cell? ⟨xb,4,none⟩=some (.int .i64 x1)/\w'.cell? ⟨xb,5,none⟩=some (.string ⟨s1.toArray⟩)/\w'.cell? ⟨xb,6,none⟩=some (.slice A1 l1 p1)/\w'.cell? ⟨xb,7,none⟩=some (.slice B1 m1 d1))/\w'.cell? ⟨w.heap.size+1,7,none⟩=some (.slice A acc.length cp)/\Below wc.heap.size wc w')
        ((show gP (w.heap.size+1) xb (.slice A acc.length cp) (.int .i64 k1) (.bool b1) (.bool n1) (.string ⟨g1.toArray⟩) (.int .i64 x1) (.string ⟨s1.toArray⟩) (.slice A1 l1 p1) (.slice B1 m1 d1) wc _;first|(with_reducible exact ht)|(with_reducible exact HF.out)|(with_reducible exact gP.drew (gP.alloc HF0.out _))))
        (first|(refine dD _ (by rfl) _ _ _ (by rfl) (w.heap.size+2) 95 i0 _ 9 128 Tryz.underlying29 hi0 hz0 hz1 hz2 rfl (by omega) (.slice (some ⟨wc.heap.size,0,none⟩) 1 1) 1 [.string ⟨key.toArray⟩,.int .i64 k1,.bool b1,.bool n1,.string ⟨g1.toArray⟩,.int .i64 x1,.string ⟨s1.toArray⟩,.slice A1 l1 p1,.slice B1 m1 d1] (by rfl) HOWND.out AJ (acc.length-j) (cp-j) (flat.drop (j*9)) (by rfl) HDL.out HSRC.out HD1.out (by unfold maxLen;omega) (by omega) (by simp;omega) (1+(acc.length-j)) rfl ?_;intro A' c' w12 hown12 hg12 hat12;have hbl12:=CW hg12;have ht:=gP.on HF0.out hbl12;have HOWN12:=Jf hown12;have HAT12:=Jf hat12;clear hown12 hg12 hat12 hbl12))
       obtain⟨y1,y7,hbl12⟩:=ht;have hb12z:=hbl12.size;have HB12:=Jf hbl12;have hvb12:=HV11.out.on hbl12;have q7:=hvb12.cell 7;have ql:=hvb12.lt;have hadd0:Option.map (λx:Addr=>x.add 0) A=A:=by cases A<;>simp[Addr.add]
       have HOWNE:=Jf (show(w12.alloc (.cells #[] 95)).ownsRow (w.heap.size+2) 95 9 (.slice (some ⟨w12.heap.size,0,none⟩) 0 0) 0 [] from Kv w12 #[] 0 (by omega) (by unfold maxLen;omega) rfl);have HTL:=Jf (show(flat.take (j*9)).length=j*9 by rw[JL,HOWN.out.1];omega);have HD2:=Jf (show∀u∈flat.take (j*9),u.oneCell'=true fromλu hu=>HONE.out u (KG hu));have HSRC2:=Jf (show Src (w12.alloc (.cells #[] 95)) A j cp (flat.take (j*9)) from Gf HOWN.out hn0l (λk hk=>(LA _ _ _ (by omega)).trans (hbl12.block k hk)));have HL3:=Jf (show(([.string ⟨key.toArray⟩,.int .i64 k1,.bool b1,.bool n1,.string ⟨g1.toArray⟩,.int .i64 x1,.string ⟨s1.toArray⟩,.slice A1 l1 p1,.slice B1 m1 d1]:List Value)++flat.drop (j*9)).length=(1+(acc.length-j))*9 by rw[Jk,HDL.out];simp;omega);have HD3:=Jf (show∀u∈([.string ⟨key.toArray⟩,.int .i64 k1,.bool b1,.bool n1,.string ⟨g1.toArray⟩,.int .i64 x1,.string ⟨s1.toArray⟩,.slice A1 l1 p1,.slice B1 m1 d1]:List Value)++flat.drop (j*9),u.oneCell'=true fromλu hu=>(Jq.1 hu).elim (λh=>by simp at h;rcases h with rfl|rfl|rfl|rfl|rfl|rfl|rfl|rfl|rfl<;>rfl) (HD1.out u));clear y1 y7 hbl12 hvb12;go_wp2_with (first
        |(at_builtin;refine aP _ rfl _ _ _ rfl (w.heap.size+2) 95 i0 _ 9 128 Tryz.underlying29 hi0 hz0 hz1 hz2 rfl (by omega) (.slice (some ⟨w12.heap.size,0,none⟩) 0 0) 0 [] rfl HOWNE.out A j cp (flat.take (j*9)) rfl HTL.out HSRC2.out HD2.out (by unfold maxLen;omega) (by omega) (by simp;omega) j (by omega) ?_;intro A2 c2 w14 hown14 hg14 hat14;have hb14:=zQ hg14;have hnew14:=FO (b:=w12.heap.size) (λad e=>by cases e;exact Jh _) (by simp) hat14;have HSRC3:=Jf (Hr HOWN12.out (w':=w14) (λk hk=>hb14.block k hk));have HOWN14:=Jf hown14;have HB14:=Jf hb14;have HNEW14:=Jf hnew14;have hz14:=hb14.size;clear hown14 hg14 hat14 hb14 hnew14)
        |(at_builtin;refine aP _ rfl _ _ _ rfl (w.heap.size+2) 95 i0 _ 9 128 Tryz.underlying29 hi0 hz0 hz1 hz2 rfl (by omega) (.slice A2 j c2) j _ rfl HOWN14.out A' (1+(acc.length-j)) c' _ rfl HL3.out HSRC3.out HD3.out (by unfold maxLen;omega) (by omega) (by omega) (acc.length+1) (by omega) ?_;intro A3 c3 w15 hown15 hg15 hat15;have hb15:=HB14.out.grown hg15 (by omega) (λk hk=>C2 HNEW14.out hk);have hnew15:=FO HNEW14.out hz14 hat15;have HOWN15:=Jf hown15;have HB15:=Jf (HB12.out.trans (hb15.mono hb12z));have HNEW15:=Jf hnew15;have hvb15:=HV11.out.on HB15.out;have r7:=hvb15.cell 7;have rf:=hvb15.frozen;clear hown15 hg15 hat15 hb15 hnew15 hvb15))
       have hc1:∀u∈(#[.int .i64 k1,b1,n1,g1,.int .i64 x1,s1,.slice A1 l1 p1,.slice B1 m1 d1]:Array Value).toList,u.oneCell'=true:=λu h=>by simp at h;rcases h with rfl|rfl|rfl|rfl|rfl|rfl|rfl|rfl<;>rfl
       have hrow15:=iG.ins (k:=j) HOWN.out HONE.out HELS.out HIN11.out rfl hc1 (λk hk hlt=>HB15.out.block k hlt) HN0.out HOWN15.out (λad e=>JA hb12z (HNEW15.out ad e));obtain⟨acc',hacc⟩:∃acc',Ps.ins acc key v=acc':=⟨_,rfl⟩;rw[hacc] at hrow15;have hacl:acc'.length=acc.length+1:=by rw[<-hacc,Ps.qX]
       have hobj:=FV hrb HS11.out HZ11.out HV11.out HA11.out HB15.out hrow15;rw[hacl] at hobj;have HACL:=Jf hacl;have HACC:=Jf hacc;clear hc1 hrow15 hacl hacc r7 rf q7 ql z0 z1 z2 z3 z4 z5 z6 z7 hadd0 hAJ hv7;generalize w15.setCell ⟨w.heap.size+1,7,none⟩ (.slice A3 (acc.length+1) c3)=w16 at hobj ⊢;obtain⟨A4,cp4,hA',hrow',hz',hv8',hS'⟩:=hobj;have HA':=Jf (show bo rb s (d+1) w16 (Da f' (d+1) t b) from hA');have HROW':=Jf hrow';have HZ':=Jf hz';have HV8:=Jf hv8';have HS':=Jf hS';have he:=HE.out;clear hA' hrow' hz' hS';obtain⟨v0,v1,v2,v3,v4,v5,v6,v7⟩:=hv8'.eight;have hrb2:rb<w.heap.size+2:=by omega
       cases hrv:Da f' (d+1) t b with
       |bad c l=>
        rw[hrv] at he HA';simp only at he;have HRQ:=Jf (show R=(eJ (Ps.R.bad (α:=Unit) c l) (Ps.lit [125])).map (λ_=>Ps.mkO acc')/\∀r:Ps.R Unit,∀v0 u,r.map (λ_=>Ps.mkO acc')=.ok v0 u->Ps.mkO acc'=v0 from⟨he.symm,λr=>jY r _⟩);have HPB:=Jf (iu HA'.out);clear he hrv hv8';go_wp2_with fail;refine HPB.out.mono ?_;rintro e w17 ⟨rfl,m,rfl⟩;clear v0 v1 v2 v3 v4 v5 v6 v7;go_wp2_with fail;refine(iC (show bo rb s (d+1) (w16.drewN m) (Ps.R.bad (α:=Unit) c l) from HA'.out) (by omega) ⟨#[125]⟩ (by decide) (by decide)).mono ?_;rintro e w4 ⟨rfl,hA4,hS4⟩;have HA4:=Jf hA4;have HS4:=Jf ((HS'.out.drewN m).trans hS4);have HZ4:=Jf (hS4.blk HZ'.out (by omega));have HV4:=Jf (hS4.blk HV8.out (by omega));have HROW4:=Jf ((show iG (w16.drewN m) (w.heap.size+2) A4 cp4 acc' from HROW'.out).keep (λk hk hlt=>hS4.block k hlt (by omega)));clear hA4 hS4;obtain⟨a4,d4,b4,p4,hB4,hA5⟩:=HA4.out.up (by omega);obtain⟨z0,z1,z2,z3,z4,z5,z6,z7⟩:=HZ4.out.eight;obtain⟨v0,v1,v2,v3,v4,v5,v6,v7⟩:=HV4.out.eight;have zf:=HZ4.out.frozen;have vf:=HV4.out.frozen;obtain⟨c0,c1,c2,c3,c4⟩:=hB4.cJ;have hf:=hB4.frozen;have HA5:=Jf hA5;clear hB4 hA5;go_wp2_with fail;have hfin:=bu (v:=Ps.mkO acc') (d:=d) hrb (HS4.out.set 2 (.int .i64 (wrap64 (d4-1)))) (ak.blk ((ak.refl rb w4).set 2 (.int .i64 (wrap64 (d4-1)))) HZ4.out (by omega)) ((HROW4.out.keep (λk hk hlt=>((ak.refl rb w4).set 2 (.int .i64 (wrap64 (d4-1)))).block k hlt (by omega))).in_ (KD _)) (HRQ.out.2 _) (HA5.out.map (λ_=>Ps.mkO acc'));refine Ju (aj (l:=[_,_,_,_,_,_,_,_]) rfl _ _ _ rfl hfin.1 Tryz.underlying31 rfl (by kernel_rfl)) rfl ?_;rw[HRQ.out.1];exact hfin.2
       |ok v0' t2=>
        obtain rfl:=HV10.out v0' t2 hrv;rw[hrv] at he HA';simp only at he;rw[HACC.out] at he;obtain⟨a9,hR9⟩:=HA'.out;have HR9:=Jf hR9;have HP9:=Jf (bS hR9 (by omega));have hlen2:=xW f' (d+1) t b (by omega) hrv;by_cases h44:t2.head?=some 44
        .rw[Jo h44] at he;obtain⟨u2,rfl⟩:∃u2,t2=44::u2:=by
          cases t2 with
          |nil=>cases h44
          |cons b u2=>cases h44;exact⟨u2,rfl⟩
         have HE9:=Jf he;have hk44:hd (44::u2)=44:=rfl;rw[hk44] at HP9;simp only[Jl] at hlen2;obtain⟨c0,c1,c2,c3',c4⟩:=hR9.1.cJ;have hf:=hR9.1.frozen;have ha9:a9+(u2.length+1)=s.size:=by simpa using hR9.2.1
         have HST:=Jf (λm=>(HR9.out.drewN m).step);clear he hrv hv8' hR9 h44;go_wp2_with fail;refine HP9.out.mono ?_;rintro e w17 ⟨rfl,m,rfl⟩;go_wp2_with fail
         go_roundg u2.length
         case rel=>
          refine⟨a9+1,u2,A4,cp4,acc',f',HST.out m,rfl,?_,?_,by omega,HE9.out,λe=>by have:=HACL.out;rw[e] at this;simp at this,?_,?_,?_,(HS'.out.drewN m).set _ _⟩
          .have:=HACL.out;omega
          .omega
          .exact HROW'.out.keep (λk hk hlt=>JG _ _ _ _ (by show k≠rb;omega))
          .exact(JG (w16.drewN m) ⟨rb,1,none⟩ _ _ (by show w.heap.size≠rb;omega)).trans HZ'.out
          .exact(JG (w16.drewN m) ⟨rb,1,none⟩ _ _ (by show w.heap.size+1≠rb;omega)).trans HV8.out
         case measure=>have:=HK.out;omega
        .rw[Jj h44] at he;have HRQ:=Jf (show R=(eJ (Ps.R.ok () t2) (Ps.lit [125])).map (λ_=>Ps.mkO acc')/\∀r:Ps.R Unit,∀v0 u,r.map (λ_=>Ps.mkO acc')=.ok v0 u->Ps.mkO acc'=v0 from⟨he.symm,λr=>jY r _⟩);have h1':((hd t2:Int) !=44)=true:=BK h44;clear he hrv hv8' hR9 h44;generalize hd t2=q9 at HP9 h1';go_wp2_with fail;refine HP9.out.mono ?_;rintro e w17 ⟨rfl,m,rfl⟩;clear v0 v1 v2 v3 v4 v5 v6 v7;go_wp2_with fail;refine(iC (show bo rb s (d+1) (w16.drewN m) (Ps.R.ok () t2) from⟨a9,HR9.out⟩) (by omega) ⟨#[125]⟩ (by decide) (by decide)).mono ?_;rintro e w4 ⟨rfl,hA4,hS4⟩;have HA4:=Jf hA4;have HS4:=Jf ((HS'.out.drewN m).trans hS4);have HZ4:=Jf (hS4.blk HZ'.out (by omega));have HV4:=Jf (hS4.blk HV8.out (by omega));have HROW4:=Jf ((show iG (w16.drewN m) (w.heap.size+2) A4 cp4 acc' from HROW'.out).keep (λk hk hlt=>hS4.block k hlt (by omega)));clear hA4 hS4;obtain⟨a4,d4,b4,p4,hB4,hA5⟩:=HA4.out.up (by omega);obtain⟨z0,z1,z2,z3,z4,z5,z6,z7⟩:=HZ4.out.eight;obtain⟨v0,v1,v2,v3,v4,v5,v6,v7⟩:=HV4.out.eight;have zf:=HZ4.out.frozen;have vf:=HV4.out.frozen;obtain⟨c0,c1,c2,c3,c4⟩:=hB4.cJ;have hf:=hB4.frozen;have HA5:=Jf hA5;clear hB4 hA5;go_wp2_with fail;have hfin:=bu (v:=Ps.mkO acc') (d:=d) hrb (HS4.out.set 2 (.int .i64 (wrap64 (d4-1)))) (ak.blk ((ak.refl rb w4).set 2 (.int .i64 (wrap64 (d4-1)))) HZ4.out (by omega)) ((HROW4.out.keep (λk hk hlt=>((ak.refl rb w4).set 2 (.int .i64 (wrap64 (d4-1)))).block k hlt (by omega))).in_ (KD _)) (HRQ.out.2 _) (HA5.out.map (λ_=>Ps.mkO acc'));refine Ju (aj (l:=[_,_,_,_,_,_,_,_]) rfl _ _ _ rfl hfin.1 Tryz.underlying31 rfl (by kernel_rfl)) rfl ?_;rw[HRQ.out.1];exact hfin.2
theorem Dy{rb:Nat}{s:ByteArray}{a:Nat}{c:UInt8}{u:Jd}{d:Nat}{w:World}(f:Nat)(HVC:∀f',f'<=f->VC f')(h:Rd w rb s a (c::u) d)(hs0:s.size<=100000)(hdl:d<=32)(hf:3*u.length+3<=f+1):
  Calls Tryz.prog 51 #[.pointer (some ⟨rb,0,none⟩)] w (eR rb s d (Ps.obj (f+1) d u) w):=by
 have hs:s.size<=1000000:=by omega
 by_cases h32:d=32
 .subst h32;exact yi h hs f
 .by_cases h93:(Ps.skip u).head?=some 125
  .exact vF h hs (by omega) h93 f
  .exact yj f HVC h hs0 (by omega) h93 hf
theorem dX{r:Ps.R Vl}{v:Vl}(h:∀v0 u,r=.ok v0 u->v=v0):∀v0 u,r.bM=.ok v0 u->v=v0:=by
 cases r with
 |ok x t=>intro v0 u e;injection e with e1 e2;rw[<-e1];exact h x t rfl
 |bad c l=>intro v0 u e;cases e
theorem dA(f d:Nat)(t:Jd):Ps.value (f+1) d t=Ps.R.bM (match Ps.skip t with
  |[]=>.bad 1 0
  |c::u=>if c=123 then Ps.obj f d u else if c=91 then Ps.arr f d u else Ps.single c u):=by
 rw[Ps.value];cases Ps.skip t<;>rfl
theorem dw(c:Cl)(k:Int)(b:Bool)(n:Nm.Num)(s:Jd):(Vl.mk k b n s [] []).In c (vlV k b n.neg n.digits n.exp s (.slice none 0 0) (.slice none 0 0)):=by
 simp only[Vl.In];exact⟨none,0,none,0,rfl,Jh _,by simp[maxLen],Jh _,by simp[maxLen],λh=>absurd h (by simp),λh=>absurd h (by simp)⟩
theorem ak.bg{rb:Nat}{w w':World}(h:ak rb w w'){g:Nat}(hg:w.heap.size<=g)(v0 v1 v2 v3 v4 v5 v6 v7:Value):ak rb w (Go.Proofs.YtdhgmaonolgpnaaGreatDoor.bg w' g v0 v1 v2 v3 v4 v5 v6 v7):=
 (((((((h.kt hg 0 v0).kt hg 1 v1).kt hg 2 v2).kt hg 3 v3).kt hg 4 v4).kt hg 5 v5).kt hg 6 v6).kt hg 7 v7
theorem nr{w:World}{B g:Nat}{v:Vl}{x:Value}(h:v.In (w.on (B<=·)) x)(hg:g<B){B':Nat}(hB:B'<=B)(v0 v1 v2 v3 v4 v5 v6 v7:Value):v.In ((Go.Proofs.YtdhgmaonolgpnaaGreatDoor.bg w g v0 v1 v2 v3 v4 v5 v6 v7).on (B'<=·)) x:=
 In.keep (λp u hp=>by
  obtain⟨h1,h2⟩:=ah.1 hp;exact ah.2 ⟨by omega,by rw[Ka (w:=w) (aF _ _ _ (by omega) _ _ _ _ _ _ _ _)];exact h2⟩) _ _ h
theorem Ei{rb:Nat}{s:ByteArray}{a:Nat}{t:Jd}{d:Nat}{w:World}(h:Rd w rb s a t d)(hs0:s.size<=100000)(hdl:d<=32){u:Jd}(hsk:Ps.skip t=123::u)(f:Nat)(HVC:∀f',f'<f->VC f')(hf:3*u.length+3<=f):
  Calls Tryz.prog 26 #[.pointer (some ⟨rb,0,none⟩)] w (eR rb s d (Ps.value (f+1) d t) w):=by
 have hs:s.size<=1000000:=by omega
 have hrb:=h.lt;have HBk:=Jf (dP (h.on (aO w)) (show s.size<=1000000000000 by omega));have HZ:=Jf ((Blk.new w 31 ag).alloc (.cells ag 31));have HV:=Jf (Blk.cW w (.cells ag 31) 31 ag);have HB:=Jf (aO w);have HSK:=Jf hsk;have HRQ:=Jf (show Ps.value (f+1) d t=Ps.R.bM (Ps.obj f d u) from by rw[dA,hsk];simp);clear h hsk;go_enter Tryz.func26,Tryz.ntmps26;go_wp2_with fail;refine HBk.out.mono ?_;rintro e w2 ⟨rfl,⟨a2,hR2⟩,hS2⟩;rw[HSK.out] at hR2;have HP:=Jf (bS hR2 (show s.size<=1000000000000 by omega));have HR2:=Jf hR2;have HS2:=Jf ((ak.aJ HB.out).trans hS2);have HZ2:=Jf (hS2.blk HZ.out (by omega));have HV2:=Jf (hS2.blk HV.out (by omega));clear hR2 hS2;simp only[hd] at HP;go_wp2_with fail;refine HP.out.mono ?_;rintro e w3 ⟨rfl,n,rfl⟩;have HR3:=Jf (HR2.out.drewN n);have HS3:=Jf (HS2.out.drewN n);have HZ3:=Jf (show Blk (w2.drewN n) w.heap.size 31 ag from HZ2.out);have HV3:=Jf (show Blk (w2.drewN n) (w.heap.size+1) 31 ag from HV2.out);clear HR2 HS2 HZ2 HV2 HP;generalize w2.drewN n=w3 at*
 have hl3:=HV3.out.lt;obtain⟨f0,rfl⟩:∃f0,f=f0+1:=⟨f-1,by omega⟩;have HC:=Jf (Dy f0 (λf' h=>HVC f' (by omega)) HR3.out hs0 hdl hf);clear HVC;go_wp2_with fail;refine HC.out.mono ?_;rintro e w4 ⟨v,x,rfl,hin,hS4,hv4,hA4⟩;obtain⟨k1,b1,n1,g1,x1,s1,A1,l1,p1,B1,m1,d1,rfl⟩:=In.cells hin;have HZ4:=Jf (hS4.blk HZ3.out (by omega));have HV4:=Jf (hS4.blk HV3.out (by omega));have HS4:=Jf (HS3.out.trans hS4);have HIN4:=Jf hin;have HVQ:=Jf hv4;have HA4:=Jf hA4;have hl4:=HV4.out.lt;have vf:=HV4.out.frozen;obtain⟨v0,v1,v2,v3,v4,v5,v6,v7⟩:=HV4.out.eight;clear hin hS4 hv4 hA4;go_wp2_with fail;clear v0 v1 v2 v3 v4 v5 v6 v7;refine(cQ (HA4.out.far (aF _ _ _ (show rb≠w.heap.size+1 by omega) (.int .i64 k1) (.bool b1) (.bool n1) (.string ⟨g1.toArray⟩) (.int .i64 x1) (.string ⟨s1.toArray⟩) (.slice A1 l1 p1) (.slice B1 m1 d1))) (show s.size<=1000000000000 by omega)).mono ?_;rintro e w8 ⟨rfl,hA8,hS8⟩;have HS8:=Jf (ak.trans (HS4.out.bg (show w.heap.size<=w.heap.size+1 by omega) (.int .i64 k1) (.bool b1) (.bool n1) (.string ⟨g1.toArray⟩) (.int .i64 x1) (.string ⟨s1.toArray⟩) (.slice A1 l1 p1) (.slice B1 m1 d1)) hS8);have HZ8:=Jf (hS8.blk (show Blk (bg w4 (w.heap.size+1) (.int .i64 k1) (.bool b1) (.bool n1) (.string ⟨g1.toArray⟩) (.int .i64 x1) (.string ⟨s1.toArray⟩) (.slice A1 l1 p1) (.slice B1 m1 d1)) w.heap.size 31 ag from(aF _ _ _ (by omega) (.int .i64 k1) (.bool b1) (.bool n1) (.string ⟨g1.toArray⟩) (.int .i64 x1) (.string ⟨s1.toArray⟩) (.slice A1 l1 p1) (.slice B1 m1 d1)).trans HZ4.out) (by omega));have HV8:=Jf (hS8.blk (HV4.out.bg (.int .i64 k1) (.bool b1) (.bool n1) (.string ⟨g1.toArray⟩) (.int .i64 x1) (.string ⟨s1.toArray⟩) (.slice A1 l1 p1) (.slice B1 m1 d1)) (by omega));have HIN8:=Jf (In.keep (hS8.le (B:=w.heap.size+1) (by omega)) _ _ (nr HIN4.out (show w.heap.size+1<w3.heap.size by omega) (by omega) (.int .i64 k1) (.bool b1) (.bool n1) (.string ⟨g1.toArray⟩) (.int .i64 x1) (.string ⟨s1.toArray⟩) (.slice A1 l1 p1) (.slice B1 m1 d1)));have HA8:=Jf hA8;clear hA8 hS8;obtain⟨z0,z1,z2,z3,z4,z5,z6,z7⟩:=HZ8.out.eight;obtain⟨v0,v1,v2,v3,v4,v5,v6,v7⟩:=HV8.out.eight;have zf:=HZ8.out.frozen;go_wp2_with fail;have hfin:=bu (v:=v) (d:=d) hrb HS8.out HZ8.out HIN8.out (dX HVQ.out) HA8.out;refine Ju (aj (l:=[_,_,_,_,_,_,_,_]) rfl _ _ _ rfl hfin.1 Tryz.underlying31 rfl (by kernel_rfl)) rfl ?_;rw[HRQ.out];exact hfin.2
theorem Ec{rb:Nat}{s:ByteArray}{a:Nat}{t:Jd}{d:Nat}{w:World}(h:Rd w rb s a t d)(hs0:s.size<=100000)(hdl:d<=32){u:Jd}(hsk:Ps.skip t=91::u)(f:Nat)(HVC:∀f',f'<f->VC f')(hf:3*u.length+3<=f):
  Calls Tryz.prog 26 #[.pointer (some ⟨rb,0,none⟩)] w (eR rb s d (Ps.value (f+1) d t) w):=by
 have hs:s.size<=1000000:=by omega
 have hrb:=h.lt;have HBk:=Jf (dP (h.on (aO w)) (show s.size<=1000000000000 by omega));have HZ:=Jf ((Blk.new w 31 ag).alloc (.cells ag 31));have HV:=Jf (Blk.cW w (.cells ag 31) 31 ag);have HB:=Jf (aO w);have HSK:=Jf hsk;have HRQ:=Jf (show Ps.value (f+1) d t=Ps.R.bM (Ps.arr f d u) from by rw[dA,hsk];simp);clear h hsk;go_enter Tryz.func26,Tryz.ntmps26;go_wp2_with fail;refine HBk.out.mono ?_;rintro e w2 ⟨rfl,⟨a2,hR2⟩,hS2⟩;rw[HSK.out] at hR2;have HP:=Jf (bS hR2 (show s.size<=1000000000000 by omega));have HR2:=Jf hR2;have HS2:=Jf ((ak.aJ HB.out).trans hS2);have HZ2:=Jf (hS2.blk HZ.out (by omega));have HV2:=Jf (hS2.blk HV.out (by omega));clear hR2 hS2;simp only[hd] at HP;go_wp2_with fail;refine HP.out.mono ?_;rintro e w3 ⟨rfl,n,rfl⟩;have HR3:=Jf (HR2.out.drewN n);have HS3:=Jf (HS2.out.drewN n);have HZ3:=Jf (show Blk (w2.drewN n) w.heap.size 31 ag from HZ2.out);have HV3:=Jf (show Blk (w2.drewN n) (w.heap.size+1) 31 ag from HV2.out);clear HR2 HS2 HZ2 HV2 HP;generalize w2.drewN n=w3 at*
 have hl3:=HV3.out.lt;obtain⟨f0,rfl⟩:∃f0,f=f0+1:=⟨f-1,by omega⟩;have HC:=Jf (EK f0 (λf' h=>HVC f' (by omega)) HR3.out hs0 hdl hf);clear HVC;go_wp2_with fail;refine HC.out.mono ?_;rintro e w4 ⟨v,x,rfl,hin,hS4,hv4,hA4⟩;obtain⟨k1,b1,n1,g1,x1,s1,A1,l1,p1,B1,m1,d1,rfl⟩:=In.cells hin;have HZ4:=Jf (hS4.blk HZ3.out (by omega));have HV4:=Jf (hS4.blk HV3.out (by omega));have HS4:=Jf (HS3.out.trans hS4);have HIN4:=Jf hin;have HVQ:=Jf hv4;have HA4:=Jf hA4;have hl4:=HV4.out.lt;have vf:=HV4.out.frozen;obtain⟨v0,v1,v2,v3,v4,v5,v6,v7⟩:=HV4.out.eight;clear hin hS4 hv4 hA4;go_wp2_with fail;clear v0 v1 v2 v3 v4 v5 v6 v7;refine(cQ (HA4.out.far (aF _ _ _ (show rb≠w.heap.size+1 by omega) (.int .i64 k1) (.bool b1) (.bool n1) (.string ⟨g1.toArray⟩) (.int .i64 x1) (.string ⟨s1.toArray⟩) (.slice A1 l1 p1) (.slice B1 m1 d1))) (show s.size<=1000000000000 by omega)).mono ?_;rintro e w8 ⟨rfl,hA8,hS8⟩;have HS8:=Jf (ak.trans (HS4.out.bg (show w.heap.size<=w.heap.size+1 by omega) (.int .i64 k1) (.bool b1) (.bool n1) (.string ⟨g1.toArray⟩) (.int .i64 x1) (.string ⟨s1.toArray⟩) (.slice A1 l1 p1) (.slice B1 m1 d1)) hS8);have HZ8:=Jf (hS8.blk (show Blk (bg w4 (w.heap.size+1) (.int .i64 k1) (.bool b1) (.bool n1) (.string ⟨g1.toArray⟩) (.int .i64 x1) (.string ⟨s1.toArray⟩) (.slice A1 l1 p1) (.slice B1 m1 d1)) w.heap.size 31 ag from(aF _ _ _ (by omega) (.int .i64 k1) (.bool b1) (.bool n1) (.string ⟨g1.toArray⟩) (.int .i64 x1) (.string ⟨s1.toArray⟩) (.slice A1 l1 p1) (.slice B1 m1 d1)).trans HZ4.out) (by omega));have HV8:=Jf (hS8.blk (HV4.out.bg (.int .i64 k1) (.bool b1) (.bool n1) (.string ⟨g1.toArray⟩) (.int .i64 x1) (.string ⟨s1.toArray⟩) (.slice A1 l1 p1) (.slice B1 m1 d1)) (by omega));have HIN8:=Jf (In.keep (hS8.le (B:=w.heap.size+1) (by omega)) _ _ (nr HIN4.out (show w.heap.size+1<w3.heap.size by omega) (by omega) (.int .i64 k1) (.bool b1) (.bool n1) (.string ⟨g1.toArray⟩) (.int .i64 x1) (.string ⟨s1.toArray⟩) (.slice A1 l1 p1) (.slice B1 m1 d1)));have HA8:=Jf hA8;clear hA8 hS8;obtain⟨z0,z1,z2,z3,z4,z5,z6,z7⟩:=HZ8.out.eight;obtain⟨v0,v1,v2,v3,v4,v5,v6,v7⟩:=HV8.out.eight;have zf:=HZ8.out.frozen;go_wp2_with fail;have hfin:=bu (v:=v) (d:=d) hrb HS8.out HZ8.out HIN8.out (dX HVQ.out) HA8.out;refine Ju (aj (l:=[_,_,_,_,_,_,_,_]) rfl _ _ _ rfl hfin.1 Tryz.underlying31 rfl (by kernel_rfl)) rfl ?_;rw[HRQ.out];exact hfin.2
theorem Ej{rb:Nat}{s:ByteArray}{a:Nat}{t:Jd}{d:Nat}{w:World}(h:Rd w rb s a t d)(hs0:s.size<=100000)(hdl:d<=32){u:Jd}(hsk:Ps.skip t=34::u)(f:Nat):
  Calls Tryz.prog 26 #[.pointer (some ⟨rb,0,none⟩)] w (eR rb s d (Ps.value (f+1) d t) w):=by
 have hs:s.size<=1000000:=by omega
 have hrb:=h.lt;have HBk:=Jf (dP (h.on (aO w)) (show s.size<=1000000000000 by omega));have HZ:=Jf ((Blk.new w 31 ag).alloc (.cells ag 31));have HV:=Jf (Blk.cW w (.cells ag 31) 31 ag);have HB:=Jf (aO w);have HSK:=Jf hsk;have HRQ:=Jf (show Ps.value (f+1) d t=Ps.R.bM ((Ps.bn (34::u)).map Ps.mkS) from by rw[dA,hsk];simp[Ps.single]);clear h hsk;go_enter Tryz.func26,Tryz.ntmps26;go_wp2_with fail;refine HBk.out.mono ?_;rintro e w2 ⟨rfl,⟨a2,hR2⟩,hS2⟩;rw[HSK.out] at hR2;have HP:=Jf (bS hR2 (show s.size<=1000000000000 by omega));have HR2:=Jf hR2;have HS2:=Jf ((ak.aJ HB.out).trans hS2);have HZ2:=Jf (hS2.blk HZ.out (by omega));have HV2:=Jf (hS2.blk HV.out (by omega));clear hR2 hS2;simp only[hd] at HP;go_wp2_with fail;refine HP.out.mono ?_;rintro e w3 ⟨rfl,n,rfl⟩;have HR3:=Jf (HR2.out.drewN n);have HS3:=Jf (HS2.out.drewN n);have HZ3:=Jf (show Blk (w2.drewN n) w.heap.size 31 ag from HZ2.out);have HV3:=Jf (show Blk (w2.drewN n) (w.heap.size+1) 31 ag from HV2.out);clear HR2 HS2 HZ2 HV2 HP;generalize w2.drewN n=w3 at*
 have hl3:=HV3.out.lt;have HT:=Jf (Cj HR3.out hs);go_wp2_with fail;refine HT.out.mono ?_;rintro e w4 ⟨o,rfl,ho,hA4,hS4⟩;have HVQ:=Jf (show∀v0 u',(Ps.bn (34::u)).map Ps.mkS=.ok v0 u'->Ps.mkS o=v0 from by
  intro v0 u' e;cases hq:Ps.bn (34::u) with
  |ok k t2=>rw[hq] at e;injection e with e1 e2;rw[<-e1,ho k t2 hq]
  |bad c l=>rw[hq] at e;cases e)
 clear ho;have HZ4:=Jf (hS4.blk HZ3.out (by omega));have HV4:=Jf (hS4.blk HV3.out (by omega));have HS4:=Jf (HS3.out.trans hS4);have HA4:=Jf hA4;have hl4:=HV4.out.lt;have vf:=HV4.out.frozen;obtain⟨v0,v1,v2,v3,v4,v5,v6,v7⟩:=HV4.out.eight;clear hS4 hA4;go_wp2_with fail;clear v0 v1 v2 v3 v4 v5 v6 v7;refine(cQ ((HA4.out.far (aF _ _ _ (show rb≠w.heap.size+1 by omega) (.int .i64 3) (.bool false) (.bool false) (.string ⟨#[]⟩) (.int .i64 0) (.string ⟨o.toArray⟩) (.slice none 0 0) (.slice none 0 0))).map Ps.mkS) (show s.size<=1000000000000 by omega)).mono ?_;rintro e w8 ⟨rfl,hA8,hS8⟩;have HS8:=Jf (ak.trans (HS4.out.bg (show w.heap.size<=w.heap.size+1 by omega) (.int .i64 3) (.bool false) (.bool false) (.string ⟨#[]⟩) (.int .i64 0) (.string ⟨o.toArray⟩) (.slice none 0 0) (.slice none 0 0)) hS8);have HZ8:=Jf (hS8.blk (show Blk (bg w4 (w.heap.size+1) (.int .i64 3) (.bool false) (.bool false) (.string ⟨#[]⟩) (.int .i64 0) (.string ⟨o.toArray⟩) (.slice none 0 0) (.slice none 0 0)) w.heap.size 31 ag from(aF _ _ _ (by omega) (.int .i64 3) (.bool false) (.bool false) (.string ⟨#[]⟩) (.int .i64 0) (.string ⟨o.toArray⟩) (.slice none 0 0) (.slice none 0 0)).trans HZ4.out) (by omega));have HV8:=Jf (hS8.blk (HV4.out.bg (.int .i64 3) (.bool false) (.bool false) (.string ⟨#[]⟩) (.int .i64 0) (.string ⟨o.toArray⟩) (.slice none 0 0) (.slice none 0 0)) (by omega));have HIN8:=Jf (In.keep (hS8.le (B:=w.heap.size+1) (by omega)) _ _ (dw _ 3 false Nm.Num.zero o));have HA8:=Jf hA8;clear hA8 hS8;obtain⟨z0,z1,z2,z3,z4,z5,z6,z7⟩:=HZ8.out.eight;obtain⟨v0,v1,v2,v3,v4,v5,v6,v7⟩:=HV8.out.eight;have zf:=HZ8.out.frozen;go_wp2_with fail;have hfin:=bu (v:=Ps.mkS o) (d:=d) hrb HS8.out HZ8.out HIN8.out (dX HVQ.out) HA8.out;refine Ju (aj (l:=[_,_,_,_,_,_,_,_]) rfl _ _ _ rfl hfin.1 Tryz.underlying31 rfl (by kernel_rfl)) rfl ?_;rw[HRQ.out];exact hfin.2
theorem Bo{rb:Nat}{s:ByteArray}{a:Nat}{t:Jd}{d:Nat}{w:World}(h:Rd w rb s a t d)(hs0:s.size<=100000)(hdl:d<=32){u:Jd}(hsk:Ps.skip t=110::u)(f:Nat):
  Calls Tryz.prog 26 #[.pointer (some ⟨rb,0,none⟩)] w (eR rb s d (Ps.value (f+1) d t) w):=by
 have hs:s.size<=1000000:=by omega
 have hrb:=h.lt;have HBk:=Jf (dP (h.on (aO w)) (show s.size<=1000000000000 by omega));have HZ:=Jf ((Blk.new w 31 ag).alloc (.cells ag 31));have HV:=Jf (Blk.cW w (.cells ag 31) 31 ag);have HB:=Jf (aO w);have HSK:=Jf hsk;have HRQ:=Jf (show Ps.value (f+1) d t=Ps.R.bM ((Ps.lit [110,117,108,108] (110::u)).map λ_=>Ps.mkN) from by rw[dA,hsk];simp[Ps.single]);clear h hsk;go_enter Tryz.func26,Tryz.ntmps26;go_wp2_with fail;refine HBk.out.mono ?_;rintro e w2 ⟨rfl,⟨a2,hR2⟩,hS2⟩;rw[HSK.out] at hR2;have HP:=Jf (bS hR2 (show s.size<=1000000000000 by omega));have HR2:=Jf hR2;have HS2:=Jf ((ak.aJ HB.out).trans hS2);have HZ2:=Jf (hS2.blk HZ.out (by omega));have HV2:=Jf (hS2.blk HV.out (by omega));clear hR2 hS2;simp only[hd] at HP;go_wp2_with fail;refine HP.out.mono ?_;rintro e w3 ⟨rfl,n,rfl⟩;have HR3:=Jf (HR2.out.drewN n);have HS3:=Jf (HS2.out.drewN n);have HZ3:=Jf (show Blk (w2.drewN n) w.heap.size 31 ag from HZ2.out);have HV3:=Jf (show Blk (w2.drewN n) (w.heap.size+1) 31 ag from HV2.out);clear HR2 HS2 HZ2 HV2 HP;generalize w2.drewN n=w3 at*
 have hl3:=HV3.out.lt;have HT:=Jf (qe HR3.out (show s.size<=1000000000000 by omega) ⟨#[110,117,108,108]⟩ (by decide));go_wp2_with fail;refine HT.out.mono ?_;rintro e w4 ⟨rfl,hA4,hS4⟩;have HZ4:=Jf (hS4.blk HZ3.out (by omega));have HV4:=Jf (hS4.blk HV3.out (by omega));have HS4:=Jf (HS3.out.trans hS4);have HA4:=Jf hA4;have hl4:=HV4.out.lt;have vf:=HV4.out.frozen;obtain⟨v0,v1,v2,v3,v4,v5,v6,v7⟩:=HV4.out.eight;clear hS4 hA4;go_wp2_with fail;clear v0 v1 v2 v3 v4 v5 v6 v7;refine(cQ (HA4.out.map (λ_=>Ps.mkN)) (show s.size<=1000000000000 by omega)).mono ?_;rintro e w8 ⟨rfl,hA8,hS8⟩;have HS8:=Jf (ak.trans HS4.out hS8);have HZ8:=Jf (hS8.blk HZ4.out (by omega));have HV8:=Jf (hS8.blk HV4.out (by omega));have HIN8:=Jf (In.keep (hS8.le (B:=w.heap.size+1) (by omega)) _ _ (dw _ 0 false Nm.Num.zero []));have HA8:=Jf hA8;clear hA8 hS8;obtain⟨z0,z1,z2,z3,z4,z5,z6,z7⟩:=HZ8.out.eight;obtain⟨v0,v1,v2,v3,v4,v5,v6,v7⟩:=HV8.out.eight;have zf:=HZ8.out.frozen;go_wp2_with fail;have hfin:=bu (v:=Ps.mkN) (d:=d) hrb HS8.out HZ8.out HIN8.out (dX (jY _ _)) HA8.out;refine Ju (aj (l:=[_,_,_,_,_,_,_,_]) rfl _ _ _ rfl hfin.1 Tryz.underlying31 rfl (by kernel_rfl)) rfl ?_;rw[HRQ.out];exact hfin.2
theorem Br{rb:Nat}{s:ByteArray}{a:Nat}{t:Jd}{d:Nat}{w:World}(h:Rd w rb s a t d)(hs0:s.size<=100000)(hdl:d<=32){u:Jd}(hsk:Ps.skip t=116::u)(f:Nat):
  Calls Tryz.prog 26 #[.pointer (some ⟨rb,0,none⟩)] w (eR rb s d (Ps.value (f+1) d t) w):=by
 have hs:s.size<=1000000:=by omega
 have hrb:=h.lt;have HBk:=Jf (dP (h.on (aO w)) (show s.size<=1000000000000 by omega));have HZ:=Jf ((Blk.new w 31 ag).alloc (.cells ag 31));have HV:=Jf (Blk.cW w (.cells ag 31) 31 ag);have HB:=Jf (aO w);have HSK:=Jf hsk;have HRQ:=Jf (show Ps.value (f+1) d t=Ps.R.bM ((Ps.lit [116,114,117,101] (116::u)).map λ_=>(Ps.mkB true)) from by rw[dA,hsk];simp[Ps.single]);clear h hsk;go_enter Tryz.func26,Tryz.ntmps26;go_wp2_with fail;refine HBk.out.mono ?_;rintro e w2 ⟨rfl,⟨a2,hR2⟩,hS2⟩;rw[HSK.out] at hR2;have HP:=Jf (bS hR2 (show s.size<=1000000000000 by omega));have HR2:=Jf hR2;have HS2:=Jf ((ak.aJ HB.out).trans hS2);have HZ2:=Jf (hS2.blk HZ.out (by omega));have HV2:=Jf (hS2.blk HV.out (by omega));clear hR2 hS2;simp only[hd] at HP;go_wp2_with fail;refine HP.out.mono ?_;rintro e w3 ⟨rfl,n,rfl⟩;have HR3:=Jf (HR2.out.drewN n);have HS3:=Jf (HS2.out.drewN n);have HZ3:=Jf (show Blk (w2.drewN n) w.heap.size 31 ag from HZ2.out);have HV3:=Jf (show Blk (w2.drewN n) (w.heap.size+1) 31 ag from HV2.out);clear HR2 HS2 HZ2 HV2 HP;generalize w2.drewN n=w3 at*
 have hl3:=HV3.out.lt;have HT:=Jf (qe HR3.out (show s.size<=1000000000000 by omega) ⟨#[116,114,117,101]⟩ (by decide));go_wp2_with fail;refine HT.out.mono ?_;rintro e w4 ⟨rfl,hA4,hS4⟩;have HZ4:=Jf (hS4.blk HZ3.out (by omega));have HV4:=Jf (hS4.blk HV3.out (by omega));have HS4:=Jf (HS3.out.trans hS4);have HA4:=Jf hA4;have hl4:=HV4.out.lt;have vf:=HV4.out.frozen;obtain⟨v0,v1,v2,v3,v4,v5,v6,v7⟩:=HV4.out.eight;clear hS4 hA4;go_wp2_with fail;clear v0 v1 v2 v3 v4 v5 v6 v7;refine(cQ ((HA4.out.far (aF _ _ _ (show rb≠w.heap.size+1 by omega) (.int .i64 1) (.bool true) (.bool false) (.string ⟨#[]⟩) (.int .i64 0) (.string ⟨#[]⟩) (.slice none 0 0) (.slice none 0 0))).map (λ_=>(Ps.mkB true))) (show s.size<=1000000000000 by omega)).mono ?_;rintro e w8 ⟨rfl,hA8,hS8⟩;have HS8:=Jf (ak.trans (HS4.out.bg (show w.heap.size<=w.heap.size+1 by omega) (.int .i64 1) (.bool true) (.bool false) (.string ⟨#[]⟩) (.int .i64 0) (.string ⟨#[]⟩) (.slice none 0 0) (.slice none 0 0)) hS8);have HZ8:=Jf (hS8.blk (show Blk (bg w4 (w.heap.size+1) (.int .i64 1) (.bool true) (.bool false) (.string ⟨#[]⟩) (.int .i64 0) (.string ⟨#[]⟩) (.slice none 0 0) (.slice none 0 0)) w.heap.size 31 ag from(aF _ _ _ (by omega) (.int .i64 1) (.bool true) (.bool false) (.string ⟨#[]⟩) (.int .i64 0) (.string ⟨#[]⟩) (.slice none 0 0) (.slice none 0 0)).trans HZ4.out) (by omega));have HV8:=Jf (hS8.blk (HV4.out.bg (.int .i64 1) (.bool true) (.bool false) (.string ⟨#[]⟩) (.int .i64 0) (.string ⟨#[]⟩) (.slice none 0 0) (.slice none 0 0)) (by omega));have HIN8:=Jf (In.keep (hS8.le (B:=w.heap.size+1) (by omega)) _ _ (dw _ 1 true Nm.Num.zero []));have HA8:=Jf hA8;clear hA8 hS8;obtain⟨z0,z1,z2,z3,z4,z5,z6,z7⟩:=HZ8.out.eight;obtain⟨v0,v1,v2,v3,v4,v5,v6,v7⟩:=HV8.out.eight;have zf:=HZ8.out.frozen;go_wp2_with fail;have hfin:=bu (v:=(Ps.mkB true)) (d:=d) hrb HS8.out HZ8.out HIN8.out (dX (jY _ _)) HA8.out;refine Ju (aj (l:=[_,_,_,_,_,_,_,_]) rfl _ _ _ rfl hfin.1 Tryz.underlying31 rfl (by kernel_rfl)) rfl ?_;rw[HRQ.out];exact hfin.2
theorem ze{rb:Nat}{s:ByteArray}{a:Nat}{t:Jd}{d:Nat}{w:World}(h:Rd w rb s a t d)(hs0:s.size<=100000)(hdl:d<=32){u:Jd}(hsk:Ps.skip t=102::u)(f:Nat):
  Calls Tryz.prog 26 #[.pointer (some ⟨rb,0,none⟩)] w (eR rb s d (Ps.value (f+1) d t) w):=by
 have hs:s.size<=1000000:=by omega
 have hrb:=h.lt;have HBk:=Jf (dP (h.on (aO w)) (show s.size<=1000000000000 by omega));have HZ:=Jf ((Blk.new w 31 ag).alloc (.cells ag 31));have HV:=Jf (Blk.cW w (.cells ag 31) 31 ag);have HB:=Jf (aO w);have HSK:=Jf hsk;have HRQ:=Jf (show Ps.value (f+1) d t=Ps.R.bM ((Ps.lit [102,97,108,115,101] (102::u)).map λ_=>(Ps.mkB false)) from by rw[dA,hsk];simp[Ps.single]);clear h hsk;go_enter Tryz.func26,Tryz.ntmps26;go_wp2_with fail;refine HBk.out.mono ?_;rintro e w2 ⟨rfl,⟨a2,hR2⟩,hS2⟩;rw[HSK.out] at hR2;have HP:=Jf (bS hR2 (show s.size<=1000000000000 by omega));have HR2:=Jf hR2;have HS2:=Jf ((ak.aJ HB.out).trans hS2);have HZ2:=Jf (hS2.blk HZ.out (by omega));have HV2:=Jf (hS2.blk HV.out (by omega));clear hR2 hS2;simp only[hd] at HP;go_wp2_with fail;refine HP.out.mono ?_;rintro e w3 ⟨rfl,n,rfl⟩;have HR3:=Jf (HR2.out.drewN n);have HS3:=Jf (HS2.out.drewN n);have HZ3:=Jf (show Blk (w2.drewN n) w.heap.size 31 ag from HZ2.out);have HV3:=Jf (show Blk (w2.drewN n) (w.heap.size+1) 31 ag from HV2.out);clear HR2 HS2 HZ2 HV2 HP;generalize w2.drewN n=w3 at*
 have hl3:=HV3.out.lt;have HT:=Jf (qe HR3.out (show s.size<=1000000000000 by omega) ⟨#[102,97,108,115,101]⟩ (by decide));go_wp2_with fail;refine HT.out.mono ?_;rintro e w4 ⟨rfl,hA4,hS4⟩;have HZ4:=Jf (hS4.blk HZ3.out (by omega));have HV4:=Jf (hS4.blk HV3.out (by omega));have HS4:=Jf (HS3.out.trans hS4);have HA4:=Jf hA4;have hl4:=HV4.out.lt;have vf:=HV4.out.frozen;obtain⟨v0,v1,v2,v3,v4,v5,v6,v7⟩:=HV4.out.eight;clear hS4 hA4;go_wp2_with fail;clear v0 v1 v2 v3 v4 v5 v6 v7;refine(cQ ((HA4.out.far (aF _ _ _ (show rb≠w.heap.size+1 by omega) (.int .i64 1) (.bool false) (.bool false) (.string ⟨#[]⟩) (.int .i64 0) (.string ⟨#[]⟩) (.slice none 0 0) (.slice none 0 0))).map (λ_=>(Ps.mkB false))) (show s.size<=1000000000000 by omega)).mono ?_;rintro e w8 ⟨rfl,hA8,hS8⟩;have HS8:=Jf (ak.trans (HS4.out.bg (show w.heap.size<=w.heap.size+1 by omega) (.int .i64 1) (.bool false) (.bool false) (.string ⟨#[]⟩) (.int .i64 0) (.string ⟨#[]⟩) (.slice none 0 0) (.slice none 0 0)) hS8);have HZ8:=Jf (hS8.blk (show Blk (bg w4 (w.heap.size+1) (.int .i64 1) (.bool false) (.bool false) (.string ⟨#[]⟩) (.int .i64 0) (.string ⟨#[]⟩) (.slice none 0 0) (.slice none 0 0)) w.heap.size 31 ag from(aF _ _ _ (by omega) (.int .i64 1) (.bool false) (.bool false) (.string ⟨#[]⟩) (.int .i64 0) (.string ⟨#[]⟩) (.slice none 0 0) (.slice none 0 0)).trans HZ4.out) (by omega));have HV8:=Jf (hS8.blk (HV4.out.bg (.int .i64 1) (.bool false) (.bool false) (.string ⟨#[]⟩) (.int .i64 0) (.string ⟨#[]⟩) (.slice none 0 0) (.slice none 0 0)) (by omega));have HIN8:=Jf (In.keep (hS8.le (B:=w.heap.size+1) (by omega)) _ _ (dw _ 1 false Nm.Num.zero []));have HA8:=Jf hA8;clear hA8 hS8;obtain⟨z0,z1,z2,z3,z4,z5,z6,z7⟩:=HZ8.out.eight;obtain⟨v0,v1,v2,v3,v4,v5,v6,v7⟩:=HV8.out.eight;have zf:=HZ8.out.frozen;go_wp2_with fail;have hfin:=bu (v:=(Ps.mkB false)) (d:=d) hrb HS8.out HZ8.out HIN8.out (dX (jY _ _)) HA8.out;refine Ju (aj (l:=[_,_,_,_,_,_,_,_]) rfl _ _ _ rfl hfin.1 Tryz.underlying31 rfl (by kernel_rfl)) rfl ?_;rw[HRQ.out];exact hfin.2
theorem sQ{rb:Nat}{s:ByteArray}{a:Nat}{t:Jd}{d:Nat}{w:World}{f:Nat}(h:Rd w rb s a t d)(hs0:s.size<=100000)(hdl:d<=32)(hq:hd (Ps.skip t)≠123/\hd (Ps.skip t)≠91/\hd (Ps.skip t)≠34/\hd (Ps.skip t)≠110/\hd (Ps.skip t)≠116/\hd (Ps.skip t)≠102/\hd (Ps.skip t)≠45/\(hd (Ps.skip t)<48\/57<hd (Ps.skip t)))(hsk:Ps.value (f+1) d t=Ps.R.bM (.bad 1 (Ps.skip t).length)):
  Calls Tryz.prog 26 #[.pointer (some ⟨rb,0,none⟩)] w (eR rb s d (Ps.value (f+1) d t) w):=by
 have hs:s.size<=1000000:=by omega
 have hrb:=h.lt;have HBk:=Jf (dP (h.on (aO w)) (show s.size<=1000000000000 by omega));have HZ:=Jf ((Blk.new w 31 ag).alloc (.cells ag 31));have HV:=Jf (Blk.cW w (.cells ag 31) 31 ag);have HB:=Jf (aO w);have HSK:=Jf hsk;have HRQ:=Jf (show Ps.value (f+1) d t=Ps.R.bM (.bad 1 (Ps.skip t).length) from by exact hsk);have HQ:=Jf hq;clear h hsk hq;go_enter Tryz.func26,Tryz.ntmps26;go_wp2_with fail;refine HBk.out.mono ?_;rintro e w2 ⟨rfl,⟨a2,hR2⟩,hS2⟩;have HP:=Jf (bS hR2 (show s.size<=1000000000000 by omega));have HR2:=Jf hR2;have HS2:=Jf ((ak.aJ HB.out).trans hS2);have HZ2:=Jf (hS2.blk HZ.out (by omega));have HV2:=Jf (hS2.blk HV.out (by omega));clear hR2 hS2;generalize hqq:hd (Ps.skip t)=q at HP HQ;obtain⟨q1,q2,q3,q4,q5,q6,q7,q8⟩:=HQ.out;have t1:(q==123)=false:=by simpa using q1
 have t2:(q==91)=false:=by simpa using q2
 have t3:(q==34)=false:=by simpa using q3
 have t4:(q==110)=false:=by simpa using q4
 have t5:(q==116)=false:=by simpa using q5
 have t6:(q==102)=false:=by simpa using q6
 have t7:(q==45)=false:=by simpa using q7
 have hal:=HR2.out.2.1;have HAL:=Jf hal;clear hqq q1 q2 q3 q4 q5 q6 q7 hal;go_wp2_with fail;refine HP.out.mono ?_;rintro e w3 ⟨rfl,n,rfl⟩;have HR3:=Jf (HR2.out.drewN n);have HS3:=Jf (HS2.out.drewN n);have HZ3:=Jf (show Blk (w2.drewN n) w.heap.size 31 ag from HZ2.out);have HV3:=Jf (show Blk (w2.drewN n) (w.heap.size+1) 31 ag from HV2.out);clear HR2 HS2 HZ2 HV2 HP;generalize w2.drewN n=w3 at*
 have hl3:=HV3.out.lt;obtain⟨c0,c1,c2,c3,c4⟩:=HR3.out.1.cJ;have HF:=Jf (iN HR3.out a2 1 (Ps.skip t).length HAL.out (by omega));rcases q8 with q8|q8;all_goals
  go_wp2_with fail;refine HF.out.mono ?_;rintro e w4 ⟨rfl,hRB4,hS4⟩;have hA4:bo rb s d w4 (Ps.R.bad (α:=Vl) 1 (Ps.skip t).length):=hRB4;clear hRB4 c0 c1 c2 c3 c4;have HZ4:=Jf (hS4.blk HZ3.out (by omega));have HV4:=Jf (hS4.blk HV3.out (by omega));have HS4:=Jf (HS3.out.trans hS4);have HA4:=Jf hA4;have hl4:=HV4.out.lt;have vf:=HV4.out.frozen;obtain⟨v0,v1,v2,v3,v4,v5,v6,v7⟩:=HV4.out.eight;clear hS4 hA4;go_wp2_with fail;clear v0 v1 v2 v3 v4 v5 v6 v7;refine(cQ HA4.out (show s.size<=1000000000000 by omega)).mono ?_;rintro e w8 ⟨rfl,hA8,hS8⟩;have HS8:=Jf (ak.trans HS4.out hS8);have HZ8:=Jf (hS8.blk HZ4.out (by omega));have HV8:=Jf (hS8.blk HV4.out (by omega));have HIN8:=Jf (In.keep (hS8.le (B:=w.heap.size+1) (by omega)) _ _ (dw _ 0 false Nm.Num.zero []));have HA8:=Jf hA8;clear hA8 hS8;obtain⟨z0,z1,z2,z3,z4,z5,z6,z7⟩:=HZ8.out.eight;obtain⟨v0,v1,v2,v3,v4,v5,v6,v7⟩:=HV8.out.eight;have zf:=HZ8.out.frozen;go_wp2_with fail;have hfin:=bu (v:=Ps.mkN) (d:=d) hrb HS8.out HZ8.out HIN8.out (dX (λv0 u e=>by cases e)) HA8.out;refine Ju (aj (l:=[_,_,_,_,_,_,_,_]) rfl _ _ _ rfl hfin.1 Tryz.underlying31 rfl (by kernel_rfl)) rfl ?_;rw[HRQ.out];exact hfin.2
def bJ(rb:Nat)(s:ByteArray)(a d b p:Int)(w w':World):Prop:=
 (w'.cell? ⟨rb,0,none⟩=some (.string s)/\w'.cell? ⟨rb,1,none⟩=some (.int .i64 a)/\w'.cell? ⟨rb,2,none⟩=some (.int .i64 d)/\w'.cell? ⟨rb,3,none⟩=some (.int .i64 b)/\w'.cell? ⟨rb,4,none⟩=some (.int .i64 p))/\Below w.heap.size w w'
theorem bJ.on{rb:Nat}{s:ByteArray}{a d b p:Int}{w W w1:World}(h:bJ rb s a d b p w W)(hb:Below W.heap.size W w1):bJ rb s a d b p w w1:=by
 obtain⟨⟨h0,h1,h2,h3,h4⟩,h5⟩:=h;have hc:∀i v,W.cell? ⟨rb,i,none⟩=some v->w1.cell? ⟨rb,i,none⟩=some v:=λi v h=>(hb.cell (p:=⟨rb,i,none⟩) (Jn W _ h)).trans h;exact⟨⟨hc _ _ h0,hc _ _ h1,hc _ _ h2,hc _ _ h3,hc _ _ h4⟩,h5.trans (hb.mono h5.size)⟩
theorem bJ.alloc{rb:Nat}{s:ByteArray}{a d b p:Int}{w W:World}(h:bJ rb s a d b p w W)(o:Obj):bJ rb s a d b p w (W.alloc o):=h.on ((Ji _ _).alloc (Jh _) _)
theorem bJ.drew{rb:Nat}{s:ByteArray}{a d b p:Int}{w W:World}(h:bJ rb s a d b p w W):bJ rb s a d b p w W.drew:=⟨h.1,h.2.drew⟩
theorem bJ.set3{rb:Nat}{s:ByteArray}{a d b p:Int}{w W:World}(h:bJ rb s a d b p w W)(hr:rb<w.heap.size)(u0 u1 u2:Value):
  bJ rb s a d b p w (((W.setCell ⟨w.heap.size,0,none⟩ u0).setCell ⟨w.heap.size,1,none⟩ u1).setCell ⟨w.heap.size,2,none⟩ u2):=by
 obtain⟨⟨h0,h1,h2,h3,h4⟩,h5⟩:=h;have hc:∀i v,W.cell? ⟨rb,i,none⟩=some v->(((W.setCell ⟨w.heap.size,0,none⟩ u0).setCell ⟨w.heap.size,1,none⟩ u1).setCell ⟨w.heap.size,2,none⟩ u2).cell? ⟨rb,i,none⟩=some v:=λi v h=>by
  rw[K8 _ _ _ _ (by intro e;injection e with e1;omega),K8 _ _ _ _ (by intro e;injection e with e1;omega),K8 _ _ _ _ (by intro e;injection e with e1;omega)];exact h
 exact⟨⟨hc _ _ h0,hc _ _ h1,hc _ _ h2,hc _ _ h3,hc _ _ h4⟩,((h5.setCell (p:=⟨w.heap.size,0,none⟩) (Jh _) u0).setCell (p:=⟨w.heap.size,1,none⟩) (Jh _) u1).setCell (p:=⟨w.heap.size,2,none⟩) (Jh _) u2⟩
theorem C0{W w6:World}(h:Below ((W.alloc (.cells #[false,.string ⟨#[]⟩,.int .i64 0] 27)).drew).heap.size ((W.alloc (.cells #[false,.string ⟨#[]⟩,.int .i64 0] 27)).drew) w6):
  w6.cell? ⟨W.heap.size,0,none⟩=some (.bool false)/\w6.cell? ⟨W.heap.size,1,none⟩=some (.string ⟨#[]⟩)/\w6.cell? ⟨W.heap.size,2,none⟩=some (.int .i64 0)/\(∀i,w6.frozen? ⟨W.heap.size,i,none⟩=false)/\Blk w6 W.heap.size 27 #[false,.string ⟨#[]⟩,.int .i64 0]:=by
 have hb:Blk w6 W.heap.size 27 #[false,.string ⟨#[]⟩,.int .i64 0]:=(h.block W.heap.size (by show W.heap.size<(W.alloc _).heap.size;simp)).trans (Lc W _);exact⟨hb.cell 0,hb.cell 1,hb.cell 2,hb.frozen,hb⟩
def mN(pn:Bool)(pd:Jd)(px pe:Int)(w:World)(x y:Value)(wr:World):Prop:=
 ∃nb,x=.pointer (some ⟨nb,0,none⟩)/\y=.int .i64 pe/\w.heap.size<=nb/\Blk wr nb 27 #[pn,pd,.int .i64 px]/\Below w.heap.size w wr
theorem ka{pn:Bool}{pd:Jd}{px pe:Int}{w w6:World}(hb:Below w.heap.size w w6):mN pn pd px pe w (.pointer (some ⟨w6.heap.size,0,none⟩)) (.int .i64 pe) (w6.alloc (.cells #[pn,pd,.int .i64 px] 27)):=
 ⟨_,rfl,rfl,hb.size,Blk.new w6 _ _,hb.alloc hb.size _⟩
theorem kb{pn:Bool}{pd:Jd}{px pe:Int}{w w6:World}(hb:Below w.heap.size w w6)(h:Blk w6 w.heap.size 27 #[false,.string ⟨#[]⟩,.int .i64 0]):
  mN pn pd px pe w (.pointer (some ⟨w.heap.size,0,none⟩)) (.int .i64 pe) (((w6.setCell ⟨w.heap.size,0,none⟩ (.bool pn)).setCell ⟨w.heap.size,1,none⟩ (.string ⟨pd.toArray⟩)).setCell ⟨w.heap.size,2,none⟩ (.int .i64 px)):=by
 have h0:Blk _ w.heap.size 27 [.bool pn,.string ⟨#[]⟩,.int .i64 0].toArray:=Blk.ei (l:=[.bool false,.string ⟨#[]⟩,.int .i64 0]) h 0 (.bool pn);have h1:Blk _ w.heap.size 27 [.bool pn,.string ⟨pd.toArray⟩,.int .i64 0].toArray:=h0.ei 1 (.string ⟨pd.toArray⟩);exact⟨_,rfl,rfl,Jh _,h1.ei 2 (.int .i64 px),((hb.setCell (p:=⟨w.heap.size,0,none⟩) (Jh _) _).setCell (p:=⟨w.heap.size,1,none⟩) (Jh _) _).setCell (p:=⟨w.heap.size,2,none⟩) (Jh _) _⟩
theorem Fe{rb:Nat}{s:ByteArray}{a d:Int}{w:World}(hb:Blk w rb 75 #[.string s,.int .i64 a,.int .i64 d,.int .i64 0,.int .i64 0])(p c:Int):
  Calls Tryz.prog 27 #[.pointer (some ⟨rb,0,none⟩),.int .i64 p,.int .i64 c] w λe w'=>e=.returned (.tuple #[])/\Blk w' rb 75 #[.string s,.int .i64 a,.int .i64 d,.int .i64 c,.int .i64 p]/\ak rb w w':=by
 obtain⟨c0,c1,c2,c3,c4⟩:=hb.cJ;have hf:=hb.frozen;have H:=Jf (show Blk ((w.setCell ⟨rb,3,none⟩ (.int .i64 c)).setCell ⟨rb,4,none⟩ (.int .i64 p)) rb 75 #[.string s,.int .i64 a,.int .i64 d,.int .i64 c,.int .i64 p] from by
  have h3:=Blk.ei (l:=[.string s,.int .i64 a,.int .i64 d,.int .i64 0,.int .i64 0]) hb 3 (.int .i64 c);exact Blk.ei (l:=[.string s,.int .i64 a,.int .i64 d,.int .i64 c,.int .i64 0]) h3 4 (.int .i64 p))
 have HS:=Jf (((ak.refl rb w).set 3 (.int .i64 c)).set 4 (.int .i64 p));clear hb;go_enter Tryz.func27,Tryz.ntmps27
 go_wp2
 go_end0
 exact⟨rfl,H.out,HS.out⟩
theorem Eh{rb:Nat}{s:ByteArray}{a:Nat}{t:Jd}{d:Nat}{w:World}(h:Rd w rb s a t d)(hs0:s.size<=100000)(hdl:d<=32){c:UInt8}{u:Jd}(hsk:Ps.skip t=c::u)(hc:c=45\/Nm.dig c=true)(f:Nat):
  Calls Tryz.prog 26 #[.pointer (some ⟨rb,0,none⟩)] w (eR rb s d (Ps.value (f+1) d t) w):=by
 have hs:s.size<=1000000:=by omega
 have hrb:=h.lt;have HBk:=Jf (dP (h.on (aO w)) (show s.size<=1000000000000 by omega));have HZ:=Jf ((Blk.new w 31 ag).alloc (.cells ag 31));have HV:=Jf (Blk.cW w (.cells ag 31) 31 ag);have HB:=Jf (aO w);have HSK:=Jf hsk;have HRQ:=Jf (show Ps.value (f+1) d t=Ps.R.bM ((Ps.number (c::u)).map Ps.mkD) from by
  have hd:∀k:UInt8,(k.toNat<45\/(45<k.toNat/\k.toNat<48)\/57<k.toNat)->¬c=k:=by
   intro k hk e;subst e;rcases hc with rfl|hc
   .revert hk;decide
   .simp only[Nm.dig,JH,JF] at hc;omega
  rw[dA,hsk];simp only;rw[Jj (hd 123 (by decide)),Jj (hd 91 (by decide))];unfold Ps.single;rw[Jj (hd 34 (by decide)),Jj (hd 110 (by decide)),Jj (hd 116 (by decide)),Jj (hd 102 (by decide)),Jo hc])
 have hq:((c.toNat:Int)=45\/((c.toNat:Int)≠45/\48<=(c.toNat:Int)/\(c.toNat:Int)<=57)):=by
  rcases hc with rfl|hc
  .left;rfl
  .right;simp only[Nm.dig,JH,JF] at hc;omega
 clear h hsk hc;go_enter Tryz.func26,Tryz.ntmps26;go_wp2_with fail;refine HBk.out.mono ?_;rintro e w2 ⟨rfl,⟨a2,hR2⟩,hS2⟩;rw[HSK.out] at hR2;have HP:=Jf (bS hR2 (show s.size<=1000000000000 by omega));have HR2:=Jf hR2;have HS2:=Jf ((ak.aJ HB.out).trans hS2);have HZ2:=Jf (hS2.blk HZ.out (by omega));have HV2:=Jf (hS2.blk HV.out (by omega));clear hR2 hS2;simp only[hd] at HP;have hal:=HR2.out.2.1;have hdr:=HR2.out.2.2;have her:=Ps.qF (c::u);have hrl:=her.1.len;have hre:=her.1.eq;obtain⟨E,hE⟩:∃E:Nat,E=a2+((c::u).length-(Nm.bA (c::u)).1.length):=⟨_,rfl⟩;have HFROM:=Jf (show iD s (a2:Int) (c::u) from⟨by omega,by omega,by rw[Ku];exact hdr⟩);have HEND:=Jf (λW:World=>(BE s (a2:Int) (c::u) W HFROM.out (by omega)).mono (λe w' (h:Ends s (c::u) W e w')=>show e=.returned (.tuple #[.int .i64 (E:Nat),.bool (Nm.bA (c::u)).2])/\∃n,w'=W.drewN n from by
  obtain⟨h1,h2⟩:=h;refine⟨?_,0,h2.symm⟩;rw[h1,show((s.size:Int)-((Nm.bA (c::u)).1.length:Int))=((E:Nat):Int) by omega]))
 have hEs:E<=s.size:=by omega
 have haE:a2<=E:=by omega
 have hEX:s.extract a2 E=⟨((c::u).take ((c::u).length-(Nm.bA (c::u)).1.length)).toArray⟩:=by
  rw[Lib.extract_eq,hdr,hE,Kz]
 have HEX:=Jf hEX;have hll:((c::u).take ((c::u).length-(Nm.bA (c::u)).1.length)).length<=100000:=by rw[JL];omega
 have HRES:=Jf (show E+(Nm.bA (c::u)).1.length=s.size/\s.data.toList.drop E=(Nm.bA (c::u)).1 from⟨by omega,by rw[hE,<-List.drop_drop,hdr];exact hre.symm⟩);have HNUMDEF:=Jf (show Ps.number (c::u)=if(Nm.bA (c::u)).2=false then .bad 1 (Nm.bA (c::u)).1.length else if(Nm.parse ((c::u).take ((c::u).length-(Nm.bA (c::u)).1.length))).2=0 then .ok (Nm.parse ((c::u).take ((c::u).length-(Nm.bA (c::u)).1.length))).1 (Nm.bA (c::u)).1 else .bad 5 (c::u).length from rfl);have HNUM:=Jf (λW:World=>AA ⟨((c::u).take ((c::u).length-(Nm.bA (c::u)).1.length)).toArray⟩ W (by rw[K7];exact hll) (Nm.IE _ hll));rw[show(⟨((c::u).take ((c::u).length-(Nm.bA (c::u)).1.length)).toArray⟩:ByteArray).data.toList=(c::u).take ((c::u).length-(Nm.bA (c::u)).1.length) from rfl] at HNUM;have HAL:=Jf hal;clear hal hdr her hrl hre hE hEX hll;generalize (c::u).take ((c::u).length-(Nm.bA (c::u)).1.length)=l at HEX HNUM HNUMDEF;rw[<-HEX.out] at HNUM;generalize Nm.parse l=pp at HNUM HNUMDEF;obtain⟨⟨pn,pd,px⟩,pe⟩:=pp;generalize Nm.bA (c::u)=eo at HEND HRES HNUMDEF;obtain⟨r,ok⟩:=eo;simp only at HEND HRES HNUMDEF HNUM;generalize (c.toNat:Int)=q at HP hq;go_wp2_with fail;refine HP.out.mono ?_;rintro e w3 ⟨rfl,n,rfl⟩;have HR3:=Jf (HR2.out.drewN n);have HS3:=Jf (HS2.out.drewN n);have HZ3:=Jf (show Blk (w2.drewN n) w.heap.size 31 ag from HZ2.out);have HV3:=Jf (show Blk (w2.drewN n) (w.heap.size+1) 31 ag from HV2.out);clear HR2 HS2 HZ2 HV2 HP;generalize w2.drewN n=w3 at*
 have hl3:=HV3.out.lt;obtain⟨c0,c1,c2,c3,c4⟩:=HR3.out.1.cJ;have hqq:(q==45)=true\/((q==45)=false/\48<=q/\q<=57):=by
  rcases hq with rfl|⟨h1,h2⟩
  .left;rfl
  .right;exact⟨by simpa using h1,h2⟩
 have t1:(q==123)=false:=by simp;omega
 have t2:(q==91)=false:=by simp;omega
 have t3:(q==34)=false:=by simp;omega
 have t4:(q==110)=false:=by simp;omega
 have t5:(q==116)=false:=by simp;omega
 have t6:(q==102)=false:=by simp;omega
 clear hq;have HRB3:=Jf HR3.out.1;go_upto_region 18 with(fail);go_cut [49] from 9 to 103 (λb wc=>b=.bool true/\wc=w3);case first=>
  rcases hqq with q1|⟨q1,q2,q3⟩;all_goals
   go_wp2_with fail
   go_meet
   case rel=>exact⟨rfl,rfl⟩
 case rest=>
 obtain⟨rfl,rfl⟩:=hcut;clear hqq t1 t2 t3 t4 t5 t6;go_wp2_with fail;go_quiet ((go_at_call 55;exact MS (HEND.out _)));have HRB5:=Jf (show Blk (wc.drewN nq) rb 75 _ from HRB3.out);have HR5:=Jf (HR3.out.drewN nq);have HS5:=Jf (HS3.out.drewN nq);have HZ5:=Jf (show Blk (wc.drewN nq) w.heap.size 31 ag from HZ3.out);have HV5:=Jf (show Blk (wc.drewN nq) (w.heap.size+1) 31 ag from HV3.out);have HLT:=Jf (show rb<(wc.drewN nq).heap.size from HRB3.out.lt);clear HRB3 HR3 HS3 HZ3 HV3 c0 c1 c2 c3 c4 hl3;generalize wc.drewN nq=w5 at*
 obtain⟨c0,c1,c2,c3,c4⟩:=HRB5.out.cJ;cases ok with
 |true=>
  go_wp2_with fail;have HF0:=Jf (show bJ rb s a2 d 0 0 w5 w5 from⟨HRB5.out.cJ,Ji _ _⟩);have HFd:=Jf (bJ.drew HF0.out);clear c0 c1 c2 c3 c4;go_cut [7,8] from 9 to 103 (λx y wc=>mN pn pd px pe w5 x y wc);case first=>
   go_region_held3 (λw'=>(w'.cell? ⟨rb,0,none⟩=some (.string s)/\w'.cell? ⟨rb,1,none⟩=some (.int .i64 a2)/\w'.cell? ⟨rb,2,none⟩=some (.int .i64 d)/\w'.cell? ⟨rb,3,none⟩=some (.int .i64 0)/\w'.cell? ⟨rb,4,none⟩=some (.int .i64 0))/\Below w5.heap.size w5 w')
    ((show bJ rb s a2 d 0 0 w5 _;first|(with_reducible exact ht)|(with_reducible exact HFd.out)|(with_reducible exact bJ.alloc ht _)|(with_reducible exact bJ.drew (bJ.alloc HF0.out _))|(with_reducible exact bJ.set3 ht HLT.out _ _ _)))
    (first|(go_at_call 56;refine(HNUM.out _).mono ?_;rintro e w6 ⟨rfl,hb6⟩;have hz6:=hb6.size;(first|(have ht:bJ rb s a2 d 0 0 w5 w6:=(by with_reducible exact bJ.on HFd.out hb6))|(have ht:bJ rb s a2 d 0 0 w5 w6:=(by with_reducible exact bJ.on (bJ.drew (bJ.alloc HF0.out _)) hb6);obtain⟨nb0,nb1,nb2,nbf,nbk⟩:=C0 hb6;have HNBK:=Jf nbk;clear nbk));have HBW:Hid (Below w5.heap.size w5 w6):=Jf ht.2;clear hb6))
   .go_wp2_with fail
    go_meet
    case rel=>first|exact ka HBW.out|exact kb HBW.out HNBK.out
   .go_wp2_with fail
    go_meet
    case rel=>first|exact kb HBW.out HNBK.out|exact ka HBW.out
  case rest=>
   obtain⟨nb,rfl,rfl,hnb,hblk,hbl⟩:=hcut;have HNB:=Jf hblk;have HR6:=Jf (HR5.out.on hbl);have HZ6:=Jf (HZ5.out.on hbl);have HV6:=Jf (HV5.out.on hbl);have HS6:=Jf (HS5.out.trans (.aJ hbl));have hl5:=HV5.out.lt;have hl6:=hbl.size;have hrb5:=HLT.out;clear hblk hbl;obtain⟨c0,c1,c2,c3,c4⟩:=HR6.out.1.cJ;have rf:=HR6.out.1.frozen;obtain⟨v0,v1,v2,v3,v4,v5,v6,v7⟩:=HV6.out.eight;have vf:=HV6.out.frozen;obtain⟨n0,n1,n2⟩:wc.cell? ⟨nb,0,none⟩=some (.bool pn)/\wc.cell? ⟨nb,1,none⟩=some (.string ⟨pd.toArray⟩)/\wc.cell? ⟨nb,2,none⟩=some (.int .i64 px):=⟨HNB.out.cell 0,HNB.out.cell 1,HNB.out.cell 2⟩;by_cases hpe:pe=0
   .subst hpe;have HRN:=Jf (show Ps.number (c::u)=.ok ⟨pn,pd,px⟩ r by rw[HNUMDEF.out];simp);have HR7:=Jf (show bo rb s d (wc.setCell ⟨rb,1,none⟩ (.int .i64 E)) ((Ps.number (c::u)).map Ps.mkD) by rw[HRN.out];exact⟨E,HR6.out.goTo rfl HRES.out.1 HRES.out.2⟩);have HVQ:=Jf (show∀v0 u',(Ps.number (c::u)).map Ps.mkD=.ok v0 u'->Ps.mkD ⟨pn,pd,px⟩=v0 by rw[HRN.out];intro v0 u' e;injection e);have HS7:=Jf (HS6.out.set 1 (.int .i64 E));have HV7:=Jf (show Blk (wc.setCell ⟨rb,1,none⟩ (.int .i64 E)) (w.heap.size+1) 31 ag from(JG _ _ _ _ (by show _≠rb;omega)).trans HV6.out);have HZ7:=Jf (show Blk (wc.setCell ⟨rb,1,none⟩ (.int .i64 E)) w.heap.size 31 ag from(JG _ _ _ _ (by show _≠rb;omega)).trans HZ6.out);go_wp2_with fail;clear c0 c1 c2 c3 c4 v0 v1 v2 v3 v4 v5 v6 v7;refine(cQ (HR7.out.far (aF _ _ _ (show rb≠w.heap.size+1 by omega) (.int .i64 2) (.bool false) (.bool pn) (.string ⟨pd.toArray⟩) (.int .i64 px) (.string ⟨#[]⟩) (.slice none 0 0) (.slice none 0 0))) (show s.size<=1000000000000 by omega)).mono ?_;rintro e w8 ⟨rfl,hA8,hS8⟩;have HS8:=Jf (ak.trans (HS7.out.bg (show w.heap.size<=w.heap.size+1 by omega) (.int .i64 2) (.bool false) (.bool pn) (.string ⟨pd.toArray⟩) (.int .i64 px) (.string ⟨#[]⟩) (.slice none 0 0) (.slice none 0 0)) hS8);have HZ8:=Jf (hS8.blk (show Blk (bg (wc.setCell ⟨rb,1,none⟩ (.int .i64 E)) (w.heap.size+1) (.int .i64 2) (.bool false) (.bool pn) (.string ⟨pd.toArray⟩) (.int .i64 px) (.string ⟨#[]⟩) (.slice none 0 0) (.slice none 0 0)) w.heap.size 31 ag from(aF _ _ _ (by omega) (.int .i64 2) (.bool false) (.bool pn) (.string ⟨pd.toArray⟩) (.int .i64 px) (.string ⟨#[]⟩) (.slice none 0 0) (.slice none 0 0)).trans HZ7.out) (by omega));have HV8:=Jf (hS8.blk (HV7.out.bg (.int .i64 2) (.bool false) (.bool pn) (.string ⟨pd.toArray⟩) (.int .i64 px) (.string ⟨#[]⟩) (.slice none 0 0) (.slice none 0 0)) (by omega));have HIN8:=Jf (In.keep (hS8.le (B:=w.heap.size+1) (by omega)) _ _ (dw _ 2 false ⟨pn,pd,px⟩ []));have HA8:=Jf hA8;clear hA8 hS8;obtain⟨z0,z1,z2,z3,z4,z5,z6,z7⟩:=HZ8.out.eight;obtain⟨v0,v1,v2,v3,v4,v5,v6,v7⟩:=HV8.out.eight;have zf:=HZ8.out.frozen;go_wp2_with fail;have hfin:=bu (v:=(Ps.mkD ⟨pn,pd,px⟩)) (d:=d) hrb HS8.out HZ8.out HIN8.out (dX HVQ.out) HA8.out;refine Ju (aj (l:=[_,_,_,_,_,_,_,_]) rfl _ _ _ rfl hfin.1 Tryz.underlying31 rfl (by kernel_rfl)) rfl ?_;rw[HRQ.out];exact hfin.2
   .have HF:=Jf (iN HR6.out a2 5 (c::u).length HAL.out (by omega));have HRN:=Jf (show Ps.number (c::u)=.bad 5 (c::u).length by rw[HNUMDEF.out];simp[hpe]);have tpe:(pe==0)=false:=by simpa using hpe
    have tpe2:(pe !=0)=true:=by simpa using hpe
    have HVQ:=Jf (show∀v0 u',(Ps.number (c::u)).map Ps.mkD=.ok v0 u'->Ps.mkD ⟨pn,pd,px⟩=v0 by rw[HRN.out];intro v0 u' e;cases e);go_wp2_with fail;refine HF.out.mono ?_;rintro e w6 ⟨rfl,hRB7,hS6⟩;have HR7:=Jf (show bo rb s d (w6.setCell ⟨rb,1,none⟩ (.int .i64 E)) ((Ps.number (c::u)).map Ps.mkD) by rw[HRN.out];exact hRB7.setAt _);have HV5:=Jf (hS6.blk HV6.out (by omega));have HZ5:=Jf (hS6.blk HZ6.out (by omega));have HNB5:=Jf (hS6.blk HNB.out (by omega));have HS7:=Jf ((HS6.out.trans hS6).set 1 (.int .i64 E));have HV7:=Jf (show Blk (w6.setCell ⟨rb,1,none⟩ (.int .i64 E)) (w.heap.size+1) 31 ag from(JG _ _ _ _ (by show _≠rb;omega)).trans HV5.out);have HZ7:=Jf (show Blk (w6.setCell ⟨rb,1,none⟩ (.int .i64 E)) w.heap.size 31 ag from(JG _ _ _ _ (by show _≠rb;omega)).trans HZ5.out);have hl7:=hS6.size;obtain⟨a7,d7,p7,hb7,_,_⟩:=hRB7;clear c0 c1 c2 c3 c4 v0 v1 v2 v3 v4 v5 v6 v7 n0 n1 n2 rf vf;obtain⟨c0,c1,c2,c3,c4⟩:=hb7.cJ;have rf:=hb7.frozen;obtain⟨v0,v1,v2,v3,v4,v5,v6,v7⟩:=HV5.out.eight;have vf:=HV5.out.frozen;obtain⟨n0,n1,n2⟩:w6.cell? ⟨nb,0,none⟩=some (.bool pn)/\w6.cell? ⟨nb,1,none⟩=some (.string ⟨pd.toArray⟩)/\w6.cell? ⟨nb,2,none⟩=some (.int .i64 px):=⟨HNB5.out.cell 0,HNB5.out.cell 1,HNB5.out.cell 2⟩;clear hb7 hS6;go_wp2_with fail;clear c0 c1 c2 c3 c4 v0 v1 v2 v3 v4 v5 v6 v7;refine(cQ (HR7.out.far (aF _ _ _ (show rb≠w.heap.size+1 by omega) (.int .i64 2) (.bool false) (.bool pn) (.string ⟨pd.toArray⟩) (.int .i64 px) (.string ⟨#[]⟩) (.slice none 0 0) (.slice none 0 0))) (show s.size<=1000000000000 by omega)).mono ?_;rintro e w8 ⟨rfl,hA8,hS8⟩;have HS8:=Jf (ak.trans (HS7.out.bg (show w.heap.size<=w.heap.size+1 by omega) (.int .i64 2) (.bool false) (.bool pn) (.string ⟨pd.toArray⟩) (.int .i64 px) (.string ⟨#[]⟩) (.slice none 0 0) (.slice none 0 0)) hS8);have HZ8:=Jf (hS8.blk (show Blk (bg (w6.setCell ⟨rb,1,none⟩ (.int .i64 E)) (w.heap.size+1) (.int .i64 2) (.bool false) (.bool pn) (.string ⟨pd.toArray⟩) (.int .i64 px) (.string ⟨#[]⟩) (.slice none 0 0) (.slice none 0 0)) w.heap.size 31 ag from(aF _ _ _ (by omega) (.int .i64 2) (.bool false) (.bool pn) (.string ⟨pd.toArray⟩) (.int .i64 px) (.string ⟨#[]⟩) (.slice none 0 0) (.slice none 0 0)).trans HZ7.out) (by omega));have HV8:=Jf (hS8.blk (HV7.out.bg (.int .i64 2) (.bool false) (.bool pn) (.string ⟨pd.toArray⟩) (.int .i64 px) (.string ⟨#[]⟩) (.slice none 0 0) (.slice none 0 0)) (by omega));have HIN8:=Jf (In.keep (hS8.le (B:=w.heap.size+1) (by omega)) _ _ (dw _ 2 false ⟨pn,pd,px⟩ []));have HA8:=Jf hA8;clear hA8 hS8;obtain⟨z0,z1,z2,z3,z4,z5,z6,z7⟩:=HZ8.out.eight;obtain⟨v0,v1,v2,v3,v4,v5,v6,v7⟩:=HV8.out.eight;have zf:=HZ8.out.frozen;go_wp2_with fail;have hfin:=bu (v:=(Ps.mkD ⟨pn,pd,px⟩)) (d:=d) hrb HS8.out HZ8.out HIN8.out (dX HVQ.out) HA8.out;refine Ju (aj (l:=[_,_,_,_,_,_,_,_]) rfl _ _ _ rfl hfin.1 Tryz.underlying31 rfl (by kernel_rfl)) rfl ?_;rw[HRQ.out];exact hfin.2
 |false=>
  have HFB:=Jf (Fe HRB5.out (E:Int) 1);go_wp2_with fail;refine HFB.out.mono ?_;rintro e w4 ⟨rfl,hb5,hs5⟩;have HRB4:=Jf hb5;have HS4:=Jf (HS5.out.trans hs5);have HZ4:=Jf (hs5.blk HZ5.out (by omega));have HV4:=Jf (hs5.blk HV5.out (by omega));have HLT4:=Jf (show rb<w4.heap.size from hb5.lt);clear HRB5 HR5 HS5 HZ5 HV5 HLT HFB c0 c1 c2 c3 c4;obtain⟨c0,c1,c2,c3,c4⟩:=hb5.cJ;clear hb5 hs5;have HRN:=Jf (show Ps.number (c::u)=.bad 1 r.length by rw[HNUMDEF.out];simp);have HVQ:=Jf (show∀v0 u',(Ps.number (c::u)).map Ps.mkD=.ok v0 u'->Ps.mkD ⟨pn,pd,px⟩=v0 by rw[HRN.out];intro v0 u' e;cases e);go_wp2_with fail;have HF0:=Jf (show bJ rb s a2 d 1 E w4 w4 from⟨HRB4.out.cJ,Ji _ _⟩);have HFd:=Jf (bJ.drew HF0.out);clear c0 c1 c2 c3 c4;go_cut [7,8] from 9 to 103 (λx y wc=>mN pn pd px pe w4 x y wc);case first=>
   go_region_held3 (λw'=>(w'.cell? ⟨rb,0,none⟩=some (.string s)/\w'.cell? ⟨rb,1,none⟩=some (.int .i64 a2)/\w'.cell? ⟨rb,2,none⟩=some (.int .i64 d)/\w'.cell? ⟨rb,3,none⟩=some (.int .i64 1)/\w'.cell? ⟨rb,4,none⟩=some (.int .i64 E))/\Below w4.heap.size w4 w')
    ((show bJ rb s a2 d 1 E w4 _;first|(with_reducible exact ht)|(with_reducible exact HFd.out)|(with_reducible exact bJ.alloc ht _)|(with_reducible exact bJ.drew (bJ.alloc HF0.out _))|(with_reducible exact bJ.set3 ht HLT4.out _ _ _)))
    (first|(go_at_call 56;refine(HNUM.out _).mono ?_;rintro e w6 ⟨rfl,hb6⟩;have hz6:=hb6.size;(first|(have ht:bJ rb s a2 d 1 E w4 w6:=(by with_reducible exact bJ.on HFd.out hb6))|(have ht:bJ rb s a2 d 1 E w4 w6:=(by with_reducible exact bJ.on (bJ.drew (bJ.alloc HF0.out _)) hb6);obtain⟨nb0,nb1,nb2,nbf,nbk⟩:=C0 hb6;have HNBK:=Jf nbk;clear nbk));have HBW:Hid (Below w4.heap.size w4 w6):=Jf ht.2;clear hb6))
   .go_wp2_with fail
    go_meet
    case rel=>first|exact ka HBW.out|exact kb HBW.out HNBK.out
   .go_wp2_with fail
    go_meet
    case rel=>first|exact kb HBW.out HNBK.out|exact ka HBW.out
  case rest=>
   obtain⟨nb,rfl,rfl,hnb,hblk,hbl⟩:=hcut;have HNB:=Jf hblk;have HRB6:=Jf (HRB4.out.on hbl);have HZ6:=Jf (HZ4.out.on hbl);have HV6:=Jf (HV4.out.on hbl);have HS6:=Jf (HS4.out.trans (.aJ hbl));have hl5:=HV4.out.lt;have hl6:=hbl.size;have hrb5:=HLT4.out;have HRD6:=Jf (show RdB wc rb s 1 r.length from⟨_,_,E,HRB6.out,HRES.out.1,Jh _⟩);clear hblk hbl;obtain⟨c0,c1,c2,c3,c4⟩:=HRB6.out.cJ;have rf:=HRB6.out.frozen;obtain⟨v0,v1,v2,v3,v4,v5,v6,v7⟩:=HV6.out.eight;have vf:=HV6.out.frozen;obtain⟨n0,n1,n2⟩:wc.cell? ⟨nb,0,none⟩=some (.bool pn)/\wc.cell? ⟨nb,1,none⟩=some (.string ⟨pd.toArray⟩)/\wc.cell? ⟨nb,2,none⟩=some (.int .i64 px):=⟨HNB.out.cell 0,HNB.out.cell 1,HNB.out.cell 2⟩;have HR7:=Jf (show bo rb s d (wc.setCell ⟨rb,1,none⟩ (.int .i64 E)) ((Ps.number (c::u)).map Ps.mkD) by rw[HRN.out];exact HRD6.out.setAt _);have HS7:=Jf (HS6.out.set 1 (.int .i64 E));have HV7:=Jf (show Blk (wc.setCell ⟨rb,1,none⟩ (.int .i64 E)) (w.heap.size+1) 31 ag from(JG _ _ _ _ (by show _≠rb;omega)).trans HV6.out);have HZ7:=Jf (show Blk (wc.setCell ⟨rb,1,none⟩ (.int .i64 E)) w.heap.size 31 ag from(JG _ _ _ _ (by show _≠rb;omega)).trans HZ6.out);by_cases hpe:pe=0
   .subst hpe;go_wp2_with fail;clear c0 c1 c2 c3 c4 v0 v1 v2 v3 v4 v5 v6 v7;refine(cQ (HR7.out.far (aF _ _ _ (show rb≠w.heap.size+1 by omega) (.int .i64 2) (.bool false) (.bool pn) (.string ⟨pd.toArray⟩) (.int .i64 px) (.string ⟨#[]⟩) (.slice none 0 0) (.slice none 0 0))) (show s.size<=1000000000000 by omega)).mono ?_;rintro e w8 ⟨rfl,hA8,hS8⟩;have HS8:=Jf (ak.trans (HS7.out.bg (show w.heap.size<=w.heap.size+1 by omega) (.int .i64 2) (.bool false) (.bool pn) (.string ⟨pd.toArray⟩) (.int .i64 px) (.string ⟨#[]⟩) (.slice none 0 0) (.slice none 0 0)) hS8);have HZ8:=Jf (hS8.blk (show Blk (bg (wc.setCell ⟨rb,1,none⟩ (.int .i64 E)) (w.heap.size+1) (.int .i64 2) (.bool false) (.bool pn) (.string ⟨pd.toArray⟩) (.int .i64 px) (.string ⟨#[]⟩) (.slice none 0 0) (.slice none 0 0)) w.heap.size 31 ag from(aF _ _ _ (by omega) (.int .i64 2) (.bool false) (.bool pn) (.string ⟨pd.toArray⟩) (.int .i64 px) (.string ⟨#[]⟩) (.slice none 0 0) (.slice none 0 0)).trans HZ7.out) (by omega));have HV8:=Jf (hS8.blk (HV7.out.bg (.int .i64 2) (.bool false) (.bool pn) (.string ⟨pd.toArray⟩) (.int .i64 px) (.string ⟨#[]⟩) (.slice none 0 0) (.slice none 0 0)) (by omega));have HIN8:=Jf (In.keep (hS8.le (B:=w.heap.size+1) (by omega)) _ _ (dw _ 2 false ⟨pn,pd,px⟩ []));have HA8:=Jf hA8;clear hA8 hS8;obtain⟨z0,z1,z2,z3,z4,z5,z6,z7⟩:=HZ8.out.eight;obtain⟨v0,v1,v2,v3,v4,v5,v6,v7⟩:=HV8.out.eight;have zf:=HZ8.out.frozen;go_wp2_with fail;have hfin:=bu (v:=(Ps.mkD ⟨pn,pd,px⟩)) (d:=d) hrb HS8.out HZ8.out HIN8.out (dX HVQ.out) HA8.out;refine Ju (aj (l:=[_,_,_,_,_,_,_,_]) rfl _ _ _ rfl hfin.1 Tryz.underlying31 rfl (by kernel_rfl)) rfl ?_;rw[HRQ.out];exact hfin.2
   .have HF:=Jf (qI HRD6.out a2 5);have tpe:(pe==0)=false:=by simpa using hpe
    have tpe2:(pe !=0)=true:=by simpa using hpe
    go_wp2_with fail;refine HF.out.mono ?_;rintro e w6 ⟨rfl,rfl⟩;go_wp2_with fail;clear c0 c1 c2 c3 c4 v0 v1 v2 v3 v4 v5 v6 v7;refine(cQ (HR7.out.far (aF _ _ _ (show rb≠w.heap.size+1 by omega) (.int .i64 2) (.bool false) (.bool pn) (.string ⟨pd.toArray⟩) (.int .i64 px) (.string ⟨#[]⟩) (.slice none 0 0) (.slice none 0 0))) (show s.size<=1000000000000 by omega)).mono ?_;rintro e w8 ⟨rfl,hA8,hS8⟩;have HS8:=Jf (ak.trans (HS7.out.bg (show w.heap.size<=w.heap.size+1 by omega) (.int .i64 2) (.bool false) (.bool pn) (.string ⟨pd.toArray⟩) (.int .i64 px) (.string ⟨#[]⟩) (.slice none 0 0) (.slice none 0 0)) hS8);have HZ8:=Jf (hS8.blk (show Blk (bg (wc.setCell ⟨rb,1,none⟩ (.int .i64 E)) (w.heap.size+1) (.int .i64 2) (.bool false) (.bool pn) (.string ⟨pd.toArray⟩) (.int .i64 px) (.string ⟨#[]⟩) (.slice none 0 0) (.slice none 0 0)) w.heap.size 31 ag from(aF _ _ _ (by omega) (.int .i64 2) (.bool false) (.bool pn) (.string ⟨pd.toArray⟩) (.int .i64 px) (.string ⟨#[]⟩) (.slice none 0 0) (.slice none 0 0)).trans HZ7.out) (by omega));have HV8:=Jf (hS8.blk (HV7.out.bg (.int .i64 2) (.bool false) (.bool pn) (.string ⟨pd.toArray⟩) (.int .i64 px) (.string ⟨#[]⟩) (.slice none 0 0) (.slice none 0 0)) (by omega));have HIN8:=Jf (In.keep (hS8.le (B:=w.heap.size+1) (by omega)) _ _ (dw _ 2 false ⟨pn,pd,px⟩ []));have HA8:=Jf hA8;clear hA8 hS8;obtain⟨z0,z1,z2,z3,z4,z5,z6,z7⟩:=HZ8.out.eight;obtain⟨v0,v1,v2,v3,v4,v5,v6,v7⟩:=HV8.out.eight;have zf:=HZ8.out.frozen;go_wp2_with fail;have hfin:=bu (v:=(Ps.mkD ⟨pn,pd,px⟩)) (d:=d) hrb HS8.out HZ8.out HIN8.out (dX HVQ.out) HA8.out;refine Ju (aj (l:=[_,_,_,_,_,_,_,_]) rfl _ _ _ rfl hfin.1 Tryz.underlying31 rfl (by kernel_rfl)) rfl ?_;rw[HRQ.out];exact hfin.2
theorem Ea:∀f,VC f:=by
 intro f
 induction f using Nat.strongRecOn with
 |_ f ih=>
  intro rb s a t d w h hs hd hf;cases f with
  |zero=>omega
  |succ f=>
   have hsl:=Ps.aC t;cases hsk:Ps.skip t with
   |nil=>
    refine sQ h hs hd ?_ ?_
    .rw[hsk];simp[Go.Proofs.YtdhgmaonolgpnaaGreatDoor.hd]
    .rw[dA,hsk];simp
   |cons c u=>
    rw[hsk,Jl] at hsl;by_cases h1:c=123
    .subst h1;exact Ei h hs hd hsk f (λf' hlt=>ih f' (by omega)) (by omega)
    by_cases h2:c=91
    .subst h2;exact Ec h hs hd hsk f (λf' hlt=>ih f' (by omega)) (by omega)
    by_cases h3:c=34
    .subst h3;exact Ej h hs hd hsk f
    by_cases h4:c=110
    .subst h4;exact Bo h hs hd hsk f
    by_cases h5:c=116
    .subst h5;exact Br h hs hd hsk f
    by_cases h6:c=102
    .subst h6;exact ze h hs hd hsk f
    by_cases h7:c=45\/Nm.dig c=true
    .exact Eh h hs hd hsk h7 f
    .have hne:∀k:UInt8,¬c=k->(c.toNat:Int)≠(k.toNat:Int):=λk hk e=>hk (L4.1 (by omega));refine sQ h hs hd ?_ ?_
     .rw[hsk];refine⟨hne 123 h1,hne 91 h2,hne 34 h3,hne 110 h4,hne 116 h5,hne 102 h6,hne 45 (λe=>h7 (.inl e)),?_⟩;have hnd:¬Nm.dig c=true:=λe=>h7 (.inr e);simp only[Nm.dig,JH,JF] at hnd;show(c.toNat:Int)<48\/57<(c.toNat:Int);omega
     .rw[dA,hsk];simp only;rw[Jj h1,Jj h2];unfold Ps.single;rw[Jj h3,Jj h4,Jj h5,Jj h6,Jj h7]
def Hx(s:ByteArray)(w:World)(e:Ending)(w':World):Prop:=
 ∃(v:Vl) (x:Value) (c p:Int),e=.returned (.tuple #[x,.int .i64 c,.int .i64 p])/\v.In (w'.on (w.heap.size<=·)) x/\Below w.heap.size w w'/\
  (match Ps.parse s.data.toList with
   |.ok v0 _=>v=v0/\c=0/\p=0
   |.bad c0 l=>v=Ps.mkN/\c=c0/\p=(s.size:Int)-l)
theorem gD{fn:Func}{p u t:Tmp}{ty:TypeId}(h:fn.results=#[.cell p ty,.tmp u,.tmp t])(tmps:Array Value)(P:Program)(w:World){g:Nat}{bt:TypeId}{l:List Value}{d:TypeDesc}
  (hp:tmps.getD p undef=.pointer (some ⟨g,0,none⟩)) (hg:Blk w g bt l.toArray) (hu:P.underlying ty=some d) (hd:d.isRow=true) (hi:(P.info? ty).map (·.size)=some l.length):
  (results fn tmps).run P w=.ok (.tuple #[.agg l.toArray,tmps.getD u undef,tmps.getD t undef]) w:=by
 have hl:(loadVar ty ⟨g,0,none⟩).run P w=.ok (.agg l.toArray) w:=NI w g 0 ty l d (λj v hv=>by rw[JI,hg.cell j];simpa using hv) hu hd hi;have hp':tmps[p]?.getD undef=.pointer (some ⟨g,0,none⟩):=by simpa using hp
 simp[results,h,hp',asAddr,hl]
theorem Blk.drew{w:World}{g:Nat}{t:TypeId}{cs:Array Value}(h:Blk w g t cs):Blk w.drew g t cs:=h
theorem lS{s:ByteArray}{w w':World}{c l p:Nat}(hP:Ps.parse s.data.toList=.bad c l)(hp:p+l=s.size)(hB:Below w.heap.size w w'):Hx s w (.returned (.tuple #[.agg ag,.int .i64 c,.int .i64 p])) w':=by
 refine⟨Ps.mkN,_,c,p,rfl,dw _ 0 false Nm.Num.zero [],hB,?_⟩;rw[hP];exact⟨rfl,rfl,by omega⟩
theorem km(s:ByteArray)(hs:s.size<=1000000000000)(w:World):Calls Tryz.prog 14 #[.string s] w (Hx s w):=by
 have HZ:=Jf (Blk.new w 31 ag);by_cases hbig:20000<s.size
 .have t1:decide ((20000:Int)<(s.size:Int))=true:=by simp;omega
  have HP:=Jf (show Ps.parse s.data.toList=.bad 5 (s.size-20000) by
   unfold Ps.parse;have hl:s.data.toList.length=s.size:=KV;rw[Jo (by omega),hl])
  obtain⟨z0,z1,z2,z3,z4,z5,z6,z7⟩:=HZ.out.eight;have zf:=HZ.out.frozen;go_enter Tryz.func14,Tryz.ntmps14;go_wp2_with fail;refine Ju (gD (l:=[_,_,_,_,_,_,_,_]) rfl _ _ _ rfl HZ.out Tryz.underlying31 rfl (by kernel_rfl)) rfl ?_;refine⟨Ps.mkN,_,5,20000,rfl,dw _ 0 false Nm.Num.zero [],(Ji _ _).alloc (Jh _) _,?_⟩;rw[HP.out];exact⟨rfl,rfl,by omega⟩
 .have t1:decide ((20000:Int)<(s.size:Int))=false:=by simp;omega
  have HRd:=Jf (show Rd ((w.alloc (.cells ag 31)).alloc (.cells #[.string s,.int .i64 0,.int .i64 0,.int .i64 0,.int .i64 0] 75)) (w.heap.size+1) s 0 s.data.toList 0 from⟨Blk.cW w _ _ _,by rw[JI];exact KV,rfl⟩);have HV:=Jf (Ea (3*s.data.toList.length+1) _ _ _ _ _ _ HRd.out (by omega) (by omega) (Jh _));have HB:=Jf (show Below w.heap.size w ((w.alloc (.cells ag 31)).alloc (.cells #[.string s,.int .i64 0,.int .i64 0,.int .i64 0,.int .i64 0] 75)) from((Ji _ _).alloc (Jh _) _).alloc (by simp) _);have HZ1:=Jf (HZ.out.alloc (.cells #[.string s,.int .i64 0,.int .i64 0,.int .i64 0,.int .i64 0] 75));have HP:=Jf (show Ps.parse s.data.toList=match Ps.value (3*s.data.toList.length+1) 0 s.data.toList with
   |.bad c l=>.bad c l
   |.ok v []=>.ok v []
   |.ok _ (c::u)=>.bad 1 (c::u).length by
   unfold Ps.parse;have hl:s.data.toList.length=s.size:=KV;rw[Jj (by omega)];rfl)
  go_enter Tryz.func14,Tryz.ntmps14;go_wp2_with fail;refine HV.out.mono ?_;rintro e w3 ⟨v,x,rfl,hin,hS,hv,hA⟩;obtain⟨k1,b1,n1,g1,x1,s1,A1,l1,p1,B1,m1,d1,rfl⟩:=In.cells hin;rw[show((w.alloc (.cells ag 31)).alloc (.cells #[.string s,.int .i64 0,.int .i64 0,.int .i64 0,.int .i64 0] 75)).heap.size=w.heap.size+2 by simp] at hin;have hsz:w.heap.size+2<=w3.heap.size:=by have:=hS.size;simp at this;omega
  have HIN:=Jf hin;have HZ3:=Jf (hS.blk HZ1.out (by omega));have HB3:=Jf (HB.out.trans (hS.below (by omega) (by simp;omega)));clear hin hS;generalize Ps.value (3*s.data.toList.length+1) 0 s.data.toList=r at HP hv hA;have hsz1:w.heap.size+1<w3.heap.size:=by omega
  have hsz0:w.heap.size<w3.heap.size:=by omega
  have BOX:=Jf (Blk.new w3 31 #[.int .i64 k1,b1,n1,g1,.int .i64 x1,s1,.slice A1 l1 p1,.slice B1 m1 d1]);have hb4:=(Ji w3.heap.size w3).alloc (Jh _) (.cells #[.int .i64 k1,b1,n1,g1,.int .i64 x1,s1,.slice A1 l1 p1,.slice B1 m1 d1] 31);have HZ4:=Jf (HZ3.out.on hb4);have HB4:=Jf (HB3.out.trans (hb4.mono (by omega)));obtain⟨z0,z1,z2,z3,z4,z5,z6,z7⟩:=HZ4.out.eight;have zf:=HZ4.out.frozen;cases r with
  |bad c l=>
   obtain⟨a9,d9,p9,hb,h1,h2⟩:=hA;obtain⟨c0,c1,c2,c3,c4⟩:=(hb.on hb4).cJ;have rf:=(hb.on hb4).frozen;have t2:((c:Int)==0)=false:=by simp;omega
   have t3:((c:Int) !=0)=true:=by simp;omega
   have hfr:=(Below.mono hb4 (show 0<=_ by omega)).size;clear hv hb hb4;go_wp2_with fail;generalize w3.alloc (.cells #[.int .i64 k1,b1,n1,g1,.int .i64 x1,s1,.slice A1 l1 p1,.slice B1 m1 d1] 31)=w4 at*
   go_region
   all_goals
    go_wp2_with fail;have hfin:=(HZ4.out.bg (.int .i64 0) (.bool false) (.bool false) (.string ⟨#[]⟩) (.int .i64 0) (.string ⟨#[]⟩) (.slice none 0 0) (.slice none 0 0)).drew;refine Ju (gD (l:=[_,_,_,_,_,_,_,_]) rfl _ _ _ rfl hfin Tryz.underlying31 rfl (by kernel_rfl)) rfl ?_;exact lS HP.out (by omega) (aX HB4.out (Jh _) (.int .i64 0) (.bool false) (.bool false) (.string ⟨#[]⟩) (.int .i64 0) (.string ⟨#[]⟩) (.slice none 0 0) (.slice none 0 0)).drew
  |ok v0 u=>
   obtain rfl:=hv v0 u rfl;obtain⟨a9,hb,h1,h2⟩:=hA;cases u with
   |nil=>
    simp only[Jw,Kx] at h1;obtain⟨c0,c1,c2,c3,c4⟩:=(hb.on hb4).cJ;have rf:=(hb.on hb4).frozen;obtain⟨y0,y1,y2,y3,y4,y5,y6,y7⟩:=BOX.out.eight;have t2:decide ((a9:Int)<(s.size:Int))=false:=by simp;omega
    have HIN4:=Jf (show v.In ((w3.alloc (.cells #[.int .i64 k1,b1,n1,g1,.int .i64 x1,s1,.slice A1 l1 p1,.slice B1 m1 d1] 31)).on (w.heap.size+1<=·)) (vlV k1 b1 n1 g1 x1 s1 (.slice A1 l1 p1) (.slice B1 m1 d1)) from In.keep (λp u hp=>by
     obtain⟨hp1,hp2⟩:=ah.1 hp;exact ah.2 ⟨by omega,by rw[hb4.cell (Jn w3 _ hp2)];exact hp2⟩) _ _ HIN.out)
    have HP4:=Jf (show Ps.parse s.data.toList=.ok v [] from HP.out);clear hv hb hb4;go_upto_region 5 with(fail);generalize w3.alloc (.cells #[.int .i64 k1,b1,n1,g1,.int .i64 x1,s1,.slice A1 l1 p1,.slice B1 m1 d1] 31)=w4 at*
    go_wp2_with fail;have hfin:=HZ4.out.bg (.int .i64 k1) (.bool b1) (.bool n1) (.string ⟨g1.toArray⟩) (.int .i64 x1) (.string ⟨s1.toArray⟩) (.slice A1 l1 p1) (.slice B1 m1 d1);refine Ju (gD (l:=[_,_,_,_,_,_,_,_]) rfl _ _ _ rfl hfin Tryz.underlying31 rfl (by kernel_rfl)) rfl ?_;refine⟨v,_,0,0,rfl,nr HIN4.out (L9 _) (KD _) (.int .i64 k1) (.bool b1) (.bool n1) (.string ⟨g1.toArray⟩) (.int .i64 x1) (.string ⟨s1.toArray⟩) (.slice A1 l1 p1) (.slice B1 m1 d1),aX HB4.out (Jh _) (.int .i64 k1) (.bool b1) (.bool n1) (.string ⟨g1.toArray⟩) (.int .i64 x1) (.string ⟨s1.toArray⟩) (.slice A1 l1 p1) (.slice B1 m1 d1),?_⟩;rw[HP4.out];exact⟨rfl,rfl,rfl⟩
   |cons q u=>
    have hlen:(q::u).length=u.length+1:=rfl;obtain⟨c0,c1,c2,c3,c4⟩:=(hb.on hb4).cJ;have rf:=(hb.on hb4).frozen;have t2:decide ((a9:Int)<(s.size:Int))=true:=by simp;omega
    have HF:=Jf (iN (show Rd (w3.alloc (.cells #[.int .i64 k1,b1,n1,g1,.int .i64 x1,s1,.slice A1 l1 p1,.slice B1 m1 d1] 31)) (w.heap.size+1) s a9 (q::u) 0 from⟨hb.on hb4,h1,h2⟩) a9 1 (q::u).length h1 (Jh _));have HP4:=Jf (show Ps.parse s.data.toList=.bad 1 (q::u).length from HP.out);have hsz4:w.heap.size+1<(w3.alloc (.cells #[.int .i64 k1,b1,n1,g1,.int .i64 x1,s1,.slice A1 l1 p1,.slice B1 m1 d1] 31)).heap.size:=by have:=hb4.size;omega
    clear hv hb hb4;go_upto_region 5 with(fail);generalize w3.alloc (.cells #[.int .i64 k1,b1,n1,g1,.int .i64 x1,s1,.slice A1 l1 p1,.slice B1 m1 d1] 31)=w4 at*
    go_wp2_with fail;refine HF.out.mono ?_;rintro e w5 ⟨rfl,hRB5,hS5⟩;have HZ5:=Jf (hS5.blk HZ4.out (by omega));have HB5:=Jf (HB4.out.trans (hS5.below (B:=w.heap.size) (by omega) (by omega)));obtain⟨a5,d5,p5,hb5,h3,_⟩:=hRB5;clear c0 c1 c2 c3 c4 z0 z1 z2 z3 z4 z5 z6 z7 zf rf hS5;obtain⟨c0,c1,c2,c3,c4⟩:=hb5.cJ;obtain⟨z0,z1,z2,z3,z4,z5,z6,z7⟩:=HZ5.out.eight;have zf:=HZ5.out.frozen;clear hb5;go_wp2_with fail
    go_region
    all_goals
     go_wp2_with fail;have hfin:=(HZ5.out.bg (.int .i64 0) (.bool false) (.bool false) (.string ⟨#[]⟩) (.int .i64 0) (.string ⟨#[]⟩) (.slice none 0 0) (.slice none 0 0)).drew;refine Ju (gD (l:=[_,_,_,_,_,_,_,_]) rfl _ _ _ rfl hfin Tryz.underlying31 rfl (by kernel_rfl)) rfl ?_;exact lS HP4.out h3 (aX HB5.out (Jh _) (.int .i64 0) (.bool false) (.bool false) (.string ⟨#[]⟩) (.int .i64 0) (.string ⟨#[]⟩) (.slice none 0 0) (.slice none 0 0)).drew
def Ih(s:ByteArray)(w:World)(e:Ending)(w':World):Prop:=
 Below w.heap.size w w'/\((∃x,e=.returned (.tuple #[x,.int .i64 0])/\Vl.In (w'.on (w.heap.size<=·)) Ps.mkN x)\/
  (∃v u x,s.size<=2000/\Ps.parse s.data.toList=.ok v u/\e=.returned (.tuple #[x,.int .i64 1])/\v.In (w'.on (w.heap.size<=·)) x))
theorem Ef(s:ByteArray)(hs:s.size<=1000000000000000000)(w:World):Calls Tryz.prog 6 #[.string s] w (Ih s w):=by
 have HZ:=Jf (Blk.new w 31 ag);by_cases hbig:2000<s.size
 .have t1:decide ((2000:Int)<(s.size:Int))=true:=by simp;omega
  obtain⟨z0,z1,z2,z3,z4,z5,z6,z7⟩:=HZ.out.eight;have zf:=HZ.out.frozen;go_enter Tryz.func6,Tryz.ntmps6;go_wp2_with fail;refine Ju (aM (l:=[_,_,_,_,_,_,_,_]) rfl _ _ _ rfl HZ.out Tryz.underlying31 rfl (by kernel_rfl)) rfl ?_;exact⟨(Ji _ _).alloc (Jh _) _,.inl ⟨_,rfl,dw _ 0 false Nm.Num.zero []⟩⟩
 .have t1:decide ((2000:Int)<(s.size:Int))=false:=by simp;omega
  have HP:=Jf (km s (by omega) (w.alloc (.cells ag 31)));have HB:=Jf (show Below w.heap.size w (w.alloc (.cells ag 31)) from(Ji _ _).alloc (Jh _) _);go_enter Tryz.func6,Tryz.ntmps6;go_wp2_with fail;refine HP.out.mono ?_;rintro e w3 ⟨v,x,c,p,rfl,hin,hb3,hp⟩;obtain⟨k1,b1,n1,g1,x1,s1,A1,l1,p1,B1,m1,d1,rfl⟩:=In.cells hin;rw[show(w.alloc (.cells ag 31)).heap.size=w.heap.size+1 by simp] at hin hb3;have hsz:w.heap.size+1<=w3.heap.size:=hb3.size |> λh=>by simp at h;omega
  have hsz0:w.heap.size<w3.heap.size:=by omega
  have HZ3:=Jf (HZ.out.below hb3 (by omega));have HB3:=Jf (HB.out.trans (hb3.mono (by omega)));have hb4:=(Ji w3.heap.size w3).alloc (Jh _) (.cells #[.int .i64 k1,b1,n1,g1,.int .i64 x1,s1,.slice A1 l1 p1,.slice B1 m1 d1] 31);have BOX:=Jf (Blk.new w3 31 #[.int .i64 k1,b1,n1,g1,.int .i64 x1,s1,.slice A1 l1 p1,.slice B1 m1 d1]);have HZ4:=Jf (HZ3.out.on hb4);have HB4:=Jf (HB3.out.trans (hb4.mono (by omega)));have HIN4:=Jf (show v.In ((w3.alloc (.cells #[.int .i64 k1,b1,n1,g1,.int .i64 x1,s1,.slice A1 l1 p1,.slice B1 m1 d1] 31)).on (w.heap.size+1<=·)) (vlV k1 b1 n1 g1 x1 s1 (.slice A1 l1 p1) (.slice B1 m1 d1)) from In.keep (λp u hp=>by
   obtain⟨hp1,hp2⟩:=ah.1 hp;exact ah.2 ⟨by omega,by rw[hb4.cell (Jn w3 _ hp2)];exact hp2⟩) _ _ hin)
  have hc:(c≠0)\/(c=0/\∃u,Ps.parse s.data.toList=.ok v u):=by
   cases hq:Ps.parse s.data.toList with
   |ok v0 u=>
    rw[hq] at hp;exact .inr ⟨hp.2.1,u,by rw[hp.1]⟩
   |bad c0 l=>
    rw[hq] at hp;have:=(Ps.ir s.data.toList);rw[hq] at this
    left
    rw[hp.2.1];have h1:=this.1;omega
  clear hin hb3 hp hb4;rcases hc with hc|⟨rfl,u,hu⟩
  .have t2:(c !=0)=true:=by simpa using hc
   obtain⟨z0,z1,z2,z3,z4,z5,z6,z7⟩:=HZ4.out.eight;have zf:=HZ4.out.frozen;go_upto_region 4 with(fail);generalize w3.alloc (.cells #[.int .i64 k1,b1,n1,g1,.int .i64 x1,s1,.slice A1 l1 p1,.slice B1 m1 d1] 31)=w4 at*
   go_wp2_with fail;have hfin:=HZ4.out.bg (.int .i64 0) (.bool false) (.bool false) (.string ⟨#[]⟩) (.int .i64 0) (.string ⟨#[]⟩) (.slice none 0 0) (.slice none 0 0);refine Ju (aM (l:=[_,_,_,_,_,_,_,_]) rfl _ _ _ rfl hfin Tryz.underlying31 rfl (by kernel_rfl)) rfl ?_;exact⟨aX HB4.out (Jh _) _ _ _ _ _ _ _ _,.inl ⟨_,rfl,dw _ 0 false Nm.Num.zero []⟩⟩
  .obtain⟨z0,z1,z2,z3,z4,z5,z6,z7⟩:=HZ4.out.eight;have zf:=HZ4.out.frozen;obtain⟨y0,y1,y2,y3,y4,y5,y6,y7⟩:=BOX.out.eight;have HU:=Jf hu;clear hu;go_upto_region 4 with(fail);generalize w3.alloc (.cells #[.int .i64 k1,b1,n1,g1,.int .i64 x1,s1,.slice A1 l1 p1,.slice B1 m1 d1] 31)=w4 at*
   go_wp2_with fail;have hfin:=HZ4.out.bg (.int .i64 k1) (.bool b1) (.bool n1) (.string ⟨g1.toArray⟩) (.int .i64 x1) (.string ⟨s1.toArray⟩) (.slice A1 l1 p1) (.slice B1 m1 d1);refine Ju (aM (l:=[_,_,_,_,_,_,_,_]) rfl _ _ _ rfl hfin Tryz.underlying31 rfl (by kernel_rfl)) rfl ?_;exact⟨aX HB4.out (Jh _) _ _ _ _ _ _ _ _,.inr ⟨v,u,_,by omega,HU.out,rfl,nr HIN4.out (L9 _) (KD _) _ _ _ _ _ _ _ _⟩⟩
end
