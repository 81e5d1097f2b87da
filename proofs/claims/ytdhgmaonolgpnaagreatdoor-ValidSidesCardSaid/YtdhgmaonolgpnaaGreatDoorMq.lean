import Derived.Test.YtdhgmaonolgpnaaGreatDoorMp
import Derived.Deep.AppendLies
set_option linter.unusedSimpArgs false
set_option linter.unusedVariables false
set_option maxHeartbeats 8000000
set_option maxRecDepth 100000
namespace Go.Proofs.YtdhgmaonolgpnaaGreatDoor
abbrev LF:=@Go.step_append_lies
abbrev JU:=@Go.World.news_of_block
abbrev Md:=@Go.wpList_append_lies
section
open Go.RowKit Js
def Off(B:Nat)(A:Option Addr):Nat->Prop:=λk=>B<=k/\∀ad,A=some ad->k≠ad.block
def Row(w:World)(B:Nat)(A:Option Addr)(cp:Nat)(acc:List Vl):Prop:=
 ∃flat,w.ownsRow B 31 8 (.slice A acc.length cp) acc.length flat/\
  ∀i v,acc[i]? =some v->∃x,v.In (w.on (Off B A)) x/\∀(j:Nat) u,x.cells[j]? =some u->flat[i*8+j]? =some u
theorem Row.nil(w:World)(B:Nat):Row w B none 0 []:=⟨[],⟨by simp,.inl ⟨rfl,rfl⟩⟩,λi v h=>by simp at h⟩
theorem Row.keep{w w':World}{B:Nat}{A:Option Addr}{cp:Nat}{acc:List Vl}(h:Row w B A cp acc)(hb:∀k,B<=k->k<w.heap.size->w'.heap[k]? =w.heap[k]?):Row w' B A cp acc:=by
 obtain⟨flat,hown,hel⟩:=h;refine⟨flat,⟨hown.1,?_⟩,λi v hi=>?_⟩
 .rcases hown.2 with h0|⟨g,cap,cur,h1,h2,h3,h4⟩
  .exact .inl h0
  .refine .inr ⟨g,cap,cur,h1,h2,?_,h4⟩;rw[hb g h2 (Blk.lt (cs:=cur) h3)];exact h3
 .obtain⟨x,hx,hc⟩:=hel i v hi;refine⟨x,In.keep (λp u hp=>?_) _ _ hx,hc⟩;obtain⟨hs,hcell⟩:=ah.1 hp;exact ah.2 ⟨hs,by rw[Ka (w:=w) (hb _ hs.1 (Jn w _ hcell))];exact hcell⟩
theorem Row.le{w:World}{B:Nat}{A:Option Addr}{cp:Nat}{acc:List Vl}(h:Row w B A cp acc):acc.length<=cp/\cp<=maxLen/\(0<acc.length->∃g,A=some ⟨g,0,none⟩/\B<=g/\g<w.heap.size)/\(∀ad,A=some ad->B<=ad.block/\ad.block<w.heap.size):=by
 obtain⟨flat,hown,_⟩:=h;rcases hown.2 with⟨h0,h1⟩|⟨g,cap,cur,h1,h2,h3,h4,h5,_⟩
 .injection h0 with e1 e2 e3;subst e1 e3;exact⟨by omega,by simp[maxLen],λh=>by omega,λad h=>by cases h⟩
 .injection h1 with e1 e2 e3;subst e1 e3;exact⟨h4,h5,λ_=>⟨g,rfl,h2,Blk.lt (cs:=cur) h3⟩,λad h=>by cases h;exact⟨h2,Blk.lt (cs:=cur) h3⟩⟩
theorem ax{w:World}{B:Nat}{e:TypeId}{size:Nat}{g n cp:Nat}{flat:List Value}(h:w.ownsRow B e size (.slice (some ⟨g,0,none⟩) n cp) n flat)(j:Nat)(u:Value)(hj:flat[j]? =some u):w.cell? ⟨g,j,none⟩=some u:=by
 rcases h.2 with⟨h0,_⟩|⟨g',cap,cur,h1,h2,h3,h4,h5,h6,h7⟩
 .cases h0
 .injection h1 with e1 e2 e3;injection e1 with e1;injection e1 with e1;subst e1;rw[Ml w g j cur e (0,0) h3];rw[<-h7,KN] at hj;split at hj
  .simpa using hj
  .cases hj
theorem Row.in_{w:World}{B B0:Nat}{A:Option Addr}{cp:Nat}{acc:List Vl}(h:Row w B A cp acc)(hB:B0<=B):
  (Ps.mkA acc).In (w.on (B0<=·)) (vlV 4 false false [] 0 [] (.slice A acc.length cp) (.slice none 0 0)):=by
 have hl:=h.le;obtain⟨flat,hown,hel⟩:=h;simp only[Vl.In];refine⟨A,cp,none,0,rfl,hl.1,hl.2.1,Jh _,by simp[maxLen],λhn=>?_,λhn=>absurd hn (by simp)⟩;obtain⟨g,rfl,hg1,hg2⟩:=hl.2.2.1 hn;refine⟨g,0,rfl,LIn.of λk v hk=>?_⟩;obtain⟨x,hx,hc⟩:=hel k v hk;refine⟨x,In.keep (λp u hp=>?_) _ _ hx,λj u hu=>?_⟩
 .obtain⟨hs,hcell⟩:=ah.1 hp;exact ah.2 ⟨JA hB hs.1,hcell⟩
 .rw[JI];exact ah.2 ⟨JA hB hg1,ax hown _ _ (hc j u hu)⟩
theorem Row.more{w w1 w3:World}{rb B:Nat}{A:Option Addr}{cp:Nat}{acc:List Vl}(hB:B<=w.heap.size)(hr:rb<B)(hS:ak rb w w1){v:Vl}{cs:Array Value}(hv:v.In (w1.on (w.heap.size<=·)) (.agg cs))
  {flat:List Value} (hown:w.ownsRow B 31 8 (.slice A acc.length cp) acc.length flat) (hel:∀i v,acc[i]? =some v->∃x,v.In (w.on (Off B A)) x/\∀(j:Nat) u,x.cells[j]? =some u->flat[i*8+j]? =some u)
  {T:TypeId} {g cap:Nat} (h3:w3.ownsRow B 31 8 (.slice (some ⟨g,0,none⟩) (acc.length+1) cap) (acc.length+1) (flat++cs.toList)) (hg:(w1.alloc (.cells cs T)).grownBy w3 (Value.slice A acc.length cp).ownBlock)
  (hat:(Value.slice A acc.length cp).ownBlock=some g\/g=(w1.alloc (.cells cs T)).heap.size):Row w3 B (some ⟨g,0,none⟩) cap (acc++[v]):=by
 have hl:=(show Row w B A cp acc from⟨flat,hown,hel⟩).le;have hA:∀k,(∀ad,A=some ad->k≠ad.block)↔some k≠(Value.slice A acc.length cp).ownBlock:=by
  intro k;cases A with
  |none=>simp[Value.ownBlock]
  |some ad=>simp[Value.ownBlock]
 have hsz:(w1.alloc (.cells cs T)).heap.size=w1.heap.size+1:=by simp
 have hcell:∀p u,B<=p.block->(∀ad,A=some ad->p.block≠ad.block)->w1.cell? p=some u->w3.cell? p=some u/\p.block≠g:=by
  intro p u hp hpa hc;have hlt:=Jn w1 _ hc;refine⟨?_,?_⟩
  .rw[hg.cell_far p (by rw[hsz];omega) ((hA _).1 hpa),ME _ _ _ hlt];exact hc
  .rcases hat with h|h
   .intro e;exact(hA _).1 hpa (by rw[h,e])
   .omega
 have hfl:flat.length=acc.length*8:=hown.1;refine⟨flat++cs.toList,?_,λi u hi=>?_⟩
 .rw[Jk,Jy];exact h3
 .by_cases hlt:i<acc.length
  .rw[JD hlt] at hi;obtain⟨x,hx,hc⟩:=hel i u hi;refine⟨x,In.keep (λp y hp=>?_) _ _ hx,λj y hy=>?_⟩
   .obtain⟨⟨hs1,hs2⟩,hpc⟩:=ah.1 hp;have hlt':=Jn w _ hpc;have hpc1:w1.cell? p=some y:=by rw[hS.cell hlt' (by omega)];exact hpc
    obtain⟨k1,k2⟩:=hcell p y hs1 hs2 hpc1;exact ah.2 ⟨⟨hs1,λad e=>by cases e;exact k2⟩,k1⟩
   .have:=hc j y hy;rw[JD (Jm.1 this).1];exact this
  .obtain rfl:i=acc.length:=by
    have:=(Jm.1 hi).1;rw[Jk,Jy] at this;omega
   rw[Jx (Jh _)] at hi;simp at hi;subst hi;refine⟨.agg cs,In.keep (λp y hp=>?_) _ _ hv,λj y hy=>?_⟩
   .obtain⟨hs1,hpc⟩:=ah.1 hp;obtain⟨k1,k2⟩:=hcell p y (by omega) (λad e=>by have:=(hl.2.2.2 ad e).2;omega) hpc;exact ah.2 ⟨⟨by omega,λad e=>by cases e;exact k2⟩,k1⟩
   .rw[Jx (by omega),hfl,Kz];simpa[Value.cells] using hy
theorem aj{fn:Func}{p:Tmp}{ty:TypeId}(h:fn.results=#[.cell p ty])(tmps:Array Value)(P:Program)(w:World){g:Nat}{t:TypeId}{l:List Value}{d:TypeDesc}
  (hp:tmps.getD p undef=.pointer (some ⟨g,0,none⟩)) (hg:Blk w g t l.toArray) (hu:P.underlying ty=some d) (hd:d.isRow=true) (hi:(P.info? ty).map (·.size)=some l.length):
  (results fn tmps).run P w=.ok (.agg l.toArray) w:=by
 have hl:(loadVar ty ⟨g,0,none⟩).run P w=.ok (.agg l.toArray) w:=NI w g 0 ty l d (λj v hv=>by rw[JI,hg.cell j];simpa using hv) hu hd hi;have hp':tmps[p]?.getD undef=.pointer (some ⟨g,0,none⟩):=by simpa using hp
 simp[results,h,hp',asAddr,hl]
def eR(rb:Nat)(s:ByteArray)(d:Nat)(r:Ps.R Vl)(w:World)(e:Ending)(w':World):Prop:=
 ∃(v:Vl) (x:Value),e=.returned x/\v.In (w'.on (w.heap.size<=·)) x/\ak rb w w'/\(∀v0 u,r=.ok v0 u->v=v0)/\bo rb s d w' r
def VC(f:Nat):Prop:=∀(rb:Nat) (s:ByteArray) (a:Nat) (t:Jd) (d:Nat) (w:World),Rd w rb s a t d->s.size<=100000->d<=32->3*t.length+1<=f->
 Calls Tryz.prog 26 #[.pointer (some ⟨rb,0,none⟩)] w (eR rb s d (Ps.value f d t) w)
theorem bo.far{α:Type}{rb:Nat}{s:ByteArray}{d:Nat}{w w':World}{r:Ps.R α}(h:bo rb s d w r)(hb:w'.heap[rb]? =w.heap[rb]?):bo rb s d w' r:=by
 cases r with
 |ok v u=>
  obtain⟨a,h0,h1,h2⟩:=h;exact⟨a,hb.trans h0,h1,h2⟩
 |bad c l=>
  obtain⟨a,e,p,h0,h1,h2⟩:=h;exact⟨a,e,p,hb.trans h0,h1,h2⟩
theorem aF(w:World)(g k:Nat)(h:k≠g)(v0 v1 v2 v3 v4 v5 v6 v7:Value):(bg w g v0 v1 v2 v3 v4 v5 v6 v7).heap[k]? =w.heap[k]? :=by
 unfold bg;rw[JG _ _ _ _ h,JG _ _ _ _ h,JG _ _ _ _ h,JG _ _ _ _ h,JG _ _ _ _ h,JG _ _ _ _ h,JG _ _ _ _ h,JG _ _ _ _ h]
theorem bu{rb:Nat}{s:ByteArray}{d:Nat}{r:Ps.R Vl}{w wr:World}{c0 c1 c2 c3 c4 c5 c6 c7 v0 v1 v2 v3 v4 v5 v6 v7:Value}{v:Vl}{t:TypeId}(hrb:rb<w.heap.size)(hS:ak rb w wr)(hZ:Blk wr w.heap.size t #[c0,c1,c2,c3,c4,c5,c6,c7])
  (hin:v.In (wr.on (w.heap.size+1<=·)) (.agg #[v0,v1,v2,v3,v4,v5,v6,v7])) (hr:∀v0 u,r=.ok v0 u->v=v0) (hA:bo rb s d wr r):
  Blk (bg wr w.heap.size v0 v1 v2 v3 v4 v5 v6 v7) w.heap.size t #[v0,v1,v2,v3,v4,v5,v6,v7]/\eR rb s d r w (.returned (.agg #[v0,v1,v2,v3,v4,v5,v6,v7])) (bg wr w.heap.size v0 v1 v2 v3 v4 v5 v6 v7):=by
 refine⟨hZ.bg _ _ _ _ _ _ _ _,v,_,rfl,In.keep (λp u hp=>?_) _ _ hin,?_,hr,hA.far (aF _ _ _ (by omega) _ _ _ _ _ _ _ _)⟩
 .obtain⟨h1,h2⟩:=ah.1 hp;exact ah.2 ⟨by omega,by rw[Ka (w:=wr) (aF _ _ _ (by omega) _ _ _ _ _ _ _ _)];exact h2⟩
 .have hb:=aX (Ji w.heap.size wr) (Jh w.heap.size) v0 v1 v2 v3 v4 v5 v6 v7;exact⟨hb.os.trans hS.os,hb.tape.trans hS.tape,hb.output.trans hS.output,JA hS.size hb.size,λk hk hr=>(hb.block k hk).trans (hS.block k hk hr)⟩
def eJ{α β:Type}:Ps.R α->(Jd->Ps.R β)->Ps.R β
 |.ok _ u,f=>f u
 |.bad c l,_=>.bad c l
theorem bo.map{α β:Type}{rb:Nat}{s:ByteArray}{d:Nat}{w:World}{r:Ps.R α}(h:bo rb s d w r)(f:α->β):bo rb s d w (r.map f):=by
 cases r with
 |ok v u=>exact h
 |bad c l=>exact h
theorem iC{α:Type}{rb:Nat}{s:ByteArray}{d:Nat}{w:World}{r:Ps.R α}(h:bo rb s d w r)(hs:s.size<=1000000000000)(q:ByteArray)(hq0:0<q.size)(hq:q.size<=1000):
  Calls Tryz.prog 54 #[.pointer (some ⟨rb,0,none⟩),.string q] w λe w'=>e=.returned (.tuple #[])/\bo rb s d w' (eJ r (Ps.lit q.data.toList))/\ak rb w w':=by
 cases r with
 |ok v u=>
  obtain⟨a,hR⟩:=h;exact qe hR hs q hq
 |bad c l=>
  refine(sS h q hq0).mono ?_;rintro e w' ⟨rfl,rfl⟩;exact⟨rfl,h,.refl _ _⟩
theorem bo.up{α:Type}{rb:Nat}{s:ByteArray}{d:Nat}{w:World}{r:Ps.R α}(h:bo rb s (d+1) w r)(hd:d<=32):
  ∃a4 d4 b4 p4:Int,Blk w rb 75 #[.string s,.int .i64 a4,.int .i64 d4,.int .i64 b4,.int .i64 p4]/\bo rb s d (w.setCell ⟨rb,2,none⟩ (.int .i64 (wrap64 (d4-1)))) r:=by
 cases r with
 |ok v u=>
  obtain⟨a,hR⟩:=h;have e:wrap64 (((d+1:Nat):Int)-1)=(d:Nat):=by unfold wrap64;omega
  refine⟨_,_,_,_,hR.1,?_⟩;rw[e];exact⟨a,hR.kp d⟩
 |bad c l=>
  obtain⟨a,e,p,h0,h1,h2⟩:=h;exact⟨_,_,_,_,h0,RdB.kp ⟨a,e,p,h0,h1,h2⟩ _⟩
abbrev ag:Array Value:=#[.int .i64 0,.bool false,.bool false,.string ⟨#[]⟩,.int .i64 0,.string ⟨#[]⟩,.slice none 0 0,.slice none 0 0]
abbrev qm(lv:Value):Array Value:=#[.int .i64 4,.bool false,.bool false,.string ⟨#[]⟩,.int .i64 0,.string ⟨#[]⟩,lv,.slice none 0 0]
abbrev arrW(w:World):World:=(w.alloc (.cells ag 31)).alloc (.cells (qm (.slice none 0 0)) 31)
theorem ft(w:World):Below w.heap.size w (arrW w):=((Ji _ _).alloc (Jh _) _).alloc (by simp) _
theorem zu{rb:Nat}{s:ByteArray}{a:Nat}{c:UInt8}{u:Jd}{w:World}(h:Rd w rb s a (c::u) 32)(hs:s.size<=1000000)(f:Nat):
  Calls Tryz.prog 52 #[.pointer (some ⟨rb,0,none⟩)] w (eR rb s 32 (Ps.arr (f+1) 32 u) w):=by
 have HO:=Jf (ly (h.on (ft w)) hs (Jh _));have hrb:=h.lt;have HR:=Jf (show Ps.arr (f+1) 32 u=.bad 3 (u.length+1) by unfold Ps.arr;rw[Jo rfl]);have HZ:=Jf ((Blk.new w 31 ag).alloc (.cells (qm (.slice none 0 0)) 31));have HV:=Jf (Blk.cW w (.cells ag 31) 31 (qm (.slice none 0 0)));have HB:=Jf (ft w);clear h;go_enter Tryz.func52,Tryz.ntmps52;go_wp2_with fail;refine HO.out.mono ?_;rintro e w2 ⟨rfl,hRB,hS⟩;rw[Jo rfl] at hRB;have HRB:=Jf hRB;have HS:=Jf ((ak.aJ HB.out).trans hS);have HZ2:=Jf (hS.blk HZ.out (by omega));have HV2:=Jf (hS.blk HV.out (by omega));obtain⟨z0,z1,z2,z3,z4,z5,z6,z7⟩:=HZ2.out.eight;obtain⟨v0,v1,v2,v3,v4,v5,v6,v7⟩:=HV2.out.eight;have zf:=HZ2.out.frozen;have vf:=HV2.out.frozen;obtain⟨a2,d2,p2,hB,h1,h2⟩:=hRB;obtain⟨c0,c1,c2,c3,c4⟩:=hB.cJ;have hf:=hB.frozen;have t1:(((3:Nat):Int)==0)=false:=rfl;clear hB h1 h2 hS;go_wp2_with fail
 go_loopg [] 1 (λk wr=>k=1/\wr=w2)
 case atStart=>exact⟨rfl,rfl⟩
 case round=>
  obtain⟨rfl,rfl⟩:=hrel;go_wp2_with fail;refine(sS HRB.out _ (by decide)).mono ?_;rintro e w3 ⟨rfl,rfl⟩;go_wp2_with fail;have hfin:=bu (v:=Ps.mkA []) (r:=Ps.R.bad (α:=Vl) 3 (u.length+1)) (d:=32) hrb (HS.out.set 2 (.int .i64 (wrap64 (d2-1)))) (ak.blk ((ak.refl rb wr).set 2 (.int .i64 (wrap64 (d2-1)))) HZ2.out (by omega)) ((Row.nil _ (w.heap.size+1)).in_ (Jh _)) (λ_ _ e=>by cases e) (HRB.out.kp (wrap64 (d2-1)));refine Ju (aj (l:=[_,_,_,_,_,_,_,_]) rfl _ _ _ rfl hfin.1 Tryz.underlying31 rfl (by kernel_rfl)) rfl ?_;rw[HR.out];exact hfin.2
theorem FD(b:UInt8)(t:Jd):Ps.lit [b] t=if t.head?=some b then .ok () t.tail else .bad 1 t.length:=by
 cases t with
 |nil=>rfl
 |cons c u=>simp[Ps.lit]
theorem jY{α:Type}(r:Ps.R α)(v:Vl):∀(v0:Vl) (u:Jd),r.map (λ_=>v)=.ok v0 u->v=v0:=by
 cases r with
 |ok x t=>intro v0 u h;injection h
 |bad c l=>intro v0 u h;cases h
theorem wN{rb:Nat}{s:ByteArray}{a:Nat}{c:UInt8}{u:Jd}{d:Nat}{w:World}(h:Rd w rb s a (c::u) d)(hs:s.size<=1000000)(hdl:d<32)(hh:(Ps.skip u).head?=some 93)(f:Nat):
  Calls Tryz.prog 52 #[.pointer (some ⟨rb,0,none⟩)] w (eR rb s d (Ps.arr (f+1) d u) w):=by
 have HO:=Jf (ly (h.on (ft w)) hs (by omega));have hrb:=h.lt;have HRQ:=Jf (show Ps.arr (f+1) d u=(eJ (.ok () (Ps.skip u)) (Ps.lit [93])).map (λ_=>Ps.mkA [])/\∀r:Ps.R Unit,∀v0 u,r.map (λ_=>Ps.mkA [])=.ok v0 u->Ps.mkA []=v0 from⟨by
  unfold Ps.arr;rw[Jj (by omega),Jo hh];simp only[eJ];rw[FD,Jo hh];rfl,λr=>jY r _⟩)
 have HZ:=Jf ((Blk.new w 31 ag).alloc (.cells (qm (.slice none 0 0)) 31));have HV:=Jf (Blk.cW w (.cells ag 31) 31 (qm (.slice none 0 0)));have HB:=Jf (ft w);have hd93:hd (Ps.skip u)=93:=by cases hq:Ps.skip u with
  |nil=>rw[hq] at hh;cases hh
  |cons b t=>rw[hq] at hh;cases hh;rfl
 clear h hh;have HD93:=Jf hd93;clear hd93;go_enter Tryz.func52,Tryz.ntmps52;go_wp2_with fail;refine HO.out.mono ?_;rintro e w2 ⟨rfl,hRB,hS⟩;rw[Jj (by omega)] at hRB;obtain⟨a2,hR2⟩:=hRB;have HR2:=Jf hR2;have HS:=Jf ((ak.aJ HB.out).trans hS);have HZ2:=Jf (hS.blk HZ.out (by omega));have HV2:=Jf (hS.blk HV.out (by omega));have HP:=Jf (bS hR2 (by omega));rw[HD93.out] at HP;obtain⟨v0,v1,v2,v3,v4,v5,v6,v7⟩:=HV2.out.eight;obtain⟨c0,c1,c2,c3,c4⟩:=hR2.1.cJ;clear hR2 hS;go_wp2_with fail
 go_loopg [] 1 (λk wr=>k=1/\wr=w2)
 case atStart=>exact⟨rfl,rfl⟩
 case round=>
  obtain⟨rfl,rfl⟩:=hrel;go_wp2_with fail;refine HP.out.mono ?_;rintro e w3 ⟨rfl,n,rfl⟩;go_wp2_with fail;refine(iC (bo.drewN (show bo rb s (d+1) wr (Ps.R.ok () (Ps.skip u)) from⟨a2,HR2.out⟩) n) (by omega) ⟨#[93]⟩ (by decide) (by decide)).mono ?_;rintro e w4 ⟨rfl,hA4,hS4⟩;have HA4:=Jf hA4;have HS4:=Jf ((HS.out.drewN n).trans hS4);have HZ4:=Jf (hS4.blk HZ2.out (by omega));have HV4:=Jf (hS4.blk HV2.out (by omega));have HROW4:=Jf ((Row.nil (wr.drewN n) (w.heap.size+2)).keep (λk hk hlt=>hS4.block k hlt (by omega)));clear hA4 hS4 v0 v1 v2 v3 v4 v5 v6 v7 c0 c1 c2 c3 c4;obtain⟨a4,d4,b4,p4,hB4,hA5⟩:=HA4.out.up (by omega);obtain⟨z0,z1,z2,z3,z4,z5,z6,z7⟩:=HZ4.out.eight;obtain⟨v0,v1,v2,v3,v4,v5,v6,v7⟩:=HV4.out.eight;have zf:=HZ4.out.frozen;have vf:=HV4.out.frozen;obtain⟨c0,c1,c2,c3,c4⟩:=hB4.cJ;have hf:=hB4.frozen;have HA5:=Jf hA5;clear hB4 hA5;go_wp2_with fail;have hfin:=bu (v:=Ps.mkA []) (d:=d) hrb (HS4.out.set 2 (.int .i64 (wrap64 (d4-1)))) (ak.blk ((ak.refl rb w4).set 2 (.int .i64 (wrap64 (d4-1)))) HZ4.out (by omega)) ((HROW4.out.keep (λk hk hlt=>((ak.refl rb w4).set 2 (.int .i64 (wrap64 (d4-1)))).block k hlt (by omega))).in_ (KD _)) (HRQ.out.2 _) (HA5.out.map (λ_=>Ps.mkA []));refine Ju (aj (l:=[_,_,_,_,_,_,_,_]) rfl _ _ _ rfl hfin.1 Tryz.underlying31 rfl (by kernel_rfl)) rfl ?_;rw[HRQ.out.1];exact hfin.2
def I5(rb:Nat)(s:ByteArray)(u:Jd)(d f:Nat)(R:Ps.R Vl)(w:World)(k:Nat)(wr:World):Prop:=
 ∃a t A cp acc f',Rd wr rb s a t (d+1)/\t.length=k/\acc.length+t.length<=u.length/\3*t.length+2<=f'/\f'<=f/\Ps.elems f' (d+1) t acc=R/\(acc=[]->¬t.head?=some 93)/\
  Row wr (w.heap.size+2) A cp acc/\Blk wr w.heap.size 31 ag/\Blk wr (w.heap.size+1) 31 (qm (.slice A acc.length cp))/\ak rb w wr
def Hv(rb:Nat)(s:ByteArray)(d:Nat)(rv:Ps.R Vl)(acc:List Vl)(w wr:World):Prop:=
 ∃v A cp,(∀v0 u,rv=.ok v0 u->v=v0)/\bo rb s (d+1) wr rv/\Row wr (w.heap.size+2) A cp (acc++[v])/\Blk wr w.heap.size 31 ag/\Blk wr (w.heap.size+1) 31 (qm (.slice A (acc++[v]).length cp))/\ak rb w wr
theorem BK{t:Jd}{b:UInt8}(h:¬t.head?=some b):((hd t:Int) !=(b.toNat:Int))=true:=by
 cases t with
 |nil=>simp[hd]
 |cons c u=>
  have hc:¬c=b:=λe=>h (by rw[e];rfl);rw[bne,show hd (c::u)=c.toNat from rfl,bE b hc];rfl
theorem Hy{t:Jd}{b:UInt8}(h:t.head?=some b):((hd t:Int) !=(b.toNat:Int))=false:=by
 cases t with
 |nil=>cases h
 |cons c u=>cases h;simp[hd]
theorem EW(f d:Nat)(t:Jd)(acc:List Vl):Ps.elems (f+1) d t acc=match Ps.value f d t with
  |.bad c l=>.bad c l
  |.ok v t2=>if t2.head?=some 44 then Ps.elems f d t2.tail (acc++[v]) else(Ps.lit [93] t2).map (λ_=>Ps.mkA (acc++[v])):=by
 rw[Ps.elems];cases Ps.value f d t with
 |bad c l=>rfl
 |ok v t2=>
  cases t2 with
  |nil=>rfl
  |cons c u=>
   simp only[KZ,MX,JM];by_cases h:c=44
   .rw[Jo h,Jo h]
   .rw[Jj h,Jj h,FD];by_cases h2:c=93
    .subst h2;rfl
    .rw[Jj h2,Jj (by simpa using h2)];rfl
theorem J5:(Tryz.prog.info? 31).map (λi=>(i.zero,i.size,i.bytes))=some (some (.agg ag),8,112):=by kernel_rfl
theorem Iu:∃i,Tryz.prog.info? 31=some i/\i.zero=some (.agg ag)/\i.size=8/\i.bytes=112:=by
 have h:=J5;cases hq:Tryz.prog.info? 31 with
 |none=>rw[hq] at h;cases h
 |some i=>
  rw[hq] at h;simp only[Kg,JM,Kl] at h;exact⟨i,rfl,h.1,h.2.1,h.2.2⟩
theorem aA{w w':World}{B:Nat}{e:TypeId}{size:Nat}{v:Value}{n:Nat}{xs:List Value}(h:w.ownsRow B e size v n xs)(hb:∀k,B<=k->k<w.heap.size->w'.heap[k]? =w.heap[k]?):w'.ownsRow B e size v n xs:=by
 refine⟨h.1,?_⟩;rcases h.2 with h0|⟨g,cap,cur,h1,h2,h3,h4⟩
 .exact .inl h0
 .exact .inr ⟨g,cap,cur,h1,h2,by rw[hb g h2 (Blk.lt (cs:=cur) h3)];exact h3,h4⟩
theorem vH{w:World}{B:Nat}{e:TypeId}{size:Nat}{v:Value}{n:Nat}{xs:List Value}(h:w.ownsRow B e size v n xs){k:Nat}(hk:k<B):some k≠v.ownBlock:=by
 rcases h.2 with⟨rfl,_⟩|⟨g,cap,cur,rfl,h2,_⟩
 .simp[Value.ownBlock]
 .simp only[Value.ownBlock,MY,JM];omega
theorem CV{w w':World}{o:Obj}{row:Option Nat}{g:Nat}{t:TypeId}{cs:Array Value}(h:Blk w g t cs)(hg:(w.alloc o).grownBy w' row)(hr:some g≠row):Blk w' g t cs:=
 (hg.block g (by have:=h.lt;simp;omega) hr).trans (h.alloc o)
theorem EJ{rb:Nat}{s:ByteArray}{d:Nat}{rv:Ps.R Vl}{acc:List Vl}{w W w5 w6:World}{A:Option Addr}{cp:Nat}{flat:List Value}{v:Vl}{cs:Array Value}{g cap:Nat}(hrb:rb<w.heap.size)(hW:ak rb w W)
  (hz:Blk W w.heap.size 31 ag) (hv:Blk W (w.heap.size+1) 31 (qm (.slice A acc.length cp)))
  (hown:W.ownsRow (w.heap.size+2) 31 8 (.slice A acc.length cp) acc.length flat) (hel:∀i v,acc[i]? =some v->∃x,v.In (W.on (Off (w.heap.size+2) A)) x/\∀(j:Nat) u,x.cells[j]? =some u->flat[i*8+j]? =some u)
  (hS5:ak rb W w5) (hin:v.In (w5.on (W.heap.size<=·)) (.agg cs)) (hv5:∀v0 u,rv=.ok v0 u->v=v0) (hA5:bo rb s (d+1) w5 rv)
  (hown6:w6.ownsRow (w.heap.size+2) 31 8 (.slice (some ⟨g,0,none⟩) (acc.length+1) cap) (acc.length+1) (flat++cs.toList)) (hg6:(w5.alloc (.cells cs 31)).grownBy w6 (Value.slice A acc.length cp).ownBlock)
  (hat:(Value.slice A acc.length cp).ownBlock=some g\/g=(w5.alloc (.cells cs 31)).heap.size):
  Hv rb s d rv acc w (w6.setCell ⟨w.heap.size+1,6,none⟩ (.slice (some ⟨g,0,none⟩) (acc.length+1) cap)):=by
 have hvl:=hv.lt;have hl:=(show Row W (w.heap.size+2) A cp acc from⟨flat,hown,hel⟩).le;have hob:∀k,k<w.heap.size+2->some k≠(Value.slice A acc.length cp).ownBlock:=by
  intro k hk;cases A with
  |none=>simp[Value.ownBlock]
  |some ad=>have:=(hl.2.2.2 ad rfl).1;simp only[Value.ownBlock,MY,JM];omega
 have h5z:=hS5.size;have h6:∀k,k<w.heap.size+2->w6.heap[k]? =w5.heap[k]? :=λk hk=>by
  rw[hg6.block k (by simp;omega) (hob k hk),LA _ _ _ (by omega)]
 have hrow:=Row.more (T:=31) (by omega) (by omega) hS5 hin hown hel hown6 hg6 hat;have hv6:Blk w6 (w.heap.size+1) 31 (qm (.slice A acc.length cp)):=(h6 _ (by omega)).trans (hS5.blk hv (by omega));have hz6:Blk w6 w.heap.size 31 ag:=(h6 _ (by omega)).trans (hS5.blk hz (by omega));have hset:∀k,k≠w.heap.size+1->(w6.setCell ⟨w.heap.size+1,6,none⟩ (.slice (some ⟨g,0,none⟩) (acc.length+1) cap)).heap[k]? =w6.heap[k]? :=λk hk=>JG _ _ _ _ hk;refine⟨v,some ⟨g,0,none⟩,cap,hv5,hA5.far ?_,hrow.keep (λk hk _=>hset k (by omega)),(hset _ (by omega)).trans hz6,?_,?_⟩
 .rw[hset _ (by omega),h6 _ (by omega)]
 .rw[Jk,Jy];exact Blk.ei (l:=[.int .i64 4,.bool false,.bool false,.string ⟨#[]⟩,.int .i64 0,.string ⟨#[]⟩,.slice A acc.length cp,.slice none 0 0]) hv6 6 _
 .have hS:=hW.trans hS5;refine⟨hg6.os.trans hS.os,hg6.tape.trans hS.tape,hg6.output.trans hS.output,?_,λk hk hr=>?_⟩
  .have:=hg6.size;have:=hS.size;simp[World.setCell] at*;omega
  .rw[hset _ (by omega),h6 _ (by omega)];exact hS.block k hk hr
theorem zv{rb:Nat}{s:ByteArray}{a:Nat}{c:UInt8}{u:Jd}{d:Nat}{w:World}(f:Nat)(HVC:∀f',f'<=f->VC f')(h:Rd w rb s a (c::u) d)(hs0:s.size<=100000)(hdl:d<32)(hh:¬(Ps.skip u).head?=some 93)(hf:3*u.length+3<=f+1):
  Calls Tryz.prog 52 #[.pointer (some ⟨rb,0,none⟩)] w (eR rb s d (Ps.arr (f+1) d u) w):=by
 have hs:s.size<=1000000:=by omega
 have HO:=Jf (ly (h.on (ft w)) hs (by omega));have hrb:=h.lt;have hus:u.length<=1000000:=by have:=h.2.1;simp only[Jl] at this;omega
 have HRQ:=Jf (show Ps.arr (f+1) d u=Ps.elems f (d+1) (Ps.skip u) [] from by unfold Ps.arr;rw[Jj (by omega),Jj hh]);have HZ:=Jf ((Blk.new w 31 ag).alloc (.cells (qm (.slice none 0 0)) 31));have HV:=Jf (Blk.cW w (.cells ag 31) 31 (qm (.slice none 0 0)));have HB:=Jf (ft w);have HH:=Jf hh;have HVC':=Jf HVC;have hskl:=Ps.aC u;clear h hh HVC;rw[HRQ.out];generalize hRR:Ps.elems f (d+1) (Ps.skip u) []=R;have HRR:=Jf hRR;clear HRQ hRR;go_enter Tryz.func52,Tryz.ntmps52;go_wp2_with fail;refine HO.out.mono ?_;rintro e w2 ⟨rfl,hRB,hS⟩;rw[Jj (by omega)] at hRB;obtain⟨a2,hR2⟩:=hRB;have HR2:=Jf hR2;have HS:=Jf ((ak.aJ HB.out).trans hS);have HZ2:=Jf (hS.blk HZ.out (by omega));have HV2:=Jf (hS.blk HV.out (by omega));clear hR2 hS;go_wp2_with fail
 go_loopg [] (Ps.skip u).length (I5 rb s u d f R w)
 case atStart=>exact⟨a2,Ps.skip u,none,0,[],f,HR2.out,rfl,by simpa using hskl,by omega,Jh _,HRR.out,λ_=>HH.out,Row.nil _ _,HZ2.out,HV2.out,HS.out⟩
 case round=>
  obtain⟨a1,t,A,cp,acc,f',hR,hk,hal,hf1,hf2,hel,hne,hrow,hz,hv,hW⟩:=hrel;obtain⟨f',rfl⟩:∃f0,f'=f0+1:=⟨f'-1,by omega⟩;have HK:=Jf hk;have HEL:=Jf hel;have HR:=Jf hR;have HROW:=Jf hrow;obtain⟨flat,hown,hel2⟩:=hrow;have HOWN:=Jf hown;have HEL2:=Jf hel2;obtain⟨i0,hi0,hz0,hz1,hz2⟩:=Iu;have hal2:acc.length<=1000000:=by omega
  have HZ3:=Jf hz;have HV3:=Jf hv;have HW:=Jf hW;have HCV:=Jf (λW hRW=>HVC'.out f' (by omega) rb s a1 t (d+1) W hRW hs0 (by omega) (by omega));have HP:=Jf (bS hR (by omega));obtain⟨v0,v1,v2,v3,v4,v5,v6,v7⟩:=hv.eight;have vf:=hv.frozen;obtain⟨c0,c1,c2,c3,c4⟩:=hR.1.cJ;have hwl:=hv.lt;have hcond:((hd t:Int) !=93)=true\/(((hd t:Int) !=93)=false/\decide (0<acc.length)=true):=by
   by_cases e:t.head?=some 93
   .exact .inr ⟨Hy e,by
     cases acc with
     |nil=>exact absurd e (hne rfl)
     |cons x l=>simp⟩
   .exact .inl (BK e)
  clear hel hR hown hel2 hz hv hW hne hk;generalize hd t=q at HP hcond;rcases hcond with q1|⟨q1,q2⟩;all_goals
   go_wp2_with fail;refine HP.out.mono ?_;rintro e w3 ⟨rfl,n,rfl⟩;have HWD:=Jf (HW.out.drewN (n+1));go_wp2_with fail;go_cut [] from 7 to 39 (λwc=>Hv rb s d (Ps.value f' (d+1) t) acc w wc);case first=>
    go_region_law (first
     |(refine LF _ (by rfl) _ _ _ (by rfl) (w.heap.size+2) 31 i0 _ 8 112 Tryz.underlying28 hi0 hz0 hz1 hz2 rfl (by omega) (.slice A acc.length cp) acc.length flat (by rfl) HOWN5.out ⟨w5.heap.size,0,none⟩ 1 1 [.int .i64 k1,.bool b1,.bool n1,.string ⟨g1.toArray⟩,.int .i64 x1,.string ⟨s1.toArray⟩,.slice A1 l1 p1,.slice B1 m1 d1] (by rfl) rfl (JU (Lc w5 _)) (by simp[Value.oneCell']) (by omega) (by unfold maxLen;omega) (by omega) (by simp;omega) _ rfl ?_;intro g cap w6 hown6 hgrow6 hat6 hlt6;have hv6b:=CV hv5b hgrow6 (vH HOWN.out (by omega));have q6:=hv6b.cell 6;have qf:=hv6b.frozen;have ql:=hv6b.lt;have HFIN:=Jf (EJ hrb HWD.out HZ3.out HV3.out HOWN.out HEL2.out HS5.out HIN5.out HV5.out HA5.out hown6 hgrow6 hat6);clear hown6 hgrow6 hat6 hv6b hv5b)
     |(go_simp;go_at_call 26;refine(HCV.out (wr.drewN (n+1)) (HR.out.drewN _)).mono ?_;rintro e w5 ⟨v,x,rfl,hin,hS5,hv5,hA5⟩;obtain⟨k1,b1,n1,g1,x1,s1,A1,l1,p1,B1,m1,d1,rfl⟩:=In.cells hin;have HIN5:=Jf hin;have HS5:=Jf hS5;have HV5:=Jf hv5;have HA5:=Jf hA5;have hsz5:wr.heap.size<=w5.heap.size:=hS5.size;have hv5b:=hS5.blk HV3.out (by omega);have y6:=hv5b.cell 6;have yf:=hv5b.frozen;have yl:=hv5b.lt;have HOWN5:=Jf (aA (w':=w5.alloc (.cells #[.int .i64 k1,b1,n1,g1,.int .i64 x1,s1,.slice A1 l1 p1,.slice B1 m1 d1] 31)) HOWN.out (λk hk hlt=>(LA _ _ _ (by omega)).trans (hS5.block k hlt (by omega))));clear hin hS5 hv5 hA5))
    all_goals
     go_wp2_with fail
     go_meet
     case rel=>exact HFIN.out
   case rest=>
    clear v0 v1 v2 v3 v4 v5 v6 v7 vf c0 c1 c2 c3 c4;obtain⟨v,A',cp',hv',hA',hrow',hz',hv8',hS'⟩:=hcut;obtain⟨acc',hacc⟩:∃acc',acc++[v]=acc':=⟨_,rfl⟩;rw[hacc] at hrow' hv8';have hacl:acc'.length=acc.length+1:=by rw[<-hacc];simp
    have HACL:=Jf hacl;have HACC:=Jf hacc;clear hacl hacc;have HA':=Jf hA';have HROW':=Jf hrow';have HZ':=Jf hz';have HV8:=Jf hv8';have HS':=Jf hS';have he:=HEL.out;rw[EW] at he;clear hA' hrow' hz' hS';obtain⟨v0,v1,v2,v3,v4,v5,v6,v7⟩:=hv8'.eight;have hrb2:rb<w.heap.size+2:=by omega
    cases hrv:Ps.value f' (d+1) t with
    |bad c l=>
     rw[hrv] at he HA';simp only at he;have HRQ:=Jf (show R=(eJ (Ps.R.bad (α:=Unit) c l) (Ps.lit [93])).map (λ_=>Ps.mkA acc')/\∀r:Ps.R Unit,∀v0 u,r.map (λ_=>Ps.mkA acc')=.ok v0 u->Ps.mkA acc'=v0 from⟨by rw[<-HACC.out];exact he.symm,λr=>jY r _⟩);have HPB:=Jf (iu HA'.out);clear he hv' hrv hv8';go_wp2_with fail;refine HPB.out.mono ?_;rintro e w9 ⟨rfl,m,rfl⟩;clear v0 v1 v2 v3 v4 v5 v6 v7;go_wp2_with fail;refine(iC (show bo rb s (d+1) (wc.drewN m) (Ps.R.bad (α:=Unit) c l) from HA'.out) (by omega) ⟨#[93]⟩ (by decide) (by decide)).mono ?_;rintro e w4 ⟨rfl,hA4,hS4⟩;have HA4:=Jf hA4;have HS4:=Jf ((HS'.out.drewN m).trans hS4);have HZ4:=Jf (hS4.blk HZ'.out (by omega));have HV4:=Jf (hS4.blk HV8.out (by omega));have HROW4:=Jf ((show Row (wc.drewN m) (w.heap.size+2) A' cp' acc' from HROW'.out).keep (λk hk hlt=>hS4.block k hlt (by omega)));clear hA4 hS4;obtain⟨a4,d4,b4,p4,hB4,hA5⟩:=HA4.out.up (by omega);obtain⟨z0,z1,z2,z3,z4,z5,z6,z7⟩:=HZ4.out.eight;obtain⟨v0,v1,v2,v3,v4,v5,v6,v7⟩:=HV4.out.eight;have zf:=HZ4.out.frozen;have vf:=HV4.out.frozen;obtain⟨c0,c1,c2,c3,c4⟩:=hB4.cJ;have hf:=hB4.frozen;have HA5:=Jf hA5;clear hB4 hA5;go_wp2_with fail;have hfin:=bu (v:=Ps.mkA acc') (d:=d) hrb (HS4.out.set 2 (.int .i64 (wrap64 (d4-1)))) (ak.blk ((ak.refl rb w4).set 2 (.int .i64 (wrap64 (d4-1)))) HZ4.out (by omega)) ((HROW4.out.keep (λk hk hlt=>((ak.refl rb w4).set 2 (.int .i64 (wrap64 (d4-1)))).block k hlt (by omega))).in_ (KD _)) (HRQ.out.2 _) (HA5.out.map (λ_=>Ps.mkA acc'));refine Ju (aj (l:=[_,_,_,_,_,_,_,_]) rfl _ _ _ rfl hfin.1 Tryz.underlying31 rfl (by kernel_rfl)) rfl ?_;rw[HRQ.out.1];exact hfin.2
    |ok v0' t2=>
     rw[hrv] at he HA';simp only at he;obtain rfl:=hv' v0' t2 hrv;obtain⟨a9,hR9⟩:=HA'.out;have HR9:=Jf hR9;have HP9:=Jf (bS hR9 (by omega));have hlen:=(Ps.told f').1 (d+1) t (by omega);rw[hrv] at hlen;have hlen2:=hlen.2;have hsp:=size_pos v;by_cases h44:t2.head?=some 44
     .rw[Jo h44] at he;obtain⟨u2,rfl⟩:∃u2,t2=44::u2:=by
       cases t2 with
       |nil=>cases h44
       |cons b u2=>cases h44;exact⟨u2,rfl⟩
      rw[HACC.out] at he;have HE9:=Jf he;have h1:((hd (44::u2):Int) !=44)=false:=rfl;have hk44:hd (44::u2)=44:=rfl;rw[hk44] at HP9;simp only[Jl] at hlen2;obtain⟨c0,c1,c2,c3,c4⟩:=hR9.1.cJ;have hf:=hR9.1.frozen;have ha9:a9+(u2.length+1)=s.size:=by simpa using hR9.2.1
      have HST:=Jf (λm=>(HR9.out.drewN m).step);clear he hv' hrv hv8' hR9 h44 hlen;go_wp2_with fail;refine HP9.out.mono ?_;rintro e w9 ⟨rfl,m,rfl⟩;go_wp2_with fail
      go_roundg u2.length
      case rel=>
       refine⟨a9+1,u2,A',cp',acc',f',HST.out m,rfl,?_,?_,by omega,HE9.out,λe=>by have:=HACL.out;rw[e] at this;simp at this,?_,?_,?_,(HS'.out.drewN m).set _ _⟩
       .have:=HACL.out;omega
       .omega
       .exact HROW'.out.keep (λk hk hlt=>JG _ _ _ _ (by show k≠rb;omega))
       .exact(JG (wc.drewN m) ⟨rb,1,none⟩ _ _ (by show w.heap.size≠rb;omega)).trans HZ'.out
       .exact(JG (wc.drewN m) ⟨rb,1,none⟩ _ _ (by show w.heap.size+1≠rb;omega)).trans HV8.out
      case measure=>have:=HK.out;omega
     .rw[Jj h44] at he;have HRQ:=Jf (show R=(eJ (Ps.R.ok () t2) (Ps.lit [93])).map (λ_=>Ps.mkA acc')/\∀r:Ps.R Unit,∀v0 u,r.map (λ_=>Ps.mkA acc')=.ok v0 u->Ps.mkA acc'=v0 from⟨by rw[<-HACC.out];exact he.symm,λr=>jY r _⟩);have h1:=BK h44;have h1':((hd t2:Int) !=44)=true:=h1;clear he hv' hrv hv8' hR9 h44 hlen h1;generalize hd t2=q9 at HP9 h1';go_wp2_with fail;refine HP9.out.mono ?_;rintro e w9 ⟨rfl,m,rfl⟩;clear v0 v1 v2 v3 v4 v5 v6 v7;go_wp2_with fail;refine(iC (show bo rb s (d+1) (wc.drewN m) (Ps.R.ok () t2) from⟨a9,HR9.out⟩) (by omega) ⟨#[93]⟩ (by decide) (by decide)).mono ?_;rintro e w4 ⟨rfl,hA4,hS4⟩;have HA4:=Jf hA4;have HS4:=Jf ((HS'.out.drewN m).trans hS4);have HZ4:=Jf (hS4.blk HZ'.out (by omega));have HV4:=Jf (hS4.blk HV8.out (by omega));have HROW4:=Jf ((show Row (wc.drewN m) (w.heap.size+2) A' cp' acc' from HROW'.out).keep (λk hk hlt=>hS4.block k hlt (by omega)));clear hA4 hS4;obtain⟨a4,d4,b4,p4,hB4,hA5⟩:=HA4.out.up (by omega);obtain⟨z0,z1,z2,z3,z4,z5,z6,z7⟩:=HZ4.out.eight;obtain⟨v0,v1,v2,v3,v4,v5,v6,v7⟩:=HV4.out.eight;have zf:=HZ4.out.frozen;have vf:=HV4.out.frozen;obtain⟨c0,c1,c2,c3,c4⟩:=hB4.cJ;have hf:=hB4.frozen;have HA5:=Jf hA5;clear hB4 hA5;go_wp2_with fail;have hfin:=bu (v:=Ps.mkA acc') (d:=d) hrb (HS4.out.set 2 (.int .i64 (wrap64 (d4-1)))) (ak.blk ((ak.refl rb w4).set 2 (.int .i64 (wrap64 (d4-1)))) HZ4.out (by omega)) ((HROW4.out.keep (λk hk hlt=>((ak.refl rb w4).set 2 (.int .i64 (wrap64 (d4-1)))).block k hlt (by omega))).in_ (KD _)) (HRQ.out.2 _) (HA5.out.map (λ_=>Ps.mkA acc'));refine Ju (aj (l:=[_,_,_,_,_,_,_,_]) rfl _ _ _ rfl hfin.1 Tryz.underlying31 rfl (by kernel_rfl)) rfl ?_;rw[HRQ.out.1];exact hfin.2
theorem EK{rb:Nat}{s:ByteArray}{a:Nat}{c:UInt8}{u:Jd}{d:Nat}{w:World}(f:Nat)(HVC:∀f',f'<=f->VC f')(h:Rd w rb s a (c::u) d)(hs0:s.size<=100000)(hdl:d<=32)(hf:3*u.length+3<=f+1):
  Calls Tryz.prog 52 #[.pointer (some ⟨rb,0,none⟩)] w (eR rb s d (Ps.arr (f+1) d u) w):=by
 have hs:s.size<=1000000:=by omega
 by_cases h32:d=32
 .subst h32;exact zu h hs f
 .by_cases h93:(Ps.skip u).head?=some 93
  .exact wN h hs (by omega) h93 f
  .exact zv f HVC h hs0 (by omega) h93 hf
theorem FZ{w:World}{B:Nat}{e:TypeId}{size:Nat}{v:Value}{n:Nat}{xs:List Value}(h:w.ownsRow B e size v n xs):∃A c,v=.slice A n c:=by
 rcases h.2 with⟨rfl,rfl⟩|⟨g,cap,cur,rfl,_⟩
 .exact⟨_,_,rfl⟩
 .exact⟨_,_,rfl⟩
def Src(w:World)(A:Option Addr)(m c:Nat)(news:List Value):Prop:=
 (A=none/\m=0/\c=0/\news=[])\/∃ad,A=some ad/\∀(j:Nat) u,news[j]? =some u->w.cell? (ad.add j)=some u
theorem dD{P:Program}(w:World){ops:Array Oper}{o:Oper}{a:Act}{K:Act->World->Prop}{Q:Exit->Act->World->Prop}{E:Prop}(hgd:o.guard=none)(s x:Operand)(t:TypeId)
  (ho:o.op=.call {callee:=.builtin .append,args:=#[s,x],argTypes:=#[t,t]})
  (base:Nat) (e:TypeId) (i:TypeInfo) (z:Value) (size bytes:Nat) (ht:P.underlying t=some (.slice e)) (hi:P.info? e=some i) (hz:i.zero=some z)
  (hsize:i.size=size) (hby:i.bytes=bytes) (hzs:z.cells.size=size) (hsz:0<size)
  (v:Value) (n:Nat) (xs:List Value) (hs:a.eval s=v) (hown:w.ownsRow base e size v n xs)
  (A:Option Addr) (m c:Nat) (news:List Value) (hx:a.eval x=.slice A m c) (hl:news.length=m*size) (hsrc:Src w A m c news) (h1:∀u∈news,u.oneCell'=true)
  (h63:n+m<=maxLen) (hbytes:(n+m)*bytes<=140737488355328) (hbase:base<=w.heap.size) (N:Nat) (hN:n+m=N)
  (h:∀A' c' w',w'.ownsRow base e size (.slice A' N c') N (xs++news)->w.grownBy w' v.ownBlock->((Value.slice A' N c').ownBlock=v.ownBlock\/(Value.slice A' N c').ownBlock=some w.heap.size)->K (a.put o.dst (.slice A' N c')) w'):
  if Region.wanted o (yielded ops a.tmps)=true then Oper.wp P o a w K Q else E:=by
 have hw:Region.wanted o (yielded ops a.tmps)=true:=by simp[Region.wanted,hgd]
 rw[Jo hw];subst hN;obtain⟨v',w',hrun,k1,k2,k3⟩:∃v' w',(Builtin.append_ #[t,t] o.type #[v,.slice A m c]).run P w=.ok v' w'/\w'.ownsRow base e size v' (n+m) (xs++news)/\w.grownBy w' v.ownBlock/\(v'.ownBlock=v.ownBlock\/v'.ownBlock=some w.heap.size):=by
  rcases hsrc with⟨rfl,rfl,rfl,rfl⟩|⟨ad,rfl,hc⟩
  .exact⟨v,w,run_append_owned_none w base t o.type e i size ht hi v n xs hown,by simpa using hown,World.grownBy.refl w _,.inl rfl⟩
  .obtain⟨v',w',r1,r2,r3,_,r5⟩:=run_append_own_at (P:=P) w base t o.type e i z size bytes ht hi hz hsize hby hzs hsz v n xs hown ad m c news hl hc h1 h63 hbytes hbase;exact⟨v',w',r1,r2,r3,r5⟩
 obtain⟨A',c',rfl⟩:=FZ k1;unfold Oper.wp;simp[execOp,ho,resolve,invoke,builtin,hs,hx,hrun,Result.andThen];exact h A' c' w' k1 k2 k3
theorem aP{P:Program}(w:World){ops:Array Oper}{rest:List Oper}{o:Oper}{a:Act}{Q:Exit->Act->World->Prop}(hgd:o.guard=none)(s x:Operand)(t:TypeId)
  (ho:o.op=.call {callee:=.builtin .append,args:=#[s,x],argTypes:=#[t,t]})
  (base:Nat) (e:TypeId) (i:TypeInfo) (z:Value) (size bytes:Nat) (ht:P.underlying t=some (.slice e)) (hi:P.info? e=some i) (hz:i.zero=some z)
  (hsize:i.size=size) (hby:i.bytes=bytes) (hzs:z.cells.size=size) (hsz:0<size)
  (v:Value) (n:Nat) (xs:List Value) (hs:a.eval s=v) (hown:w.ownsRow base e size v n xs)
  (A:Option Addr) (m c:Nat) (news:List Value) (hx:a.eval x=.slice A m c) (hl:news.length=m*size) (hsrc:Src w A m c news) (h1:∀u∈news,u.oneCell'=true)
  (h63:n+m<=maxLen) (hbytes:(n+m)*bytes<=140737488355328) (hbase:base<=w.heap.size) (N:Nat) (hN:n+m=N)
  (h:∀A' c' w',w'.ownsRow base e size (.slice A' N c') N (xs++news)->w.grownBy w' v.ownBlock->((Value.slice A' N c').ownBlock=v.ownBlock\/(Value.slice A' N c').ownBlock=some w.heap.size)->wpList P ops Q rest (a.put o.dst (.slice A' N c')) w'):
  wpList P ops Q (o::rest) a w:=by
 refine wpList_plain hgd λK hK=>?_;have:=dD (P:=P) w (ops:=ops) (K:=K) (Q:=Q) (E:=True) (o:=o) (a:=a) hgd s x t ho base e i z size bytes ht hi hz hsize hby hzs hsz v n xs hs hown A m c news hx hl hsrc h1 h63 hbytes hbase N hN (λA' c' w' k1 k2 k3=>hK _ _ (h A' c' w' k1 k2 k3));rwa[Jo (by simp[Region.wanted,hgd])] at this
abbrev I4:Array Value:=#[.string ⟨#[]⟩,.int .i64 0,.bool false,.bool false,.string ⟨#[]⟩,.int .i64 0,.string ⟨#[]⟩,.slice none 0 0,.slice none 0 0]
theorem J4:(Tryz.prog.info? 95).map (λi=>(i.zero,i.size,i.bytes))=some (some (.agg I4),9,128):=by kernel_rfl
theorem Fs:∃i,Tryz.prog.info? 95=some i/\i.zero=some (.agg I4)/\i.size=9/\i.bytes=128:=by
 have h:=J4;cases hq:Tryz.prog.info? 95 with
 |none=>rw[hq] at h;cases h
 |some i=>
  rw[hq] at h;simp only[Kg,JM,Kl] at h;exact⟨i,rfl,h.1,h.2.1,h.2.2⟩
def iG(w:World)(B:Nat)(A:Option Addr)(cp:Nat)(m:List Js.Mem):Prop:=
 ∃flat,w.ownsRow B 95 9 (.slice A m.length cp) m.length flat/\(∀u∈flat,u.oneCell'=true)/\
  ∀i p,m[i]? =some p->flat[i*9]? =some (.string ⟨p.1.toArray⟩)/\∃x,p.2.In (w.on (Off B A)) x/\∀(j:Nat) u,x.cells[j]? =some u->flat[i*9+1+j]? =some u
theorem iG.nil(w:World)(B:Nat):iG w B none 0 []:=⟨[],⟨by simp,.inl ⟨rfl,rfl⟩⟩,(λu h=>by cases h),λi v h=>by simp at h⟩
theorem iG.keep{w w':World}{B:Nat}{A:Option Addr}{cp:Nat}{m:List Js.Mem}(h:iG w B A cp m)(hb:∀k,B<=k->k<w.heap.size->w'.heap[k]? =w.heap[k]?):iG w' B A cp m:=by
 obtain⟨flat,hown,h1,hel⟩:=h;refine⟨flat,aA hown hb,h1,λi v hi=>?_⟩;obtain⟨hk,x,hx,hc⟩:=hel i v hi;refine⟨hk,x,In.keep (λp u hp=>?_) _ _ hx,hc⟩;obtain⟨hs,hcell⟩:=ah.1 hp;exact ah.2 ⟨hs,by rw[Ka (w:=w) (hb _ hs.1 (Jn w _ hcell))];exact hcell⟩
theorem ai{w:World}{B:Nat}{e:TypeId}{size:Nat}{A:Option Addr}{n cp:Nat}{xs:List Value}(h:w.ownsRow B e size (.slice A n cp) n xs):n<=cp/\cp<=maxLen/\(A=none->n=0/\cp=0)/\(∀ad,A=some ad->∃g,ad=⟨g,0,none⟩/\B<=g/\g<w.heap.size):=by
 rcases h.2 with⟨h0,h1⟩|⟨g,cap,cur,h1,h2,h3,h4,h5,_⟩
 .injection h0 with e1 e2 e3;subst e1 e3;exact⟨by omega,by simp[maxLen],λ_=>⟨h1,rfl⟩,λad h=>by cases h⟩
 .injection h1 with e1 e2 e3;subst e1 e3;exact⟨h4,h5,λh=>(by cases h),λad h=>by cases h;exact⟨g,rfl,h2,Blk.lt (cs:=cur) h3⟩⟩
theorem iG.in_{w:World}{B B0:Nat}{A:Option Addr}{cp:Nat}{m:List Js.Mem}(h:iG w B A cp m)(hB:B0<=B):
  (Ps.mkO m).In (w.on (B0<=·)) (vlV 5 false false [] 0 [] (.slice none 0 0) (.slice A m.length cp)):=by
 obtain⟨flat,hown,_,hel⟩:=h;have hl:=ai hown;simp only[Vl.In];refine⟨none,0,A,cp,rfl,Jh _,by simp[maxLen],hl.1,hl.2.1,λhn=>absurd hn (by simp),λhn=>?_⟩;cases A with
 |none=>have:=(hl.2.2.1 rfl).1;omega
 |some ad=>
  obtain⟨g,rfl,hg1,hg2⟩:=hl.2.2.2 ad rfl;refine⟨g,0,rfl,MIn.of λk p hk=>?_⟩;obtain⟨hkey,x,hx,hc⟩:=hel k p hk;refine⟨?_,x,In.keep (λp u hp=>?_) _ _ hx,λj u hu=>?_⟩
  .rw[JI];exact ah.2 ⟨JA hB hg1,ax hown _ _ hkey⟩
  .obtain⟨hs,hcell⟩:=ah.1 hp;exact ah.2 ⟨JA hB hs.1,hcell⟩
  .rw[JI];exact ah.2 ⟨JA hB hg1,ax hown _ _ (hc j u hu)⟩
theorem pJ{α:Type}{a b l:List α}(h:a++b=l):l.take a.length=a:=by subst h;exact List.take_left
theorem xd{α:Type}{a b l:List α}(h:a++b=l):l.drop a.length=b:=by subst h;exact MU
theorem iG.ins{W0 W3:World}{B:Nat}{A A3:Option Addr}{cp c3:Nat}{m:List Js.Mem}{key:Jd}{v:Vl}{cs:Array Value}{flat:List Value}
  (hown:W0.ownsRow B 95 9 (.slice A m.length cp) m.length flat) (hone:∀u∈flat,u.oneCell'=true) (hel:∀i p,m[i]? =some p->flat[i*9]? =some (.string ⟨p.1.toArray⟩)/\∃x,p.2.In (W0.on (Off B A)) x/\∀(j:Nat) u,x.cells[j]? =some u->flat[i*9+1+j]? =some u)
  (hv:v.In (W0.on (B<=·)) (.agg cs)) (hcs:cs.size=8) (hc1:∀u∈cs.toList,u.oneCell'=true) (hext:∀k,B<=k->k<W0.heap.size->W3.heap[k]? =W0.heap[k]?) {k:Nat} (hk:k=(m.takeWhile (Ps.less key)).length)
  (hown3:W3.ownsRow B 95 9 (.slice A3 (m.length+1) c3) (m.length+1) (flat.take (k*9)++((.string ⟨key.toArray⟩::cs.toList)++flat.drop (k*9)))) (hnew:∀ad,A3=some ad->W0.heap.size<=ad.block):
  iG W3 B A3 c3 (Ps.ins m key v):=by
 have hfl:flat.length=m.length*9:=hown.1;have htd:m.takeWhile (Ps.less key)++m.dropWhile (Ps.less key)=m:=Kc;have hkl:k<=m.length:=by rw[hk];exact(Lm _).length_le
 have hins:Ps.ins m key v=m.take k++(key,v)::m.drop k:=by
  unfold Ps.ins;have e1:m.take k=m.takeWhile (Ps.less key):=by rw[hk];exact pJ htd
  have e2:m.drop k=m.dropWhile (Ps.less key):=by rw[hk];exact xd htd
  rw[e1,e2]
 have hkeep:∀{u:Vl} {x:Value},u.In (W0.on (B<=·)) x->u.In (W3.on (Off B A3)) x:=λ{u x} h=>In.keep (λp y hp=>by
  obtain⟨h1,h2⟩:=ah.1 hp;have hlt:=Jn W0 _ h2;exact ah.2 ⟨⟨h1,λad e=>by have:=hnew ad e;omega⟩,by rw[Ka (w:=W0) (hext _ h1 hlt)];exact h2⟩) _ _ h
 have hoff:Cl.le (W0.on (Off B A)) (W0.on (B<=·)):=λp y hp=>by
  obtain⟨h1,h2⟩:=ah.1 hp;exact ah.2 ⟨h1.1,h2⟩
 refine⟨flat.take (k*9)++((.string ⟨key.toArray⟩::cs.toList)++flat.drop (k*9)),?_,?_,λi p hi=>?_⟩
 .rw[Ps.qX];exact hown3
 .intro u hu;rcases Jq.1 hu with h|h
  .exact hone u (KG h)
  .rcases Jq.1 h with h|h
   .rcases JB.1 h with rfl|h
    .rfl
    .exact hc1 u h
   .exact hone u (Lw h)
 .have hl9:(flat.take (k*9)).length=k*9:=by rw[JL,hfl];omega
  have hcl:(Value.string ⟨key.toArray⟩::cs.toList).length=9:=by simp[hcs]
  rw[hins] at hi;rcases Ni i k with h|h|h
  .rw[JD (by rw[JL];omega),KN,Jo h] at hi;obtain⟨h1,x,h2,h3⟩:=hel i p hi;refine⟨?_,x,hkeep (In.keep hoff _ _ h2),λj u hu=>?_⟩
   .rw[JD (by rw[hl9];omega),KN,Jo (by omega)];exact h1
   .have hj:=h3 j u hu;have hj8:j<8:=by
     obtain⟨k1,b1,n1,g1,x1,s1,A1,l1,p1,B1,m1,d1,rfl⟩:=In.cells h2;have:=(KE.1 hu).1;simpa[Value.cells] using this
    rw[JD (by rw[hl9];omega),KN,Jo (by omega)];exact hj
  .subst h;rw[Jx (by rw[JL];omega),JL,show i-min i m.length=0 by omega] at hi;simp only[Lh,JM] at hi;subst hi;refine⟨?_,_,hkeep hv,λj u hu=>?_⟩
   .rw[Jx (by rw[hl9];omega),hl9,O8];rfl
   .have hj8:j<8:=by
     have:=(KE.1 hu).1;simpa[Value.cells,hcs] using this
    rw[Jx (by rw[hl9];omega),hl9,show i*9+1+j-i*9=j+1 by omega,JD (by rw[hcl];omega),Kr];simpa[Value.cells] using hu
  .rw[Jx (by rw[JL];omega),JL,show i-min k m.length=(i-k-1)+1 by omega,Kr,Kf,show k+(i-k-1)=i-1 by omega] at hi;obtain⟨h1,x,h2,h3⟩:=hel (i-1) p hi;have hidx:∀q,k*9+9<=q->(flat.take (k*9)++((.string ⟨key.toArray⟩::cs.toList)++flat.drop (k*9)))[q]? =flat[q-9]? :=λq hq=>by
    rw[Jx (by rw[hl9];omega),hl9,Jx (by rw[hcl];omega),hcl,Kf,show k*9+(q-k*9-9)=q-9 by omega]
   refine⟨?_,x,hkeep (In.keep hoff _ _ h2),λj u hu=>?_⟩
   .rw[hidx _ (by omega),show i*9-9=(i-1)*9 by omega];exact h1
   .rw[hidx _ (by omega),show i*9+1+j-9=(i-1)*9+1+j by omega];exact h3 j u hu
theorem cQ{α:Type}{rb:Nat}{s:ByteArray}{d:Nat}{w:World}{r:Ps.R α}(h:bo rb s d w r)(hs:s.size<=1000000000000):
  Calls Tryz.prog 49 #[.pointer (some ⟨rb,0,none⟩)] w λe w'=>e=.returned (.tuple #[])/\bo rb s d w' r.bM/\ak rb w w':=by
 cases r with
 |ok v u=>obtain⟨a,hR⟩:=h;exact dP hR hs
 |bad c l=>
  refine(lh h).mono ?_;rintro e w' ⟨rfl,n,rfl⟩;exact⟨rfl,h,(ak.refl _ _).drewN n⟩
abbrev Gq(w:World):World:=(w.alloc (.cells ag 31)).alloc (.cells ag 31)
theorem aO(w:World):Below w.heap.size w (Gq w):=((Ji _ _).alloc (Jh _) _).alloc (by simp) _
theorem Ee{rb:Nat}{s:ByteArray}{c l:Nat}{w:World}(h:RdB w rb s c l)(d:Nat):
  Calls Tryz.prog 26 #[.pointer (some ⟨rb,0,none⟩)] w (eR rb s d (.bad c l) w):=by
 have hrb:rb<w.heap.size:=by obtain⟨a,e,p,h0,_⟩:=h;exact h0.lt
 have H:=Jf (h.on (aO w));have HZ:=Jf ((Blk.new w 31 ag).alloc (.cells ag 31));have HV:=Jf (Blk.cW w (.cells ag 31) 31 ag);have HB:=Jf (aO w);clear h;go_enter Tryz.func26,Tryz.ntmps26;go_wp2_with fail;refine(lh H.out).mono ?_;rintro e w1 ⟨rfl,n1,rfl⟩;go_wp2_with fail;refine(iu (H.out.drewN n1)).mono ?_;rintro e w1 ⟨rfl,n2,rfl⟩;rw[World.drewN_drewN];generalize hn:n1+n2=n;have HR:=Jf (show RdB ((Gq w).drewN n) rb s c l from H.out);have HZ2:=Jf (show Blk ((Gq w).drewN n) w.heap.size 31 ag from HZ.out);have HV2:=Jf (show Blk ((Gq w).drewN n) (w.heap.size+1) 31 ag from HV.out);have HS:=Jf ((ak.aJ (rb:=rb) HB.out).drewN n);clear hn;generalize (Gq w).drewN n=w2 at*
 obtain⟨a2,d2,p2,hB,-,-⟩:=HR.out;obtain⟨c0,c1,c2,c3,c4⟩:=hB.cJ;obtain⟨z0,z1,z2,z3,z4,z5,z6,z7⟩:=HZ2.out.eight;obtain⟨v0,v1,v2,v3,v4,v5,v6,v7⟩:=HV2.out.eight;have zf:=HZ2.out.frozen;clear hB;go_wp2_with fail;refine(qI HR.out _ _).mono ?_;rintro e w3 ⟨rfl,rfl⟩;go_wp2_with fail;refine(lh HR.out).mono ?_;rintro e w3 ⟨rfl,n3,rfl⟩;go_wp2_with fail;have hfin:=bu (wr:=w2.drewN n3) (v:=Ps.mkN) (r:=Ps.R.bad (α:=Vl) c l) (d:=d) hrb (HS.out.drewN n3) HZ2.out (wF _) (λ_ _ e=>by cases e) HR.out;refine Ju (aj (l:=[_,_,_,_,_,_,_,_]) rfl _ _ _ rfl hfin.1 Tryz.underlying31 rfl (by kernel_rfl)) rfl ?_;exact hfin.2
theorem Eb{α:Type}{f:Nat}(HVC:VC f){rb:Nat}{s:ByteArray}{d:Nat}{w:World}{r:Ps.R α}(h:bo rb s d w r)(hs:s.size<=100000)(hd:d<=32)(hf:∀v u,r=.ok v u->3*u.length+1<=f):
  Calls Tryz.prog 26 #[.pointer (some ⟨rb,0,none⟩)] w (eR rb s d (eJ r (Ps.value f d)) w):=by
 cases r with
 |ok v u=>obtain⟨a,hR⟩:=h;exact HVC rb s a u d w hR hs hd (hf v u rfl)
 |bad c l=>exact Ee h d
abbrev pR(lv:Value):Array Value:=#[.int .i64 5,.bool false,.bool false,.string ⟨#[]⟩,.int .i64 0,.string ⟨#[]⟩,.slice none 0 0,lv]
abbrev objW(w:World):World:=(w.alloc (.cells ag 31)).alloc (.cells (pR (.slice none 0 0)) 31)
theorem fD(w:World):Below w.heap.size w (objW w):=((Ji _ _).alloc (Jh _) _).alloc (by simp) _
theorem yi{rb:Nat}{s:ByteArray}{a:Nat}{c:UInt8}{u:Jd}{w:World}(h:Rd w rb s a (c::u) 32)(hs:s.size<=1000000)(f:Nat):
  Calls Tryz.prog 51 #[.pointer (some ⟨rb,0,none⟩)] w (eR rb s 32 (Ps.obj (f+1) 32 u) w):=by
 have HO:=Jf (ly (h.on (fD w)) hs (Jh _));have hrb:=h.lt;have HR:=Jf (show Ps.obj (f+1) 32 u=.bad 3 (u.length+1) by unfold Ps.obj;rw[Jo rfl]);have HZ:=Jf ((Blk.new w 31 ag).alloc (.cells (pR (.slice none 0 0)) 31));have HV:=Jf (Blk.cW w (.cells ag 31) 31 (pR (.slice none 0 0)));have HB:=Jf (fD w);clear h;go_enter Tryz.func51,Tryz.ntmps51;go_wp2_with fail;refine HO.out.mono ?_;rintro e w2 ⟨rfl,hRB,hS⟩;rw[Jo rfl] at hRB;have HRB:=Jf hRB;have HS:=Jf ((ak.aJ HB.out).trans hS);have HZ2:=Jf (hS.blk HZ.out (by omega));have HV2:=Jf (hS.blk HV.out (by omega));obtain⟨z0,z1,z2,z3,z4,z5,z6,z7⟩:=HZ2.out.eight;obtain⟨v0,v1,v2,v3,v4,v5,v6,v7⟩:=HV2.out.eight;have zf:=HZ2.out.frozen;have vf:=HV2.out.frozen;obtain⟨a2,d2,p2,hB,h1,h2⟩:=hRB;obtain⟨c0,c1,c2,c3,c4⟩:=hB.cJ;have hf:=hB.frozen;have t1:(((3:Nat):Int)==0)=false:=rfl;clear hB h1 h2 hS;go_wp2_with fail
 go_loopg [] 1 (λk wr=>k=1/\wr=w2)
 case atStart=>exact⟨rfl,rfl⟩
 case round=>
  obtain⟨rfl,rfl⟩:=hrel;go_wp2_with fail;refine(sS HRB.out _ (by decide)).mono ?_;rintro e w3 ⟨rfl,rfl⟩;go_wp2_with fail;have hfin:=bu (v:=Ps.mkO []) (r:=Ps.R.bad (α:=Vl) 3 (u.length+1)) (d:=32) hrb (HS.out.set 2 (.int .i64 (wrap64 (d2-1)))) (ak.blk ((ak.refl rb wr).set 2 (.int .i64 (wrap64 (d2-1)))) HZ2.out (by omega)) ((iG.nil _ (w.heap.size+1)).in_ (Jh _)) (λ_ _ e=>by cases e) (HRB.out.kp (wrap64 (d2-1)));refine Ju (aj (l:=[_,_,_,_,_,_,_,_]) rfl _ _ _ rfl hfin.1 Tryz.underlying31 rfl (by kernel_rfl)) rfl ?_;rw[HR.out];exact hfin.2
theorem vF{rb:Nat}{s:ByteArray}{a:Nat}{c:UInt8}{u:Jd}{d:Nat}{w:World}(h:Rd w rb s a (c::u) d)(hs:s.size<=1000000)(hdl:d<32)(hh:(Ps.skip u).head?=some 125)(f:Nat):
  Calls Tryz.prog 51 #[.pointer (some ⟨rb,0,none⟩)] w (eR rb s d (Ps.obj (f+1) d u) w):=by
 have HO:=Jf (ly (h.on (fD w)) hs (by omega));have hrb:=h.lt;have HRQ:=Jf (show Ps.obj (f+1) d u=(eJ (.ok () (Ps.skip u)) (Ps.lit [125])).map (λ_=>Ps.mkO [])/\∀r:Ps.R Unit,∀v0 u,r.map (λ_=>Ps.mkO [])=.ok v0 u->Ps.mkO []=v0 from⟨by
  unfold Ps.obj;rw[Jj (by omega),Jo hh];simp only[eJ];rw[FD,Jo hh];rfl,λr=>jY r _⟩)
 have HZ:=Jf ((Blk.new w 31 ag).alloc (.cells (pR (.slice none 0 0)) 31));have HV:=Jf (Blk.cW w (.cells ag 31) 31 (pR (.slice none 0 0)));have HB:=Jf (fD w);have hd125:hd (Ps.skip u)=125:=by cases hq:Ps.skip u with
  |nil=>rw[hq] at hh;cases hh
  |cons b t=>rw[hq] at hh;cases hh;rfl
 clear h hh;have HD125:=Jf hd125;clear hd125;go_enter Tryz.func51,Tryz.ntmps51;go_wp2_with fail;refine HO.out.mono ?_;rintro e w2 ⟨rfl,hRB,hS⟩;rw[Jj (by omega)] at hRB;obtain⟨a2,hR2⟩:=hRB;have HR2:=Jf hR2;have HS:=Jf ((ak.aJ HB.out).trans hS);have HZ2:=Jf (hS.blk HZ.out (by omega));have HV2:=Jf (hS.blk HV.out (by omega));have HP:=Jf (bS hR2 (by omega));rw[HD125.out] at HP;obtain⟨v0,v1,v2,v3,v4,v5,v6,v7⟩:=HV2.out.eight;obtain⟨c0,c1,c2,c3,c4⟩:=hR2.1.cJ;clear hR2 hS;go_wp2_with fail
 go_loopg [] 1 (λk wr=>k=1/\wr=w2)
 case atStart=>exact⟨rfl,rfl⟩
 case round=>
  obtain⟨rfl,rfl⟩:=hrel;go_wp2_with fail;refine HP.out.mono ?_;rintro e w3 ⟨rfl,n,rfl⟩;go_wp2_with fail;refine(iC (bo.drewN (show bo rb s (d+1) wr (Ps.R.ok () (Ps.skip u)) from⟨a2,HR2.out⟩) n) (by omega) ⟨#[125]⟩ (by decide) (by decide)).mono ?_;rintro e w4 ⟨rfl,hA4,hS4⟩;have HA4:=Jf hA4;have HS4:=Jf ((HS.out.drewN n).trans hS4);have HZ4:=Jf (hS4.blk HZ2.out (by omega));have HV4:=Jf (hS4.blk HV2.out (by omega));have HROW4:=Jf ((iG.nil (wr.drewN n) (w.heap.size+2)).keep (λk hk hlt=>hS4.block k hlt (by omega)));clear hA4 hS4 v0 v1 v2 v3 v4 v5 v6 v7 c0 c1 c2 c3 c4;obtain⟨a4,d4,b4,p4,hB4,hA5⟩:=HA4.out.up (by omega);obtain⟨z0,z1,z2,z3,z4,z5,z6,z7⟩:=HZ4.out.eight;obtain⟨v0,v1,v2,v3,v4,v5,v6,v7⟩:=HV4.out.eight;have zf:=HZ4.out.frozen;have vf:=HV4.out.frozen;obtain⟨c0,c1,c2,c3,c4⟩:=hB4.cJ;have hf:=hB4.frozen;have HA5:=Jf hA5;clear hB4 hA5;go_wp2_with fail;have hfin:=bu (v:=Ps.mkO []) (d:=d) hrb (HS4.out.set 2 (.int .i64 (wrap64 (d4-1)))) (ak.blk ((ak.refl rb w4).set 2 (.int .i64 (wrap64 (d4-1)))) HZ4.out (by omega)) ((HROW4.out.keep (λk hk hlt=>((ak.refl rb w4).set 2 (.int .i64 (wrap64 (d4-1)))).block k hlt (by omega))).in_ (KD _)) (HRQ.out.2 _) (HA5.out.map (λ_=>Ps.mkO []));refine Ju (aj (l:=[_,_,_,_,_,_,_,_]) rfl _ _ _ rfl hfin.1 Tryz.underlying31 rfl (by kernel_rfl)) rfl ?_;rw[HRQ.out.1];exact hfin.2
end
