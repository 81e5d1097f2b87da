import Derived.Test.YtdhgmaonolgpnaaGreatDoorIo
set_option linter.unusedSimpArgs false
set_option linter.unusedVariables false
set_option maxHeartbeats 16000000
set_option maxRecDepth 100000
namespace Go.Proofs.YtdhgmaonolgpnaaGreatDoor
section
open Go.RowKit Js Pt
theorem Vd.tG(N:Cm.Node)(nm key:Jd)(v:Vl):(Vd.kJ N nm key v).length<=v.size:=by
 have h0:∀{α:Type} {f:Nat->α->List Vd.Ask} (l:List α),(∀i a,(f i a).length<=1)->((l.mapIdx f).flatten).length<=l.length:=λl h=>by
  have:=Vd.vh (l:=l) (d:=0) h;simpa using this
 obtain⟨kd,b,nn,s,l,m⟩:=v;have h1:=cS l;have h2:=ep m;unfold Vd.kJ;simp only[Vl.size];split
 .rw[Vd.mU];show l.length<=_;omega
 .split
  .have:=h0 (f:=λj (p:Js.Mem)=>if p.1=key then[(⟨0,0,false,key,j⟩:Vd.Ask)] else[]) m (λi a=>by split<;>simp);unfold Vd.ec;exact JA this (by omega)
  .split
   .have:=h0 (f:=λj (p:Js.Mem)=>if Vd.named N p.1=true then[] else[(⟨0,0,false,p.1,j⟩:Vd.Ask)]) m (λi a=>by split<;>simp);unfold Vd.eI;exact JA this (by omega)
   .split
    .simp;omega
    .simp
theorem zw(P:Cm.Names)(tx:Jd)(nall npass:Bool)(keys:List Cm.Key)(A2:Option Addr)(c2:Nat)(nm key:Jd)(v:Vl)(xv:Value)(w:World)(hT:Tab w)(hk:gS w.cell? A2 keys)(h1:keys.length<=c2)(h2:c2<=maxLen)(hv:v.may=true)(hsz:v.size<=1000000)(hx:v.In w.cell? xv):
  Calls Tryz.prog 89 #[.agg #[.string ⟨tx.toArray⟩,.bool nall,.bool npass,.slice A2 keys.length c2],nm,key,xv] w (zi (Vd.kJ ⟨P,nall,npass,keys⟩ nm key v) w):=by
 obtain⟨k_1,k_2,k_3,k_4,k_5,k_6,k_7,k_8,k_9,k_a,k_b,k_c,rfl⟩:=In.cells hx;have hb0:=(Ji w.heap.size w).alloc (Jh _) (.cells #[tx,nall,npass,.slice A2 keys.length c2] 39);have hb1:=hb0.alloc hb0.size (.cells #[.int .i64 k_1,k_2,k_3,k_4,.int .i64 k_5,k_6,.slice k_7 k_8 k_9,.slice k_a k_b k_c] 31);have HB0:=Jf hb1;have HX0:=Jf ((Blk.new w 39 #[tx,nall,npass,.slice A2 keys.length c2]).alloc (.cells #[.int .i64 k_1,k_2,k_3,k_4,.int .i64 k_5,k_6,.slice k_7 k_8 k_9,.slice k_a k_b k_c] 31));have HY0:=Jf (Blk.new (w.alloc (.cells #[tx,nall,npass,.slice A2 keys.length c2] 39)) 31 #[.int .i64 k_1,k_2,k_3,k_4,.int .i64 k_5,k_6,.slice k_7 k_8 k_9,.slice k_a k_b k_c]);have hx1:=In.keep (aa hb1) _ _ hx;have HEL:=Jf (uW v _ _ (hT.keep hb1) hsz hx1);have HME:=Jf (vC v _ key _ hv hsz hx1);have HOT:=Jf (AF P tx nall npass keys A2 c2 v _ _ (hk.keep (aa hb1)) h1 h2 hsz hx1);have hp:Vd.kJ ⟨P,nall,npass,keys⟩ nm key v=if(nm==Vd.aR)=true then Vd.dR v else if(nm==Vd.b9)=true then Vd.ec v key else if(nm==Vd.lO)=true then Vd.eI ⟨P,nall,npass,keys⟩ (Vd.cq v) else if Cm.place nm=true then[⟨0,0,true,[],0⟩] else[]:=by
  unfold Vd.kJ;simp only[Ln]
 rw[show Cm.place nm=((nm==[97,108,108,79,102])||((nm==[97,110,121,79,102])||((nm==[111,110,101,79,102])||((nm==[110,111,116])||(nm==[36,114,101,102]))))) by
  simp only[Cm.place,Cm.mC,Cm.eD,List.contains_cons,List.contains_nil,Bool.or_false];cases(nm==[36,114,101,102])<;>simp] at hp
 change _=if(nm==[105,116,101,109,115])=true then _ else if(nm==[112,114,111,112,101,114,116,105,101,115])=true then _ else if(nm==[97,100,100,105,116,105,111,110,97,108,80,114,111,112,101,114,116,105,101,115])=true then _ else _ at hp
 obtain⟨b1,e1⟩:∃b,(nm==[105,116,101,109,115])=b:=⟨_,rfl⟩;obtain⟨b2,e2⟩:∃b,(nm==[112,114,111,112,101,114,116,105,101,115])=b:=⟨_,rfl⟩;obtain⟨b3,e3⟩:∃b,(nm==[97,100,100,105,116,105,111,110,97,108,80,114,111,112,101,114,116,105,101,115])=b:=⟨_,rfl⟩;rw[e1,e2,e3] at hp;have HR1:=Jf (λ(q1:b1=true)=>hp.trans (Jo q1));have HR2:=Jf (λ(q1:b1=false) (q2:b2=true)=>hp.trans ((Jj (by simp[q1])).trans (Jo q2)));have HR3:=Jf (λ(q1:b1=false) (q2:b2=false) (q3:b3=true)=>hp.trans ((Jj (by simp[q1])).trans ((Jj (by simp[q2])).trans (Jo q3))));have HR4:=Jf (λ(q1:b1=false) (q2:b2=false) (q3:b3=false)=>hp.trans ((Jj (by simp[q1])).trans ((Jj (by simp[q2])).trans (Jj (by simp[q3])))));clear hp;generalize Vd.kJ ⟨P,nall,npass,keys⟩ nm key v=r at*
 generalize Vd.dR v=r1 at*
 generalize Vd.ec v key=r2 at*
 generalize Vd.eI ⟨P,nall,npass,keys⟩ (Vd.cq v)=r3 at*
 clear hb0 hb1 hx hx1 hT hk hv hsz;go_enter Tryz.func89,Tryz.ntmps89;go_upto_region 1 with(fail);generalize (w.alloc (.cells #[tx,nall,npass,.slice A2 keys.length c2] 39)).alloc (.cells #[.int .i64 k_1,k_2,k_3,k_4,.int .i64 k_5,k_6,.slice k_7 k_8 k_9,.slice k_a k_b k_c] 31)=w0 at*
 have hgy:(w.alloc (.cells #[tx,nall,npass,.slice A2 keys.length c2] 39)).heap.size=w.heap.size+1:=by show(w.heap.push _).size=_;exact LH _
 rw[hgy] at HY0;obtain⟨gv,hg⟩:∃g,w.heap.size+1=g:=⟨_,rfl⟩;rw[hg] at HY0;try rw[hg]
 clear hgy hg;obtain⟨v0,v1,v2,v3,v4,v5,v6,v7⟩:=HY0.out.eight;have hvl:=HY0.out.lt;have n0:=HX0.out.cell 0;have n1:=HX0.out.cell 1;have n2:=HX0.out.cell 2;have n3:=HX0.out.cell 3;have hnl:=HX0.out.lt;cases b1 with
 |true=>
  go_wp2_with fail;refine HEL.out.mono ?_;rintro f1 w1 ⟨A5,c5,rfl,h5,h6⟩;have H5:=Jf h5;have H6:=Jf (HB0.out.trans (h6.mono HB0.out.size));clear h5 h6 HEL HME HOT;go_wp2_with fail;go_ret;exact⟨A5,c5,by rw[HR1.out (by simp)];rfl,by rw[HR1.out (by simp)];exact H5.out.less HB0.out.size,H6.out⟩
 |false=>
  cases b2 with
  |true=>
   go_wp2_with fail;refine HME.out.mono ?_;rintro f1 w1 ⟨A5,c5,rfl,h5,h6⟩;have H5:=Jf h5;have H6:=Jf (HB0.out.trans (h6.mono HB0.out.size));clear h5 h6 HEL HME HOT;go_wp2_with fail;go_ret;exact⟨A5,c5,by rw[HR2.out (by simp) (by simp)];rfl,by rw[HR2.out (by simp) (by simp)];exact H5.out.less HB0.out.size,H6.out⟩
  |false=>
   cases b3 with
   |true=>
    go_wp2_with fail;refine HOT.out.mono ?_;rintro f1 w1 ⟨A5,c5,rfl,h5,h6⟩;have H5:=Jf h5;have H6:=Jf (HB0.out.trans (h6.mono HB0.out.size));clear h5 h6 HEL HME HOT;go_wp2_with fail;go_ret;exact⟨A5,c5,by rw[HR3.out (by simp) (by simp) (by simp)];rfl,by rw[HR3.out (by simp) (by simp) (by simp)];exact H5.out.less HB0.out.size,H6.out⟩
   |false=>
    have HB2:=Jf (HB0.out.alloc HB0.out.size (.cells #[.int .i64 0,.int .i64 0,true,.string ⟨#[]⟩,.int .i64 0] 121));have HOW:=Jf (show az (w0.alloc (.cells #[.int .i64 0,.int .i64 0,true,.string ⟨#[]⟩,.int .i64 0] 121)) w.heap.size (some ⟨w0.heap.size,0,none⟩) 1 [⟨0,0,true,[],0⟩] from Kv w0 #[.int .i64 0,.int .i64 0,true,.string ⟨#[]⟩,.int .i64 0] 1 HB0.out.size (by unfold maxLen;omega) rfl);have HRF:=Jf (HR4.out (by simp) (by simp) (by simp));clear HEL HME HOT HR1 HR2 HR3 HR4;obtain⟨b4,e4⟩:∃b,(nm==[97,108,108,79,102])=b:=⟨_,rfl⟩;obtain⟨b5,e5⟩:∃b,(nm==[97,110,121,79,102])=b:=⟨_,rfl⟩;obtain⟨b6,e6⟩:∃b,(nm==[111,110,101,79,102])=b:=⟨_,rfl⟩;obtain⟨b7,e7⟩:∃b,(nm==[110,111,116])=b:=⟨_,rfl⟩;obtain⟨b8,e8⟩:∃b,(nm==[36,114,101,102])=b:=⟨_,rfl⟩;rw[e4,e5,e6,e7,e8] at HRF;cases b4 with
    |true=>
     have HN:=Jf (show r=[⟨0,0,true,[],0⟩] by simpa using HRF.out);go_wp2_with fail;go_ret;exact⟨_,1,by rw[HN.out];rfl,by rw[HN.out];exact HOW.out,HB2.out⟩
    |false=>
     cases b5 with
     |true=>
      have HN:=Jf (show r=[⟨0,0,true,[],0⟩] by simpa using HRF.out);go_wp2_with fail;go_ret;exact⟨_,1,by rw[HN.out];rfl,by rw[HN.out];exact HOW.out,HB2.out⟩
     |false=>
      cases b6 with
      |true=>
       have HN:=Jf (show r=[⟨0,0,true,[],0⟩] by simpa using HRF.out);go_wp2_with fail;go_ret;exact⟨_,1,by rw[HN.out];rfl,by rw[HN.out];exact HOW.out,HB2.out⟩
      |false=>
       cases b7 with
       |true=>
        have HN:=Jf (show r=[⟨0,0,true,[],0⟩] by simpa using HRF.out);go_wp2_with fail;go_ret;exact⟨_,1,by rw[HN.out];rfl,by rw[HN.out];exact HOW.out,HB2.out⟩
       |false=>
        cases b8 with
        |true=>
         have HN:=Jf (show r=[⟨0,0,true,[],0⟩] by simpa using HRF.out);go_wp2_with fail;go_ret;exact⟨_,1,by rw[HN.out];rfl,by rw[HN.out];exact HOW.out,HB2.out⟩
        |false=>
         have HN:=Jf (show r=[] by simpa using HRF.out);go_wp2_with fail;go_ret;exact⟨none,0,by rw[HN.out];rfl,by rw[HN.out];exact az.nil _ _,HB0.out⟩
theorem jH{A:Option Addr}{n c q:Nat}(h:(Value.slice A n c).ownBlock=some q):Bk A q:=by
 cases A with
 |none=>cases h
 |some ad=>exact⟨ad,rfl,by simpa[Value.ownBlock] using h.symm⟩
theorem EO{A:Option Addr}{n c q:Nat}(h:Bk A q):(Value.slice A n c).ownBlock=some q:=by
 obtain⟨ad,rfl,rfl⟩:=h;rfl
theorem ss{w4 wy w' x8:World}{A5 A7 A8:Option Addr}{n c n' c':Nat}(hb:But (Bk A5) w4 wy)(hr:aW A5 A7 w4)(h1:Below wy.heap.size wy w')(hg:w'.grownBy x8 (Value.slice A7 n c).ownBlock)(hat:(Value.slice A8 n' c').ownBlock=(Value.slice A7 n c).ownBlock\/(Value.slice A8 n' c').ownBlock=some w'.heap.size):
  But (Bk A5) w4 x8/\aW A5 A8 w4:=by
 have h2:But (Bk A5) w4 w':=hb.trans (Y:=λ_=>False) (But.of h1) (λ_ _ h=>h.elim);refine⟨h2.grown hg (λq hq=>(hr q (jH hq)).symm),λb hb8=>?_⟩;have h3:=EO (n:=n') (c:=c') hb8;rcases hat with e|e
 .rw[h3] at e;exact hr b (jH e.symm)
 .rw[h3] at e;injection e with e;exact .inr (by rw[e];exact h2.size)
theorem ay{w:World}{g:Nat}{t e:TypeId}{cs:Array Value}(h:Blk w g t cs){B size n c:Nat}{A:Option Addr}{xs:List Value}(hr:w.ownsRow B e size (.slice A n c) n xs)(hte:¬t=e):¬Bk A g:=by
 rintro⟨ad,rfl,rfl⟩;obtain⟨_,⟨e0,_⟩|⟨g,cap,cur,e0,_,hc,_⟩⟩:=hr
 .injection e0 with e0;cases e0
 .injection e0 with e0;injection e0 with e0;subst e0;unfold Blk at h;rw[hc] at h;injection h with h;injection h with _ h;exact hte h.symm
theorem sZ{α β:Type}(f:α->List β){l:List α}{k:Nat}{a:α}(h:l[k]? =some a):(l.take (k+1)).flatMap f=(l.take k).flatMap f++f a:=by
 obtain⟨hl,rfl⟩:=Jm.1 h;rw[Jr hl,M0];simp
theorem dy{α β:Type}(f:α->β){l:List α}{k:Nat}{a:α}(h:l[k]? =some a):(l.take (k+1)).map f=(l.take k).map f++[f a]:=by
 obtain⟨hl,rfl⟩:=Jm.1 h;rw[Jr hl,JX];simp
theorem qP{α β:Type}{f:α->List β}{n:Nat}:∀(l:List α),(∀x∈l,(f x).length<=n)->(l.flatMap f).length<=l.length*n
 |[],_=>by simp
 |a::r,h=>by
  have h1:=qP r (λx hx=>h x (by simp[hx]));have h2:=h a (by simp);rw[KK,Jk,Jl,Nt];omega
theorem Vd.jO{N:Cm.Node}{v:Vl}{n:Nat}(hk:∀K∈N.keys,K.kids.length<=200)(hv:v.size<=n):∀k,k<=N.keys.length->(Vd.fU N v k).length<=k*(200*n)
 |0,_=>by simp[Vd.fU]
 |k+1,hk1=>by
  have ih:=jO hk hv k (by omega);rw[Vd.oP (Jg (show k<N.keys.length by omega)),Jk,Nt];have h1:=qP (f:=λkid:Jd×Nat=>(Vd.kJ N (N.keys[k]).name kid.1 v).map (Vd.eP k kid.2)) (n:=n) (N.keys[k]).kids (λx _=>by rw[JR];exact JA (Vd.tG N _ _ v) hv);have h2:=K9 n (hk _ (Jv (show k<N.keys.length by omega)));omega
theorem EL(P:Cm.Names)(tx:Jd)(nall npass:Bool)(keys:List Cm.Key)(A2:Option Addr)(c2:Nat)(v:Vl)(xv:Value)(w:World)(hT:Tab w)(hk:gS w.cell? A2 keys)(h1:keys.length<=c2)(h2:c2<=maxLen)(h3:keys.length<=1000000)(h4:∀K∈keys,K.kids.length<=200)(hv:v.may=true)(hsz:v.size<=5000)(hx:v.In w.cell? xv):
  Calls Tryz.prog 57 #[.agg #[.string ⟨tx.toArray⟩,.bool nall,.bool npass,.slice A2 keys.length c2],xv] w (zi (Vd.asks ⟨P,nall,npass,keys⟩ v) w):=by
 have HK:=Jf hk;have H4:=Jf h4;obtain⟨k_1,k_2,k_3,k_4,k_5,k_6,k_7,k_8,k_9,k_a,k_b,k_c,rfl⟩:=In.cells hx;have HAO:=Jf (λ(W:World) (nm key:Jd) (hb:Below w.heap.size w W)=>zw P tx nall npass keys A2 c2 nm key v _ W (hT.keep hb) (hk.keep (aa hb)) h1 h2 hv (by omega) (In.keep (aa hb) _ _ hx));have HALN:=Jf (λ(nm key:Jd)=>Vd.tG ⟨P,nall,npass,keys⟩ nm key v);have HTN:=Jf (λ(k:Nat) (K:Cm.Key) (h:keys[k]? =some K)=>Vd.oP (N:=⟨P,nall,npass,keys⟩) (v:=v) h);have HTL:=Jf (λ(k:Nat) (hk:k<=keys.length)=>(show(Vd.fU ⟨P,nall,npass,keys⟩ v k).length<=k*(200*5000) from Vd.jO (N:=⟨P,nall,npass,keys⟩) h4 hsz k hk));have HEND:=Jf (show Vd.fU ⟨P,nall,npass,keys⟩ v keys.length=Vd.asks ⟨P,nall,npass,keys⟩ v from Vd.lZ _ v);have HT0:=Jf (show Vd.fU ⟨P,nall,npass,keys⟩ v 0=[] by simp[Vd.fU]);have HSZ:=Jf hsz;have hb0:=(Ji w.heap.size w).alloc (Jh _) (.cells #[tx,nall,npass,.slice A2 keys.length c2] 39);have HB0:=Jf (hb0.alloc hb0.size (.cells #[.int .i64 k_1,k_2,k_3,k_4,.int .i64 k_5,k_6,.slice k_7 k_8 k_9,.slice k_a k_b k_c] 31));have HX0:=Jf ((Blk.new w 39 #[tx,nall,npass,.slice A2 keys.length c2]).alloc (.cells #[.int .i64 k_1,k_2,k_3,k_4,.int .i64 k_5,k_6,.slice k_7 k_8 k_9,.slice k_a k_b k_c] 31));have HY0:=Jf (Blk.new (w.alloc (.cells #[tx,nall,npass,.slice A2 keys.length c2] 39)) 31 #[.int .i64 k_1,k_2,k_3,k_4,.int .i64 k_5,k_6,.slice k_7 k_8 k_9,.slice k_a k_b k_c]);generalize Vd.asks ⟨P,nall,npass,keys⟩ v=R at*
 generalize Vd.fU ⟨P,nall,npass,keys⟩ v=TT at*
 generalize hAO:Vd.kJ ⟨P,nall,npass,keys⟩=AO at*
 unfold maxLen at h2;clear hb0 hx hT hk hv hsz h4;go_enter Tryz.func57,Tryz.ntmps57;go_upto_region 1 with(fail);generalize (w.alloc (.cells #[tx,nall,npass,.slice A2 keys.length c2] 39)).alloc (.cells #[.int .i64 k_1,k_2,k_3,k_4,.int .i64 k_5,k_6,.slice k_7 k_8 k_9,.slice k_a k_b k_c] 31)=w0 at*
 have hgy:(w.alloc (.cells #[tx,nall,npass,.slice A2 keys.length c2] 39)).heap.size=w.heap.size+1:=by show(w.heap.push _).size=_;exact LH _
 rw[hgy] at HY0;obtain⟨gv,hg⟩:∃g,w.heap.size+1=g:=⟨_,rfl⟩;rw[hg] at HY0;try rw[hg]
 clear hgy hg;have HZ:=Jf (az.nil w0 w0.heap.size);have n3:=HX0.out.cell 3;have hnl:=HX0.out.lt;go_wp2_with fail
 go_loopw [5,15] (λo5 i15 wr=>∃(k:Nat) (A3:Option Addr) (c3:Nat) (t:List Vd.Ask),o5=.slice A3 t.length c3/\i15=.int .i64 k/\k<=keys.length/\t=TT k/\Below w0.heap.size w0 wr/\az wr w0.heap.size A3 c3 t) (λ_ i15 _=>keys.length-(intOf i15).toNat)
 case atStart=>exact⟨0,none,0,[],rfl,rfl,JE _,HT0.out.symm,Ji _ _,HZ.out⟩
 case round=>
  obtain⟨k,A3,c3,t,rfl,rfl,hkq,ht,hb,hnu⟩:=hrel;have HB:=Jf hb;have HNU:=Jf hnu;have HT:=Jf ht;clear hb hnu ht HZ n3 hnl;by_cases hkl:k<keys.length
  .obtain⟨g3,o3,cs3,rfl,hi3,hc3⟩:=HK.out k _ (Jg hkl);obtain⟨j_1,j_2,j_3,j_4,j_5,j_6,j_7,j_8,j_9,j_a,j_b,j_c,A4,c4,rfl,_,hk4,hl4,hm4⟩:=hi3.cells;have d0:wr.cell? ⟨g3,o3+k*10,none⟩=_:=(aa (HB0.out.trans (HB.out.mono HB0.out.size))) _ _ (hc3 0 _ rfl);have d1:wr.cell? ⟨g3,o3+k*10+1,none⟩=_:=(aa (HB0.out.trans (HB.out.mono HB0.out.size))) _ _ (hc3 1 _ rfl);have d2:wr.cell? ⟨g3,o3+k*10+2,none⟩=_:=(aa (HB0.out.trans (HB.out.mono HB0.out.size))) _ _ (hc3 2 _ rfl);have d3:wr.cell? ⟨g3,o3+k*10+3,none⟩=_:=(aa (HB0.out.trans (HB.out.mono HB0.out.size))) _ _ (hc3 3 _ rfl);have d4:wr.cell? ⟨g3,o3+k*10+4,none⟩=_:=(aa (HB0.out.trans (HB.out.mono HB0.out.size))) _ _ (hc3 4 _ rfl);have d5:wr.cell? ⟨g3,o3+k*10+5,none⟩=_:=(aa (HB0.out.trans (HB.out.mono HB0.out.size))) _ _ (hc3 5 _ rfl);have d6:wr.cell? ⟨g3,o3+k*10+6,none⟩=_:=(aa (HB0.out.trans (HB.out.mono HB0.out.size))) _ _ (hc3 6 _ rfl);have d7:wr.cell? ⟨g3,o3+k*10+7,none⟩=_:=(aa (HB0.out.trans (HB.out.mono HB0.out.size))) _ _ (hc3 7 _ rfl);have d8:wr.cell? ⟨g3,o3+k*10+8,none⟩=_:=(aa (HB0.out.trans (HB.out.mono HB0.out.size))) _ _ (hc3 8 _ rfl);have d9:wr.cell? ⟨g3,o3+k*10+9,none⟩=_:=(aa (HB0.out.trans (HB.out.mono HB0.out.size))) _ _ (hc3 9 _ rfl);have hki:(k:Int)<(keys.length:Int):=by omega
   have hgl3:=Jn _ _ d0;have hb1:=(Ji wr.heap.size wr).alloc (Jh _) (.cells #[.string ⟨(keys[k]).name.toArray⟩,.int .i64 j_1,j_2,j_3,j_4,.int .i64 j_5,j_6,.slice j_7 j_8 j_9,.slice j_a j_b j_c,.slice A4 (keys[k]).kids.length c4] 68);have HB1:=Jf (HB.out.trans (hb1.mono HB.out.size));have HKB:=Jf (Blk.new wr 68 #[.string ⟨(keys[k]).name.toArray⟩,.int .i64 j_1,j_2,j_3,j_4,.int .i64 j_5,j_6,.slice j_7 j_8 j_9,.slice j_a j_b j_c,.slice A4 (keys[k]).kids.length c4]);have HNU1:=Jf (HNU.out.on hb1);have HTN1:=Jf (HTN.out k _ (Jg hkl));have HTLK:=Jf (show t.length<=k*(200*5000) by rw[HT.out];exact HTL.out k (by omega));have h4k:=H4.out _ (Jv hkl);have HKD:=Jf (hk4);clear hi3 hc3 hk4 hb1 HNU;generalize (keys[k]).kids=kids at*
   generalize (keys[k]).name=nm at*
   unfold maxLen at hm4;go_upto_region 5 with(fail);generalize wr.alloc (.cells #[nm,.int .i64 j_1,j_2,j_3,j_4,.int .i64 j_5,j_6,.slice j_7 j_8 j_9,.slice j_a j_b j_c,.slice A4 kids.length c4] 68)=wk at*
   generalize wr.heap.size=gk at*
   clear d0 d1 d2 d3 d4 d5 d6 d7 d8 d9 hgl3 HB;obtain⟨z0,z1,z2,z3,z4,z5,z6,z7,z8,z9⟩:=HKB.out.ten;have hzl:=HKB.out.lt;go_wp2_with fail
   go_loopw [5,23] (λo5 i23 wr=>∃(j:Nat) (A5:Option Addr) (c5:Nat) (u:List Vd.Ask),o5=.slice A5 u.length c5/\i23=.int .i64 j/\j<=kids.length/\u=t++(kids.take j).flatMap (λkid=>(AO nm kid.1 v).map (Vd.eP k kid.2))/\u.length<=t.length+j*5000/\Below w0.heap.size w0 wr/\But (Bk A3) wk wr/\aW A3 A5 wk/\az wr w0.heap.size A5 c5 u) (λ_ i23 _=>kids.length-(intOf i23).toNat)
   case atStart=>exact⟨0,A3,c3,t,rfl,rfl,JE _,by simp,by omega,HB1.out,But.refl _ _,aW.refl _ _,HNU1.out⟩
   case round=>
    obtain⟨j,A5,c5,u,rfl,rfl,hjq,hu,hul,hb,hbt,hro,hnu⟩:=hrel;obtain⟨wz,hwz⟩:∃W,W=wr:=⟨_,rfl⟩;subst hwz;have HB:=Jf hb;have HBT2:=Jf hbt;have HRO:=Jf hro;have HNU:=Jf hnu;have HU:=Jf hu;have HUL:=Jf hul;have HKB2:=Jf (hbt.blk HKB.out (ay HKB.out HNU1.out (by decide)));clear hb hbt hro hnu hu hul z0 z1 z2 z3 z4 z5 z6 z7 z8 z9 hzl;by_cases hjl:j<kids.length
    .obtain⟨g5,o5,rfl,c0,c1⟩:=HKD.out j _ (Jg hjl);have hlw:=aa (HB0.out.trans (HB.out.mono HB0.out.size));have e0:wz.cell? ⟨g5,o5+j*2,none⟩=_:=hlw _ _ c0;have e1:wz.cell? ⟨g5,o5+j*2+1,none⟩=_:=hlw _ _ c1;have hgl5:=Jn _ _ e0;have hji:(j:Int)<(kids.length:Int):=by omega
     have hb1:=(Ji wz.heap.size wz).alloc (Jh _) (.cells #[.string ⟨(kids[j]).1.toArray⟩,.int .i64 ((kids[j]).2:Int)] 109);have HB3:=Jf (HB.out.trans (hb1.mono HB.out.size));have HKB3:=Jf (HKB2.out.on hb1);have HDB:=Jf (Blk.new wz 109 #[.string ⟨(kids[j]).1.toArray⟩,.int .i64 ((kids[j]).2:Int)]);have HNU3:=Jf (HNU.out.on hb1);have HFN:=Jf (sZ (λkid:Jd×Nat=>(AO nm kid.1 v).map (Vd.eP k kid.2)) (Jg hjl));have HCA:=Jf (HAO.out (wz.alloc (.cells #[.string ⟨(kids[j]).1.toArray⟩,.int .i64 ((kids[j]).2:Int)] 109)) nm (kids[j]).1 (HB0.out.trans (HB3.out.mono HB0.out.size)));have HALJ:=Jf (show(AO nm (kids[j]).1 v).length<=5000 from JA (HALN.out nm _) HSZ.out);have HBW:=Jf hb1;clear c0 c1 hlw;generalize (kids[j]).1=kkey at*
     generalize (kids[j]).2=knode at*
     generalize AO nm kkey v=rk at*
     go_upto_region 8 with(fail);generalize wz.alloc (.cells #[kkey,.int .i64 (knode:Int)] 109)=wd at*
     clear e0 e1 hgl5 HB;have m0:=HX0.out.on HB3.out;have m1:=HY0.out.on HB3.out;obtain⟨v0,v1,v2,v3,v4,v5,v6,v7⟩:=m1.eight;have hvl:=m1.lt;have n0:=m0.cell 0;have n1:=m0.cell 1;have n2:=m0.cell 2;have n3:=m0.cell 3;have hnl:=m0.lt;have z0:=HKB3.out.cell 0;have hzl:=HKB3.out.lt;have y0:=HDB.out.cell 0;have hyl:=HDB.out.lt;clear m0 m1;go_wp2_with fail;refine HCA.out.mono ?_;rintro f1 w4 ⟨A6,c6,rfl,h6,hb6⟩;have HB4:=Jf (HB3.out.trans (hb6.mono HB3.out.size));have HBW4:=Jf (HBW.out.trans (hb6.mono HBW.out.size));have HWD:=Jf hb6.size;have HNU4:=Jf (HNU3.out.on hb6);have HDB4:=Jf (HDB.out.on hb6);have HA6:=Jf h6;have h6m:=(ai h6).2.1;have h6l:=(ai h6).1;unfold maxLen at h6m;clear h6 hb6 v0 v1 v2 v3 v4 v5 v6 v7 hvl n0 n1 n2 n3 hnl z0 hzl y0 hyl HCA HDB HB3 HBW hb1;go_wp2_with fail
     go_loopw [5,35] (λo5 i35 wr=>∃(q:Nat) (A7:Option Addr) (c7:Nat) (x:List Vd.Ask),o5=.slice A7 x.length c7/\i35=.int .i64 q/\q<=rk.length/\x=u++(rk.take q).map (Vd.eP k knode)/\x.length=u.length+q/\Below w0.heap.size w0 wr/\But (Bk A5) w4 wr/\aW A5 A7 w4/\az wr w0.heap.size A7 c7 x) (λ_ i35 _=>rk.length-(intOf i35).toNat)
     case atStart=>exact⟨0,A5,c5,u,rfl,rfl,JE _,by simp,rfl,HB4.out,But.refl _ _,aW.refl _ _,HNU4.out⟩
     case round=>
      obtain⟨q,A7,c7,x,rfl,rfl,hqq,hx,hxl,hb,hbt,hro,hnu⟩:=hrel;obtain⟨wy,hwy⟩:∃W,W=wr:=⟨_,rfl⟩;subst hwy;have HB:=Jf hb;have HBT5:=Jf hbt;have HRO5:=Jf hro;have HA7:=Jf (show az wy wd.heap.size A6 c6 rk from aA HA6.out (λb h1 h2=>hbt.block b h2 (λ⟨ad,e1,e2⟩=>by
       obtain⟨g,e3,_,e5⟩:=(ai HNU3.out).2.2.2 ad e1;subst e3;have:b=g:=e2;omega)))
      have HNU:=Jf hnu;have HX:=Jf hx;have HXL:=Jf hxl;have HDB5:=Jf (hbt.blk HDB4.out (ay HDB4.out HNU4.out (by decide)));clear hb hbt hro hnu hx hxl;by_cases hql:q<rk.length
      .obtain⟨g7,rfl,_,hgl7,c0,c1,c2',c3',c4'⟩:=az.item HA7.out (Jg hql);have hqi:(q:Int)<(rk.length:Int):=by omega
       have HMN:=Jf (dy (Vd.eP k knode) (Jg hql));obtain⟨a7,ha7⟩:∃a,rk[q]=a:=⟨_,rfl⟩;rw[ha7] at c0 c1 c2' c3' c4' HMN;clear ha7;obtain⟨xk,xn,xh,xs,xa⟩:=a7;simp only at c0 c1 c2' c3' c4';have HBA:=Jf (((Ji wy.heap.size wy).alloc (Jh _) (.cells #[.int .i64 (xk:Int),.int .i64 (xn:Int),xh,xs,.int .i64 (xa:Int)] 121)).drew);have HXB:=Jf (Blk.new wy 121 #[.int .i64 (xk:Int),.int .i64 (xn:Int),xh,xs,.int .i64 (xa:Int)]);have HXQ:=Jf (show x++[Vd.eP k knode ⟨xk,xn,xh,xs,xa⟩]=u++(rk.take (q+1)).map (Vd.eP k knode) by rw[HMN.out,HX.out,Ko]);have HLN:=Jf (show x.length+1<=maxLen/\(x.length+1)*48<=140737488355328 from by have:=HXL.out;have:=HUL.out;have:=HALJ.out;have:=HTLK.out;unfold maxLen;omega);have HKY:=Jf (HDB5.out.on ((Ji wy.heap.size wy).alloc (Jh _) (.cells #[.int .i64 (xk:Int),.int .i64 (xn:Int),xh,xs,.int .i64 (xa:Int)] 121)));clear HMN;go_upto_region 11 with(fail);generalize wy.alloc (.cells #[.int .i64 (xk:Int),.int .i64 (xn:Int),xh,xs,.int .i64 (xa:Int)] 121)=wa at*
       clear c0 c1 c2' c3' c4' hgl7;refine JT (S:=λW9=>Blk W9 wz.heap.size 109 #[kkey,.int .i64 (knode:Int)]) (by kernel_rfl) HKY.out (λht=>?_);have HXB8:=Jf (show Blk wa.drew wy.heap.size 121 #[.int .i64 (xk:Int),.int .i64 (xn:Int),xh,xs,.int .i64 (xa:Int)] from HXB.out);clear HXB HKY;generalize wa.drew=w8 at*
       refine af 0 (.int .i64 k) ht ?_ ?_
       .intro W9 hSw;go_simp
       try simp only[ab]
       refine af 1 (.pointer (some ⟨wz.heap.size,1,none⟩)) ht ?_ ?_
       .intro W9 hSw;go_simp
       try simp only[ab]
       refine af 2 (.int .i64 knode) ht ?_ ?_
       .intro W9 hSw;have y1:=(show Blk W9 wz.heap.size _ _ from hSw).cell 1;go_simp
       try simp only[ab]
       refine af 3 (.pointer (some ⟨wy.heap.size,0,none⟩)) ht ?_ ?_
       .intro W9 hSw;go_simp
       try simp only[ab]
       have x0:=HXB8.out.cell 0;have xf:=HXB8.out.frozen;have xl:=HXB8.out.lt;refine bz 4 λK hK=>?_;go_simp;refine jN (K:=K) (λW9=>Blk W9 wy.heap.size 121 #[.int .i64 (k:Int),.int .i64 (xn:Int),xh,xs,.int .i64 (xa:Int)]/\Below wy.heap.size wy W9) ⟨HXB8.out.set 0 _,HBA.out.setCell (p:=⟨wy.heap.size,0,none⟩) (Jh _) _⟩ ?_;rintro w9 ⟨hx9,hb9⟩;have HX9:=Jf hx9;have HB9:=Jf hb9;clear hx9 hb9 x0 xf xl HXB8 HBA ht;refine hK.out _ _ (HDB5.out.on HB9.out) (λht=>?_);clear hK K;try simp only[ab]
       refine af 5 (.pointer (some ⟨wy.heap.size,1,none⟩)) ht ?_ ?_
       .intro W9 hSw;go_simp
       try simp only[ab]
       have x0:=HX9.out.cell 1;have xf:=HX9.out.frozen;have xl:=HX9.out.lt;refine bz 6 λK hK=>?_;go_simp;refine jN (K:=K) (λW9=>Blk W9 wy.heap.size 121 #[.int .i64 (k:Int),.int .i64 (knode:Int),xh,xs,.int .i64 (xa:Int)]/\Below wy.heap.size wy W9) ⟨HX9.out.set 1 _,HB9.out.setCell (p:=⟨wy.heap.size,1,none⟩) (Jh _) _⟩ ?_;rintro wt ⟨hx9,hb9⟩;have HXT:=Jf hx9;have HBT:=Jf hb9;clear hx9 hb9 x0 xf xl HX9 HB9 ht;refine hK.out _ _ (HDB5.out.on HBT.out) (λht=>?_);clear hK K;try simp only[ab]
       refine Ke (by kernel_rfl) ?_ _;clear ht;have x0:=HXT.out.cell 0;have x1:=HXT.out.cell 1;have x2:=HXT.out.cell 2;have x3:=HXT.out.cell 3;have x4:=HXT.out.cell 4;have xl:=HXT.out.lt;have hb7:=(Ji wt.heap.size wt).alloc (Jh _) (.cells #[.int .i64 (k:Int),.int .i64 (knode:Int),xh,xs,.int .i64 (xa:Int)] 121);have HBT7:=Jf (HBT.out.trans (hb7.mono HBT.out.size));have HB7:=Jf (HB.out.trans (HBT7.out.mono HB.out.size));have HS7:=Jf ((HNU.out.on HBT.out).on hb7);have HNW:=Jf (Blk.new wt 121 #[.int .i64 (k:Int),.int .i64 (knode:Int),xh,xs,.int .i64 (xa:Int)]);have HSR1:=Jf (show Src (wt.alloc (.cells #[.int .i64 (k:Int),.int .i64 (knode:Int),xh,xs,.int .i64 (xa:Int)] 121)) (some ⟨wt.heap.size,0,none⟩) 1 1 (eU [Vd.eP k knode ⟨xk,xn,xh,xs,xa⟩]) from .inr ⟨_,rfl,λj u hu=>JU HNW.out j u hu⟩);have HSZ:=Jf (show w0.heap.size<=(wt.alloc (.cells #[.int .i64 (k:Int),.int .i64 (knode:Int),xh,xs,.int .i64 (xa:Int)] 121)).heap.size from HB7.out.size);obtain⟨i0,hi0,hz0,hz1,hz2⟩:=vr;clear hb7;go_wp2_with (at_builtin;refine aP _ rfl _ _ _ rfl w0.heap.size 121 i0 _ 5 48 Tryz.underlying86 hi0 hz0 hz1 hz2 rfl (by decide) (.slice A7 x.length c7) x.length (eU x) rfl HS7.out (some ⟨wt.heap.size,0,none⟩) 1 1 (eU [Vd.eP k knode ⟨xk,xn,xh,xs,xa⟩]) rfl rfl HSR1.out (tE _) HLN.out.1 HLN.out.2 HSZ.out (x.length+1) rfl ?_;intro A8 c8 x8 hown hgr hat;have HOWN:=Jf hown;have HGR:=Jf hgr;have HAT:=Jf hat;clear hown hgr hat);have HB8:=Jf (show Below w0.heap.size w0 x8 from HB7.out.grown HGR.out HSZ.out (λq hq=>(HS7.out.lt q hq).1));have HST:=Jf (ss HBT5.out HRO5.out HBT7.out HGR.out HAT.out);have HS8:=Jf (show az x8 w0.heap.size A8 c8 (x++[Vd.eP k knode ⟨xk,xn,xh,xs,xa⟩]) by
        unfold az;rw[nW,Jk,Jy];exact HOWN.out)
       go_roundw;case rel=>exact⟨q+1,A8,c8,_,by rw[Jk];rfl,by go_num,by omega,HXQ.out,by rw[Jk,Jy];have:=HXL.out;omega,HB8.out,HST.out.1,HST.out.2,HS8.out⟩
       case measure=>simp[intOf];omega
      .obtain rfl:q=rk.length:=by omega
       have HEX:=Jf (show x=u++rk.map (Vd.eP k knode) by rw[HX.out,JC]);have HFIN:=Jf (show But (Bk A3) wk wy/\aW A3 A7 wk from⟨(HBT2.out.trans (Y:=λ_=>False) (But.of HBW4.out) (λ_ _ h=>h.elim)).trans HBT5.out (λb hb h=>by
        rcases HRO.out b h with k|k
        .exact k
        .omega),λb h=>by
        rcases HRO5.out b h with k|k
        .exact HRO.out b k
        .exact .inr (JA HBT2.out.size (JA HBW4.out.size k))⟩)
       go_wp2_with fail;go_roundw;case rel=>exact⟨j+1,A7,c7,x,rfl,by go_num,by omega,by rw[HFN.out,<-List.append_assoc,<-HU.out,HEX.out],by have:=HXL.out;have:=HUL.out;have:=HALJ.out;omega,HB.out,(HFIN.out).1,(HFIN.out).2,HNU.out⟩
       case measure=>simp[intOf];omega
    .obtain rfl:j=kids.length:=by omega
     have HEU:=Jf (show u=TT (k+1) by rw[HTN1.out,HU.out,HT.out,JC]);go_wp2_with fail;go_roundw;case rel=>exact⟨k+1,A5,c5,u,rfl,by go_num,by omega,HEU.out,HB.out,HNU.out⟩
     case measure=>simp[intOf];omega
  .obtain rfl:k=keys.length:=by omega
   have HF:=Jf (show t=R by rw[HT.out,HEND.out]);go_wp2_with fail;go_ret;exact⟨A3,c3,by rw[HF.out];rfl,by rw[<-HF.out];exact HNU.out.less HB0.out.size,HB0.out.trans (HB.out.mono HB0.out.size)⟩
end
