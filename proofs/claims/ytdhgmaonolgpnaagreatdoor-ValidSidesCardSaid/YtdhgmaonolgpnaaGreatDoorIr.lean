import Derived.Test.YtdhgmaonolgpnaaGreatDoorIq
set_option linter.unusedSimpArgs false
set_option linter.unusedVariables false
set_option maxHeartbeats 16000000
set_option maxRecDepth 100000
namespace Go.Proofs.YtdhgmaonolgpnaaGreatDoor
section
open Go.RowKit Go.Maps Js Pt
theorem But.cell{X:Nat->Prop}{w w':World}(h:But X w w'){p:Addr}{u:Value}(hp:w.cell? p=some u)(hx:¬X p.block):w'.cell? p=some u:=by
 have hl:=Jn _ _ hp;have hb:=h.block p.block hl hx;unfold World.cell? at hp ⊢;rw[hb];exact hp
theorem bH{X:Nat->Prop}{w w':World}(h:But X w w'){B:Nat}{e:TypeId}{size n c:Nat}{A:Option Addr}{xs:List Value}(hr:w.ownsRow B e size (.slice A n c) n xs)(hx:∀b,Bk A b->¬X b):w'.ownsRow B e size (.slice A n c) n xs:=by
 obtain⟨q1,q2⟩:=hr;refine⟨q1,q2.imp id ?_⟩;rintro⟨g,cap,cur,r1,r2,r3,r4⟩;injection r1 with e1 e2 e3;subst e1 e3;have hlt:g<w.heap.size:=by
  rcases KW g w.heap.size with k|k
  .exact k
  .rw[Ll k] at r3;cases r3
 exact⟨g,c,cur,rfl,r2,(h.block g hlt (hx g ⟨_,rfl,rfl⟩)).trans r3,r4⟩
theorem iy{w:World}{B B':Nat}{e e':TypeId}{s s' n n' c c':Nat}{A A':Option Addr}{xs xs':List Value}(h:w.ownsRow B e s (.slice A n c) n xs)(h':w.ownsRow B' e' s' (.slice A' n' c') n' xs')(he:¬e=e'){b:Nat}(h1:Bk A b)(h2:Bk A' b):False:=by
 obtain⟨ad,rfl,rfl⟩:=h1;obtain⟨ad',rfl,h3⟩:=h2;obtain⟨_,⟨e0,_⟩|⟨g,cap,cur,e0,_,hc,_⟩⟩:=h
 .injection e0 with e0;cases e0
 obtain⟨_,⟨e1,_⟩|⟨g',cap',cur',e1,_,hc',_⟩⟩:=h'
 .injection e1 with e1;cases e1
 injection e0 with e0;injection e0 with e0;injection e1 with e1;injection e1 with e1;subst e0 e1;have h3:g=g':=h3;subst h3;rw[hc] at hc';injection hc' with hc';injection hc' with _ hc';exact he hc'
structure wJ (L:List Cm.Node):Prop where
 ends:Vd.Ends L
 few:L.length<=200
 keys:∀N∈L,N.keys.length<=2000
 kids:∀N∈L,∀K∈N.keys,K.kids.length<=200
 wide:∀N∈L,∀K∈N.keys,iZ K.v
 bare:∀N∈L,N.all=true->N.keys=[]
 one:∀N∈L,Vd.uJ N
 names:∀N∈L,∀K∈N.keys,K.name.length<=1000000
 paths:∀N∈L,(text N.at_).length<=10000000000000
theorem wJ.node{L:List Cm.Node}(h:wJ L){i:Nat}{N:Cm.Node}(hN:L[i]? =some N){v:Vl}{x:Vd.Ask}(hx:x∈Vd.asks N v):x.node<L.length:=by
 obtain⟨k,K,kid,hK,hkid,_,e,_⟩:=Vd.fO hx;rw[e];exact h.ends.1 N (Jz hN) K (Jz hK) kid hkid
structure QAt (L:List Cm.Node) (v:Vl) (w0 w:World) (gq bm:Nat) (A:Option Addr) (c:Nat) (Q:List Nat) (m:Nat->Option Value):Prop where
 below:Below w0.heap.size w0 w
 hq:w0.heap.size<=gq
 hb:w0.heap.size<=bm
 blk:Blk w gq 81 #[.slice A Q.length c,.map (some bm)]
 nums:Ints w w0.heap.size A c Q
 map:cX w bm m
 asks:∀i x,m i=some x->∃N A' c',L[i]? =some N/\x=.slice A' (Vd.asks N v).length c'/\az w w0.heap.size A' c' (Vd.asks N v)
 ok:∀(k i:Nat),Q[k]? =some i->∃N,L[i]? =some N/\∀x∈Vd.asks N v,x.here=true->∃k',k'<k/\Q[k']? =some x.node
 nodup:Q.Nodup
 met:∀i∈Q,(m i).isSome=true
def XQ(gq bm:Nat)(A:Option Addr)(b:Nat):Prop:=b=gq\/b=bm\/Bk A b
section
variable {L:List Cm.Node} {v:Vl} {w0 w w':World} {gq bm:Nat} {A:Option Addr} {c:Nat} {Q:List Nat} {m:Nat->Option Value}
theorem QAt.on(h:QAt L v w0 w gq bm A c Q m)(hb:Below w.heap.size w w'):QAt L v w0 w' gq bm A c Q m:=
 ⟨h.below.trans (hb.mono h.below.size),h.hq,h.hb,h.blk.on hb,h.nums.on hb,h.map.on hb,λi x hx=>by
  obtain⟨N,A',c',h1,h2,h3⟩:=h.asks i x hx
  exact⟨N,A',c',h1,h2,h3.on hb⟩,h.ok,h.nodup,h.met⟩
theorem QAt.ne(h:QAt L v w0 w gq bm A c Q m):¬bm=gq:=h.map.off h.blk
theorem QAt.IG(h:QAt L v w0 w gq bm A c Q m):¬Bk A gq/\¬Bk A bm:=⟨ay h.blk h.nums (by decide),h.map.ox h.nums⟩
theorem QAt.xq(h:QAt L v w0 w gq bm A c Q m){b:Nat}(hx:XQ gq bm A b):w0.heap.size<=b:=by
 rcases hx with rfl|rfl|⟨ad,e,rfl⟩
 .exact h.hq
 .exact h.hb
 .obtain⟨g,rfl,h1,_⟩:=(ai h.nums).2.2.2 ad e;exact h1
theorem QAt.row(h:QAt L v w0 w gq bm A c Q m)(hb:But (XQ gq bm A) w w'){B c':Nat}{A':Option Addr}{l:List Vd.Ask}(hr:az w B A' c' l):az w' B A' c' l:=
 bH hb hr λb hk hx=>by
  rcases hx with rfl|rfl|hx
  .exact ay h.blk hr (by decide) hk
  .exact h.map.ox hr hk
  .exact iy hr h.nums (by decide) hk hx
theorem QAt.box(h:QAt L v w0 w gq bm A c Q m)(hb:But (XQ gq bm A) w w'){g:Nat}{cs:Array Value}{t:TypeId}(hg:Blk w g t cs)(h1:¬t=81)(h2:¬t=3):Blk w' g t cs:=
 hb.blk hg λhx=>by
  rcases hx with rfl|rfl|hx
  .have h3:=h.blk;unfold Blk at hg h3;rw[hg] at h3;injection h3 with h3;injection h3 with _ h3;exact h1 h3
  .exact h.map.off hg rfl
  .exact ay hg h.nums h2 hx
theorem QAt.put(h:QAt L v w0 w gq bm A c Q m){i:Nat}{N:Cm.Node}(hN:L[i]? =some N)(hi:m i=none){A':Option Addr}{c':Nat}(ha:az w w0.heap.size A' c' (Vd.asks N v)){wp:World}(hp:cX wp bm (λj=>if j=i then some (.slice A' (Vd.asks N v).length c') else m j))(hg:w.grownBy wp (some bm)):
  QAt L v w0 wp gq bm A c Q (λj=>if j=i then some (.slice A' (Vd.asks N v).length c') else m j)/\But (XQ gq bm A) w wp:=by
 have hbt:But (λb=>b=bm) w wp:=(But.refl _ _).grown hg (λq hq=>by injection hq with hq;exact .inr hq.symm);have hbx:But (XQ gq bm A) w wp:=hbt.sub (λb _ e=>.inr (.inl e));refine⟨⟨h.below.trans (hbt.below h.below.size (λb hb e=>by have:=h.hb;omega)),h.hq,h.hb,hbt.blk h.blk (λe=>h.ne e.symm),bH hbt h.nums (λb hk e=>by subst e;exact h.IG.2 hk),hp,λj x hx=>?_,h.ok,h.nodup,λj hj=>?_⟩,hbx⟩
 .by_cases e:j=i
  .simp only[Jo e] at hx;injection hx with hx;subst e hx;exact⟨N,A',c',hN,rfl,h.row hbx ha⟩
  .simp only[Jj e] at hx;obtain⟨N',A2,c2,h1,h2,h3⟩:=h.asks j x hx;exact⟨N',A2,c2,h1,h2,h.row hbx h3⟩
 .by_cases e:j=i
  .simp[e]
  .simp only[Jj e];exact h.met j hj
theorem QAt.push(h:QAt L v w0 w gq bm A c Q m){i:Nat}{N:Cm.Node}(hN:L[i]? =some N)(hi:¬i∈Q)(him:(m i).isSome=true)(hq:∀x∈Vd.asks N v,x.here=true->x.node∈Q){w1 x8:World}{A8:Option Addr}{c8:Nat}(h1:Below w.heap.size w w1)(hown:x8.ownsRow w0.heap.size 3 1 (.slice A8 (Q.length+1) c8) (Q.length+1) (cT Q++cT [i]))(hgr:w1.grownBy x8 (Value.slice A Q.length c).ownBlock)(hat:(Value.slice A8 (Q.length+1) c8).ownBlock=(Value.slice A Q.length c).ownBlock\/(Value.slice A8 (Q.length+1) c8).ownBlock=some w1.heap.size):
  Blk x8 gq 81 #[.slice A Q.length c,.map (some bm)]/\QAt L v w0 (x8.setCell ⟨gq,0,none⟩ (.slice A8 (Q.length+1) c8)) gq bm A8 c8 (Q++[i]) m/\But (XQ gq bm A) w (x8.setCell ⟨gq,0,none⟩ (.slice A8 (Q.length+1) c8))/\aW A A8 w:=by
 obtain⟨hb8,hr8⟩:=ss (But.refl (Bk A) w) (aW.refl A w) h1 hgr hat;have hbx:But (XQ gq bm A) w x8:=hb8.sub (λb _ e=>.inr (.inr e));have hk8:Blk x8 gq 81 #[.slice A Q.length c,.map (some bm)]:=hb8.blk h.blk h.IG.1;have hoff:¬Bk A8 gq:=ay hk8 hown (by decide);have hset:But (λb=>b=gq) x8 (x8.setCell ⟨gq,0,none⟩ (.slice A8 (Q.length+1) c8)):=(But.refl (λb=>b=gq) x8).set (p:=⟨gq,0,none⟩) (.inr rfl) _;have hall:But (XQ gq bm A) w (x8.setCell ⟨gq,0,none⟩ (.slice A8 (Q.length+1) c8)):=hbx.trans hset (λb _ e=>.inl e);refine⟨hk8,⟨h.below.trans (hall.below h.below.size (λb hb hx=>by have:=h.xq hx;omega)),h.hq,h.hb,?_,?_,?_,λj x hx=>?_,?_,?_,λj hj=>?_⟩,hall,hr8⟩
 .rw[Jk,Jy];exact hk8.set 0 _
 .unfold Ints;rw[Jk,Jy,show cT (Q++[i])=cT Q++cT [i] by simp[cT]];exact bH hset hown (λb hk e=>by subst e;exact hoff hk)
 .exact h.map.far ((hset.block bm (JN h.map.lt hbx.size) h.ne).trans (hb8.block bm h.map.lt h.IG.2))
 .obtain⟨N',A2,c2,q1,q2,q3⟩:=h.asks j x hx;exact⟨N',A2,c2,q1,q2,h.row hall q3⟩
 .intro k j hk;by_cases hlt:k<Q.length
  .rw[JD hlt] at hk;obtain⟨N',q1,q2⟩:=h.ok k j hk;refine⟨N',q1,λx hx hh=>?_⟩;obtain⟨k',q3,q4⟩:=q2 x hx hh;exact⟨k',q3,by rw[JD (by omega)];exact q4⟩
  .have hk2:=(Jm.1 hk).1;rw[Jk,Jy] at hk2;have hk3:k=Q.length:=by omega
   subst hk3;rw[Jx (Jh _),O8] at hk;obtain rfl:i=j:=by simpa using hk
   refine⟨N,hN,λx hx hh=>?_⟩;obtain⟨k',hk'⟩:=JP (hq x hx hh);have:=(Jm.1 hk').1;exact⟨k',this,by rw[JD this];exact hk'⟩
 .rw[Ng];refine⟨h.nodup,by simp,λa ha b hb e=>?_⟩;rw[Jt] at hb;subst hb e;exact hi ha
 .rcases Jq.1 hj with hj|hj
  .exact h.met j hj
  .rw[Jt.1 hj];exact him
end
def AddP(L:List Cm.Node)(v:Vl)(w0 w:World)(gq bm:Nat)(A:Option Addr)(Q:List Nat)(m:Nat->Option Value)(i:Nat)(w':World):Prop:=
 ∃(A':Option Addr) (c':Nat) (Q2:List Nat) (m':Nat->Option Value),QAt L v w0 w' gq bm A' c' (Q++Q2) m'/\But (XQ gq bm A) w w'/\aW A A' w/\(∀j x,m j=some x->m' j=some x)/\(∀j,(m' j).isSome=true->(m j).isSome=true\/j∈Q2)/\(∀j∈Q2,m j=none)/\i∈Q++Q2
theorem Gb{w:World}{A:Option Addr}{L:List Cm.Node}(h:SlN w.cell? A L){i:Nat}{N:Cm.Node}(hi:L[i]? =some N):∃g o AN cN,A=some ⟨g,o,none⟩/\gS w.cell? AN N.keys/\N.keys.length<=cN/\cN<=maxLen/\w.cell? ⟨g,o+i*4,none⟩=some (.string ⟨(text N.at_).toArray⟩)/\w.cell? ⟨g,o+i*4+1,none⟩=some (.bool N.all)/\w.cell? ⟨g,o+i*4+2,none⟩=some (.bool N.pass)/\w.cell? ⟨g,o+i*4+3,none⟩=some (.slice AN N.keys.length cN):=by
 obtain⟨g,o,cs,rfl,⟨AN,cN,rfl,h1,h2,h3⟩,hc⟩:=h i N hi;exact⟨g,o,AN,cN,rfl,h1,h2,h3,hc 0 _ rfl,hc 1 _ rfl,hc 2 _ rfl,hc 3 _ rfl⟩
theorem BB(L:List Cm.Node)(hL:wJ L)(AL:Option Addr)(cL:Nat)(v:Vl)(xv:Value)(w0:World)(hT:Tab w0)(hS:SlN w0.cell? AL L)(hl:L.length<=cL)(hm:cL<=maxLen)(hv:v.may=true)(hsz:v.size<=5000)(hx:v.In w0.cell? xv):∀(n i:Nat),Vd.ys L i<n->i<L.length->∀(w:World) (gq bm:Nat) (A:Option Addr) (c:Nat) (Q:List Nat) (m:Nat->Option Value),QAt L v w0 w gq bm A c Q m->(∀j,(m j).isSome=true->j∈Q\/Cm.cy L j i)->
  Calls Tryz.prog 28 #[.pointer (some ⟨gq,0,none⟩),.slice AL L.length cL,.int .i64 (i:Int),xv] w λe w'=>e=.returned (.tuple #[])/\AddP L v w0 w gq bm A Q m i w'
 |0,i,h,_=>absurd h (Kt _)
 |n+1,i,hrk,hil=>by
  intro w gq bm A c Q m hQ hwt;have HIH:=Jf (BB L hL AL cL v xv w0 hT hS hl hm hv hsz hx n);obtain⟨N,hN⟩:∃N,L[i]? =some N:=⟨_,Jg hil⟩;obtain⟨gL,oL,AN,cN,rfl,hkN,hlN,hmN,cn0,cn1,cn2,cn3⟩:=Gb hS hN;have hNm:=Jz hN;have HL:=Jf hL;have HN:=Jf hN;have HRK:=Jf hrk;have HWT:=Jf hwt;obtain⟨k_1,k_2,k_3,k_4,k_5,k_6,k_7,k_8,k_9,k_a,k_b,k_c,rfl⟩:=In.cells hx;have hb1:=(Ji w.heap.size w).alloc (Jh _) (.cells #[.int .i64 k_1,k_2,k_3,k_4,.int .i64 k_5,k_6,.slice k_7 k_8 k_9,.slice k_a k_b k_c] 31);have HQ1:=Jf (hQ.on hb1);have HY:=Jf (Blk.new w 31 #[.int .i64 k_1,k_2,k_3,k_4,.int .i64 k_5,k_6,.slice k_7 k_8 k_9,.slice k_a k_b k_c]);have HQ:=Jf hQ;have HB1:=Jf hb1;have HCN:=Jf (λ(W:World) (hb:Below w0.heap.size w0 W)=>And.intro (aa hb _ _ cn0) (And.intro (aa hb _ _ cn1) (And.intro (aa hb _ _ cn2) (And.intro (aa hb _ _ cn3) (Jn _ _ (aa hb _ _ cn0))))));have HAS:=Jf (λ(W:World) (hb:Below w0.heap.size w0 W)=>(show Calls Tryz.prog 57 #[.agg #[.string ⟨(text N.at_).toArray⟩,.bool N.all,.bool N.pass,.slice AN N.keys.length cN],.agg #[.int .i64 k_1,.bool k_2,.bool k_3,.string ⟨k_4.toArray⟩,.int .i64 k_5,.string ⟨k_6.toArray⟩,.slice k_7 k_8 k_9,.slice k_a k_b k_c]] W (zi (Vd.asks N v) W) from EL N.at_ (text N.at_) N.all N.pass N.keys AN cN v _ W (hT.keep hb) (hkN.keep (aa hb)) hlN hmN (JA (hL.keys N hNm) (by decide)) (hL.kids N hNm) hv hsz (In.keep (aa hb) _ _ hx)));have HEN:=Jf hL.ends;have hil2:(i:Int)<(L.length:Int):=by omega
  have HFEW:=Jf hL.few;unfold maxLen at hm;clear hQ hwt hb1 hkN cn0 cn1 cn2 cn3 hrk;go_enter Tryz.func28,Tryz.ntmps28;go_upto_region 1 with(fail);generalize w.alloc (.cells #[.int .i64 k_1,k_2,k_3,k_4,.int .i64 k_5,k_6,.slice k_7 k_8 k_9,.slice k_a k_b k_c] 31)=wa at*
  have q0:=HQ1.out.blk.cell 0;have q1:=HQ1.out.blk.cell 1;have ql:=HQ1.out.blk.lt;have hz:∀W,(zeroValue 86).run Tryz.prog W=.ok (.slice none 0 0) W:=λW=>by kernel_rfl
  have hlk:=HQ1.out.map.look (T:=79) Tryz.underlying79 (hz _) (i:=i) (by have:=HFEW.out;omega) true;simp only[KJ] at hlk;cases hmi:m i with
  |some x=>
   rw[hmi] at hlk;have HMI:=Jf hmi;clear hmi;go_wp2_with fail;refine Ju (LS rfl _ _ _) rfl ?_;refine⟨rfl,A,c,[],m,by rw[JK];exact HQ1.out,But.of HB1.out,aW.refl _ _,λ_ _ h=>h,λ_ h=>.inl h,(λ_ h=>by cases h),?_⟩;rw[JK];exact(HWT.out i (by rw[HMI.out];rfl)).resolve_right (λh=>HEN.out.2 i h)
  |none=>
   rw[hmi] at hlk;have HMI:=Jf hmi;clear hmi;have HRQ:=Jf (λ(W9:World) (h:But (λb=>b=bm) wa W9)=>And.intro (h.cell (HQ1.out.blk.cell 1) (λe=>HQ1.out.ne e.symm)) (Jn _ _ (h.cell (HQ1.out.blk.cell 1) (λe=>HQ1.out.ne e.symm))));have HRN:=Jf (λ(W9:World) (h:But (λb=>b=bm) wa W9)=>HCN.out W9 (HQ1.out.below.trans (h.below HQ1.out.below.size (λb hb e=>by have:=HQ1.out.hb;omega))));have HRY:=Jf (λ(W9:World) (h:But (λb=>b=bm) wa W9)=>h.blk HY.out (λe=>HQ1.out.map.off HY.out e.symm));go_upto_region 3 with(fail);clear q0 q1 ql hlk;refine JT (S:=λW9=>But (λb=>b=bm) wa W9) (by kernel_rfl) (But.of (Ji _ _).drew) (λht=>?_);refine af 0 (.pointer (some ⟨gq,0,none⟩)) ht ?_ ?_
   .intro W9 hSw;go_simp
   try simp only[ab]
   refine af 1 (.pointer (some ⟨gq,0,none⟩)) ht ?_ ?_
   .intro W9 hSw;go_simp
   try simp only[ab]
   refine af 2 (.pointer (some ⟨gq,1,none⟩)) ht ?_ ?_
   .intro W9 hSw;go_simp
   try simp only[ab]
   refine af 3 (.map (some bm)) ht ?_ ?_
   .intro W9 hSw;obtain⟨y1,yl⟩:=HRQ.out W9 hSw;go_simp
   try simp only[ab]
   refine af 4 (.int .i64 i) ht ?_ ?_
   .intro W9 hSw;go_simp
   try simp only[ab]
   refine af 5 (.slice (some ⟨gL,oL,none⟩) L.length cL) ht ?_ ?_
   .intro W9 hSw;go_simp
   try simp only[ab]
   refine af 6 (.int .i64 i) ht ?_ ?_
   .intro W9 hSw;go_simp
   try simp only[ab]
   refine af 7 (.pointer (some ⟨gL,oL+i*4,none⟩)) ht ?_ ?_
   .intro W9 hSw;go_simp
   try simp only[ab]
   refine af 8 (.agg #[.string ⟨(text N.at_).toArray⟩,N.all,N.pass,.slice AN N.keys.length cN]) ht ?_ ?_
   .intro W9 hSw;obtain⟨y0,y1,y2,y3,yl⟩:=HRN.out W9 hSw;go_simp
   try simp only[ab]
   refine af 9 (.agg #[.int .i64 k_1,k_2,k_3,k_4,.int .i64 k_5,k_6,.slice k_7 k_8 k_9,.slice k_a k_b k_c]) ht ?_ ?_
   .intro W9 hSw;obtain⟨y0,y1,y2,y3,y4,y5,y6,y7⟩:=(HRY.out W9 hSw).eight;have yl:=(HRY.out W9 hSw).lt;go_simp
   try simp only[ab]
   refine bz 10 λK hK=>?_;go_simp;refine(HAS.out _ (HQ1.out.below.trans ((Ji wa.heap.size wa).drew.mono HQ1.out.below.size))).mono ?_;rintro e6 w6 ⟨A6,c6,rfl,h6,hb6⟩;have hb26:=(Ji wa.heap.size wa).drew.trans (show Below wa.heap.size wa.drew w6 from hb6);have HQ6:=Jf (HQ1.out.on hb26);have HY6:=Jf (HY.out.on hb26);have H6:=Jf (show az w6 w0.heap.size A6 c6 (Vd.asks N v) from az.less h6 HQ1.out.below.size);have HBW:=Jf (HB1.out.trans (hb26.mono HB1.out.size));have hs6:But (λb=>b=bm) wa w6:=But.of hb26;clear hb6 h6 ht;go_wp2_with fail;refine hK.out _ _ hs6 (λht=>?_);clear hK K;try simp only[ab]
   obtain⟨wp,hput,him,hgr⟩:=HQ6.out.map.put (T:=79) Tryz.underlying79 (i:=i) (by have:=HFEW.out;omega) (.slice A6 (Vd.asks N v).length c6);have hqp:=HQ6.out.put HN.out HMI.out H6.out him hgr;have hsp:But (λb=>b=bm) wa wp:=hs6.grown hgr (λq hq=>by injection hq with hq;exact .inr hq.symm);refine bz 11 λK hK=>?_;go_simp;refine hK.out _ _ hsp (λht=>?_);clear hK K ht;try simp only[ab]
   refine Ke (by kernel_rfl) ?_ _;have HYP:=Jf (HQ6.out.box hqp.2 HY6.out (by decide) (by decide));have HBP:=Jf (show But (XQ gq bm A) w wp from(But.of HBW.out).trans hqp.2 (λ_ _ h=>h));obtain⟨mi,hmi⟩:∃f,(λj=>if j=i then some (.slice A6 (Vd.asks N v).length c6) else m j)=f:=⟨_,rfl⟩;have HQP:=Jf (show QAt L v w0 wp gq bm A c Q mi by rw[<-hmi];exact hqp.1);have HM1:=Jf (show mi i=some (.slice A6 (Vd.asks N v).length c6) by rw[<-hmi];simp);have HM2:=Jf (show∀j x,m j=some x->mi j=some x fromλj x hj=>by
    rw[<-hmi];by_cases e:j=i
    .subst e;rw[HMI.out] at hj;cases hj
    .simp only[Jj e];exact hj)
   have HM3:=Jf (show∀j,(mi j).isSome=true->j=i\/(m j).isSome=true fromλj hj=>by
    rw[<-hmi] at hj;by_cases e:j=i
    .exact .inl e
    .simp only[Jj e] at hj;exact .inr hj)
   clear hput him hgr hqp hsp hs6 hb26 hmi;have q0:=HQP.out.blk.cell 0;have q1:=HQP.out.blk.cell 1;have ql:=HQP.out.blk.lt;have hlk:=HQP.out.map.look (T:=79) Tryz.underlying79 (hz _) (i:=i) (by have:=HFEW.out;omega) false;rw[HM1.out] at hlk;simp only[Ki,Kq,Nu] at hlk;have hl6:=(ai H6.out).1;have hm6:=(ai H6.out).2.1;unfold maxLen at hm6;go_wp2_with fail
   go_loopw [40] (λv40 wr=>∃(j:Nat) (A3:Option Addr) (c3:Nat) (Q3:List Nat) (m3:Nat->Option Value),v40=.int .i64 j/\j<=(Vd.asks N v).length/\QAt L v w0 wr gq bm A3 c3 (Q++Q3) m3/\But (XQ gq bm A) w wr/\aW A A3 w/\(∀q x,mi q=some x->m3 q=some x)/\(∀q,(m3 q).isSome=true->(mi q).isSome=true\/q∈Q3)/\(∀q∈Q3,mi q=none)/\(∀x∈(Vd.asks N v).take j,x.here=true->x.node∈Q++Q3)/\Blk wr w.heap.size 31 #[.int .i64 k_1,k_2,k_3,k_4,.int .i64 k_5,k_6,.slice k_7 k_8 k_9,.slice k_a k_b k_c]) (λv40 _=>(Vd.asks N v).length-(intOf v40).toNat)
   case atStart=>exact⟨0,A,c,[],mi,rfl,JE _,by rw[JK];exact HQP.out,HBP.out,aW.refl _ _,λ_ _ h=>h,λ_ h=>.inl h,(λ_ h=>by cases h),(λx h=>by simp at h),HYP.out⟩
   case round=>
    obtain⟨j,A3,c3,Q3,m3,rfl,hj,hq3,hbt,hro,hma,hmb,hmc,hall,hbv⟩:=hrel;have HQ3:=Jf hq3;have HBT:=Jf hbt;have HRO:=Jf hro;have HMA:=Jf hma;have HMB:=Jf hmb;have HMC:=Jf hmc;have HALL:=Jf hall;have HBV:=Jf hbv;have HA6:=Jf (show az wr w0.heap.size A6 c6 (Vd.asks N v) by
     obtain⟨N',A',c',e1,e2,e3⟩:=hq3.asks i _ (hma i _ HM1.out);rw[HN.out] at e1;injection e1 with e1;subst e1;injection e2 with e2 e4 e5;subst e2 e5;exact e3)
    have HWS:=Jf (show w.heap.size<=wr.heap.size from hbt.size);clear hq3 hbt hro hma hmb hmc hall hbv q0 q1 ql hlk;by_cases hlt:j<(Vd.asks N v).length
    .obtain⟨g7,hg7,_,hgl7,c0,c1,c2',c3',c4'⟩:=az.item HA6.out (Jg hlt);have hji:(j:Int)<((Vd.asks N v).length:Int):=by omega
     obtain⟨a7,ha7⟩:∃a,(Vd.asks N v)[j]=a:=⟨_,rfl⟩;have HX7:=Jf (show(Vd.asks N v)[j]? =some a7 by rw[Jg hlt,ha7]);rw[ha7] at c0 c1 c2' c3' c4';clear ha7;obtain⟨xk,xn,xh,xs,xa⟩:=a7;simp only at c0 c1 c2' c3' c4';have hb1:=(Ji wr.heap.size wr).alloc (Jh _) (.cells #[.int .i64 (xk:Int),.int .i64 (xn:Int),xh,xs,.int .i64 (xa:Int)] 121);have HXB:=Jf (Blk.new wr 121 #[.int .i64 (xk:Int),.int .i64 (xn:Int),xh,xs,.int .i64 (xa:Int)]);have HQK:=Jf (HQ3.out.on hb1);have HBVK:=Jf (HBV.out.on hb1);have HBK:=Jf hb1;have HTK:=Jf (show∀x∈(Vd.asks N v).take (j+1),x∈(Vd.asks N v).take j\/x=⟨xk,xn,xh,xs,xa⟩ fromλx hx=>by
      have:=dy (λx:Vd.Ask=>x) HX7.out;rw[LC,LC] at this;rw[this] at hx;rcases Jq.1 hx with h|h
      .exact .inl h
      .exact .inr (Jt.1 h))
     subst hg7;clear hb1;go_upto_region 7 with(fail);generalize wr.alloc (.cells #[.int .i64 (xk:Int),.int .i64 (xn:Int),xh,xs,.int .i64 (xa:Int)] 121)=wk at*
     clear c0 c1 c2' c3' c4' hgl7;have x0:=HXB.out.cell 1;have x2:=HXB.out.cell 2;have xl:=HXB.out.lt;cases xh with
     |false=>
      go_wp2_with fail;go_roundw;case rel=>exact⟨j+1,A3,c3,Q3,m3,by go_num,by omega,HQK.out,HBT.out.trans (Y:=λ_=>False) (But.of HBK.out) (λ_ _ h=>h.elim),HRO.out,HMA.out,HMB.out,HMC.out,(λx hx hh=>by
       rcases HTK.out x hx with h|rfl
       .exact HALL.out x h hh
       .cases hh),HBVK.out⟩
      case measure=>simp[intOf];omega
     |true=>
      have hst:Cm.Step L i xn:=Vd.wP HN.out (Jz HX7.out) rfl;have HCALL:=Jf (HIH.out xn (by have:=Vd.uh HEN.out hst;have:=HRK.out;omega) (HEN.out.1.next hst) wk gq bm A3 c3 (Q++Q3) m3 HQK.out (λq hq=>by
       rcases HMB.out q hq with h|h
       .rcases HM3.out q h with rfl|h
        .exact .inr (.one hst)
        .rcases HWT.out q h with h|h
         .exact .inl (Jq.2 (.inl h))
         .exact .inr (.more h hst)
       .exact .inl (Jq.2 (.inr h))))
      obtain⟨y0,y1,y2,y3,y4,y5,y6,y7⟩:=HBVK.out.eight;have yl:=HBVK.out.lt;clear hst;go_wp2_with fail;refine HCALL.out.mono ?_;rintro e5 w5 ⟨rfl,A5,c5,Q5,m5,hq5,hbt5,hro5,hm5a,hm5b,hm5c,hm5d⟩;have HQ5:=Jf hq5;have HBT5:=Jf hbt5;have HRO5:=Jf hro5;have H5A:=Jf hm5a;have H5B:=Jf hm5b;have H5C:=Jf hm5c;have H5D:=Jf hm5d;clear hq5 hbt5 hro5 hm5a hm5b hm5c hm5d HCALL y0 y1 y2 y3 y4 y5 y6 y7 yl x0 x2 xl;go_wp2_with fail;go_roundw;case rel=>exact⟨j+1,A5,c5,Q3++Q5,m5,by go_num,by omega,by rw[<-List.append_assoc];exact HQ5.out,(HBT.out.trans (Y:=λ_=>False) (But.of HBK.out) (λ_ _ h=>h.elim)).trans HBT5.out (λb hb hx=>by
       rcases hx with h|h|h
       .exact .inl h
       .exact .inr (.inl h)
       .rcases HRO.out b h with h|h
        .exact .inr (.inr h)
        .omega),(λb hb=>by
       rcases HRO5.out b hb with h|h
       .exact HRO.out b h
       .exact .inr (JA HWS.out (JA HBK.out.size h))),(λq x hx=>H5A.out q x (HMA.out q x hx)),(λq hq=>by
       rcases H5B.out q hq with h|h
       .rcases HMB.out q h with h|h
        .exact .inl h
        .exact .inr (Jq.2 (.inl h))
       .exact .inr (Jq.2 (.inr h))),(λq hq=>by
       rcases Jq.1 hq with h|h
       .exact HMC.out q h
       .cases hmq:mi q with
        |none=>rfl
        |some x=>have:=HMA.out q x hmq;rw[H5C.out q h] at this;cases this),(λx hx hh=>by
       rw[<-List.append_assoc];rcases HTK.out x hx with h|rfl
       .exact Jq.2 (.inl (HALL.out x h hh))
       .exact H5D.out),HQK.out.box HBT5.out HBVK.out (by decide) (by decide)⟩
      case measure=>simp[intOf];omega
    .obtain rfl:j=(Vd.asks N v).length:=by omega
     have hiq:¬i∈Q++Q3:=λh=>by
      rcases Jq.1 h with h|h
      .have:=HQ.out.met i h;rw[HMI.out] at this;cases this
      .have:=HMC.out i h;rw[HM1.out] at this;cases this
     have HPU:=Jf (λ(w1 x8:World) (A8:Option Addr) (c8:Nat) q1 q2 q3 q4=>HQ3.out.push HN.out hiq (by rw[HMA.out i _ HM1.out];rfl) (λx hx hh=>HALL.out x (by rw[JC];exact hx) hh) (w1:=w1) (x8:=x8) (A8:=A8) (c8:=c8) q1 q2 q3 q4);have q0:=HQ3.out.blk.cell 0;have q1:=HQ3.out.blk.cell 1;have ql:=HQ3.out.blk.lt;have hb7:=(Ji wr.heap.size wr).alloc (Jh _) (.cells #[.int .i64 (i:Int)] 3);have HB7:=Jf hb7;have HS7:=Jf (HQ3.out.nums.on hb7);have HNW:=Jf (Blk.new wr 3 #[.int .i64 (i:Int)]);have HSR1:=Jf (show Src (wr.alloc (.cells #[.int .i64 (i:Int)] 3)) (some ⟨wr.heap.size,0,none⟩) 1 1 (cT [i]) from .inr ⟨_,rfl,λj u hu=>JU HNW.out j u hu⟩);have HSZ:=Jf (show w0.heap.size<=(wr.alloc (.cells #[.int .i64 (i:Int)] 3)).heap.size from JA HQ3.out.below.size hb7.size);have HQL:=Jf (show(Q++Q3).length<=200 from by
      have h1:=Vd.nQ HQ3.out.nodup (b:=List.range L.length) (λx hx=>by
       obtain⟨k,hk⟩:=JP hx;obtain⟨N',h2,_⟩:=HQ3.out.ok k x hk;exact MW.2 (Jm.1 h2).1)
      rw[Mh] at h1;exact JA h1 HFEW.out)
     have HLN:=Jf (show(Q++Q3).length+1<=maxLen/\((Q++Q3).length+1)*8<=140737488355328 from by have:=HQL.out;unfold maxLen;omega);obtain⟨i0,hi0,hz0,hz1,hz2⟩:=oj;clear hb7 hiq;generalize hQQ:Q++Q3=QQ at*
     go_wp2_with (at_builtin;refine aP _ rfl _ _ _ rfl w0.heap.size 3 i0 _ 1 8 Tryz.underlying58 hi0 hz0 hz1 hz2 rfl (by decide) (.slice A3 QQ.length c3) QQ.length (cT QQ) rfl HS7.out (some ⟨wr.heap.size,0,none⟩) 1 1 (cT [i]) rfl rfl HSR1.out (rW (λ_=>rfl) _) HLN.out.1 HLN.out.2 HSZ.out (QQ.length+1) rfl ?_;intro A8 c8 x8 hown hgr hat;have HP8:=Jf (HPU.out _ _ _ _ HB7.out hown hgr hat);have k0:=HP8.out.1.cell 0;have kf:=HP8.out.1.frozen;have kl:=HP8.out.1.lt;clear hown hgr hat q0 q1 ql);refine O9 (LS rfl _ _ _) rfl ?_;refine⟨rfl,A8,c8,Q3++[i],m3,by rw[<-List.append_assoc,hQQ];exact HP8.out.2.1,HBT.out.trans HP8.out.2.2.1 (λb hb hx=>by
      rcases hx with h|h|h
      .exact .inl h
      .exact .inr (.inl h)
      .rcases HRO.out b h with h|h
       .exact .inr (.inr h)
       .omega),(λb hb=>by
      rcases HP8.out.2.2.2 b hb with h|h
      .exact HRO.out b h
      .exact .inr (JA HWS.out h)),(λq x hx=>HMA.out q x (HM2.out q x hx)),(λq hq=>by
      rcases HMB.out q hq with h|h
      .rcases HM3.out q h with rfl|h
       .exact .inr (by simp)
       .exact .inl h
      .exact .inr (Jq.2 (.inl h))),(λq hq=>by
      rcases Jq.1 hq with h|h
      .cases hmq:m q with
       |none=>rfl
       |some x=>have:=HM2.out q x hmq;rw[HMC.out q h] at this;cases this
      .rw[Jt.1 h];exact HMI.out),by simp⟩
end
