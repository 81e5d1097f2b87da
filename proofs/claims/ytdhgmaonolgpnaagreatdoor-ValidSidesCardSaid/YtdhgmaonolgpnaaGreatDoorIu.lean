import Derived.Test.YtdhgmaonolgpnaaGreatDoorIt
set_option linter.unusedSimpArgs false
set_option linter.unusedVariables false
set_option maxHeartbeats 16000000
set_option maxRecDepth 100000
namespace Go.Proofs.YtdhgmaonolgpnaaGreatDoor
section
open Go.RowKit Go.Maps Js Pt
def qg(v:Vl):Prop:=iZ v/\v.size<=5000/\v.bL 80000
theorem qg.part{v u:Vl}(h:qg v){j:Nat}(hj:(Vd.partsOf v)[j]? =some u):qg u/\u.size<v.size/\u.depth+1<=v.depth/\(Vd.dU v j).length<=80000:=by
 obtain⟨kd,b,nn,s,l,m⟩:=v;obtain⟨_,_,_,_,_,h4,h5,_,_,hl,hm,_⟩:=au h.1.1;have h1:=h.1.2.1;have h2:=h.1.2.2;have h3:=h.2.1;have h6:=h.2.2;simp only[Vl.size] at h1 h3;simp only[Vl.bL] at h2 h6;have hpo:(Vd.partsOf (.mk kd b nn s l m))[j]? =(l++m.map (·.2))[j]? :=rfl;rw[hpo] at hj;by_cases hk:kd=4
 .have hm0:m=[]:=h5 (by omega);subst hm0;rw[Lo,JK] at hj;have hu:=Jz hj;have hz:=lE hu;have hd:=zF hu;have hjl:=(Jm.1 hj).1;have hln:=cS l;refine⟨⟨⟨(ba l).1 hl u hu,by omega,(jL _ l).1 h2.2.2.1 u hu⟩,by omega,(jL _ l).1 h6.2.2.1 u hu⟩,by simp only[Vl.size];omega,by simp only[Vl.depth,hk];simp;omega,?_⟩;unfold Vd.dU;rw[Jo (show Sh.kindOf (.mk kd b nn s l [])=4 from hk)];have:=Ed.mS 5 j (by omega);omega
 .have hl0:l=[]:=h4 hk;subst hl0;rw[JW,JZ] at hj;obtain⟨p,hp,rfl⟩:=Kd.1 hj;have hu:=Jz hp;have hz:=er hu;have hd:=zG hu;have hk5:kd=5:=by
   by_cases e:kd=5
   .exact e
   .have:=h5 e;subst this;cases hu
  refine⟨⟨⟨((br m).1 hm p hu).2,by omega,((dE _ m).1 h2.2.2.2 p hu).2⟩,by omega,((dE _ m).1 h6.2.2.2 p hu).2⟩,by simp only[Vl.size];omega,by simp only[Vl.depth,hk5];simp;omega,?_⟩;unfold Vd.dU;rw[Jj (show¬Sh.kindOf (.mk kd b nn s [] m)=4 from hk)];have:(Vd.cq (.mk kd b nn s [] m))[j]? =m[j]? :=rfl;rw[this,hp];exact((dE _ m).1 h6.2.2.2 p hu).1
def iV(l:List Vl)(j:Nat):Nat:=((l.take j).map Vl.size).sum
theorem vX{l:List Vl}{j:Nat}{u:Vl}(h:l[j]? =some u):iV l (j+1)=iV l j+u.size:=by
 obtain⟨hl,rfl⟩:=Jm.1 h;unfold iV;rw[Jr hl,JX,List.sum_append];simp
theorem lF(v:Vl):iV (Vd.partsOf v) (Vd.partsOf v).length+1<=v.size:=by
 obtain⟨kd,b,nn,s,l,m⟩:=v;have h1:∀l:List Vl,(l.map Vl.size).sum<=aH l:=by
  intro l
  induction l with
  |nil=>simp[aH]
  |cons v r ih=>simp only[Kh,N9,aH];omega
 have h2:∀m:List Js.Mem,((m.map (·.2)).map Vl.size).sum<=aE m:=by
  intro m
  induction m with
  |nil=>simp[aE]
  |cons p r ih=>
   obtain⟨k,v⟩:=p;simp only[Kh,N9,aE,pF];omega
 unfold iV;rw[JC];show((l++m.map (·.2)).map Vl.size).sum+1<=_;rw[JX,List.sum_append];simp only[Vl.size];exact JA (Nat.add_le_add_right (NU (h1 l) (h2 m)) 1) (by omega)
theorem dc(w:World)(a:Addr)(v:Value)(p:Addr):(w.setCell a v).frozen? p=w.frozen? p:=by
 unfold World.frozen? World.setCell;simp only[KC];by_cases h:a.block=p.block
 .rw[Jo h,<-h];cases hq:w.heap[a.block]? with
  |none=>rfl
  |some o=>cases o<;>rfl
 .rw[Jj h]
def Bx(L:List Cm.Node)(v:Vl)(ns:Cm.Names)(nodes:List Nat)(w:World)(e:Ending)(w':World):Prop:=
 ∃(bh:Nat) (mh:Nat->Option Value) (U:List Nat),e=.returned (.map (some bh))/\cX w' bh mh/\(∀i∈nodes,bB w' w.heap.size U mh L i v ns)/\U.length<=v.size*L.length/\Below w.heap.size w w'
def Bz(L:List Cm.Node)(AL:Option Addr)(cL:Nat)(v:Vl):Prop:=∀(xv pv:Value) (ns:Cm.Names) (nodes:List Nat) (An:Option Addr) (cn Bn:Nat) (w:World),Tab w->SlN w.cell? AL L->v.In w.cell? xv->cg w.cell? pv ns->(text ns).length+v.depth*160001<=6400040->Ints w Bn An cn nodes->(∀i∈nodes,i<L.length)->
 Calls Tryz.prog 15 #[.slice AL L.length cL,pv,xv,.slice An nodes.length cn] w (Bx L v ns nodes w)
def Cv(L:List Cm.Node)(v:Vl)(ns:Cm.Names)(Q:List Nat)(n:Nat)(w:World)(e:Ending)(w':World):Prop:=
 ∃(gw:Nat) (U:List Nat),e=.returned (.slice (some ⟨gw,0,none⟩) n n)/\U.length<=(v.size-1)*L.length/\Below w.heap.size w w'/\
  ∀i∈Q,∀N,L[i]? =some N->∀x∈Vd.asks N v,x.here=false->x.at_<n/\∃b m,w'.cell? ⟨gw,x.at_,none⟩=some (.map (some b))/\cX w' b m/\bB w' w.heap.size U m L x.node (Vd.bQ v x) (ns++[x.name])
theorem CY:∃i,Tryz.prog.info? 56=some i/\i.zero=some (.map none)/\i.size=1/\i.bytes=8:=by
 have h:(Tryz.prog.info? 56).map (λi=>(i.zero,i.size,i.bytes))=some (some (.map none),1,8):=by kernel_rfl
 cases hq:Tryz.prog.info? 56 with
 |none=>rw[hq] at h;cases h
 |some i=>
  rw[hq] at h;simp only[Kg,JM,Kl] at h;exact⟨i,rfl,h.1,h.2.1,h.2.2⟩
theorem wE(L:List Cm.Node)(hL:wJ L)(AL:Option Addr)(cL:Nat)(hl:L.length<=cL)(hm:cL<=maxLen)(v:Vl)(hv:qg v)(hlook:∀u,u.size<v.size->qg u->Bz L AL cL u)(xv pv:Value)(ns:Cm.Names)(w0 w:World)(gq bm:Nat)(A:Option Addr)(c:Nat)(Q:List Nat)(m:Nat->Option Value)(hQ:QAt L v w0 w gq bm A c Q m)(hT:Tab w)(hS:SlN w.cell? AL L)(hx:v.In w.cell? xv)(hp:cg w.cell? pv ns)(hd:(text ns).length+v.depth*160001<=6400040)(n:Nat)(hn:n=(Vd.partsOf v).length):
  Calls Tryz.prog 29 #[.slice AL L.length cL,pv,xv,.agg #[.slice A Q.length c,.map (some bm)]] w (Cv L v ns Q n w):=by
 have HVA:=Jf (λ(W:World) (j:Nat) (u:Vl) (hb:Below w.heap.size w W) (hj:(Vd.partsOf v)[j]? =some u)=>zd v xv j u W hv.1.1 (In.keep (aa hb) _ _ hx) hj);have HPT:=Jf (λ(j:Nat) (u:Vl) (hj:(Vd.partsOf v)[j]? =some u)=>hv.part hj);have HLK:=Jf (λ(u:Vl) (hz:u.size<v.size) (hf:qg u) (y pv':Value) (ns':Cm.Names) (nodes:List Nat) (An:Option Addr) (cn Bn:Nat) (W:World) (hb:Below w.heap.size w W)=>hlook u hz hf y pv' ns' nodes An cn Bn W (hT.keep hb) (hS.keep (aa hb)));obtain⟨pa,rfl⟩:∃pa,pv=.pointer pa:=by rcases hp.inv with⟨h,_⟩|⟨g,_,_,_,h,_⟩<;>exact⟨_,h⟩
 have HPL:=Jf (λ(W:World) (hb:Below w.heap.size w W)=>hp.keep (leN.of (aa hb)));have HSA:=Jf (lF v);have HD:=Jf hd;have HN:=Jf hn;have HL:=Jf hL;have HVM:=Jf hv.1.1;have HSZ:=Jf hv.2.1;have hn5:n<=5000:=by
  have h1:=lF v;have h2:=hv.2.1;have h3:∀l:List Vl,l.length<=(l.map Vl.size).sum:=by
   intro l
   induction l with
   |nil=>simp
   |cons u r ih=>
    have:1<=u.size:=by cases u;simp only[Vl.size];omega
    simp only[Jl,Kh,N9];omega
  have h4:=h3 (Vd.partsOf v);unfold iV at h1;rw[JC] at h1;omega
 obtain⟨kd,b,nn,s,l,m1⟩:=v;have hsum:IntKind.i64.wrap ((l.length:Int)+(m1.length:Int))=(n:Int):=by
  rw[Vd.uf] at hn;rw[IntWalk.i64_in _ (by omega),hn];simp
 obtain⟨A1,e1,B1,d1,rfl,q1,q2,q3,q4,_,_⟩:=In.form hx;generalize hvv:Vl.mk kd b nn s l m1=vv at*
 have hb0:=(Ji w.heap.size w).alloc (Jh _) (.cells #[.int .i64 kd,b,nn.neg,nn.digits,.int .i64 nn.exp,s,.slice A1 l.length e1,.slice B1 m1.length d1] 31);have hb1:=hb0.alloc hb0.size (.cells #[.slice A Q.length c,.map (some bm)] 81);have HX0:=Jf ((Blk.new w 31 #[.int .i64 kd,b,nn.neg,nn.digits,.int .i64 nn.exp,s,.slice A1 l.length e1,.slice B1 m1.length d1]).alloc (.cells #[.slice A Q.length c,.map (some bm)] 81));have HY0:=Jf (Blk.cW w (.cells #[.int .i64 kd,b,nn.neg,nn.digits,.int .i64 nn.exp,s,.slice A1 l.length e1,.slice B1 m1.length d1] 31) 81 #[.slice A Q.length c,.map (some bm)]);have HB0:=Jf hb1;have HQ0:=Jf (show QAt L vv w0 _ (w.heap.size+1) bm A c Q m from⟨(hQ.on hb1).below,Mi hQ.below.size,hQ.hb,HY0.out,(hQ.on hb1).nums,(hQ.on hb1).map,(hQ.on hb1).asks,hQ.ok,hQ.nodup,hQ.met⟩);have HPA:=Jf (DG L hL vv HVM.out HSZ.out w0 _ (w.heap.size+1) bm A c Q m HQ0.out n hn);clear hb0 hb1 hQ hT hS hx hp hd hv hlook hL hn hvv;unfold maxLen at q2 q4;go_enter Tryz.func29,Tryz.ntmps29;go_upto_region 1 with(fail);generalize (w.alloc (.cells #[.int .i64 kd,b,nn.neg,nn.digits,.int .i64 nn.exp,s,.slice A1 l.length e1,.slice B1 m1.length d1] 31)).alloc (.cells #[.slice A Q.length c,.map (some bm)] 81)=w2 at*
 have x6:=HX0.out.cell 6;have x7:=HX0.out.cell 7;have xl:=HX0.out.lt;go_wp2_with fail;refine HPA.out.mono ?_;rintro e3 w3 ⟨g,Nm,T,rfl,hpt,hok,hb3⟩;have HPT3:=Jf hpt;have HOK:=Jf hok;have HB3:=Jf (HB0.out.trans (hb3.mono HB0.out.size));have HX3:=Jf (HX0.out.on hb3);clear hpt hok hb3 x6 x7 xl HPA;obtain⟨i0,hi0,hz0,hz1,hz2⟩:=CY;have hmk:∀W:World,(Instr.makeSlice 83 (.int .i64 (n:Int)) (.int .i64 (n:Int))).run Tryz.prog W=.ok (.slice (some ⟨W.heap.size,0,none⟩) n n) (W.alloc (.cells (madeCells #[.map none] n) 56)):=λW=>by
  have:=Nw (P:=Tryz.prog) W 83 56 i0 (.map none) Tryz.underlying83 hi0 hz0 .i64 .i64 n n (by omega) (Mj _) (by rw[hz2];omega) (by omega);rw[hz1] at this;simp only[Ku,LZ] at this;exact this
 go_upto_region 3 with(fail);have hb4:=(Ji w3.heap.size w3).alloc (Jh _) (.cells (madeCells #[.map none] n) 56);have HOW:=Jf (show(w3.alloc (.cells (madeCells #[.map none] n) 56)).ownsRow w3.heap.size 56 1 (.slice (some ⟨w3.heap.size,0,none⟩) n n) n (List.replicate n (.map none)) by
  have:=Kv w3 (base:=w3.heap.size) (e:=56) (size:=1) (madeCells #[.map none] n) n (Jh _) (by unfold maxLen;omega) (by rw[LU,LZ]);rw[MF] at this;exact this)
 have HB4:=Jf hb4;generalize w3.alloc (.cells (madeCells #[.map none] n) 56)=w4 at*
 clear hmk hi0 hz0 hz1 hz2 hb4;go_wp2_with fail
 go_loopw [26] (λv26 wr=>∃(j:Nat) (fl:List Value) (U:List Nat),v26=.int .i64 j/\j<=n/\wr.ownsRow w3.heap.size 56 1 (.slice (some ⟨w3.heap.size,0,none⟩) n n) n fl/\(∀q,q<j->T q≠[]->∃b mq u,fl[q]? =some (.map (some b))/\cX wr b mq/\(Vd.partsOf vv)[q]? =some u/\∀i∈T q,bB wr w.heap.size U mq L i u (ns++[Vd.dU vv q]))/\U.length<=iV (Vd.partsOf vv) j*L.length/\Below w3.heap.size w3 wr/\∀q∈fl,∃b,q=.map b) (λv26 _=>n-(intOf v26).toNat)
 case atStart=>exact⟨0,_,[],rfl,JE _,HOW.out,λq hq=>absurd hq (Kt _),by simp,HB4.out,λq hq=>⟨_,List.eq_of_mem_replicate hq⟩⟩
 case round=>
  obtain⟨j,fl,U,rfl,hj,how,hfd,hul,hb,hmap⟩:=hrel;have HMAP:=Jf hmap;have HOR:=Jf how;have HFD:=Jf hfd;have HUL:=Jf hul;have HB:=Jf hb;have HBW:=Jf (HB3.out.trans (hb.mono HB3.out.size));have HPR:=Jf (HPT3.out.on hb);clear how hfd hul hb hmap HOW HB4;by_cases hlt:j<n
  .obtain⟨u,hu⟩:∃u,(Vd.partsOf vv)[j]? =some u:=⟨_,Jg (by have:=HN.out;omega)⟩;have HU:=Jf hu;have HSN:=Jf (vX hu);obtain⟨Aj,cj,c0,c1,hij⟩:=HPR.out.item j hlt;have hgl:=HPR.out.lt;have hji:(j:Int)<(n:Int):=by omega
   have hb1:=(Ji wr.heap.size wr).alloc (Jh _) (.cells #[.string ⟨(Nm j).toArray⟩,.slice Aj (T j).length cj] 125);have HXB:=Jf (Blk.new wr 125 #[.string ⟨(Nm j).toArray⟩,.slice Aj (T j).length cj]);have HIJ:=Jf (hij.on hb1);have HB5:=Jf (HB.out.trans (hb1.mono HB.out.size));have HBW5:=Jf (HBW.out.trans (hb1.mono HBW.out.size));have HO5:=Jf (aA HOR.out (λb _ hb=>hb1.block b hb));have HX5:=Jf (HX3.out.on HB5.out);have HF5:=Jf (λq (hq:q<j) (ht:T q≠[])=>(show∃b mq u,fl[q]? =some (.map (some b))/\cX (wr.alloc (.cells #[.string ⟨(Nm j).toArray⟩,.slice Aj (T j).length cj] 125)) b mq/\(Vd.partsOf vv)[q]? =some u/\∀i∈T q,bB (wr.alloc (.cells #[.string ⟨(Nm j).toArray⟩,.slice Aj (T j).length cj] 125)) w.heap.size U mq L i u (ns++[Vd.dU vv q]) by
    obtain⟨b,mq,u,h1,h2,h3,h4⟩:=HFD.out q hq ht;exact⟨b,mq,u,h1,h2.on hb1,h3,λi hi=>(h4 i hi).on hb1 (Jh _) (λ_ h=>h)⟩))
   clear hb1 hij hu;go_upto_region 6 with(fail);generalize wr.alloc (.cells #[.string ⟨(Nm j).toArray⟩,.slice Aj (T j).length cj] 125)=wk at*
   clear c0 c1 hgl;have y1:=HXB.out.cell 1;have yl:=HXB.out.lt;cases htj:T j with
   |nil=>
    rw[htj] at y1;have HTJ:=Jf htj;clear htj;go_wp2_with fail;go_roundw;case rel=>exact⟨j+1,fl,U,by go_num,by omega,HO5.out,λq hq ht=>by
     by_cases e:q=j
     .subst e;exact absurd HTJ.out ht
     .exact HF5.out q (by omega) ht,by
     have h1:=HSN.out;have h2:=HUL.out;rw[h1,Ly];exact JA h2 (Nat.le_add_right _ _),HB5.out,HMAP.out⟩
    case measure=>simp[intOf];omega
   |cons t0 tr=>
    have HTJ:=Jf (show T j≠[] by rw[htj];exact List.cons_ne_nil _ _);have hlen:((T j).length:Int)>0:=by rw[htj,Jl];omega
    clear htj;have HNM:=Jf (HOK.out.2.1 j hlt HTJ.out);have HFT:=Jf (HPT.out j u HU.out);have HB3W:=Jf HB3.out.size;have HRX:=Jf (λ(W9:World) (h:But (λb=>b=w3.heap.size) wk W9)=>h.blk HXB.out (by have:=HOR.out.lt _ rfl;omega));have HRV:=Jf (λ(W9:World) (h:But (λb=>b=w3.heap.size) wk W9)=>h.blk HX5.out (by have:=HX3.out.lt;omega));go_upto_region 7 with(fail);clear y1 yl;refine JT (S:=λW9=>But (λb=>b=w3.heap.size) wk W9) (by kernel_rfl) (But.of (Ji _ _).drew) (λht=>?_);refine af 0 (.slice (some ⟨w3.heap.size,0,none⟩) n n) ht ?_ ?_
    .intro W9 hSw;go_simp
    try simp only[ab]
    refine af 1 (.int .i64 j) ht ?_ ?_
    .intro W9 hSw;go_simp
    try simp only[ab]
    refine af 2 (.slice AL L.length cL) ht ?_ ?_
    .intro W9 hSw;go_simp
    try simp only[ab]
    refine af 3 (.pointer pa) ht ?_ ?_
    .intro W9 hSw;go_simp
    try simp only[ab]
    refine af 4 (.pointer (some ⟨wr.heap.size,0,none⟩)) ht ?_ ?_
    .intro W9 hSw;go_simp
    try simp only[ab]
    refine af 5 (.string ⟨(Nm j).toArray⟩) ht ?_ ?_
    .intro W9 hSw;have y0:=(HRX.out W9 hSw).cell 0;have yl:=(HRX.out W9 hSw).lt;go_simp
    try simp only[ab]
    refine af 6 (.agg #[.pointer pa,.string ⟨(Nm j).toArray⟩]) ht ?_ ?_
    .intro W9 hSw;go_simp
    try simp only[ab]
    refine af 8 (.agg #[.int .i64 kd,b,nn.neg,nn.digits,.int .i64 nn.exp,s,.slice A1 l.length e1,.slice B1 m1.length d1]) ht ?_ ?_
    .intro W9 hSw;obtain⟨y0,y1,y2,y3,y4,y5,y6,y7⟩:=(HRV.out W9 hSw).eight;have yl:=(HRV.out W9 hSw).lt;go_simp
    try simp only[ab]
    refine af 9 (.int .i64 j) ht ?_ ?_
    .intro W9 hSw;go_simp
    try simp only[ab]
    refine af 11 (.pointer (some ⟨wr.heap.size,1,none⟩)) ht ?_ ?_
    .intro W9 hSw;go_simp
    try simp only[ab]
    refine af 12 (.slice Aj (T j).length cj) ht ?_ ?_
    .intro W9 hSw;have y1:=(HRX.out W9 hSw).cell 1;have yl:=(HRX.out W9 hSw).lt;go_simp
    try simp only[ab]
    clear ht;refine MG (rs:=[7,10]) (by kernel_rfl) (by simp) ?_;refine La (o:=⟨some _,_,_,_,_,_⟩) rfl (λK hK=>?_) (La (o:=⟨some _,_,_,_,_,_⟩) rfl (λK hK=>?_) Mm)
    .go_simp;have hba:=((Ji wk.heap.size wk).alloc (Jh _) (.cells #[.pointer pa,.string ⟨(Nm j).toArray⟩] 127)).drew;have HBA:=Jf hba;have HPA:=Jf (show Blk (wk.alloc (.cells #[.pointer pa,.string ⟨(Nm j).toArray⟩] 127)).drew wk.heap.size 127 #[.pointer pa,.string ⟨(Nm j).toArray⟩] from Blk.new wk 127 #[.pointer pa,.string ⟨(Nm j).toArray⟩]);refine hK.out _ _ (But.of hba) (λht=>?_);clear hK K ht hba;generalize (wk.alloc (.cells #[.pointer pa,.string ⟨(Nm j).toArray⟩] 127)).drew=wa at*
     obtain⟨gp,hgp⟩:∃g,wk.heap.size=g:=⟨_,rfl⟩;rw[hgp] at HPA;try rw[hgp]
     clear hgp;try simp only[ab]
     refine bz 10 λK hK=>?_;go_simp;refine(HVA.out wa j u (HBW5.out.trans (HBA.out.mono HBW5.out.size)) HU.out).mono ?_;rintro e8 wx ⟨y,rfl,hy,hb8⟩;have HBX:=Jf (HBA.out.trans (hb8.mono HBA.out.size));have HPB:=Jf (HPA.out.on hb8);have HYI:=Jf hy;clear hy hb8;go_wp2_with fail;refine hK.out _ _ (But.of HBX.out) (λht=>?_);clear hK K ht;try simp only[ab]
     have HCL:=Jf (HLK.out u HFT.out.2.1 HFT.out.1 y (.pointer (some ⟨gp,0,none⟩)) (ns++[Nm j]) (T j) Aj cj w.heap.size wx (HBW5.out.trans (HBX.out.mono HBW5.out.size)) HYI.out (.snoc (HPB.out.cell 0) (HPL.out wx (HBW5.out.trans (HBX.out.mono HBW5.out.size))) (HPB.out.cell 1)) (by
      have h1:=HFT.out.2.2.1;have h2:=HFT.out.2.2.2;have h3:=eG 80000 [Nm j] (λz hz=>by rw[Jt.1 hz,HNM.out];exact h2);have h4:=HD.out;rw[bK,Jk];simp only[Jl,Jw] at h3;have h5:(u.depth+1)*160001<=vv.depth*160001:=K9 _ h1;omega) (nH (HIJ.out.on HBX.out) HB0.out.size) (λq hq=>by
      rcases(HOK.out.1 j hlt q).1 hq with⟨i',_,N',hN',x,hx,_,_,e⟩|⟨x,hx,_⟩
      .rw[<-e];exact HL.out.node hN' hx
      .cases hx))
     refine bz 13 λK hK=>?_;go_simp;refine HCL.out.mono ?_;rintro e9 w9 ⟨bh,mh,U2,rfl,him,hfu,hu2,hb9⟩;have HB9:=Jf (HBX.out.trans (hb9.mono HBX.out.size));have HIM:=Jf him;have HFU:=Jf (λi hi=>(show bB w9 w.heap.size (U++U2) mh L i u (ns++[Nm j]) from(hfu i hi).on (Ji _ _) (HBW5.out.trans (HBX.out.mono HBW5.out.size)).size (λg hg=>Jq.2 (.inr hg))));have HU2:=Jf hu2;clear him hfu hu2 hb9 HCL;go_wp2_with fail;refine hK.out _ _ (But.of HB9.out) (λht=>?_);clear hK K;try simp only[ab]
     refine af 14 (.pointer (some ⟨w3.heap.size,j,none⟩)) ht ?_ ?_
     .intro W9 hSw;go_simp
     try simp only[ab]
     have HO9:=Jf (aA HO5.out (λb _ hb=>HB9.out.block b hb));have hjf:j<fl.length:=by have:=HO5.out.1;omega
     have k0:w9.cell? ⟨w3.heap.size,j,none⟩=some fl[j]:=(HO9.out.cellAt j (by omega)).trans (Jg hjf);have kf:=HO9.out.frozenAt;have kl:=(HO9.out.lt _ rfl).2;have HK0:=Jf k0;refine bz 15 λK hK=>?_;go_simp;have HST:=Jf ((But.refl (λb=>b=w3.heap.size) w9).set (p:=⟨w3.heap.size,j,none⟩) (.inr rfl) (.map (some bh)));refine hK.out _ _ ((But.of (X:=λb=>b=w3.heap.size) HB9.out).trans HST.out (λ_ _ h=>h)) (λht=>?_);clear hK K ht k0 kf kl;try simp only[ab]
     refine Ke (by kernel_rfl) ?_ _;have HKP:=Jf (show∀p q,w9.cell? p=some q->(∀b,¬q=.map b)->(w9.setCell ⟨w3.heap.size,j,none⟩ (.map (some bh))).cell? p=some q fromλp q hp hq=>by
      by_cases e:(⟨w3.heap.size,j,none⟩:Addr)=p
      .subst e;rw[HK0.out] at hp;injection hp with hp;obtain⟨b,hb⟩:=HMAP.out _ (Jv hjf);exact absurd (hp.symm.trans hb) (hq b)
      .rw[K8 _ _ _ _ e];exact hp)
     go_wp2_with fail;go_roundw;case rel=>exact⟨j+1,fl.set j (.map (some bh)),U++U2,by go_num,by omega,eZ HO9.out j (.map (some bh)),λq hq hqt=>by
      have hgx:∀(b:Nat) mq,cX w9 b mq->cX (w9.setCell ⟨w3.heap.size,j,none⟩ (.map (some bh))) b mq:=λb mq h=>h.far (HST.out.block b h.lt (λe=>h.ox HO9.out ⟨_,rfl,e⟩));by_cases e:q=j
      .subst e;exact⟨bh,mh,u,by rw[Kw hjf],hgx _ _ HIM.out,HU.out,λi hi=>by rw[<-HNM.out];exact(HFU.out i hi).keep (λp q hp hq=>HKP.out p q hp (λb e=>by subst e;cases hq)) (λp hp=>⟨HKP.out p _ hp (λb e=>by cases e),dc _ _ _ _⟩) (Jh _) (λ_ h=>h)⟩
      .obtain⟨b,mq,u',h1,h2,h3,h4⟩:=HF5.out q (by omega) hqt;exact⟨b,mq,u',by rw[KA (λk=>e k.symm)];exact h1,hgx _ _ (h2.on HB9.out),h3,λi hi=>((h4 i hi).on HB9.out (Jh _) (λ_ h=>h)).keep (λp q hp hq=>HKP.out p q hp (λb e=>by subst e;cases hq)) (λp hp=>⟨HKP.out p _ hp (λb e=>by cases e),dc _ _ _ _⟩) (Jh _) (λg hg=>Jq.2 (.inl hg))⟩,by
      rw[Jk,HSN.out,Ly];exact NU HUL.out HU2.out,(HB5.out.trans (HB9.out.mono HB5.out.size)).setCell (p:=⟨w3.heap.size,j,none⟩) (Jh _) _,λq hq=>by
      rcases M7 hq with h|h
      .exact HMAP.out q h
      .exact⟨_,h⟩⟩
     case measure=>simp[intOf];omega
    .go_simp;refine(HVA.out wk.drew j u (HBW5.out.trans ((Ji wk.heap.size wk).drew.mono HBW5.out.size)) HU.out).mono ?_;rintro e8 wa ⟨y,rfl,hy,hb8⟩;have HBA:=Jf ((Ji wk.heap.size wk).drew.trans (show Below wk.heap.size wk.drew wa from hb8));have HYA:=Jf hy;clear hy hb8;go_wp2_with fail;refine hK.out _ _ (But.of HBA.out) (λht=>?_);clear hK K ht;try simp only[ab]
     refine bz 7 λK hK=>?_;go_simp;have hba:=(Ji wa.heap.size wa).alloc (Jh _) (.cells #[.pointer pa,.string ⟨(Nm j).toArray⟩] 127);have HBX:=Jf (HBA.out.trans (hba.mono HBA.out.size));have HPB:=Jf (Blk.new wa 127 #[.pointer pa,.string ⟨(Nm j).toArray⟩]);have HYI:=Jf (In.keep (aa hba) _ _ HYA.out);refine hK.out _ _ (But.of HBX.out) (λht=>?_);clear hK K ht hba;generalize wa.alloc (.cells #[.pointer pa,.string ⟨(Nm j).toArray⟩] 127)=wx at*
     obtain⟨gp,hgp⟩:∃g,wa.heap.size=g:=⟨_,rfl⟩;rw[hgp] at HPB;try rw[hgp]
     clear hgp;try simp only[ab]
     have HCL:=Jf (HLK.out u HFT.out.2.1 HFT.out.1 y (.pointer (some ⟨gp,0,none⟩)) (ns++[Nm j]) (T j) Aj cj w.heap.size wx (HBW5.out.trans (HBX.out.mono HBW5.out.size)) HYI.out (.snoc (HPB.out.cell 0) (HPL.out wx (HBW5.out.trans (HBX.out.mono HBW5.out.size))) (HPB.out.cell 1)) (by
      have h1:=HFT.out.2.2.1;have h2:=HFT.out.2.2.2;have h3:=eG 80000 [Nm j] (λz hz=>by rw[Jt.1 hz,HNM.out];exact h2);have h4:=HD.out;rw[bK,Jk];simp only[Jl,Jw] at h3;have h5:(u.depth+1)*160001<=vv.depth*160001:=K9 _ h1;omega) (nH (HIJ.out.on HBX.out) HB0.out.size) (λq hq=>by
      rcases(HOK.out.1 j hlt q).1 hq with⟨i',_,N',hN',x,hx,_,_,e⟩|⟨x,hx,_⟩
      .rw[<-e];exact HL.out.node hN' hx
      .cases hx))
     refine bz 13 λK hK=>?_;go_simp;refine HCL.out.mono ?_;rintro e9 w9 ⟨bh,mh,U2,rfl,him,hfu,hu2,hb9⟩;have HB9:=Jf (HBX.out.trans (hb9.mono HBX.out.size));have HIM:=Jf him;have HFU:=Jf (λi hi=>(show bB w9 w.heap.size (U++U2) mh L i u (ns++[Nm j]) from(hfu i hi).on (Ji _ _) (HBW5.out.trans (HBX.out.mono HBW5.out.size)).size (λg hg=>Jq.2 (.inr hg))));have HU2:=Jf hu2;clear him hfu hu2 hb9 HCL;go_wp2_with fail;refine hK.out _ _ (But.of HB9.out) (λht=>?_);clear hK K;try simp only[ab]
     refine af 14 (.pointer (some ⟨w3.heap.size,j,none⟩)) ht ?_ ?_
     .intro W9 hSw;go_simp
     try simp only[ab]
     have HO9:=Jf (aA HO5.out (λb _ hb=>HB9.out.block b hb));have hjf:j<fl.length:=by have:=HO5.out.1;omega
     have k0:w9.cell? ⟨w3.heap.size,j,none⟩=some fl[j]:=(HO9.out.cellAt j (by omega)).trans (Jg hjf);have kf:=HO9.out.frozenAt;have kl:=(HO9.out.lt _ rfl).2;have HK0:=Jf k0;refine bz 15 λK hK=>?_;go_simp;have HST:=Jf ((But.refl (λb=>b=w3.heap.size) w9).set (p:=⟨w3.heap.size,j,none⟩) (.inr rfl) (.map (some bh)));refine hK.out _ _ ((But.of (X:=λb=>b=w3.heap.size) HB9.out).trans HST.out (λ_ _ h=>h)) (λht=>?_);clear hK K ht k0 kf kl;try simp only[ab]
     refine Ke (by kernel_rfl) ?_ _;have HKP:=Jf (show∀p q,w9.cell? p=some q->(∀b,¬q=.map b)->(w9.setCell ⟨w3.heap.size,j,none⟩ (.map (some bh))).cell? p=some q fromλp q hp hq=>by
      by_cases e:(⟨w3.heap.size,j,none⟩:Addr)=p
      .subst e;rw[HK0.out] at hp;injection hp with hp;obtain⟨b,hb⟩:=HMAP.out _ (Jv hjf);exact absurd (hp.symm.trans hb) (hq b)
      .rw[K8 _ _ _ _ e];exact hp)
     go_wp2_with fail;go_roundw;case rel=>exact⟨j+1,fl.set j (.map (some bh)),U++U2,by go_num,by omega,eZ HO9.out j (.map (some bh)),λq hq hqt=>by
      have hgx:∀(b:Nat) mq,cX w9 b mq->cX (w9.setCell ⟨w3.heap.size,j,none⟩ (.map (some bh))) b mq:=λb mq h=>h.far (HST.out.block b h.lt (λe=>h.ox HO9.out ⟨_,rfl,e⟩));by_cases e:q=j
      .subst e;exact⟨bh,mh,u,by rw[Kw hjf],hgx _ _ HIM.out,HU.out,λi hi=>by rw[<-HNM.out];exact(HFU.out i hi).keep (λp q hp hq=>HKP.out p q hp (λb e=>by subst e;cases hq)) (λp hp=>⟨HKP.out p _ hp (λb e=>by cases e),dc _ _ _ _⟩) (Jh _) (λ_ h=>h)⟩
      .obtain⟨b,mq,u',h1,h2,h3,h4⟩:=HF5.out q (by omega) hqt;exact⟨b,mq,u',by rw[KA (λk=>e k.symm)];exact h1,hgx _ _ (h2.on HB9.out),h3,λi hi=>((h4 i hi).on HB9.out (Jh _) (λ_ h=>h)).keep (λp q hp hq=>HKP.out p q hp (λb e=>by subst e;cases hq)) (λp hp=>⟨HKP.out p _ hp (λb e=>by cases e),dc _ _ _ _⟩) (Jh _) (λg hg=>Jq.2 (.inl hg))⟩,by
      rw[Jk,HSN.out,Ly];exact NU HUL.out HU2.out,(HB5.out.trans (HB9.out.mono HB5.out.size)).setCell (p:=⟨w3.heap.size,j,none⟩) (Jh _) _,λq hq=>by
      rcases M7 hq with h|h
      .exact HMAP.out q h
      .exact⟨_,h⟩⟩
     case measure=>simp[intOf];omega
  .obtain rfl:j=n:=by omega
   have HFE:=Jf (show fl.length=j*1 from HOR.out.1);go_wp2_with fail;go_ret;refine⟨w3.heap.size,U,rfl,JA HUL.out (K9 _ (by have:=HSA.out;rw[<-HN.out] at this;omega)),HBW.out,λi hi N hN x hx hh=>?_⟩;have h1:=Vd.wO HVM.out hx hh;have h2:x.at_<j:=by rw[HN.out];exact(Jm.1 h1.1).1
   have h3:x.node∈T x.at_:=(HOK.out.1 x.at_ h2 x.node).2 (.inl ⟨i,hi,N,hN,x,hx,hh,rfl,rfl⟩);obtain⟨b,mq,u,h4,h5,h6,h7⟩:=HFD.out x.at_ h2 (List.ne_nil_of_mem h3);rw[h1.1] at h6;injection h6 with h6;subst h6;exact⟨h2,b,mq,ax HOR.out _ _ h4,h5,by rw[h1.2];exact h7 _ h3⟩
end
