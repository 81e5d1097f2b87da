import Derived.Test.YtdhgmaonolgpnaaGreatDoorIv
set_option linter.unusedSimpArgs false
set_option linter.unusedVariables false
set_option maxHeartbeats 16000000
set_option maxRecDepth 100000
namespace Go.Proofs.YtdhgmaonolgpnaaGreatDoor
section
open Go.RowKit Go.Maps Js Pt
def tol(w:World)(g:Nat):Bool:=match w.cell? ⟨g,4,none⟩ with
 |some (.bool b)=>b
 |_=>false
theorem wu{w:World}{g:Nat}{b:Bool}(h:w.cell? ⟨g,4,none⟩=some (.bool b)):tol w g=b:=by unfold tol;rw[h]
theorem yV{w w':World}{g:Nat}(h:w'.cell? ⟨g,4,none⟩=w.cell? ⟨g,4,none⟩):tol w' g=tol w g:=by unfold tol;rw[h]
def untold(w:World)(U:List Nat):Nat:=U.countP λg=> !tol w g
structure iY (w:World) (B:Nat) (U:List Nat) (t:Vd.Fd) (X ts:List Vd.Fd) (l:List Fl.F) (A3:Option Addr) (c3:Nat) (A4:Option Addr) (c4:Nat) (wr:World):Prop where
 below:Below B w wr
 ln:leN w.cell? wr.cell?
 told:∀s∈t.dz,∃b,wr.cell? ⟨s.g,4,none⟩=some (.bool b)
 thaw:∀s∈t.dz,wr.frozen? ⟨s.g,4,none⟩=false
 row:wr.ownsRow w.heap.size 44 3 (.slice A3 l.length c3) l.length (aD l)
 todo:gR wr w.heap.size A4 c4 (ts.map Vd.Fd.g)
 subX:∀s∈X,s∈t.dz
 subT:∀s∈ts,s∈t.dz
 tx:∀s∈t.dz,tol wr s.g=true->s∈X\/s∈ts
 root:t∈X\/t∈ts
 fa:∀f,f∈l↔∃s∈X,f∈s.own
 few:l.length<=X.length*5000
 cnt:X.length+ts.length+untold wr U<=U.length+1
def Shut(wr:World)(X:List Vd.Fd):Prop:=∀s∈X,∀k∈s.on,tol wr k.g=true
theorem Gc(W:World)(g n cp k:Nat)(hk:k<=cp):(Instr.slice 87 (.slice (some ⟨g,0,none⟩) n cp) none (some (.int .i64 (k:Int))) none).run Tryz.prog W=.ok (.slice (some ⟨g,0,none⟩) k cp) W:=by
 rw[run_slice_h W 87 _ n cp (by simp[Program.elem,Tryz.underlying87]) .i64 (k:Int) (by omega) (by omega)];obtain⟨i0,hi0,hz0,hz1,hz2⟩:=om;rw[show Tryz.prog.elem 87=54 by simp[Program.elem,Tryz.underlying87]];simp[sizeOf,typeInfo,hi0,hz1,sliced,gT,Result.andThen]
theorem oR{p q:Nat->Bool}:∀{l:List Nat} {x:Nat},(∀y∈l,q y=true->p y=true)->x∈l->p x=true->q x=false->l.countP q+1<=l.countP p
 |[],_,_,h,_,_=>by cases h
 |y::r,x,hpq,hx,hp,hq=>by
  have hle:r.countP q<=r.countP p:=Mv (λz hz hqz=>hpq z (by simp[hz]) hqz);rw[L8,L8];by_cases e:y=x
  .subst e;rw[hp,hq];simp;omega
  .have hm:x∈r:=(JB.1 hx).resolve_left (λh=>e h.symm);have:=oR (λz hz=>hpq z (by simp[hz])) hm hp hq;cases hy:q y with
   |true=>rw[hpq y (by simp) hy];simp;omega
   |false=>cases p y<;>simp<;>omega
section
variable {w wr:World} {B:Nat} {U:List Nat} {t:Vd.Fd} {X ts:List Vd.Fd} {l:List Fl.F} {A3 A4:Option Addr} {c3 c4:Nat}
theorem iY.push(hl:nU w B U t)(hU:∀g∈U,g<w.heap.size)(hB:B<=w.heap.size)(h:iY w B U t X ts l A3 c3 A4 c4 wr){k:Vd.Fd}(hk:k∈t.dz)(hf:tol wr k.g=false){w1 x8:World}{A8:Option Addr}{c8:Nat}(h1:Below (wr.setCell ⟨k.g,4,none⟩ (.bool true)).heap.size (wr.setCell ⟨k.g,4,none⟩ (.bool true)) w1)(hown:x8.ownsRow w.heap.size 54 1 (.slice A8 (ts.length+1) c8) (ts.length+1) (dO (ts.map Vd.Fd.g)++dO [k.g]))(hgr:w1.grownBy x8 (Value.slice A4 ts.length c4).ownBlock):
  iY w B U t X (ts++[k]) l A3 c3 A8 c8 x8/\(∀g,g<w.heap.size->tol wr g=true->tol x8 g=true)/\tol x8 k.g=true/\untold x8 U+1<=untold wr U:=by
 obtain⟨ws,hws⟩:∃ws,wr.setCell ⟨k.g,4,none⟩ (.bool true)=ws:=⟨_,rfl⟩;rw[hws] at h1;have hsz:w.heap.size<=wr.heap.size:=h.below.size;obtain⟨_,hkU,hkB,hk4,_⟩:=hl k hk;have hkl:k.g<w.heap.size:=Jn _ _ hk4;have hst:But (λb=>b=k.g) wr ws:=by rw[<-hws];exact(But.refl (λb=>b=k.g) wr).set (p:=⟨k.g,4,none⟩) (.inr rfl) _
 have h2:But (Bk A4) ws x8:=(But.of h1).grown hgr (λq hq=>.inr (jH hq));have hA4:∀b,Bk A4 b->w.heap.size<=b:=λb ⟨ad,e1,e2⟩=>by
  subst e1 e2;obtain⟨g',rfl,q1,_⟩:=(ai h.todo).2.2.2 ad rfl;exact q1
 have hlow:∀b,b<w.heap.size->x8.heap[b]? =ws.heap[b]? :=λb hb=>h2.block b (JN (JN hb hsz) hst.size) (λhx=>by have:=hA4 b hx;omega);have hc4:∀p u,wr.cell? p=some u->p.block<w.heap.size->¬(⟨k.g,4,none⟩:Addr)=p->x8.cell? p=some u:=λp u hp hb hne=>by
  rw[jy (hlow p.block hb),<-hws,K8 _ _ _ _ hne];exact hp
 obtain⟨bk,hbk⟩:=h.told k hk;have hkt:x8.cell? ⟨k.g,4,none⟩=some (.bool true):=by
  rw[jy (hlow k.g hkl),<-hws];exact LD _ _ _ hbk
 have htk:tol x8 k.g=true:=wu hkt;have hto:∀g,g<w.heap.size->¬g=k.g->tol x8 g=tol wr g:=λg hg hne=>by
  refine yV ?_;rw[jy (hlow g hg),<-hws,K8 _ _ _ _ (λe=>hne (by injection e with e;exact e.symm))]
 have hmo:∀g,g<w.heap.size->tol wr g=true->tol x8 g=true:=λg hg ht=>by
  by_cases e:g=k.g
  .rw[e];exact htk
  .rw[hto g hg e];exact ht
 have hun:untold x8 U+1<=untold wr U:=oR (x:=k.g) (λy hy hq=>by
  simp only[Nc] at hq ⊢;cases hty:tol wr y with
  |false=>rfl
  |true=>rw[hmo y (hU y hy) hty] at hq;cases hq) hkU (by simp[hf]) (by simp[htk])
 have hall:But (λb=>b=k.g\/Bk A4 b) wr x8:=(hst.sub (λb _ e=>.inl e)).trans h2 (λb _ e=>.inr e);refine⟨⟨h.below.trans (hall.below (JA hB hsz) (λb hb e=>?_)),λp u hp hpl=>?_,λs hs=>?_,λs hs=>?_,bH hall h.row (λb hk3 e=>?_),?_,h.subX,λs hs=>?_,λs hs ht=>?_,?_,h.fa,h.few,?_⟩,hmo,htk,hun⟩
 .rcases e with e|e
  .omega
  .have:=hA4 b e;omega
 .have h3:=h.ln p u hp hpl;refine hc4 p u h3 (Jn _ _ hp) (λe=>?_);subst e;rw[hbk] at h3;injection h3 with h3;subst h3;cases hpl
 .obtain⟨_,_,_,hs4,_⟩:=hl s hs;by_cases e:s.g=k.g
  .exact⟨true,by rw[e];exact hkt⟩
  .obtain⟨b,hb⟩:=h.told s hs;exact⟨b,hc4 _ _ hb (Jn _ _ hs4) (λq=>e (by injection q with q;exact q.symm))⟩
 .obtain⟨_,_,_,hs4,_⟩:=hl s hs;have h3:=h.thaw s hs;have h4:x8.frozen? ⟨s.g,4,none⟩=ws.frozen? ⟨s.g,4,none⟩:=by
   unfold World.frozen?;rw[hlow s.g (Jn _ _ hs4)]
  rw[h4,<-hws,dc];exact h3
 .rcases e with e|e
  .subst e;obtain⟨ad,e1,e2⟩:=hk3;obtain⟨g',h4,q1,_⟩:=(ai h.row).2.2.2 ad e1;subst h4;have e2:k.g=g':=e2;omega
  .exact iy h.row h.todo (by decide) hk3 e
 .unfold gR;rw[JX,Jk,JR,show dO (ts.map Vd.Fd.g++[k].map Vd.Fd.g)=dO (ts.map Vd.Fd.g)++dO [k.g] by simp[dO]];exact hown
 .rcases Jq.1 hs with h3|h3
  .exact h.subT s h3
  .rw[Jt.1 h3];exact hk
 .by_cases e:s.g=k.g
  .have:s=k:=GR (c:=w.cell?) s k (λx hx=>(hl x (Vd.Fd.eQ t hs hx)).1) (λx hx=>(hl x (Vd.Fd.eQ t hk hx)).1) e;exact .inr (Jq.2 (.inr (by rw[this];simp)))
  .obtain⟨_,_,_,hs4,_⟩:=hl s hs;rw[hto s.g (Jn _ _ hs4) e] at ht;rcases h.tx s hs ht with h3|h3
   .exact .inl h3
   .exact .inr (Jq.2 (.inl h3))
 .rcases h.root with h3|h3
  .exact .inl h3
  .exact .inr (Jq.2 (.inl h3))
 .rw[Jk,Jy];have:=h.cnt;omega
end
theorem iY.pop{w wr:World}{B:Nat}{U:List Nat}{t n:Vd.Fd}{X ts:List Vd.Fd}{l:List Fl.F}{A3 A4:Option Addr}{c3 c4:Nat}(hB:B<=w.heap.size)(hU:∀g∈U,g<w.heap.size)(hl:nU w B U t)(h:iY w B U t X (ts++[n]) l A3 c3 A4 c4 wr)(htodo:gR wr w.heap.size A4 c4 (ts.map Vd.Fd.g)){x8:World}(hall:But (Bk A3) wr x8){A8:Option Addr}{c8:Nat}(hrow:x8.ownsRow w.heap.size 44 3 (.slice A8 (l++n.own).length c8) (l++n.own).length (aD (l++n.own)))(h5:n.names.length<=5000):
  iY w B U t (X++[n]) ts (l++n.own) A8 c8 A4 c4 x8/\(∀g,g<w.heap.size->tol x8 g=tol wr g)/\untold x8 U=untold wr U:=by
 have hsz:w.heap.size<=wr.heap.size:=h.below.size;have hA3:∀b,Bk A3 b->w.heap.size<=b:=λb ⟨ad,e1,e2⟩=>by
  obtain⟨g',h4,q1,_⟩:=(ai h.row).2.2.2 ad e1;subst h4 e2;exact q1
 have hlow:∀b,b<w.heap.size->x8.heap[b]? =wr.heap[b]? :=λb hb=>hall.block b (JN hb hsz) (λhx=>by have:=hA3 b hx;omega);have hc:∀p,p.block<w.heap.size->x8.cell? p=wr.cell? p:=λp hb=>jy (hlow p.block hb);have hto:∀g,g<w.heap.size->tol x8 g=tol wr g:=λg hg=>yV (hc ⟨g,4,none⟩ hg);have hun:untold x8 U=untold wr U:=List.countP_congr (λg hg=>by rw[hto g (hU g hg)]);have hlt:∀s∈t.dz,s.g<w.heap.size:=λs hs=>Jn _ _ (hl s hs).2.2.2.1;refine⟨⟨h.below.trans (hall.below (JA hB hsz) (λb hb hk=>by have:=hA3 b hk;omega)),λp u hp hpl=>(hc p (Jn _ _ hp)).trans (h.ln p u hp hpl),λs hs=>?_,λs hs=>?_,hrow,bH hall htodo (λb h1 h2=>iy htodo h.row (by decide) h1 h2),λs hs=>?_,λs hs=>h.subT s (Jq.2 (.inl hs)),λs hs ht=>?_,?_,λf=>?_,?_,?_⟩,hto,hun⟩
 .obtain⟨b,hb⟩:=h.told s hs;exact⟨b,(hc ⟨s.g,4,none⟩ (hlt s hs)).trans hb⟩
 .have h1:=h.thaw s hs;unfold World.frozen? at h1 ⊢;rw[hlow s.g (hlt s hs)];exact h1
 .rcases Jq.1 hs with h1|h1
  .exact h.subX s h1
  .rw[Jt.1 h1];exact h.subT n (by simp)
 .rw[hto s.g (hlt s hs)] at ht;rcases h.tx s hs ht with h1|h1
  .exact .inl (Jq.2 (.inl h1))
  .rcases Jq.1 h1 with h1|h1
   .exact .inr h1
   .exact .inl (Jq.2 (.inr h1))
 .rcases h.root with h1|h1
  .exact .inl (Jq.2 (.inl h1))
  .rcases Jq.1 h1 with h1|h1
   .exact .inr h1
   .exact .inl (Jq.2 (.inr h1))
 .rw[Jq,h.fa];constructor
  .rintro(⟨s,h1,h2⟩|h1)
   .exact⟨s,Jq.2 (.inl h1),h2⟩
   .exact⟨n,by simp,h1⟩
  .rintro⟨s,h1,h2⟩;rcases Jq.1 h1 with h1|h1
   .exact .inl ⟨s,h1,h2⟩
   .rw[Jt.1 h1] at h2;exact .inr h2
 .have h1:=h.few;have h2:n.own.length=n.names.length:=by unfold Vd.Fd.own;rw[JR]
  rw[Jk,Jk,Jy,Ly];omega
 .have h1:=h.cnt;rw[hun,Jk,Jy];rw[Jk,Jy] at h1;omega
theorem G4{t:Vd.Fd}{X:List Vd.Fd}{wr:World}(hX:Shut wr X)(hin:∀s∈t.dz,tol wr s.g=true->s∈X)(s:Vd.Fd):s∈t.dz->s∈X->∀u∈s.dz,u∈X:=by
 refine Vd.Fd.ind (P:=λs=>s∈t.dz->s∈X->∀u∈s.dz,u∈X) ?_ s;intro g ns p n l ih hs hx u hu;rcases Vd.Fd.df.1 hu with rfl|⟨k,hk,hu⟩
 .exact hx
 .have hks:k∈t.dz:=Vd.Fd.eQ t hs (Vd.Fd.df.2 (.inr ⟨k,hk,k.dF⟩));exact ih k hk hks (hin k hks (hX _ hx k hk)) u hu
theorem Gi(t:Vd.Fd)(w:World)(B:Nat)(U:List Nat)(hT:∀W,Below B w W->lW W)(hl:nU w B U t)(hU:∀g∈U,g<w.heap.size)(hUl:U.length<=1000000)(hB:B<=w.heap.size):
  Calls Tryz.prog 17 #[.pointer (some ⟨t.g,0,none⟩)] w λe w'=>∃(l:List Fl.F) (A:Option Addr) (c:Nat),e=.returned (.slice A l.length c)/\FAt w' A l c/\(∀f,f∈l↔t.all f)/\l.length<=2500000000000/\Below B w w':=by
 have HT:=Jf hT;have HLI:=Jf hl;have HU:=Jf hU;have HUL:=Jf hUl;have HBB:=Jf hB;have HLT:=Jf (show∀s∈t.dz,s.g<w.heap.size fromλs hs=>Jn _ _ (hl s hs).2.2.2.1);have HCN:=Jf (λ(s:Vd.Fd) (hs:s∈t.dz)=>(hl s hs).1);have HSM:=Jf (λ(s:Vd.Fd) (hs:s∈t.dz)=>(hl s hs).2.2.2.2.1);have hb1:=(Ji w.heap.size w).alloc (Jh _) (.cells #[.pointer (some ⟨t.g,0,none⟩)] 54);have HS0:=Jf (show iY w B U t [] [t] [] none 0 (some ⟨w.heap.size,0,none⟩) 1 (w.alloc (.cells #[.pointer (some ⟨t.g,0,none⟩)] 54)) from
  ⟨hb1.mono hB,leN.of (aa hb1),λs hs=>⟨false,aa hb1 _ _ (hl s hs).2.2.2.1⟩,λs hs=>(kK hb1 (hl s hs).2.2.2.1).trans (hl s hs).2.2.2.2.2,KT _ _ _ _,Kv w #[.pointer (some ⟨t.g,0,none⟩)] 1 (Jh _) (by unfold maxLen;omega) rfl,(λs hs=>by cases hs),(λs hs=>by rw[Jt.1 hs];exact t.dF),(λs hs ht=>by rw[wu (aa hb1 _ _ (hl s hs).2.2.2.1)] at ht;cases ht),.inr (by simp),(λf=>by simp),by simp,by
   have h1:untold (w.alloc (.cells #[.pointer (some ⟨t.g,0,none⟩)] 54)) U<=U.length:=Mu
   simp only[Jw,Jy]
   omega⟩)
 clear hT hl hU hUl hB hb1;go_enter Tryz.func17,Tryz.ntmps17;go_wp2_with fail
 go_loopw [3,4] (λv3 v4 wr=>∃(X ts:List Vd.Fd) (l:List Fl.F) (A3:Option Addr) (c3:Nat) (A4:Option Addr) (c4:Nat),v3=.slice A3 l.length c3/\v4=.slice A4 ts.length c4/\iY w B U t X ts l A3 c3 A4 c4 wr/\Shut wr X) (λ_ v4 wr=>untold wr U+Hq v4)
 case atStart=>exact⟨[],[t],[],none,0,_,1,rfl,rfl,HS0.out,(λs hs=>by cases hs)⟩
 case round=>
  obtain⟨X,ts,l,A3,c3,A4,c4,rfl,rfl,hst,hsh⟩:=hrel;have HST:=Jf hst;have HSH:=Jf hsh;clear hst hsh HS0;rcases List.eq_nil_or_concat ts with rfl|⟨ts0,n,hts⟩
  .go_wp2_with fail;go_ret;have hX:t∈X:=HST.out.root.resolve_right (λh=>by cases h);have hin:∀s∈t.dz,tol wr s.g=true->s∈X:=λs hs ht=>(HST.out.tx s hs ht).resolve_right (λh=>by cases h);have hall:=G4 HSH.out hin t t.dF hX;have hle:=C4 HST.out.row;refine⟨l,A3,c3,rfl,⟨hle.1,hle.2.2.1,hle.2.2.2.1,hle.2.2.2.2⟩,λf=>?_,?_,HST.out.below⟩
   .rw[HST.out.fa];exact⟨λ⟨s,h1,h2⟩=>⟨s,HST.out.subX s h1,h2⟩,λ⟨s,h1,h2⟩=>⟨s,hall s h1,h2⟩⟩
   .have h1:=HST.out.few;have h2:=HST.out.cnt;have h3:=HUL.out;have h4:X.length*5000<=1000001*5000:=K9 _ (by omega);omega
  .have hts:ts=ts0++[n]:=by simpa using hts
   subst hts;obtain⟨gA,hgA,hgB,hgl,hpc,hcl,htd⟩:=gR.pop (show gR wr w.heap.size A4 c4 (ts0.map Vd.Fd.g++[n.g]) by have:=HST.out.todo;rwa[JX] at this);rw[JR] at hpc hcl;have HTD:=Jf htd;have hns:n∈t.dz:=HST.out.subT n (by simp);have HNS:=Jf hns;obtain⟨pv,An,cn,Dn,dn,n0,n1,n2,n3,n4,n5,n6,n7,n8,n9,n10⟩:=HCN.out n hns;obtain⟨pa,rfl⟩:∃pa,pv=.pointer pa:=by rcases n1.inv with⟨h,_⟩|⟨g,_,_,_,h,_⟩<;>exact⟨_,h⟩
   have HLN:=Jf HST.out.ln;have HN1:=Jf n1;have HN6:=Jf n6;have HN10:=Jf n10;have e0:=HLN.out _ _ n0 rfl;have e1:=HLN.out _ _ n2 rfl;have e2:=HLN.out _ _ n3 rfl;have e3:=HLN.out _ _ n7 rfl;have HE:=Jf (And.intro e0 (And.intro e1 (And.intro e2 e3)));have en:=Jn _ _ e0;have hcm:=(ai HST.out.todo).2.1;unfold maxLen at hcm n5 n9;have hlen:(ts0++[n]).length=ts0.length+1:=by simp
   rw[hlen];have hs1:IntKind.i64.wrap (((ts0.length+1:Nat):Int)-1)=(ts0.length:Int):=by rw[show(((ts0.length+1:Nat):Int)-1)=(ts0.length:Int) by omega];exact IntWalk.i64_in _ (by omega)
   have hsl:=λW=>Gc W gA (ts0.length+1) c4 ts0.length (by omega);have hpos:(((ts0.length+1:Nat):Int)>0):=by omega
   have hii:(ts0.length:Int)<((ts0.length+1:Nat):Int):=by omega
   subst hgA;clear hts hlen n0 n1 n2 n3 n6 n7 n10 hns htd;unfold mE at hpc;have hnA3:¬Bk A3 n.g:=λ⟨ad,q1,q2⟩=>by
    obtain⟨g',h4,q3,_⟩:=(ai HST.out.row).2.2.2 ad q1;subst h4;have q2:n.g=g':=q2;have:=HLT.out n HNS.out;omega
   have HRN:=Jf (λ(W9:World) (h:But (Bk A3) wr W9)=>(show W9.cell? ⟨n.g,0,none⟩=some (.pointer pa)/\W9.cell? ⟨n.g,1,none⟩=some (.string ⟨n.path.toArray⟩)/\W9.cell? ⟨n.g,2,none⟩=some (.slice An n.names.length cn)/\n.g<W9.heap.size from⟨h.cell HE.out.1 hnA3,h.cell HE.out.2.1 hnA3,h.cell HE.out.2.2.1 hnA3,Jn _ _ (h.cell HE.out.1 hnA3)⟩));have HSZ:=Jf HST.out.below.size;have HMT:=Jf (show∀W,Below wr.heap.size wr W->lW W fromλW hb=>HT.out W (HST.out.below.trans (hb.mono (JA HBB.out HSZ.out))));obtain⟨lw,hlw⟩:∃x,l++n.own=x:=⟨_,rfl⟩;have HLW:=Jf hlw;clear hlw;clear hnA3;go_upto_if 29 with fail
   go_cut [3,29] from 30 to 45 (λv3 v29 wc=>∃(A8:Option Addr) (c8:Nat),v3=.slice A8 lw.length c8/\But (Bk A3) wr wc/\wc.ownsRow w.heap.size 44 3 (.slice A8 lw.length c8) lw.length (aD lw));case first=>
    by_cases hne:n.names=[]
    .have hown:lw=l:=by rw[<-HLW.out];unfold Vd.Fd.own;rw[hne];simp
     have hdc:decide ((n.names.length:Int)>0)=false:=by rw[hne];rfl
     have hdd:¬((n.names.length:Int)>0):=by rw[hne];simp
     have HR3:=Jf HST.out.row;have HOW:=Jf hown;clear hne hown;go_wp2_with fail
     go_meet
     case rel=>exact⟨A3,c3,by rw[HOW.out],But.refl _ _,by rw[HOW.out];exact HR3.out⟩
    .have hpo:=L5.2 hne;have hdc:decide ((n.names.length:Int)>0)=true:=K5 (by omega);have hdd:((n.names.length:Int)>0):=by omega
     go_upto_region 8 with(fail);clear hne hpo hdc hdd;refine JT (S:=λW9=>But (Bk A3) wr W9) (by kernel_rfl) (But.of (Ji _ _).drew) (λht=>?_);refine af 0 (.slice A3 l.length c3) ht ?_ ?_
     .intro W9 hSw;go_simp
     try simp only[ab]
     refine af 1 (.pointer (some ⟨n.g,0,none⟩)) ht ?_ ?_
     .intro W9 hSw;go_simp
     try simp only[ab]
     refine af 2 (.pointer (some ⟨n.g,0,none⟩)) ht ?_ ?_
     .intro W9 hSw;go_simp
     try simp only[ab]
     refine af 3 (.pointer (some ⟨n.g,0,none⟩)) ht ?_ ?_
     .intro W9 hSw;go_simp
     try simp only[ab]
     refine af 4 (.pointer pa) ht ?_ ?_
     .intro W9 hSw;obtain⟨y0,_,_,yl⟩:=HRN.out W9 hSw;go_simp
     try simp only[ab]
     refine af 6 (.pointer (some ⟨n.g,0,none⟩)) ht ?_ ?_
     .intro W9 hSw;go_simp
     try simp only[ab]
     refine af 7 (.pointer (some ⟨n.g,0,none⟩)) ht ?_ ?_
     .intro W9 hSw;go_simp
     try simp only[ab]
     refine af 8 (.pointer (some ⟨n.g,1,none⟩)) ht ?_ ?_
     .intro W9 hSw;go_simp
     try simp only[ab]
     refine af 9 (.string ⟨n.path.toArray⟩) ht ?_ ?_
     .intro W9 hSw;obtain⟨_,y1,_,yl⟩:=HRN.out W9 hSw;go_simp
     try simp only[ab]
     refine af 10 (.pointer (some ⟨n.g,0,none⟩)) ht ?_ ?_
     .intro W9 hSw;go_simp
     try simp only[ab]
     refine af 11 (.pointer (some ⟨n.g,0,none⟩)) ht ?_ ?_
     .intro W9 hSw;go_simp
     try simp only[ab]
     refine af 12 (.pointer (some ⟨n.g,2,none⟩)) ht ?_ ?_
     .intro W9 hSw;go_simp
     try simp only[ab]
     refine af 13 (.slice An n.names.length cn) ht ?_ ?_
     .intro W9 hSw;obtain⟨_,_,y2,yl⟩:=HRN.out W9 hSw;go_simp
     try simp only[ab]
     obtain⟨hm1,hm2,hm3,hm4⟩:=HSM.out n HNS.out;have HPO:=Jf (yo n.ns (.pointer pa) wr.drew (HMT.out _ (Ji _ _).drew) ((HN1.out.keep HLN.out).keep (leN.of (aa (Ji wr.heap.size wr).drew))) hm3);refine bz 5 λK hK=>?_;go_simp;refine HPO.out.mono ?_;rintro e5 w5 ⟨rfl,hb5⟩;have HB5:=Jf ((Ji wr.heap.size wr).drew.trans (show Below wr.heap.size wr.drew w5 from hb5));clear hb5 ht HPO;go_wp2_with fail;refine hK.out _ _ (But.of HB5.out) (λht=>?_);clear hK K;try simp only[ab]
     have HFA:=Jf (show Calls Tryz.prog 33 #[.string ⟨(text n.ns).toArray⟩,n.path,.slice An n.names.length cn] w5 (GB w5 n.own) from ve (text n.ns) n.path n.names An cn w5 (HMT.out _ HB5.out) (λq z hq=>by
      obtain⟨g,o,h1,h2⟩:=HN6.out q z hq;exact⟨g,o,h1,aa HB5.out _ _ (HLN.out _ _ h2 rfl)⟩) n4 (by unfold maxLen;omega) (by omega) hm2 hm4)
     refine bz 14 λK hK=>?_;go_simp;refine HFA.out.mono ?_;rintro e6 w6 ⟨A6,c6,rfl,h6,hb6⟩;have HB6:=Jf (HB5.out.trans (hb6.mono HB5.out.size));have HSR:=Jf (Hi h6 (aV _));clear hb6 h6 ht HFA;go_wp2_with fail;refine hK.out _ _ (But.of HB6.out) (λht=>?_);clear hK K ht;try simp only[ab]
     have HR6:=Jf (aA HST.out.row (λb _ hb=>HB6.out.block b hb));have HNL:=Jf (show l.length+n.own.length<=maxLen/\(l.length+n.own.length)*48<=140737488355328 from by
      have h1:=HST.out.few;have h2:=HST.out.cnt;have h3:=HUL.out;have h4:X.length*5000<=1000001*5000:=K9 _ (by omega);have h5:n.own.length=n.names.length:=by unfold Vd.Fd.own;rw[JR]
      unfold maxLen;omega)
     have HS6:=Jf (show w.heap.size<=w6.heap.size from JA HSZ.out HB6.out.size);obtain⟨i0,hi0,hz0,hz1,hz2⟩:=jB;refine bz 15 λK hK=>?_;refine dD _ rfl _ _ _ rfl w.heap.size 44 i0 _ 3 48 Tryz.underlying35 hi0 hz0 hz1 hz2 rfl (by omega) (.slice A3 l.length c3) l.length (aD l) rfl HR6.out A6 n.own.length c6 (aD n.own) rfl (aV _) HSR.out (oc _) HNL.out.1 HNL.out.2 HS6.out lw.length (by rw[<-HLW.out,Jk]) ?_;intro A8 c8 x8 hown hgr hat;have HOW:=Jf (show x8.ownsRow w.heap.size 44 3 (.slice A8 lw.length c8) lw.length (aD lw) by rw[<-HLW.out,jT];rw[<-HLW.out] at hown;exact hown);have HBT:=Jf (show But (Bk A3) wr x8 from(But.of HB6.out).grown hgr (λq hq=>.inr (jH hq)));clear hown hgr hat;refine hK.out _ _ HBT.out (λht=>?_);clear hK K;try simp only[ab]
     refine af 16 (.slice A8 lw.length c8) ht ?_ ?_
     .intro W9 hSw;go_simp
     try simp only[ab]
     refine Ke (by kernel_rfl) ?_ _;clear ht;go_wp2_with fail
     go_meet
     case rel=>exact⟨A8,c8,rfl,HBT.out,HOW.out⟩
   case rest=>
   obtain⟨A8,c8,rfl,hall,hrow⟩:=hcut;obtain⟨hst2,hto,hun⟩:=HST.out.pop HBB.out HU.out HLI.out HTD.out hall (by rw[HLW.out];exact hrow) (HSM.out n HNS.out).1;have HS2:=Jf hst2;have HUN:=Jf hun;have HSH2:=Jf (show Shut wc X fromλs hs k hk=>by
    have hks:k∈t.dz:=Vd.Fd.eQ t (HST.out.subX s hs) (Vd.Fd.df.2 (.inr ⟨k,hk,k.dF⟩));rw[hto k.g (HLT.out k hks)];exact HSH.out s hs k hk)
   rw[HLW.out] at HS2;have HCN3:=Jf (HCN.out n HNS.out);have f3:wc.cell? ⟨n.g,3,none⟩=some (.slice Dn n.on.length dn):=by
    obtain⟨_,_,_,D',d',_,_,_,_,_,_,_,k8,_⟩:=HCN3.out;have h1:=HLN.out _ _ k8 rfl;rw[HE.out.2.2.2] at h1;injection h1 with h1;rw[h1];exact hst2.ln _ _ k8 rfl
   have fl:=Jn _ _ f3;clear e0 e1 e2 e3 en hpc hall hrow hst2 hto hun hs1 hsl hpos hii HRN HMT;go_wp2_with fail;clear f3 fl
   go_loopw [4,51] (λv4 v51 wi=>∃(j:Nat) (ts:List Vd.Fd) (A9:Option Addr) (c9:Nat),v4=.slice A9 ts.length c9/\v51=.int .i64 j/\j<=n.on.length/\iY w B U t (X++[n]) ts lw A8 c8 A9 c9 wi/\Shut wi X/\(∀k∈n.on.take j,tol wi k.g=true)/\untold wi U+ts.length<=untold wc U+ts0.length) (λ_ v51 _=>n.on.length-(intOf v51).toNat)
   case atStart=>exact⟨0,ts0,_,c4,rfl,rfl,JE _,HS2.out,HSH2.out,(λk hk=>by simp at hk),Jh _⟩
   case round=>
    obtain⟨j,ts,A9,c9,rfl,rfl,hj,hsi,hshi,htk,hun⟩:=hrel;obtain⟨wi,hwi⟩:∃W,W=wr:=⟨_,rfl⟩;subst hwi;have HSI:=Jf hsi;have HSHI:=Jf hshi;have HTK:=Jf htk;have HUNI:=Jf hun;clear hsi hshi htk hun;by_cases hjl:j<n.on.length
    .obtain⟨k,hk⟩:∃k,n.on[j]=k:=⟨_,rfl⟩;have hko:n.on[j]? =some k:=by rw[Jg hjl,hk]
     have hks:k∈t.dz:=Vd.Fd.eQ t HNS.out (Vd.Fd.df.2 (.inr ⟨k,Jz hko,k.dF⟩));have HTJ:=Jf (show n.on.take (j+1)=n.on.take j++[k] by rw[Jr hjl,hk]);have HKS:=Jf hks;obtain⟨bD,oD,hD,hcD⟩:=HN10.out j k hko;have d0:=HSI.out.ln _ _ hcD rfl;unfold mE at d0;have dl:=Jn _ _ d0;obtain⟨b,hb⟩:=HSI.out.told k hks;have hbl:=Jn _ _ hb;have hji:(j:Int)<(n.on.length:Int):=by omega
     have HB:=Jf hb;subst hD;clear hk hko hks hcD;cases b with
     |true=>
      go_wp2_with fail;go_roundw;case rel=>exact⟨j+1,ts,A9,c9,rfl,by go_num,by omega,HSI.out,HSHI.out,(λq hq=>by
       rw[HTJ.out] at hq;rcases Jq.1 hq with h|h
       .exact HTK.out q h
       .rw[Jt.1 h];exact wu HB.out),HUNI.out⟩
      case measure=>simp[intOf];omega
     |false=>
      have bf:=HSI.out.thaw k HKS.out;have hkl:=HLT.out k HKS.out;have hws:=JG wi ⟨k.g,4,none⟩ (.bool true);have hsz0:w.heap.size<=wi.heap.size:=HSI.out.below.size;have hszs:wi.heap.size=(wi.setCell ⟨k.g,4,none⟩ (.bool true)).heap.size:=by simp[World.setCell]
      have HTD0:=Jf (show gR (wi.setCell ⟨k.g,4,none⟩ (.bool true)) w.heap.size A9 c9 (ts.map Vd.Fd.g) from aA HSI.out.todo (λq h1 _=>hws q (λe=>by have e:q=k.g:=e;omega)));have hba:=(Ji (wi.setCell ⟨k.g,4,none⟩ (.bool true)).heap.size (wi.setCell ⟨k.g,4,none⟩ (.bool true))).alloc (Jh _) (.cells #[.pointer (some ⟨k.g,0,none⟩)] 54);have HBA:=Jf hba;have HTD1:=Jf (show((wi.setCell ⟨k.g,4,none⟩ (.bool true)).alloc (.cells #[.pointer (some ⟨k.g,0,none⟩)] 54)).ownsRow w.heap.size 54 1 (.slice A9 ts.length c9) ts.length (dO (ts.map Vd.Fd.g)) by
       have:=HTD0.out.on hba;unfold gR at this;rwa[JR] at this)
      have HNW:=Jf (Blk.new (wi.setCell ⟨k.g,4,none⟩ (.bool true)) 54 #[.pointer (some ⟨k.g,0,none⟩)]);have HSR1:=Jf (show Src ((wi.setCell ⟨k.g,4,none⟩ (.bool true)).alloc (.cells #[.pointer (some ⟨k.g,0,none⟩)] 54)) (some ⟨(wi.setCell ⟨k.g,4,none⟩ (.bool true)).heap.size,0,none⟩) 1 1 (dO [k.g]) from .inr ⟨_,rfl,λj u hu=>JU HNW.out j u hu⟩);have HSZ1:=Jf (show w.heap.size<=((wi.setCell ⟨k.g,4,none⟩ (.bool true)).alloc (.cells #[.pointer (some ⟨k.g,0,none⟩)] 54)).heap.size from JA (by omega) hba.size);have HLNT:=Jf (show ts.length+1<=maxLen/\(ts.length+1)*8<=140737488355328 from by have:=HSI.out.cnt;have:=HUL.out;unfold maxLen;omega);have HPU:=Jf (λ(x8:World) (A:Option Addr) (c:Nat) hown hgr=>iY.push HLI.out HU.out HBB.out HSI.out HKS.out (wu HB.out) (A8:=A) (c8:=c) (x8:=x8) HBA.out hown hgr);obtain⟨i0,hi0,hz0,hz1,hz2⟩:=om;clear hws hsz0 hszs hba hkl;go_upto_region 14 with(fail);clear bf d0 dl hb hbl;generalize wi.setCell ⟨k.g,4,none⟩ (.bool true)=ws at*
      go_wp2_with (at_builtin;refine aP _ rfl _ _ _ rfl w.heap.size 54 i0 _ 1 8 Tryz.underlying87 hi0 hz0 hz1 hz2 rfl (by decide) (.slice A9 ts.length c9) ts.length (dO (ts.map Vd.Fd.g)) rfl HTD1.out (some ⟨ws.heap.size,0,none⟩) 1 1 (dO [k.g]) rfl rfl HSR1.out (rW (λ_=>rfl) _) HLNT.out.1 HLNT.out.2 HSZ1.out (ts.length+1) rfl ?_;intro A7 c7 x8 hown hgr hat;have HP8:=Jf (HPU.out _ _ _ hown hgr);clear hown hgr hat);go_roundw;case rel=>exact⟨j+1,ts++[k],A7,c7,by rw[Jk];rfl,by go_num,by omega,HP8.out.1,(λs hs q hq=>HP8.out.2.1 q.g (HLT.out q (Vd.Fd.eQ t (HST.out.subX s hs) (Vd.Fd.df.2 (.inr ⟨q,hq,q.dF⟩)))) (HSHI.out s hs q hq)),(λq hq=>by
       rw[HTJ.out] at hq;rcases Jq.1 hq with h|h
       .exact HP8.out.2.1 q.g (HLT.out q (Vd.Fd.eQ t HNS.out (Vd.Fd.df.2 (.inr ⟨q,KG h,q.dF⟩)))) (HTK.out q h)
       .rw[Jt.1 h];exact HP8.out.2.2.1),by rw[Jk,Jy];have:=HUNI.out;have:=HP8.out.2.2.2;omega⟩
      case measure=>simp[intOf];omega
    .obtain rfl:j=n.on.length:=by omega
     have HTK2:=Jf (show∀k∈n.on,tol wi k.g=true by have:=HTK.out;rwa[JC] at this);go_wp2_with fail;go_roundw;case rel=>exact⟨X++[n],ts,lw,A8,c8,A9,c9,rfl,rfl,HSI.out,λs hs=>by
      rcases Jq.1 hs with h|h
      .exact HSHI.out s h
      .rw[Jt.1 h];exact HTK2.out⟩
     case measure=>have h1:=HUNI.out;have h2:=HUN.out;simp only[Hq];omega
end
