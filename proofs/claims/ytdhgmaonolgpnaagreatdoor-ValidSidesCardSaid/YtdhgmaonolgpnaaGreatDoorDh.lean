import Derived.Test.YtdhgmaonolgpnaaGreatDoorDc
import Derived.Test.YtdhgmaonolgpnaaGreatDoorCb
set_option linter.unusedSimpArgs false
set_option linter.unusedVariables false
set_option maxHeartbeats 9000000
set_option maxRecDepth 100000
namespace Go.Proofs.YtdhgmaonolgpnaaGreatDoor
section
open Go.RowKit Js Pt
theorem oo{P:Program}{t:TypeId}{z:Value}{s b:Nat}(h:(P.info? t).map (λi=>(i.zero,i.size,i.bytes))=some (some z,s,b)):∃i,P.info? t=some i/\i.zero=some z/\i.size=s/\i.bytes=b:=by
 cases hq:P.info? t with
 |none=>rw[hq] at h;cases h
 |some i=>
  rw[hq] at h;simp only[Kg,JM,Kl] at h;exact⟨i,rfl,h.1,h.2.1,h.2.2⟩
theorem qW:∃i,Tryz.prog.info? 39=some i/\i.zero=some (.agg #[.string ⟨#[]⟩,false,false,.slice none 0 0])/\i.size=4/\i.bytes=48:=oo (by kernel_rfl)
theorem vt:∃i,Tryz.prog.info? 68=some i/\i.zero=some (.agg #[.string ⟨#[]⟩,.int .i64 0,false,false,.string ⟨#[]⟩,.int .i64 0,.string ⟨#[]⟩,.slice none 0 0,.slice none 0 0,.slice none 0 0])/\i.size=10/\i.bytes=152:=oo (by kernel_rfl)
theorem BM:∃i,Tryz.prog.info? 109=some i/\i.zero=some (.agg #[.string ⟨#[]⟩,.int .i64 0])/\i.size=2/\i.bytes=24:=oo (by kernel_rfl)
def Eu(f:Nat):Prop:=∀(v:Vl),v.size<=f->v.bL 1000000->v.size<=1000000->∀(gm:Nat) (Y:Nat->Prop) (A:Option Addr) (cp:Nat) (acc:List Cm.Node) (p:Jd) (P:Cm.Names) (w:World) (x:Value) (S:Nat->Prop),Mk gm Y A cp acc 0 p w->(∀b,S b->b<w.heap.size/\¬LX gm A b/\¬Y b)->v.In (w.on S) x->(text P).length+5000000*v.size<=10000000000000->
 Calls Tryz.prog 46 #[.pointer (some ⟨gm,0,none⟩),.string ⟨(text P).toArray⟩,x] w λe w'=>e=.returned (.tuple #[])/\∃(A':Option Addr) (cp':Nat) (acc':List Cm.Node) (bad':Nat) (p':Jd),Ev gm Y A A' cp' acc' bad' p' w w'/\Ew acc p (Cm.node f acc.length P v) acc' bad' p'
theorem aS.leave{w:World}{gm:Nat}{Y:Nat->Prop}{A:Option Addr}{cs:Array Value}{A':Option Addr}{cp':Nat}{acc':List Cm.Node}{bad':Nat}{p':Jd}{Ak:Option Addr}{ck:Nat}{keys:List Cm.Key}{Z:Nat->Prop}{W:World}(h:aS w gm Y A cs A' cp' acc' bad' p' Ak ck keys Z W):Ev gm Y A A' cp' acc' bad' p' w W:=
 ⟨h.maker.but (Y0:=λ_=>False) (But.refl _ _) (λ_ _ k=>k.elim) (λ_ _ k=>.inl k) (λb k=>h.maker.yl b (.inl k)),h.but,h.on⟩
theorem sr{A:Option Addr}{n c g B N:Nat}{W w6:World}(hle:∀ad,A=some ad->∃g,ad=⟨g,0,none⟩/\B<=g/\g<N)(hg:W.grownBy w6 (Value.slice A n c).ownBlock)(hat:(Value.slice A n c).ownBlock=some g\/g=W.heap.size):But (Bk A) W w6/\aW A (some ⟨g,0,none⟩) W:=by
 have hb:∀q,(Value.slice A n c).ownBlock=some q->Bk A q:=λq hq=>by
  cases A with
  |none=>cases hq
  |some ad=>
   obtain⟨g2,rfl,_⟩:=hle ad rfl;exact⟨_,rfl,by simpa[Value.ownBlock] using hq.symm⟩
 refine⟨(But.refl (Bk A) W).grown hg (λq hq=>.inr (hb q hq)),λb k=>?_⟩;obtain⟨ad,e,rfl⟩:=k;injection e with e;subst e;rcases hat with k|k
 .exact .inl (hb _ k)
 .exact .inr (Nat.le_of_eq k.symm)
def wI(f:Nat)(acc:List Cm.Node)(p:Jd)(P:Cm.Names)(k:Int)(b:Bool)(m:List Js.Mem)(i:Nat)(keys:List Cm.Key)(acc':List Cm.Node)(bad':Nat)(p':Jd):Prop:=
 (∃r,Cm.av (Cm.node f) P (acc.length+1) (m.take i)=.ok (keys,r)/\acc'=acc++⟨P,decide (k=1),b,[]⟩::r/\bad'=0/\p'=p)\/(∃c q,Cm.av (Cm.node f) P (acc.length+1) m=.bad c q/\¬c=0/\c<=14/\bad'=c/\p'=text q/\acc.length+1<=acc'.length)
theorem wI.lt{f:Nat}{acc:List Cm.Node}{p:Jd}{P:Cm.Names}{k:Int}{b:Bool}{m:List Js.Mem}{i:Nat}{keys:List Cm.Key}{acc':List Cm.Node}{bad':Nat}{p':Jd}(h:wI f acc p P k b m i keys acc' bad' p'):acc.length<acc'.length:=by
 rcases h with⟨r,_,rfl,_⟩|⟨c,q,_,_,_,_,_,h⟩
 .simp
 .exact h
theorem Di{f:Nat}{acc:List Cm.Node}{p:Jd}{P:Cm.Names}{k:Int}{b:Bool}{n:Nm.Num}{s:Jd}{l:List Vl}{m:List Js.Mem}{i:Nat}{keys:List Cm.Key}{acc':List Cm.Node}{bad':Nat}{p':Jd}(h0:¬acc.length=200)(hm:wI f acc p P k b m i keys acc' bad' p')(hi:i=m.length\/¬bad'=0)(hl:acc.length<acc'.length):
  Ew acc p (Cm.node (f+1) acc.length P (.mk k b n s l m)) (acc'.set acc.length {acc'[acc.length] with keys:=keys}) bad' p':=by
 rcases hm with⟨r,h1,rfl,h2,h3⟩|⟨c,q,h1,h2,h3,h4,h5,h6⟩
 .have hi2:i=m.length:=hi.elim id (λk=>absurd h2 k);rw[hi2,JC] at h1;refine .inl ⟨_,Cm.Hg h0 h1,?_,h2,h3⟩;simp
 .exact .inr ⟨c,q,Cm.ye h0 h1,h2,h3,h4,h5,by rw[KF];omega⟩
theorem mJ(w:World)(t:TypeId)(nm:Jd):Strs (w.alloc (.cells #[.string ⟨nm.toArray⟩] t)).cell? (some ⟨w.heap.size,0,none⟩) [nm]:=λj n hj=>by
 have hl:=(Jm.1 hj).1;obtain rfl:j=0:=by simpa using hl
 obtain rfl:nm=n:=by simpa using hj
 exact⟨w.heap.size,0,rfl,(Blk.new w t _).cell 0⟩
theorem Ab(nm:Jd)(v:Vl):(Sh.kids nm v).length<=v.size:=by
 obtain⟨k,b,n,s,l,m⟩:=v;have h1:l.length<=aH l:=cS l;have h2:m.length<=aE m:=ep m;rw[Sh.cI];simp only[Vl.size];split
 .simp;omega
 .split
  .omega
  .split
   .rw[Sh.ke];omega
   .simp
theorem kW{N:Nat}(hN:25<=N){nm:Jd}{v:Vl}(hv:v.bL N)(hz:v.size<=1000000){p:Js.Mem}(h:p∈Sh.kids nm v):p.1.length<=N/\p.2.bL N:=by
 have hv0:=hv;obtain⟨k,b,n,s,l,m⟩:=v;have h1:l.length<=aH l:=cS l;simp only[Vl.size] at hz;simp only[Vl.bL] at hv;obtain⟨_,_,hl,hm⟩:=hv;rw[Sh.cI] at h;split at h
 .obtain rfl:=Jt.1 h;exact⟨JE _,hv0⟩
 .split at h
  .exact(dE N m).1 hm p h
  .split at h
   .obtain⟨i,hi⟩:=JP h;obtain⟨u,hu,rfl⟩:=Sh.ef hi;have hil:=(Jm.1 hu).1;have:=mS i (by omega);exact⟨by simp only;omega,(jL N l).1 hl _ (Jz hu)⟩
   .cases h
def tD(f:Nat)(single:Bool)(under:Cm.Names)(kids:List Js.Mem)(acc1:List Cm.Node)(p:Jd)(j:Nat)(ks:List (Jd×Nat))(acc':List Cm.Node)(bad':Nat)(p':Jd):Prop:=
 (∃a,Cm.ar (Cm.node f) single under acc1.length (kids.take j)=.ok (ks,a)/\acc'=acc1++a/\bad'=0/\p'=p)\/(∃c q,Cm.ar (Cm.node f) single under acc1.length kids=.bad c q/\¬c=0/\c<=14/\bad'=c/\p'=text q/\acc1.length<=acc'.length)
def wK(Sk:Nat->Prop)(gm:Nat)(Y:Nat->Prop)(A' Ak:Option Addr)(gk:Nat)(Ad:Option Addr)(W:World):Prop:=∀b,Sk b->b<W.heap.size/\¬LX gm A' b/\¬(Y b\/Bk Ak b\/b=gk\/Bk Ad b)
theorem wK.step{Sk:Nat->Prop}{gm:Nat}{Y:Nat->Prop}{A' A'' Ak:Option Addr}{gk:Nat}{Ad Ad':Option Addr}{W W':World}(h:wK Sk gm Y A' Ak gk Ad W)(hr:aW A' A'' W)(hd:aW Ad Ad' W)(hs:W.heap.size<=W'.heap.size):wK Sk gm Y A'' Ak gk Ad' W':=λb hb=>by
 obtain⟨h1,h2,h3⟩:=h b hb;refine⟨JN h1 hs,λk=>h2 (LX.back hr b h1 k),λk=>h3 ?_⟩;rcases k with k|k|k|k
 .exact .inl k
 .exact .inr (.inl k)
 .exact .inr (.inr (.inl k))
 .rcases hd b k with k|k
  .exact .inr (.inr (.inr k))
  .omega
theorem fq.J9{w:World}{gm:Nat}{Y:Nat->Prop}{A:Option Addr}{cs:Array Value}{A':Option Addr}{cp':Nat}{acc':List Cm.Node}{bad':Nat}{p':Jd}{Ak:Option Addr}{ck:Nat}{keys:List Cm.Key}{W W5:World}{gk:Nat}{kc:List Value}{Ad:Option Addr}{cd:Nat}{ks:List (Jd×Nat)}{S:Nat->Prop}
  (h:fq w gm Y A cs A' cp' acc' bad' p' Ak ck keys gk kc Ad cd ks W) (hS:∀b,S b->b<w.heap.size/\¬LX gm A b/\¬Y b):wK (λb=>(S b\/W.heap.size<=b)/\b<W5.heap.size) gm Y A' Ak gk Ad W5:=λb hb=>by
 obtain⟨hb,hlt⟩:=hb;have hgt:=h.gt;have hkl:=h.key.lt;refine⟨hlt,λk=>?_,λk=>?_⟩
 .rcases hb with hb|hb
  .exact(hS b hb).2.1 (LX.back h.node.on b (hS b hb).1 k)
  .rcases k with k|k
   .have:=h.node.lt;omega
   .have:=(h.node.maker.rowAt k).2;omega
 .rcases hb with hb|hb
  .have h1:=(hS b hb).1;rcases k with k|k|k|k
   .exact(hS b hb).2.2 k
   .have:=(h.node.ij k).1;omega
   .omega
   .have:=(h.lP k).1;omega
  .rcases k with k|k|k|k
   .have:=h.node.yl b k;omega
   .have:=(h.node.ij k).2;omega
   .omega
   .have:=(h.lP k).2.1;omega
theorem aS.Hk{w:World}{gm:Nat}{Y:Nat->Prop}{A:Option Addr}{cs:Array Value}{A':Option Addr}{cp':Nat}{acc':List Cm.Node}{bad':Nat}{p':Jd}{Ak:Option Addr}{ck:Nat}{keys:List Cm.Key}{W:World}{i:Nat}(h:aS w gm Y A cs A' cp' acc' bad' p' Ak ck keys (λ_=>False) W)(hi:keys.length=i)
  {Rn:Nat->Prop} (hRn:∀b,Rn b->b<W.heap.size/\¬(LX gm A' b\/Y b\/False)/\∀ad,Ak=some ad->b≠ad.block) {K:Cm.Key} {kcs:List Value} (hit:dh (W.on Rn) K kcs) (h1:∀u∈kcs,u.oneCell'=true) (h10:kcs.length=10):
  ∃flat,W.ownsRow (w.heap.size+1) 68 10 (.slice Ak i ck) i flat/\∀(w6:World) (g cap:Nat),w6.ownsRow (w.heap.size+1) 68 10 (.slice (some ⟨g,0,none⟩) (i+1) cap) (i+1) (flat++kcs)->W.grownBy w6 (Value.slice Ak i ck).ownBlock->((Value.slice Ak i ck).ownBlock=some g\/g=W.heap.size)->
   aS w gm Y A cs A' cp' acc' bad' p' (some ⟨g,0,none⟩) cap (keys++[K]) (λ_=>False) w6:=by
 obtain⟨flat,hown,hpush⟩:=bI.push (It:=dh) (λh=>dh.mono h) hi h.keys;refine⟨flat,hown,λw6 g cap h6 hg hat=>?_⟩;have hrow:=hpush hit hRn h1 h10 h6 hg hat;have hro:=sr (bI.le h.keys).2.2 hg hat;exact h.keyed hro.1 hro.2 hrow (λb k=>k.elim)
theorem Dc{f:Nat}{acc acc2 acc3:List Cm.Node}{p:Jd}{P:Cm.Names}{k:Int}{b:Bool}{m:List Js.Mem}{i:Nat}{keys:List Cm.Key}{r1:List Cm.Node}{nm:Jd}{v:Vl}{sg:Bool}{kids:List Js.Mem}{j:Nat}{ks:List (Jd×Nat)}{bad3:Nat}{p3:Jd}
  (hn:(∀ks b',Cm.ar (Cm.node f) sg (P++[nm]) (acc.length+1+r1.length) kids=.ok (ks,b')->Cm.av (Cm.node f) P (acc.length+1) (m.take (i+1))=.ok (keys++[⟨nm,v,ks⟩],r1++b'))/\(∀c q,Cm.ar (Cm.node f) sg (P++[nm]) (acc.length+1+r1.length) kids=.bad c q->Cm.av (Cm.node f) P (acc.length+1) m=.bad c q))
  (ha:acc2=acc++⟨P,decide (k=1),b,[]⟩::r1) (hm:tD f sg (P++[nm]) kids acc2 p j ks acc3 bad3 p3) (hj:j=kids.length):wI f acc p P k b m (i+1) (keys++[⟨nm,v,ks⟩]) acc3 bad3 p3:=by
 have hl:acc2.length=acc.length+1+r1.length:=by rw[ha];simp;omega
 rcases hm with⟨a,h1,h2,h3,h4⟩|⟨c,q,h1,h2,h3,h4,h5,h6⟩
 .rw[hj,JC,hl] at h1;exact .inl ⟨_,hn.1 _ _ h1,by rw[h2,ha];simp,h3,h4⟩
 .rw[hl] at h1;exact .inr ⟨c,q,hn.2 _ _ h1,h2,h3,h4,h5,by omega⟩
theorem Blk.ten{w:World}{g:Nat}{t:TypeId}{c0 c1 c2 c3 c4 c5 c6 c7 c8 c9:Value}(h:Blk w g t #[c0,c1,c2,c3,c4,c5,c6,c7,c8,c9]):
  w.cell? ⟨g,0,none⟩=some c0/\w.cell? ⟨g,1,none⟩=some c1/\w.cell? ⟨g,2,none⟩=some c2/\w.cell? ⟨g,3,none⟩=some c3/\w.cell? ⟨g,4,none⟩=some c4/\w.cell? ⟨g,5,none⟩=some c5/\w.cell? ⟨g,6,none⟩=some c6/\w.cell? ⟨g,7,none⟩=some c7/\w.cell? ⟨g,8,none⟩=some c8/\w.cell? ⟨g,9,none⟩=some c9:=
 ⟨h.cell 0,h.cell 1,h.cell 2,h.cell 3,h.cell 4,h.cell 5,h.cell 6,h.cell 7,h.cell 8,h.cell 9⟩
theorem FI{f:Nat}{sg:Bool}{under:Cm.Names}{kids:List Js.Mem}{acc2 acc3 acc4:List Cm.Node}{p p3 p4:Jd}{j:Nat}{ks:List (Jd×Nat)}{bad4:Nat}{key:Jd}{kv:Vl}
  (hm:tD f sg under kids acc2 p j ks acc3 0 p3)
  (hn:∀ks a,Cm.ar (Cm.node f) sg under acc2.length (kids.take j)=.ok (ks,a)->(∀b,Cm.node f (acc2.length+a.length) (if sg=true then under else under++[key]) kv=.ok b->Cm.ar (Cm.node f) sg under acc2.length (kids.take (j+1))=.ok (ks++[(key,acc2.length+a.length)],a++b))/\(∀c q,Cm.node f (acc2.length+a.length) (if sg=true then under else under++[key]) kv=.bad c q->Cm.ar (Cm.node f) sg under acc2.length kids=.bad c q))
  (hR:Ew acc3 p3 (Cm.node f acc3.length (if sg=true then under else under++[key]) kv) acc4 bad4 p4):tD f sg under kids acc2 p (j+1) (ks++[(key,acc3.length)]) acc4 bad4 p4:=by
 rcases hm with⟨a,h1,h2,_,h4⟩|⟨c,q,_,h2,_,h4,_,_⟩
 .have hl:acc3.length=acc2.length+a.length:=by rw[h2,Jk]
  obtain⟨n1,n2⟩:=hn _ _ h1;rw[<-hl] at n1 n2;rcases hR with⟨b,r1,r2,r3,r4⟩|⟨c,q,r1,r2,r3,r4,r5,r6⟩
  .exact .inl ⟨_,n1 b r1,by rw[r2,h2,Ko],r3,r4.trans h4⟩
  .exact .inr ⟨c,q,n2 c q r1,r2,r3,r4,r5,by omega⟩
 .exact absurd h4.symm h2
theorem Db{f:Nat}{sg:Bool}{under:Cm.Names}{kids:List Js.Mem}{acc2 acc3:List Cm.Node}{p p3:Jd}{j:Nat}{ks:List (Jd×Nat)}{bad3:Nat}(hm:tD f sg under kids acc2 p j ks acc3 bad3 p3)(hb:¬bad3=0)(j':Nat)(ks':List (Jd×Nat)):tD f sg under kids acc2 p j' ks' acc3 bad3 p3:=by
 rcases hm with⟨_,_,_,h,_⟩|h
 .exact absurd h hb
 .exact .inr h
theorem Blk.three{w:World}{g:Nat}{t:TypeId}{c0 c1 c2:Value}(h:Blk w g t #[c0,c1,c2]):w.cell? ⟨g,0,none⟩=some c0/\w.cell? ⟨g,1,none⟩=some c1/\w.cell? ⟨g,2,none⟩=some c2/\w.frozen? ⟨g,0,none⟩=false/\w.frozen? ⟨g,1,none⟩=false/\w.frozen? ⟨g,2,none⟩=false:=
 ⟨h.cell 0,h.cell 1,h.cell 2,h.frozen 0,h.frozen 1,h.frozen 2⟩
theorem Dq(gm:Nat)(Y:Nat->Prop)(A:Option Addr)(cp:Nat)(acc:List Cm.Node)(bad:Nat)(h0:¬bad=0)(p:Jd)(q:Jd)(w:World)(k:Int)(b ng:Bool)(dg:Jd)(ex:Int)(s:Jd)(Al:Option Addr)(ln e:Nat)(B:Option Addr)(mn d:Nat)(hM:Mk gm Y A cp acc bad p w):
  Calls Tryz.prog 46 #[.pointer (some ⟨gm,0,none⟩),q,.agg #[.int .i64 k,.bool b,.bool ng,.string ⟨dg.toArray⟩,.int .i64 ex,.string ⟨s.toArray⟩,.slice Al ln e,.slice B mn d]] w λe w'=>e=.returned (.tuple #[])/\Below w.heap.size w w':=by
 have HM:=Jf (hM.on ((Ji w.heap.size w).alloc (Jh _) (.cells #[.int .i64 k,b,ng,dg,.int .i64 ex,s,.slice Al ln e,.slice B mn d] 31)));have HB:=Jf ((Ji w.heap.size w).alloc (Jh _) (.cells #[.int .i64 k,b,ng,dg,.int .i64 ex,s,.slice Al ln e,.slice B mn d] 31));have hb0:((bad:Int)==0)=false:=by rw[Jp];omega
 clear hM;go_enter Tryz.func46,Tryz.ntmps46;go_upto_region 1 with(fail);generalize w.alloc (.cells #[.int .i64 k,b,ng,dg,.int .i64 ex,s,.slice Al ln e,.slice B mn d] 31)=w0 at*
 obtain⟨g0,g1,g2,g3,g4,g5⟩:=HM.out.blk.three;go_wp2_with fail;refine Ju (LS rfl _ _ _) rfl ?_;exact⟨rfl,HB.out⟩
theorem Dr(f:Nat)(IH:Eu f):Eu (f+1):=by
 intro v hvf hsl hsz gm Y A cp acc p P w x S hM hS hx hlen;obtain⟨k,b,n,s,l,m⟩:=v;obtain⟨Al,e,B,d,rfl,q1,q2,q3,q4,q5,q6⟩:=In.form hx;have HIH:=Jf IH;have HW:=Jf (aS.start hM #[.int .i64 k,b,n.neg,n.digits,.int .i64 n.exp,s,.slice Al l.length e,.slice B m.length d]);have HS:=Jf hS;have HM6:=Jf q6;have hfew:=hM.few;have HSL:=Jf hsl;have hml:m.length<=1000000:=by
  have h:m.length<=aE m:=ep m;simp only[Vl.size] at hsz;omega
 unfold maxLen at q4;clear hM hS hx q5 q6 hsl q1 q2 IH;go_enter Tryz.func46,Tryz.ntmps46;go_upto_region 1 with(fail);generalize w.alloc (.cells #[.int .i64 k,b,n.neg,n.digits,.int .i64 n.exp,s,.slice Al l.length e,.slice B m.length d] 31)=w0 at*
 obtain⟨g0,g1,g2,g3,g4,g5⟩:=HW.out.maker.blk.three;by_cases h200:acc.length=200
 .have hb2:((acc.length:Int)==200)=true:=by rw[Ln];omega
  go_wp2_with fail;refine Ju (LS rfl _ _ _) rfl ?_;refine⟨rfl,A,cp,acc,5,text P,((HW.out.vV 5).setPath (text P)).leave,.inr ⟨5,P,Cm.Dk h200,by decide,by decide,rfl,rfl,Jh _⟩⟩
 .have hb2:((acc.length:Int)==200)=false:=by rw[Jp];omega
  go_upto_region 6 with(fail);go_cut [51] from 36 to 51 (λv51 wc=>v51=(.pointer (some ⟨gm,0,none⟩))/\∃(A1:Option Addr) (c1:Nat),aS w gm Y A #[.int .i64 k,b,n.neg,n.digits,.int .i64 n.exp,s,.slice Al l.length e,.slice B m.length d] A1 c1 (acc++[⟨P,decide (k=1),b,[]⟩]) 0 p none 0 [] (λ_=>False) wc);case first=>
   have HDR:=Jf (show aS w gm Y A #[.int .i64 k,b,n.neg,n.digits,.int .i64 n.exp,s,.slice Al l.length e,.slice B m.length d] A cp acc 0 p none 0 [] (λ_=>False) w0.drew from HW.out.next (below_drewN (Ji _ _) 1));clear g0 g1 g2 g3 g4 g5 HW;refine JT (S:=(λW9=>Blk W9 w.heap.size 31 #[.int .i64 k,b,n.neg,n.digits,.int .i64 n.exp,s,.slice Al l.length e,.slice B m.length d])) (by kernel_rfl) HDR.out.box (λht=>?_);generalize w0.drew=w1 at*
   refine af 0 (.pointer (some ⟨gm,0,none⟩)) ht ?_ ?_
   .intro W9 hSw;go_simp
   try simp only[ab]
   refine af 1 (.pointer (some ⟨gm,0,none⟩)) ht ?_ ?_
   .intro W9 hSw;go_simp
   try simp only[ab]
   refine af 2 (.pointer (some ⟨gm,0,none⟩)) ht ?_ ?_
   .intro W9 hSw;go_simp
   try simp only[ab]
   refine af 3 (.pointer (some ⟨gm,0,none⟩)) ht ?_ ?_
   .intro W9 hSw;go_simp
   try simp only[ab]
   refine af 5 (.string ⟨(text P).toArray⟩) ht ?_ ?_
   .intro W9 hSw;go_simp
   try simp only[ab]
   refine af 6 (.pointer (some ⟨w.heap.size,0,none⟩)) ht ?_ ?_
   .intro W9 hSw;go_simp
   try simp only[ab]
   refine af 7 (.int .i64 k) ht ?_ ?_
   .intro W9 hSw;obtain⟨f0,f1,f2,f3,f4,f5,f6,f7⟩:=hSw.eight;go_simp
   try simp only[ab]
   refine af 8 (.bool (k==1)) ht ?_ ?_
   .intro W9 hSw;go_simp
   try simp only[ab]
   refine af 9 (.pointer (some ⟨w.heap.size,1,none⟩)) ht ?_ ?_
   .intro W9 hSw;go_simp
   try simp only[ab]
   refine af 10 (.bool b) ht ?_ ?_
   .intro W9 hSw;obtain⟨f0,f1,f2,f3,f4,f5,f6,f7⟩:=hSw.eight;go_simp
   try simp only[ab]
   refine af 11 (.agg #[.string ⟨(text P).toArray⟩,.bool (k==1),b,.slice none 0 0]) ht ?_ ?_
   .intro W9 hSw;go_simp
   try simp only[ab]
   refine MG (rs:=[4,12]) (by kernel_rfl) (by simp) ?_;refine La (o:=⟨some _,_,_,_,_,_⟩) rfl (λK hK=>?_) (La (o:=⟨some _,_,_,_,_,_⟩) rfl (λK hK=>?_) (Mm))
   .obtain⟨t0,t1,t2,t3,t4,t5⟩:=HDR.out.maker.blk.three;go_simp;refine hK.out _ _ ht (λht=>?_);clear hK K t0 t1 t2 t3 t4 t5;try simp only[ab]
    refine bz 12 λK hK=>?_;go_simp;refine jN (K:=K) (λW9=>(λW9=>Blk W9 w.heap.size 31 #[.int .i64 k,b,n.neg,n.digits,.int .i64 n.exp,s,.slice Al l.length e,.slice B m.length d]) W9/\Blk W9 w1.heap.size 39 #[.string ⟨(text P).toArray⟩,.bool (k==1),b,.slice none 0 0]/\aS w gm Y A #[.int .i64 k,b,n.neg,n.digits,.int .i64 n.exp,s,.slice Al l.length e,.slice B m.length d] A cp acc 0 p none 0 [] (λ_=>False) W9) ⟨ht.alloc _,Blk.new w1 _ _,HDR.out.next ((Ji _ _).alloc (Jh _) _)⟩ ?_;rintro w3 ⟨ht3,hn,hr3⟩;have HN:=Jf hn;clear hn ht;refine hK.out _ _ ht3 (λht=>?_);clear hK K ht3;try simp only[ab]
    obtain⟨gN,hgN⟩:∃g,g=w1.heap.size:=⟨_,rfl⟩;rw[<-hgN] at HN ⊢;clear hgN HDR;have HDR:=Jf hr3;clear hr3;obtain⟨flat,hown,hpush⟩:=bI.push (It:=ItN) (λh=>ItN.mono h) rfl HDR.out.maker.row;obtain⟨i0,hi0,hz0,hz1,hz2⟩:=qW;have hsz3:gm+1<=w3.heap.size:=HDR.out.maker.lt;refine bz 13 λK hK=>?_;refine LF _ rfl _ _ _ rfl (gm+1) 39 i0 _ 4 48 Tryz.underlying23 hi0 hz0 hz1 hz2 rfl (by omega) (.slice A acc.length cp) acc.length flat rfl hown ⟨gN,0,none⟩ 1 1 (#[.string ⟨(text P).toArray⟩,.bool (k==1),b,.slice none 0 0]:Array Value).toList rfl rfl (JU HN.out) (by simp[Value.oneCell']) (by omega) (by unfold maxLen;omega) (by omega) hsz3 _ rfl ?_;intro g6 cap6 w6 hown6 hgr6 hat6 hlt6;have hro:=sr (λad e=>(HDR.out.maker.row.le).2.2 ad e) hgr6 hat6;have HR6:=Jf (hpush (a:=⟨P,decide (k=1),b,[]⟩) (Rn:=λ_=>False) ⟨none,0,rfl,(λi q h=>by simp at h),Jh _,JE _⟩ (λb h=>h.elim) (by simp[Value.oneCell']) rfl hown6 hgr6 hat6);have HG6:=Jf (HDR.out.grow hro.1 hro.2 HR6.out (by omega));have ht6:=hro.1.blk ht HDR.out.far;have HM6b:=Jf (hro.1.blk HDR.out.maker.blk (λk=>by have:=(HDR.out.maker.rowAt k).1;omega));clear hown6 hgr6 hat6 hown hpush ht hro HR6 HDR HN;refine hK.out _ _ ht6 (λht=>?_);clear hK K ht6;try simp only[ab]
    refine af 14 (.pointer (some ⟨gm,0,none⟩)) ht ?_ ?_
    .intro W9 hSw;go_simp
    try simp only[ab]
    refine af 15 (.pointer (some ⟨gm,0,none⟩)) ht ?_ ?_
    .intro W9 hSw;go_simp
    try simp only[ab]
    refine bz 16 λK hK=>?_;obtain⟨t0,t1,t2,t3,t4,t5⟩:=HM6b.out.three;have zl:=HM6b.out.lt;go_simp;refine jN (K:=K) (λW9=>(λW9=>Blk W9 w.heap.size 31 #[.int .i64 k,b,n.neg,n.digits,.int .i64 n.exp,s,.slice Al l.length e,.slice B m.length d]) W9/\aS w gm Y A #[.int .i64 k,b,n.neg,n.digits,.int .i64 n.exp,s,.slice Al l.length e,.slice B m.length d] (some ⟨g6,0,none⟩) cap6 (acc++[⟨P,decide (k=1),b,[]⟩]) 0 p none 0 [] (λ_=>False) W9) ⟨HG6.out.box,HG6.out⟩ ?_;rintro w7 ⟨ht7,hr7⟩;have HW:=Jf hr7;clear hr7 HG6 HM6b t0 t1 t2 t3 t4 t5 zl;refine hK.out _ _ ht7 (λht=>?_);clear hK K ht7;try simp only[ab]
    refine Ke (by kernel_rfl) ?_ _;clear ht;go_wp2_with fail
    go_meet
    case rel=>exact⟨rfl,_,_,HW.out⟩
   .go_simp;refine jN (K:=K) (λW9=>(λW9=>Blk W9 w.heap.size 31 #[.int .i64 k,b,n.neg,n.digits,.int .i64 n.exp,s,.slice Al l.length e,.slice B m.length d]) W9/\Blk W9 w1.heap.size 39 #[.string ⟨(text P).toArray⟩,.bool (k==1),b,.slice none 0 0]/\aS w gm Y A #[.int .i64 k,b,n.neg,n.digits,.int .i64 n.exp,s,.slice Al l.length e,.slice B m.length d] A cp acc 0 p none 0 [] (λ_=>False) W9) ⟨ht.alloc _,Blk.new w1 _ _,HDR.out.next ((Ji _ _).alloc (Jh _) _)⟩ ?_;rintro w3 ⟨ht3,hn,hr3⟩;have HN:=Jf hn;clear hn ht;refine hK.out _ _ ht3 (λht=>?_);clear hK K ht3;try simp only[ab]
    obtain⟨gN,hgN⟩:∃g,g=w1.heap.size:=⟨_,rfl⟩;rw[<-hgN] at HN ⊢;clear hgN HDR;have HDR:=Jf hr3;clear hr3;refine bz 4 λK hK=>?_;obtain⟨t0,t1,t2,t3,t4,t5⟩:=HDR.out.maker.blk.three;go_simp;refine hK.out _ _ ht (λht=>?_);clear hK K t0 t1 t2 t3 t4 t5;try simp only[ab]
    obtain⟨flat,hown,hpush⟩:=bI.push (It:=ItN) (λh=>ItN.mono h) rfl HDR.out.maker.row;obtain⟨i0,hi0,hz0,hz1,hz2⟩:=qW;have hsz3:gm+1<=w3.heap.size:=HDR.out.maker.lt;refine bz 13 λK hK=>?_;refine LF _ rfl _ _ _ rfl (gm+1) 39 i0 _ 4 48 Tryz.underlying23 hi0 hz0 hz1 hz2 rfl (by omega) (.slice A acc.length cp) acc.length flat rfl hown ⟨gN,0,none⟩ 1 1 (#[.string ⟨(text P).toArray⟩,.bool (k==1),b,.slice none 0 0]:Array Value).toList rfl rfl (JU HN.out) (by simp[Value.oneCell']) (by omega) (by unfold maxLen;omega) (by omega) hsz3 _ rfl ?_;intro g6 cap6 w6 hown6 hgr6 hat6 hlt6;have hro:=sr (λad e=>(HDR.out.maker.row.le).2.2 ad e) hgr6 hat6;have HR6:=Jf (hpush (a:=⟨P,decide (k=1),b,[]⟩) (Rn:=λ_=>False) ⟨none,0,rfl,(λi q h=>by simp at h),Jh _,JE _⟩ (λb h=>h.elim) (by simp[Value.oneCell']) rfl hown6 hgr6 hat6);have HG6:=Jf (HDR.out.grow hro.1 hro.2 HR6.out (by omega));have ht6:=hro.1.blk ht HDR.out.far;have HM6b:=Jf (hro.1.blk HDR.out.maker.blk (λk=>by have:=(HDR.out.maker.rowAt k).1;omega));clear hown6 hgr6 hat6 hown hpush ht hro HR6 HDR HN;refine hK.out _ _ ht6 (λht=>?_);clear hK K ht6;try simp only[ab]
    refine af 14 (.pointer (some ⟨gm,0,none⟩)) ht ?_ ?_
    .intro W9 hSw;go_simp
    try simp only[ab]
    refine af 15 (.pointer (some ⟨gm,0,none⟩)) ht ?_ ?_
    .intro W9 hSw;go_simp
    try simp only[ab]
    refine bz 16 λK hK=>?_;obtain⟨t0,t1,t2,t3,t4,t5⟩:=HM6b.out.three;have zl:=HM6b.out.lt;go_simp;refine jN (K:=K) (λW9=>(λW9=>Blk W9 w.heap.size 31 #[.int .i64 k,b,n.neg,n.digits,.int .i64 n.exp,s,.slice Al l.length e,.slice B m.length d]) W9/\aS w gm Y A #[.int .i64 k,b,n.neg,n.digits,.int .i64 n.exp,s,.slice Al l.length e,.slice B m.length d] (some ⟨g6,0,none⟩) cap6 (acc++[⟨P,decide (k=1),b,[]⟩]) 0 p none 0 [] (λ_=>False) W9) ⟨HG6.out.box,HG6.out⟩ ?_;rintro w7 ⟨ht7,hr7⟩;have HW:=Jf hr7;clear hr7 HG6 HM6b t0 t1 t2 t3 t4 t5 zl;refine hK.out _ _ ht7 (λht=>?_);clear hK K ht7;try simp only[ab]
    refine Ke (by kernel_rfl) ?_ _;clear ht;go_wp2_with fail
    go_meet
    case rel=>exact⟨rfl,_,_,HW.out⟩
  case rest=>
   obtain⟨rfl,A1,c1,hNW⟩:=hcut;have HW1:=Jf hNW;clear hNW HW g0 g1 g2 g3 g4 g5;go_wp2_with fail
   go_loopw [7,8] (λo7 i8 wr=>∃(i:Nat) (A2:Option Addr) (c2:Nat) (acc2:List Cm.Node) (bad2:Nat) (p2:Jd) (Ak:Option Addr) (ck:Nat) (keys:List Cm.Key),o7=.slice Ak i ck/\i8=.int .i64 i/\i<=m.length/\keys.length=i/\aS w gm Y A #[.int .i64 k,b,n.neg,n.digits,.int .i64 n.exp,s,.slice Al l.length e,.slice B m.length d] A2 c2 acc2 bad2 p2 Ak ck keys (λ_=>False) wr/\wI f acc p P k b m i keys acc2 bad2 p2) (λ_ i _=>m.length-(intOf i).toNat)
   case atStart=>exact⟨0,A1,c1,_,0,p,none,0,[],rfl,rfl,JE _,rfl,HW1.out,.inl ⟨[],rfl,rfl,rfl,rfl⟩⟩
   case round=>
    obtain⟨i,A2,c2,acc2,bad2,p2,Ak,ck,keys,rfl,rfl,hi,hlen2,hNW,hmode⟩:=hrel;clear HW1;have HW:=Jf hNW;have HMD:=Jf hmode;have HKL:=Jf hlen2;clear hNW hmode hlen2;obtain⟨t0,t1,t2,t3,t4,t5⟩:=HW.out.maker.blk.three;obtain⟨f0,f1,f2,f3,f4,f5,f6,f7⟩:=HW.out.box.eight;by_cases hgo:i<m.length/\bad2=0
    .skip
     obtain⟨hlt,rfl⟩:=hgo;have hlt2:(i:Int)<(m.length:Int):=by omega
     obtain⟨g,o,y,rfl,hy,hnm,hc⟩:=HM6.out i _ (Jg hlt);obtain⟨y_1,y_2,y_3,y_4,y_5,y_6,y_7,y_8,y_9,y_a,y_b,y_c,rfl⟩:=In.cells hy;have hcl:Cl.le (w.on S) wr.cell?:=(HW.out.but.on (S':=S) (λb k=>k) (λb k _=>(HS.out b k).2.1)).trans (my _ _);have hsv:=er (Jv hlt);have hsl2:=(dE 1000000 m).1 (by have h:=HSL.out;simp only[Vl.bL] at h;exact h.2.2.2) _ (Jv hlt);have HNX:=Jf (λkeys r (h:Cm.av (Cm.node f) P (acc.length+1) (m.take i)=.ok (keys,r))=>Cm.Ao hlt h);have e9:=hcl _ _ hnm;have HC:=Jf (hc.keep hcl);have HY:=Jf hy;clear hy hnm hc hcl f0 f1 f2 f3 f4 f5 f6;generalize m[i]'hlt=q at*
     obtain⟨nm,v⟩:=q;simp only at hsv hsl2 e9 HNX HY;obtain⟨hnl,hvsl⟩:=hsl2;simp only[Vl.size] at hvf hsz hlen;have hvz:v.size<=f/\v.size<=1000000:=by omega
     have htl:(text [nm]).length<=2500000:=by
      have:=eG 1000000 [nm] (λn hn=>by rw[Jt.1 hn];exact hnl);simp at this;omega
     have hplen:(text P).length<=9999995000000/\(text (P++[nm])).length+5000000*v.size+2000001<=10000000000000:=by
      rw[bK,Jk];omega
     have HP:=Jf (λW (h:Strs W.cell? (some ⟨wr.heap.size,0,none⟩) [nm])=>l7 [nm] (some ⟨wr.heap.size,0,none⟩) 1 W h (Jh _) (by unfold maxLen;omega) (by omega));have hcat:∀W,(Op.stringOp .add ⟨(text P).toArray⟩ ⟨(text [nm]).toArray⟩).run Tryz.prog W=.ok (.string ⟨(text (P++[nm])).toArray⟩) W:=λW=>by rw[bK];exact bR W _ _ (by omega)
     have HPL:=Jf hplen;have HVZ:=Jf hvz;have hgl:=Jn _ _ e9;clear hplen hvz htl hsv;go_upto_region 12 with(fail);go_wp2_with fail;refine(HP.out _ (mJ wr _ nm)).mono ?_;rintro e2 w2 ⟨rfl,hb2⟩;have hb3:=((Ji wr.heap.size wr).alloc (Jh _) (.cells #[.string ⟨nm.toArray⟩] 9)).trans (hb2.mono (by simp));have HW2:=Jf (HW.out.next hb3);have HSH:=Jf (vQ nm v _ w2 (In.keep ((HW2.out.but.on (S':=S) (λb k=>k) (λb k _=>(HS.out b k).2.1)).trans (my _ _)) _ _ HY.out) (by have:=HVZ.out;omega));have HC2:=Jf (HC.out.keep (aa hb3));clear HW hb2 hb3 HP HC t0 t1 t2 t3 t4 t5 f7 e9;obtain⟨t0,t1,t2,t3,t4,t5⟩:=HW2.out.maker.blk.three;obtain⟨f0,f1,f2,f3,f4,f5,f6,f7⟩:=HW2.out.box.eight;obtain⟨e0,e1,e2,e3,e4,e5,e6,e7⟩:=HC2.out.eight;clear f0 f1 f2 f3 f4 f5 f6;go_wp2_with fail;refine HSH.out.mono ?_;rintro e3 w3 ⟨rfl,hb4⟩;have HW3:=Jf (HW2.out.next hb4);have HC3:=Jf (HC2.out.keep (aa hb4));clear HW2 HC2 HSH hb4 t0 t1 t2 t3 t4 t5 f7 e0 e1 e2 e3 e4 e5 e6 e7;obtain⟨sh,hsh⟩:∃sh,sh=Sh.shape nm v:=⟨_,rfl⟩;rw[<-hsh];have HSH:=Jf hsh;clear hsh;obtain⟨r1,hm1,hacc2,_,hp2⟩:∃r,Cm.av (Cm.node f) P (acc.length+1) (m.take i)=.ok (keys,r)/\acc2=acc++⟨P,decide (k=1),b,[]⟩::r/\(0:Nat)=0/\p2=p:=by
      rcases HMD.out with h|⟨c,q,_,h2,_,h4,_,_⟩
      .exact h
      .exact absurd h4.symm h2
     have HN1:=Jf (HNX.out _ _ hm1);have HM1:=Jf hm1;have HA1:=Jf hacc2;have HP2:=Jf hp2;clear hm1 hacc2 hp2 HNX HMD;obtain⟨t0,t1,t2,t3,t4,t5⟩:=HW3.out.maker.blk.three;by_cases hsh0:sh=0
     .have hs0:((sh:Int) !=0)=false:=by simp[hsh0]
      obtain⟨f0,f1,f2,f3,f4,f5,f6,f7⟩:=HW3.out.box.eight;obtain⟨e0,e1,e2,e3,e4,e5,e6,e7⟩:=HC3.out.eight;clear f0 f1 f2 f3 f4 f5 f6 t0 t1 t2 t3 t4 t5;go_upto_region 18 with(fail);have HK:=Jf (fq.start (kc:=[.string ⟨nm.toArray⟩,.int .i64 y_1,.bool y_2,.bool y_3,.string ⟨y_4.toArray⟩,.int .i64 y_5,.string ⟨y_6.toArray⟩,.slice y_7 y_8 y_9,.slice y_a y_b y_c]) HW3.out ((Ji w3.heap.size w3).alloc (Jh _) (.cells #[nm,.int .i64 y_1,y_2,y_3,y_4,.int .i64 y_5,y_6,.slice y_7 y_8 y_9,.slice y_a y_b y_c,.slice none 0 0] 68)) (Blk.new w3 _ _));have HC4:=Jf (HC3.out.keep (aa ((Ji w3.heap.size w3).alloc (Jh _) (.cells #[nm,.int .i64 y_1,y_2,y_3,y_4,.int .i64 y_5,y_6,.slice y_7 y_8 y_9,.slice y_a y_b y_c,.slice none 0 0] 68))));clear e0 e1 e2 e3 e4 e5 e6 e7 f7 HW3 HC3;generalize w3.alloc (.cells #[nm,.int .i64 y_1,y_2,y_3,y_4,.int .i64 y_5,y_6,.slice y_7 y_8 y_9,.slice y_a y_b y_c,.slice none 0 0] 68)=w4 at*
      generalize w3.heap.size=gk at*
      have HKD:=Jf (yw S nm v _ w4 (λb hb=>JN (HS.out b hb).1 HK.out.node.but.size) (In.keep (HK.out.node.but.on (λb k=>k) (λb k _=>(HS.out b k).2.1)) _ _ HY.out) HVZ.out.2);have HSG:=Jf (eE nm);obtain⟨f0,f1,f2,f3,f4,f5,f6,f7⟩:=HK.out.node.box.eight;obtain⟨e0,e1,e2,e3,e4,e5,e6,e7⟩:=HC4.out.eight;clear f0 f1 f2 f3 f4 f5 f6;go_wp2_with fail;refine HKD.out.mono ?_;rintro e5 w5 ⟨B5,cb5,rfl,hsm,hle1,hle2,hb5⟩;have HK5:=Jf (HK.out.next hb5);have HOF:=Jf (HK.out.J9 (W5:=w5) HS.out);have HSM:=Jf (hsm.keep (dN (w:=w5) (w':=w5) (S':=λb=>(S b\/w4.heap.size<=b)/\b<w5.heap.size) (λb h h2=>⟨h,h2⟩) (λ_ _ _=>rfl)));have hkl:=Ab nm v;have HKS:=Jf (λq (hq:q∈Sh.kids nm v)=>(kW (by omega) hvsl HVZ.out.2 hq));have HKZ:=Jf (λq (hq:q∈Sh.kids nm v)=>Cm.jE hq);have HN2:=Jf (HN1.out.2 (by rw[<-HSH.out];exact hsh0));clear hsm hb5 HK HKD HC4 e0 e1 e2 e3 e4 e5 e6 e7 f7 HN1;generalize Sh.kids nm v=kids at*
      generalize (λb=>(S b\/w4.heap.size<=b)/\b<w5.heap.size)=Sk at*
      go_wp2_with fail;refine(HSG.out _).mono ?_;rintro e6 w6 ⟨rfl,hw6⟩;rw[hw6];clear hw6 w6;generalize Sh.single nm=sg at*
      go_wp2_with fail;clear hle1 hle2
      go_loopw [15] (λi15 wr=>∃(j:Nat) (A3:Option Addr) (c3:Nat) (acc3:List Cm.Node) (bad3:Nat) (p3:Jd) (Ad:Option Addr) (cd:Nat) (ks:List (Jd×Nat)),i15=.int .i64 j/\j<=kids.length/\ks.length=j/\fq w gm Y A #[.int .i64 k,b,n.neg,n.digits,.int .i64 n.exp,s,.slice Al l.length e,.slice (some ⟨g,o,none⟩) m.length d] A3 c3 acc3 bad3 p3 Ak ck keys gk [.string ⟨nm.toArray⟩,.int .i64 y_1,.bool y_2,.bool y_3,.string ⟨y_4.toArray⟩,.int .i64 y_5,.string ⟨y_6.toArray⟩,.slice y_7 y_8 y_9,.slice y_a y_b y_c] Ad cd ks wr/\SlM (wr.on Sk) B5 kids/\wK Sk gm Y A3 Ak gk Ad wr/\tD f sg (P++[nm]) kids acc2 p j ks acc3 bad3 p3) (λi _=>kids.length-(intOf i).toNat)
      case atStart=>exact⟨0,A2,c2,acc2,0,p2,none,0,[],rfl,JE _,rfl,HK5.out,HSM.out,HOF.out,.inl ⟨[],rfl,by simp,rfl,HP2.out⟩⟩
      case round=>
       obtain⟨j,A3,c3,acc3,bad3,p3,Ad,cd,ks,rfl,hj,hks,hK,hsm,hof,hmode⟩:=hrel;have HK:=Jf hK;have HSM3:=Jf hsm;have HOF3:=Jf hof;have HMD:=Jf hmode;have HKS3:=Jf hks;clear hK hsm hof hmode hks HK5 HSM HOF;by_cases hlt3:j<kids.length
       .have hlt4:(j:Int)<(kids.length:Int):=by omega
        obtain⟨gK,oK,u,rfl,hu,hkn,hkc⟩:=HSM3.out j _ (Jg hlt3);obtain⟨u_1,u_2,u_3,u_4,u_5,u_6,u_7,u_8,u_9,u_a,u_b,u_c,rfl⟩:=In.cells hu;have hq1:=HKS.out _ (Jv hlt3);have hq2:=HKZ.out _ (Jv hlt3);have HNX2:=Jf (λks a (h:Cm.ar (Cm.node f) sg (P++[nm]) acc2.length (kids.take j)=.ok (ks,a))=>Cm.zZ hlt3 h);have hofk:=HOF3.out gK (ah.1 hkn).1;have HOFK:=Jf (ah.1 hkn).1;have e9:=(ah.1 hkn).2;have HKC:=Jf (hkc.keep (my _ _));have HU:=Jf hu;clear hu hkn hkc;generalize kids[j]'hlt3=q at*
        obtain⟨key,kv⟩:=q;simp only at hq1 hq2 e9 HNX2 HU;obtain⟨hkl2,hksl⟩:=hq1;have htk:(text [key]).length<=2000001:=by
         have:=eG 1000000 [key] (λn hn=>by rw[Jt.1 hn];exact hkl2);simp at this;omega
        have hpl:=HPL.out;have hvz2:=HVZ.out;have htp:(text (P++[nm])).length<=10000000000000:=by omega
        have HPK:=Jf (λW (h:Strs W.cell? (some ⟨wr.heap.size,0,none⟩) [key])=>l7 [key] (some ⟨wr.heap.size,0,none⟩) 1 W h (Jh _) (by unfold maxLen;omega) (by omega));have hcat2:∀W,(Op.stringOp .add ⟨(text (P++[nm])).toArray⟩ ⟨(text [key]).toArray⟩).run Tryz.prog W=.ok (.string ⟨(text (P++[nm]++[key])).toArray⟩) W:=λW=>by rw[bK (P++[nm])];exact bR W _ _ (by omega)
        have HNL:=Jf (show(text (if sg=true then P++[nm] else P++[nm]++[key])).length+5000000*kv.size<=10000000000000 by
         have h5:(text (P++[nm]++[key])).length=(text (P++[nm])).length+(text [key]).length:=by rw[bK (P++[nm]),Jk]
         split
         .omega
         .omega)
        clear htk hpl htp;have hgkl:=hofk.1;obtain⟨NX,hNX⟩:∃NX,NX=if sg=true then P++[nm] else P++[nm]++[key]:=⟨_,rfl⟩
        rw[<-hNX] at HNL;have HNXE:=Jf hNX;clear hNX;go_upto_if 121 with(fail)
        obtain⟨ns,hns⟩:∃ns,(!sg)=ns:=⟨_,rfl⟩;rw[hns];have HNS:=Jf hns;clear hns;go_cut [16] from 121 to 130 (λv16 wc=>v16=.string ⟨(text NX).toArray⟩/\Below wr.heap.size wr wc);case first=>
         go_wp2_with fail
         .have hsg:ns=true:=by assumption
          have hsgn:Hid (sg=false):=Jf (by have:=HNS.out;rw[hsg] at this;simpa using this);refine(HPK.out _ (mJ wr _ key)).mono ?_;rintro e7 w7 ⟨rfl,hb7⟩;have HB7:=Jf (((Ji wr.heap.size wr).alloc (Jh _) (.cells #[.string ⟨key.toArray⟩] 9)).trans (hb7.mono (by simp)));clear hb7;go_wp2_with fail
          go_meet
          case rel=>exact⟨by rw[HNXE.out,hsgn.out,Jj (by decide)];simp,HB7.out⟩
         .have hsg:ns=false:=by assumption
          have hsgn:Hid (sg=true):=Jf (by have:=HNS.out;rw[hsg] at this;simpa using this)
          go_meet
          case rel=>exact⟨by rw[HNXE.out,Jo hsgn.out],Ji _ _⟩
        case rest=>
         obtain⟨rfl,hbw⟩:=hcut;obtain⟨wa,hwa⟩:∃W,W=wc:=⟨_,rfl⟩;subst hwa;have HK7:=Jf (HK.out.next hbw);have HOF7:=Jf (HOF3.out.step (aW.refl _ _) (aW.refl _ _) hbw.size);have hle7:Cl.le (wr.on Sk) (wa.on Sk):=dN (λb h _=>h) (λb h _=>hbw.block b (HOF3.out b h).1);have HSM7:=Jf (HSM3.out.keep hle7);have HU7:=Jf (In.keep hle7 _ _ HU.out);have HKC7:=Jf (HKC.out.keep (aa hbw));have e97:=aa hbw _ _ e9;have hofk7:=HOF7.out gK HOFK.out;clear HK HOF3 hle7 HSM3 HU HKC e9 hofk hbw HPK hcat2 hgkl;go_upto_region 26 with(fail);go_cut [146] from 131 to 146 (λv146 wc=>v146=.pointer (some ⟨gk,9,none⟩)/\∃(Ad2:Option Addr) (cd2:Nat),fq w gm Y A #[.int .i64 k,b,n.neg,n.digits,.int .i64 n.exp,s,.slice Al l.length e,.slice (some ⟨g,o,none⟩) m.length d] A3 c3 acc3 bad3 p3 Ak ck keys gk [.string ⟨nm.toArray⟩,.int .i64 y_1,.bool y_2,.bool y_3,.string ⟨y_4.toArray⟩,.int .i64 y_5,.string ⟨y_6.toArray⟩,.slice y_7 y_8 y_9,.slice y_a y_b y_c] Ad2 cd2 (ks++[(key,acc3.length)]) wc/\aW Ad Ad2 wa/\But (λb=>b=gk\/Bk Ad b) wa wc);case first=>
          have HDR:=Jf (show fq w gm Y A #[.int .i64 k,b,n.neg,n.digits,.int .i64 n.exp,s,.slice Al l.length e,.slice (some ⟨g,o,none⟩) m.length d] A3 c3 acc3 bad3 p3 Ak ck keys gk [.string ⟨nm.toArray⟩,.int .i64 y_1,.bool y_2,.bool y_3,.string ⟨y_4.toArray⟩,.int .i64 y_5,.string ⟨y_6.toArray⟩,.slice y_7 y_8 y_9,.slice y_a y_b y_c] Ad cd ks wa.drew from HK7.out.next (below_drewN (Ji _ _) 1));have HBD:=Jf (show But (λb=>b=gk\/Bk Ad b) wa wa.drew from But.of (below_drewN (Ji _ _) 1));have hksz:ks.length<=1000000:=by have:=HKS3.out;omega
          have hggk:¬gm=gk:=by have:=HK7.out.gt;have:=HK7.out.node.lt;omega
          refine JT (S:=(λW9=>Blk W9 gm 105 #[.slice A3 acc3.length c3,.int .i64 bad3,p3]/\W9.cell? ⟨gK,oK+j*9,none⟩=some (.string ⟨key.toArray⟩))) (by kernel_rfl) ⟨HDR.out.node.maker.blk,e97⟩ (λht=>?_);have HSZ8:=Jf (show wa.heap.size<=wa.drew.heap.size from Jh _);generalize wa.drew=w8 at*
          refine af 0 (.pointer (some ⟨gk,9,none⟩)) ht ?_ ?_
          .intro W9 hSw;go_simp
          try simp only[ab]
          refine af 2 (.slice (some ⟨gK,oK,none⟩) kids.length cb5) ht ?_ ?_
          .intro W9 hSw;go_simp
          try simp only[ab]
          refine af 3 (.int .i64 j) ht ?_ ?_
          .intro W9 hSw;go_simp
          try simp only[ab]
          refine af 4 (.pointer (some ⟨gK,oK+j*9,none⟩)) ht ?_ ?_
          .intro W9 hSw;go_simp
          try simp only[ab]
          refine af 5 (.pointer (some ⟨gK,oK+j*9,none⟩)) ht ?_ ?_
          .intro W9 hSw;go_simp
          try simp only[ab]
          refine af 6 (.string ⟨key.toArray⟩) ht ?_ ?_
          .intro W9 hSw;obtain⟨_,hs2⟩:=hSw;go_simp
          try simp only[ab]
          refine af 7 (.pointer (some ⟨gm,0,none⟩)) ht ?_ ?_
          .intro W9 hSw;go_simp
          try simp only[ab]
          refine af 8 (.pointer (some ⟨gm,0,none⟩)) ht ?_ ?_
          .intro W9 hSw;go_simp
          try simp only[ab]
          refine af 9 (.pointer (some ⟨gm,0,none⟩)) ht ?_ ?_
          .intro W9 hSw;go_simp
          try simp only[ab]
          refine af 10 (.slice A3 acc3.length c3) ht ?_ ?_
          .intro W9 hSw;obtain⟨t0,t1,t2,t3,t4,t5⟩:=hSw.1.three;go_simp
          try simp only[ab]
          refine af 11 (.int .i64 acc3.length) ht ?_ ?_
          .intro W9 hSw;go_simp
          try simp only[ab]
          refine af 12 (.agg #[key,.int .i64 acc3.length]) ht ?_ ?_
          .intro W9 hSw;go_simp
          try simp only[ab]
          refine MG (rs:=[1,13]) (by kernel_rfl) (by simp) ?_;refine La (o:=⟨some _,_,_,_,_,_⟩) rfl (λK hK=>?_) (La (o:=⟨some _,_,_,_,_,_⟩) rfl (λK hK=>?_) (Mm))
          .obtain⟨z0,z1,z2,z3,z4,z5,z6,z7,z8,z9⟩:=HDR.out.key.ten;go_simp;refine hK.out _ _ ht (λht=>?_);clear hK K z0 z1 z2 z3 z4 z5 z6 z7 z8 z9;try simp only[ab]
           refine bz 13 λK hK=>?_;go_simp;refine jN (K:=K) (λW9=>(λW9=>Blk W9 gm 105 #[.slice A3 acc3.length c3,.int .i64 bad3,p3]/\W9.cell? ⟨gK,oK+j*9,none⟩=some (.string ⟨key.toArray⟩)) W9/\Blk W9 w8.heap.size 109 #[key,.int .i64 acc3.length]/\fq w gm Y A #[.int .i64 k,b,n.neg,n.digits,.int .i64 n.exp,s,.slice Al l.length e,.slice (some ⟨g,o,none⟩) m.length d] A3 c3 acc3 bad3 p3 Ak ck keys gk [.string ⟨nm.toArray⟩,.int .i64 y_1,.bool y_2,.bool y_3,.string ⟨y_4.toArray⟩,.int .i64 y_5,.string ⟨y_6.toArray⟩,.slice y_7 y_8 y_9,.slice y_a y_b y_c] Ad cd ks W9/\But (λb=>b=gk\/Bk Ad b) wa W9/\w8.heap.size<=W9.heap.size) ⟨⟨ht.1.alloc _,(aT _ _ _ _ ht.2)⟩,Blk.new w8 _ _,HDR.out.next ((Ji _ _).alloc (Jh _) _),HBD.out.trans (But.of ((Ji _ _).alloc (Jh _) _) (X:=λb=>b=gk\/Bk Ad b)) (λ_ _ k=>k),by simp⟩ ?_;rintro w3 ⟨ht3,hn,hr3,hb3,hs3⟩;have HN:=Jf hn;clear hn ht;refine hK.out _ _ ht3 (λht=>?_);clear hK K ht3;try simp only[ab]
           obtain⟨gN,hgN⟩:∃g,g=w8.heap.size:=⟨_,rfl⟩;rw[<-hgN] at HN ⊢;have hsw:wa.heap.size<=w3.heap.size:=by have:=HSZ8.out;omega
           clear hgN HDR HBD hs3;have HDR:=Jf hr3;have HBD:=Jf hb3;clear hr3 hb3;obtain⟨flat,hown,hpush⟩:=bI.push (It:=gd) (λh=>gd.mono h) rfl HDR.out.kids;obtain⟨i0,hi0,hz0,hz1,hz2⟩:=BM;have hsz3:gk+1<=w3.heap.size:=HDR.out.key.lt;refine bz 14 λK hK=>?_;refine LF _ rfl _ _ _ rfl (gk+1) 109 i0 _ 2 24 Tryz.underlying66 hi0 hz0 hz1 hz2 rfl (by omega) (.slice Ad ks.length cd) ks.length flat rfl hown ⟨gN,0,none⟩ 1 1 (#[key,.int .i64 acc3.length]:Array Value).toList rfl rfl (JU HN.out) (by simp[Value.oneCell']) (by omega) (by unfold maxLen;omega) (by omega) hsz3 _ rfl ?_;intro g6 cap6 w6 hown6 hgr6 hat6 hlt6;have hro:=sr (bI.le HDR.out.kids).2.2 hgr6 hat6;have HR6:=Jf (hpush (a:=(key,acc3.length)) (Rn:=λ_=>False) rfl (λb h=>h.elim) (by simp[Value.oneCell']) rfl hown6 hgr6 hat6);have hg6:=HDR.out.grow rfl hro.1 hro.2 HR6.out;rw[show(ks++[(key,acc3.length)]).length=ks.length+1 by simp] at hg6;have HG6:=Jf hg6;have HBE:=Jf ((HBD.out.trans hro.1 (λ_ _ k=>.inr k)).set (p:=⟨gk,9,none⟩) (.inr (.inl rfl)) (.slice (some ⟨g6,0,none⟩) (ks.length+1) cap6));have HRO:=Jf (show aW Ad (some ⟨g6,0,none⟩) wa fromλb hb=>(hro.2 b hb).imp id (λk=>by omega));have HKB:=Jf (hro.1.blk HDR.out.key (λk=>by have:=(HDR.out.lP k).1;omega));have ht6:(λW9=>Blk W9 gm 105 #[.slice A3 acc3.length c3,.int .i64 bad3,p3]/\W9.cell? ⟨gK,oK+j*9,none⟩=some (.string ⟨key.toArray⟩)) w6:=⟨hro.1.blk ht.1 (λk=>(HDR.out.lP k).2.2 (.inl rfl)),(Ka (hro.1.block gK (by omega) (λk=>hofk7.2.2 (.inr (.inr (.inr k)))))).trans ht.2⟩;have hgKk:¬gK=gk:=λk=>hofk7.2.2 (.inr (.inr (.inl k)));clear hown6 hgr6 hat6 hown hpush ht hro HR6 HDR HN HBD hg6;refine hK.out _ _ ht6 (λht=>?_);clear hK K ht6;try simp only[ab]
           refine af 15 (.pointer (some ⟨gk,9,none⟩)) ht ?_ ?_
           .intro W9 hSw;go_simp
           try simp only[ab]
           refine bz 16 λK hK=>?_;obtain⟨z0,z1,z2,z3,z4,z5,z6,z7,z8,z9⟩:=HKB.out.ten;have zf:=HKB.out.frozen 9;have zl:=HKB.out.lt;go_simp;refine jN (K:=K) (λW9=>(λW9=>Blk W9 gm 105 #[.slice A3 acc3.length c3,.int .i64 bad3,p3]/\W9.cell? ⟨gK,oK+j*9,none⟩=some (.string ⟨key.toArray⟩)) W9/\fq w gm Y A #[.int .i64 k,b,n.neg,n.digits,.int .i64 n.exp,s,.slice Al l.length e,.slice (some ⟨g,o,none⟩) m.length d] A3 c3 acc3 bad3 p3 Ak ck keys gk [.string ⟨nm.toArray⟩,.int .i64 y_1,.bool y_2,.bool y_3,.string ⟨y_4.toArray⟩,.int .i64 y_5,.string ⟨y_6.toArray⟩,.slice y_7 y_8 y_9,.slice y_a y_b y_c] (some ⟨g6,0,none⟩) cap6 (ks++[(key,acc3.length)]) W9/\But (λb=>b=gk\/Bk Ad b) wa W9) ⟨⟨HG6.out.node.maker.blk,(Ka (JG _ _ _ gK hgKk)).trans ht.2⟩,HG6.out,HBE.out⟩ ?_;rintro w7 ⟨ht7,hr7,hb7⟩;have HKN:=Jf hr7;have HBN:=Jf hb7;clear hr7 hb7 HG6 HBE HKB z0 z1 z2 z3 z4 z5 z6 z7 z8 z9 zf zl;refine hK.out _ _ ht7 (λht=>?_);clear hK K ht7;try simp only[ab]
           refine Ke (by kernel_rfl) ?_ _;clear ht;go_wp2_with fail
           go_meet
           case rel=>exact⟨rfl,_,_,HKN.out,HRO.out,HBN.out⟩
          .go_simp;refine jN (K:=K) (λW9=>(λW9=>Blk W9 gm 105 #[.slice A3 acc3.length c3,.int .i64 bad3,p3]/\W9.cell? ⟨gK,oK+j*9,none⟩=some (.string ⟨key.toArray⟩)) W9/\Blk W9 w8.heap.size 109 #[key,.int .i64 acc3.length]/\fq w gm Y A #[.int .i64 k,b,n.neg,n.digits,.int .i64 n.exp,s,.slice Al l.length e,.slice (some ⟨g,o,none⟩) m.length d] A3 c3 acc3 bad3 p3 Ak ck keys gk [.string ⟨nm.toArray⟩,.int .i64 y_1,.bool y_2,.bool y_3,.string ⟨y_4.toArray⟩,.int .i64 y_5,.string ⟨y_6.toArray⟩,.slice y_7 y_8 y_9,.slice y_a y_b y_c] Ad cd ks W9/\But (λb=>b=gk\/Bk Ad b) wa W9/\w8.heap.size<=W9.heap.size) ⟨⟨ht.1.alloc _,(aT _ _ _ _ ht.2)⟩,Blk.new w8 _ _,HDR.out.next ((Ji _ _).alloc (Jh _) _),HBD.out.trans (But.of ((Ji _ _).alloc (Jh _) _) (X:=λb=>b=gk\/Bk Ad b)) (λ_ _ k=>k),by simp⟩ ?_;rintro w3 ⟨ht3,hn,hr3,hb3,hs3⟩;have HN:=Jf hn;clear hn ht;refine hK.out _ _ ht3 (λht=>?_);clear hK K ht3;try simp only[ab]
           obtain⟨gN,hgN⟩:∃g,g=w8.heap.size:=⟨_,rfl⟩;rw[<-hgN] at HN ⊢;have hsw:wa.heap.size<=w3.heap.size:=by have:=HSZ8.out;omega
           clear hgN HDR HBD hs3;have HDR:=Jf hr3;have HBD:=Jf hb3;clear hr3 hb3;refine bz 1 λK hK=>?_;obtain⟨z0,z1,z2,z3,z4,z5,z6,z7,z8,z9⟩:=HDR.out.key.ten;go_simp;refine hK.out _ _ ht (λht=>?_);clear hK K z0 z1 z2 z3 z4 z5 z6 z7 z8 z9;try simp only[ab]
           obtain⟨flat,hown,hpush⟩:=bI.push (It:=gd) (λh=>gd.mono h) rfl HDR.out.kids;obtain⟨i0,hi0,hz0,hz1,hz2⟩:=BM;have hsz3:gk+1<=w3.heap.size:=HDR.out.key.lt;refine bz 14 λK hK=>?_;refine LF _ rfl _ _ _ rfl (gk+1) 109 i0 _ 2 24 Tryz.underlying66 hi0 hz0 hz1 hz2 rfl (by omega) (.slice Ad ks.length cd) ks.length flat rfl hown ⟨gN,0,none⟩ 1 1 (#[key,.int .i64 acc3.length]:Array Value).toList rfl rfl (JU HN.out) (by simp[Value.oneCell']) (by omega) (by unfold maxLen;omega) (by omega) hsz3 _ rfl ?_;intro g6 cap6 w6 hown6 hgr6 hat6 hlt6;have hro:=sr (bI.le HDR.out.kids).2.2 hgr6 hat6;have HR6:=Jf (hpush (a:=(key,acc3.length)) (Rn:=λ_=>False) rfl (λb h=>h.elim) (by simp[Value.oneCell']) rfl hown6 hgr6 hat6);have hg6:=HDR.out.grow rfl hro.1 hro.2 HR6.out;rw[show(ks++[(key,acc3.length)]).length=ks.length+1 by simp] at hg6;have HG6:=Jf hg6;have HBE:=Jf ((HBD.out.trans hro.1 (λ_ _ k=>.inr k)).set (p:=⟨gk,9,none⟩) (.inr (.inl rfl)) (.slice (some ⟨g6,0,none⟩) (ks.length+1) cap6));have HRO:=Jf (show aW Ad (some ⟨g6,0,none⟩) wa fromλb hb=>(hro.2 b hb).imp id (λk=>by omega));have HKB:=Jf (hro.1.blk HDR.out.key (λk=>by have:=(HDR.out.lP k).1;omega));have ht6:(λW9=>Blk W9 gm 105 #[.slice A3 acc3.length c3,.int .i64 bad3,p3]/\W9.cell? ⟨gK,oK+j*9,none⟩=some (.string ⟨key.toArray⟩)) w6:=⟨hro.1.blk ht.1 (λk=>(HDR.out.lP k).2.2 (.inl rfl)),(Ka (hro.1.block gK (by omega) (λk=>hofk7.2.2 (.inr (.inr (.inr k)))))).trans ht.2⟩;have hgKk:¬gK=gk:=λk=>hofk7.2.2 (.inr (.inr (.inl k)));clear hown6 hgr6 hat6 hown hpush ht hro HR6 HDR HN HBD hg6;refine hK.out _ _ ht6 (λht=>?_);clear hK K ht6;try simp only[ab]
           refine af 15 (.pointer (some ⟨gk,9,none⟩)) ht ?_ ?_
           .intro W9 hSw;go_simp
           try simp only[ab]
           refine bz 16 λK hK=>?_;obtain⟨z0,z1,z2,z3,z4,z5,z6,z7,z8,z9⟩:=HKB.out.ten;have zf:=HKB.out.frozen 9;have zl:=HKB.out.lt;go_simp;refine jN (K:=K) (λW9=>(λW9=>Blk W9 gm 105 #[.slice A3 acc3.length c3,.int .i64 bad3,p3]/\W9.cell? ⟨gK,oK+j*9,none⟩=some (.string ⟨key.toArray⟩)) W9/\fq w gm Y A #[.int .i64 k,b,n.neg,n.digits,.int .i64 n.exp,s,.slice Al l.length e,.slice (some ⟨g,o,none⟩) m.length d] A3 c3 acc3 bad3 p3 Ak ck keys gk [.string ⟨nm.toArray⟩,.int .i64 y_1,.bool y_2,.bool y_3,.string ⟨y_4.toArray⟩,.int .i64 y_5,.string ⟨y_6.toArray⟩,.slice y_7 y_8 y_9,.slice y_a y_b y_c] (some ⟨g6,0,none⟩) cap6 (ks++[(key,acc3.length)]) W9/\But (λb=>b=gk\/Bk Ad b) wa W9) ⟨⟨HG6.out.node.maker.blk,(Ka (JG _ _ _ gK hgKk)).trans ht.2⟩,HG6.out,HBE.out⟩ ?_;rintro w7 ⟨ht7,hr7,hb7⟩;have HKN:=Jf hr7;have HBN:=Jf hb7;clear hr7 hb7 HG6 HBE HKB z0 z1 z2 z3 z4 z5 z6 z7 z8 z9 zf zl;refine hK.out _ _ ht7 (λht=>?_);clear hK K ht7;try simp only[ab]
           refine Ke (by kernel_rfl) ?_ _;clear ht;go_wp2_with fail
           go_meet
           case rel=>exact⟨rfl,_,_,HKN.out,HRO.out,HBN.out⟩
         case rest=>
          obtain⟨rfl,Ad2,cd2,hKd,hrd,hbd⟩:=hcut;have HK8:=Jf hKd;have HOF8:=Jf (HOF7.out.step (aW.refl _ _) hrd hbd.size);have hle8:Cl.le (wa.on Sk) (wc.on Sk):=hbd.on (λb h=>h) (λb h _ k=>(HOF7.out b h).2.2 (.inr (.inr k)));have HSM8:=Jf (HSM7.out.keep hle8);have HU8:=Jf (In.keep hle8 _ _ HU7.out);have HKC8:=Jf (show bP wc.cell? gK (oK+j*9+1) (.agg #[.int .i64 u_1,u_2,u_3,u_4,.int .i64 u_5,u_6,.slice u_7 u_8 u_9,.slice u_a u_b u_c]) fromλq z hz=>by
           have:=HKC7.out q z hz;rw[Ka (w:=wa) (hbd.block gK hofk7.1 (λk=>hofk7.2.2 (.inr (.inr k))))];exact this)
          obtain⟨e0,e1,e2,e3,e4,e5,e6,e7⟩:=HKC8.out.eight;have HSZ:=Jf (show(ks++[(key,acc3.length)]).length=j+1 by rw[Jk,HKS3.out];rfl);clear hKd hrd hbd HK7 HOF7 HSM7 HU7 HKC7 e97 hle8;by_cases hb3:bad3=0
          .subst hb3;have HCALL:=Jf (HIH.out kv (by omega) hksl (by omega) gm _ A3 c3 acc3 p3 NX wc _ Sk HK8.out.node.maker (λb hb=>HOF8.out b hb) HU8.out HNL.out);go_wp2_with fail;refine HCALL.out.mono ?_;rintro e8 w9 ⟨rfl,A4,c4,acc4,bad4,p4,hL,hR⟩;have HK9:=Jf (HK8.out.call hL.but hL.on hL.maker);have HOF9:=Jf (HOF8.out.step hL.on (aW.refl _ _) hL.but.size);have HSM9:=Jf (HSM8.out.keep (hL.but.on (S:=Sk) (S':=Sk) (λb h=>h) (λb h _=>(HOF8.out b h).2.1)));have HM9:=Jf (FI HMD.out HNX2.out (by rw[<-HNXE.out];exact hR));clear hL hR HK8 HOF8 HSM8 HCALL e0 e1 e2 e3 e4 e5 e6 e7;go_wp2_with fail;go_roundw;case rel=>exact⟨j+1,A4,c4,acc4,bad4,p4,Ad2,cd2,_,by go_num,by omega,HSZ.out,HK9.out,HSM9.out,HOF9.out,HM9.out⟩
           case measure=>simp[intOf];omega
          .have HSKIP:=Jf (Dq gm _ A3 c3 acc3 bad3 hb3 p3 (text NX) wc u_1 u_2 u_3 u_4 u_5 u_6 u_7 u_8 u_9 u_a u_b u_c HK8.out.node.maker);go_wp2_with fail;refine HSKIP.out.mono ?_;rintro e8 w9 ⟨rfl,hb9⟩;have HK9:=Jf (HK8.out.next hb9);have HOF9:=Jf (HOF8.out.step (aW.refl _ _) (aW.refl _ _) hb9.size);have HSM9:=Jf (HSM8.out.keep (dN (S:=Sk) (S':=Sk) (λb h _=>h) (λb h _=>hb9.block b (HOF8.out b h).1)));have HM9:=Jf (Db HMD.out hb3 (j+1) (ks++[(key,acc3.length)]));clear hb9 HK8 HOF8 HSM8 HSKIP e0 e1 e2 e3 e4 e5 e6 e7;go_wp2_with fail;go_roundw;case rel=>exact⟨j+1,A3,c3,acc3,bad3,p3,Ad2,cd2,_,by go_num,by omega,HSZ.out,HK9.out,HSM9.out,HOF9.out,HM9.out⟩
           case measure=>simp[intOf];omega
       .have hje:j=kids.length:=by omega
        have HMN:=Jf (Dc HN2.out HA1.out HMD.out hje);obtain⟨hN7,Rn,hRn,hit⟩:=HK.out.done HS.out HY.out rfl;have hal:=(Ji wr.heap.size wr).alloc (Jh _) (.cells #[nm,.int .i64 y_1,y_2,y_3,y_4,.int .i64 y_5,y_6,.slice y_7 y_8 y_9,.slice y_a y_b y_c,.slice Ad ks.length cd] 68);obtain⟨flat,hown,hpush⟩:=(hN7.next hal).Hk HKL.out (λb hb=>⟨JN (hRn b hb).1 hal.size,(hRn b hb).2⟩) (hit.mono (dN (λb h _=>h) (λb _ h2=>hal.block b h2))) (by simp[Value.oneCell']) rfl;have HOWN:=Jf hown;have HPUSH:=Jf hpush;obtain⟨i0,hi0,hz0,hz1,hz2⟩:=vt;obtain⟨z0,z1,z2,z3,z4,z5,z6,z7,z8,z9⟩:=HK.out.key.ten;have hbs:=HK.out.node.box.lt;have hbk:=HK.out.key.lt;clear hown hpush hit hRn hN7 hal;go_wp2_with (refine Md _ rfl _ _ _ rfl (w.heap.size+1) 68 i0 _ 10 152 Tryz.underlying37 hi0 hz0 hz1 hz2 rfl (by omega) (.slice Ak i ck) i flat rfl HOWN.out ⟨wr.heap.size,0,none⟩ 1 1 [.string ⟨nm.toArray⟩,.int .i64 y_1,.bool y_2,.bool y_3,.string ⟨y_4.toArray⟩,.int .i64 y_5,.string ⟨y_6.toArray⟩,.slice y_7 y_8 y_9,.slice y_a y_b y_c,.slice Ad ks.length cd] rfl rfl (JU (Lc wr _)) (by simp[Value.oneCell']) (by omega) (by unfold maxLen;omega) (by omega) (by simp;omega) _ rfl ?_;intro g6 cap6 w8 hown6 hgrow6 hat6 hlt6;have HST:=Jf (HPUSH.out _ _ _ hown6 hgrow6 hat6);clear hown6 hgrow6 hat6);go_roundw;case rel=>exact⟨i+1,A3,c3,acc3,bad3,p3,some ⟨g6,0,none⟩,cap6,keys++[⟨nm,v,ks⟩],rfl,by go_num,by omega,by rw[Jk,HKL.out];rfl,HST.out,HMN.out⟩
        case measure=>simp[intOf];omega
     .have hs0:((sh:Int) !=0)=true:=by simp[hsh0]
      have hn1:=HN1.out.1 (by rw[<-HSH.out];exact hsh0);rw[<-HSH.out] at hn1;have HBD:=Jf (Cm.ye (k:=k) (b:=b) (n:=n) (s:=s) (l:=l) h200 hn1);clear hn1;have HL:=Jf ((HW3.out.vV sh).setPath (text (P++[nm]))).leave;have hsh14:sh<=14:=by rw[HSH.out];exact Sh.G3 nm v
      have HAL:=Jf (show acc.length<=acc2.length by rw[HA1.out];simp);have g3:w3.frozen? ⟨gm,1,none⟩=false:=t4;go_wp2_with fail;refine Ju (LS rfl _ _ _) rfl ?_;exact⟨rfl,_,_,_,_,_,HL.out,.inr ⟨sh,P++[nm],HBD.out,hsh0,hsh14,rfl,rfl,HAL.out⟩⟩
    .have HGO:=Jf (show i=m.length\/¬bad2=0 by omega);have hltn:=HMD.out.lt;obtain⟨g,rfl,⟨u0,hu0⟩,hfz,hfin⟩:=HW.out.finish hltn;have HFIN:=Jf hfin;have HR:=Jf (Di (n:=n) (s:=s) (l:=l) h200 HMD.out HGO.out hltn);clear hfin;have hdone:True:=trivial;rw[HKL.out] at HFIN;by_cases hlt:i<m.length
     .have hb0:((bad2:Int)==0)=false:=by rw[Jp];omega
      have hlt2:(i:Int)<(m.length:Int):=by omega
      go_wp2_with fail;refine O9 (LS rfl _ _ _) rfl ?_;exact⟨rfl,_,_,_,_,_,HFIN.out,HR.out⟩
     .obtain rfl:i=m.length:=by omega
      go_wp2_with fail;refine O9 (LS rfl _ _ _) rfl ?_;exact⟨rfl,_,_,_,_,_,HFIN.out,HR.out⟩
end
