import Derived.Lib.TrimByte
import Derived.Lib.Small
import Derived.Lib.Bytealg
import Derived.Lib.ItoaLen
set_option linter.unusedSimpArgs false
namespace Go.Proofs.YtdhgmaonolgpnaaGreatDoor
abbrev JO:=@List.drop_eq_getElem_cons
abbrev MV:=@List.drop_zero
abbrev L6:=@Go.Lib.size_eq
abbrev Nk:=@List.isEmpty_eq_false_iff
abbrev K6:=@List.eq_nil_of_length_eq_zero
abbrev Jp:=@beq_eq_false_iff_ne
abbrev L4:=@UInt8.toNat_inj
abbrev Jh:=@Nat.le_refl
abbrev Lm:=@List.takeWhile_sublist
abbrev KS:=@List.dropWhile_sublist
abbrev Ls:=@Bool.and_true
abbrev KZ:=@List.head?_cons
abbrev JY:=@Option.some.inj
abbrev MT:=@Go.Lib.extract_mk
abbrev MX:=@List.tail_cons
abbrev L7:=@List.take_of_length_le
abbrev Jo:=@if_pos
abbrev Jj:=@if_neg
abbrev Jr:=@List.take_succ_eq_append_getElem
abbrev Lg:=@List.foldl_append
abbrev Kn:=@List.foldl_cons
abbrev MQ:=@List.takeWhile_cons
abbrev JB:=@List.mem_cons
abbrev Kc:=@List.takeWhile_append_dropWhile
abbrev JE:=@Nat.zero_le
abbrev Jl:=@List.length_cons
abbrev ML:=@List.dropWhile_cons
abbrev LM:=@Bool.eq_false_iff
abbrev MP:=@List.replicate_succ
abbrev Kk:=@congrArg
abbrev MB:=@List.reverse_reverse
abbrev NS:=@List.mem_append_right
abbrev Lf:=@List.mem_append_left
abbrev MY:=@ne_eq
abbrev Jq:=@List.mem_append
abbrev KL:=@UInt8.lt_iff_toNat_lt
abbrev N5:=@UInt8.toNat_ofNat'
abbrev Jt:=@List.mem_singleton
abbrev JM:=@Option.some.injEq
abbrev NQ:=@List.foldl_nil
abbrev Mg:=@List.isEmpty_cons
abbrev N7:=@Bool.false_or
abbrev Lq:=@Bool.and_eq_false_iff
abbrev JK:=@List.append_nil
abbrev Ki:=@Bool.false_eq_true
abbrev Kq:=@if_false
abbrev JW:=@List.nil_append
abbrev KJ:=@if_true
abbrev M9:=@Go.Lib.itoa_length_le
abbrev Jk:=@List.length_append
abbrev MH:=@List.getLast?_eq_some_getLast
abbrev JS:=@List.cons_append
abbrev Ly:=@Nat.add_mul
abbrev Lp:=@Nat.zero_mul
abbrev JI:=@Nat.zero_add
abbrev K9:=@Nat.mul_le_mul_right
abbrev Nd:=@Go.Lib.decDigits_one
abbrev My:=@List.length_replicate
abbrev Jw:=@List.length_nil
abbrev JH:=@Bool.and_eq_true
abbrev Kl:=@Prod.mk.injEq
abbrev Mq:=@List.isEmpty_iff
abbrev Jy:=@List.length_singleton
abbrev O1:=@Nat.add_assoc
abbrev MC:=@Nat.add_comm
abbrev ND:=@Bool.or_eq_true
abbrev JF:=@decide_eq_true_eq
abbrev Nc:=@Bool.not_eq_true'
abbrev NY:=@Bool.or_eq_false_iff
abbrev Ks:=@decide_eq_false_iff_not
abbrev KM:=@Bool.eq_iff_iff
abbrev L5:=@List.length_pos_iff
abbrev Mr:=@List.isEmpty_nil
abbrev JD:=@List.getElem?_append_left
abbrev Ku:=@Int.toNat_natCast
abbrev Kh:=@List.map_cons
abbrev Lo:=@List.map_nil
abbrev JR:=@List.length_map
abbrev KR:=@List.drop_length
abbrev JJ:=@List.length_drop
abbrev M0:=@List.flatMap_append
abbrev Mz:=@List.sizeOf_lt_of_mem
abbrev NB:=@List.length_eq_zero_iff
abbrev Km:=@List.all_eq_true
abbrev Jz:=@List.mem_of_getElem?
abbrev M3:=@List.mem_map_of_mem
abbrev NK:=@List.find?_cons_of_neg
abbrev Ma:=@List.find?_eq_none
abbrev Jm:=@List.getElem?_eq_some_iff
abbrev JP:=@List.getElem?_of_mem
abbrev Ni:=@Nat.lt_trichotomy
abbrev M4:=@List.take_succ_cons
abbrev NL:=@List.getElem_cons_succ
abbrev LY:=@List.dropWhile_cons_of_pos
abbrev MM:=@List.drop_succ_cons
abbrev LW:=@List.dropWhile_cons_of_neg
abbrev Kb:=@List.getElem?_eq_none
abbrev Kf:=@List.getElem?_drop
abbrev MU:=@List.drop_left
abbrev LR:=@List.drop_drop
abbrev KO:=@List.pairwise_cons
abbrev Nb:=@List.takeWhile_cons_of_pos
abbrev Na:=@List.takeWhile_cons_of_neg
abbrev JX:=@List.map_append
abbrev Lx:=@List.pairwise_append
abbrev JQ:=@List.mem_map
abbrev M5:=@List.find?_some
abbrev KI:=@List.mem_of_find?_eq_some
abbrev KX:=@List.getElem?_mapIdx
abbrev Kd:=@Option.map_eq_some_iff
abbrev JL:=@List.length_take
abbrev MD:=@Nat.min_eq_left
abbrev Jv:=@List.getElem_mem
abbrev Ld:=@List.pairwise_iff_getElem
abbrev Lj:=@List.getElem_map
abbrev NF:=@List.all_append
abbrev Ng:=@List.nodup_append
abbrev LG:=@List.getElem_of_mem
abbrev Nf:=@List.getElem_take
abbrev NP:=@List.contains_iff_mem
abbrev KU:=@of_decide_eq_true
abbrev NT:=@List.singleton_append
abbrev Ko:=@List.append_assoc
abbrev Nt:=@Nat.succ_mul
abbrev O4:=@List.filter_eq_self
abbrev N0:=@List.append_of_mem
abbrev KF:=@List.length_set
abbrev Kw:=@List.getElem?_set_self
abbrev KY:=@List.count_append
abbrev Jx:=@List.getElem?_append_right
abbrev Kr:=@List.getElem?_cons_succ
abbrev Nj:=@Classical.byContradiction
abbrev K5:=@decide_eq_true
abbrev LK:=@List.nodup_cons
abbrev NA:=@List.append_cancel_left
abbrev Kx:=@Nat.add_zero
abbrev N8:=@List.setIfInBounds_toArray
abbrev Jn:=@Go.World.block_lt_of_cell?
abbrev Ji:=@Go.RowKit.Below.refl
abbrev KW:=@Nat.lt_or_ge
abbrev Ll:=@Array.getElem?_eq_none
abbrev Ml:=@Go.cell_of_row
abbrev Lc:=@Go.heap_alloc_new
abbrev LA:=@Go.RowKit.Below.heap_alloc
abbrev KC:=@Array.getElem?_modify
abbrev Jf:=@Go.Lib.hid
abbrev Jg:=@List.getElem?_eq_getElem
abbrev Ju:=@Go.bodyPost_ret
abbrev JC:=@List.take_length
abbrev Kt:=@Nat.not_lt_zero
abbrev Mn:=@Go.Lib.extract_from
abbrev JA:=@Nat.le_trans
abbrev K7:=@Go.Lib.size_mk
abbrev LI:=@Go.RowKit.Below.drew
abbrev KG:=@List.mem_of_mem_take
abbrev M1:=@List.length_reverse
abbrev NG:=@Go.Oper.upon_value
abbrev N6:=@Array.getElem?_append_left
abbrev L9:=@Nat.lt_succ_self
abbrev KD:=@Nat.le_succ
abbrev Nz:=@Int.eq_ofNat_of_zero_le
abbrev NO:=@Go.run_convert_bytes_back
abbrev Kj:=@List.drop_eq_nil_of_le
abbrev O0:=@List.cons.inj
abbrev KP:=@Nat.add_sub_cancel
abbrev KQ:=@Nat.sub_add_cancel
abbrev JV:=@decide_eq_false
abbrev Li:=@Bool.and_false
abbrev MO:=@List.map_eq_nil_iff
abbrev Kz:=@Nat.add_sub_cancel_left
abbrev LD:=@Go.World.cell?_setCell_same
abbrev K8:=@Go.World.cell?_setCell_other
abbrev Lw:=@List.mem_of_mem_drop
abbrev JN:=@Nat.lt_of_lt_of_le
abbrev JG:=@Go.RowKit.Below.heap_setCell
abbrev Ka:=@Go.World.cell?_of_block
abbrev KN:=@List.getElem?_take
abbrev ME:=@Go.World.cell?_alloc_lt
abbrev Kg:=@Option.map_some
abbrev KE:=@Array.getElem?_eq_some_iff
abbrev Lh:=@List.getElem?_cons_zero
abbrev O8:=@Nat.sub_self
abbrev Lb:=@List.take_append_drop
abbrev NZ:=@Nat.pow_le_pow_right
abbrev LV:=@bne_iff_ne
abbrev Ln:=@beq_iff_eq
abbrev LQ:=@List.dropLast_concat_getLast
abbrev Kv:=@Go.World.ownsRow_lit
abbrev KV:=@Array.length_toList
abbrev Lv:=@List.mem_cons_of_mem
abbrev O2:=@Nat.lt_irrefl
abbrev M7:=@List.mem_or_eq_of_mem_set
abbrev KA:=@List.getElem?_set_ne
abbrev MZ:=@Array.getElem?_append_right
abbrev Ky:=@List.not_mem_nil
abbrev Lk:=@or_false
abbrev Lz:=@Bool.false_and
abbrev LS:=@Go.results_none
abbrev O9:=@Go.bodyPost_end
abbrev LL:=@decide_true
abbrev Lt:=@Bool.true_and
abbrev KK:=@List.flatMap_cons
abbrev Mp:=@List.flatMap_nil
abbrev Np:=@Bool.eq_false_or_eq_true
abbrev KB:=@List.mem_flatMap
abbrev NM:=@List.getElem_replicate
abbrev LZ:=@Nat.mul_one
abbrev LU:=@Go.size_madeCells
abbrev Mw:=@List.getElem?_toArray
abbrev JZ:=@List.getElem?_map
abbrev Le:=@List.countP_map
abbrev Nw:=@Go.run_make
abbrev Mj:=@Int.le_refl
abbrev L0:=@List.mem_filter
abbrev O5:=@List.filter_sublist
abbrev O6:=@List.map_congr_left
abbrev Lr:=@List.mem_mapIdx
abbrev Mu:=@List.countP_le_length
abbrev Mh:=@List.length_range
abbrev Mv:=@List.countP_mono_left
abbrev L8:=@List.countP_cons
abbrev MW:=@List.mem_range
abbrev Lu:=@List.ext_getElem?
abbrev Nr:=@List.map_flatten
abbrev Ns:=@List.map_map
abbrev NJ:=@List.append_eq_nil_iff
abbrev Oa:=@Iff.rfl
abbrev M6:=@List.mapIdx_eq_mapIdx_iff
abbrev MN:=@List.flatten_append
abbrev Mf:=@List.flatten_cons
abbrev Ms:=@List.mapIdx_cons
abbrev O3:=@List.countP_eq_zero
abbrev Mb:=@List.mem_cons_self
abbrev LJ:=@List.eq_nil_iff_forall_not_mem
abbrev NV:=@Go.run_underlying
abbrev LO:=@Array.getElem?_toList
abbrev LB:=@List.getElem?_take_of_lt
abbrev KT:=@Go.World.ownsRow_nil
abbrev MI:=@List.take_append_of_le_length
abbrev Nq:=@List.ext_getElem
abbrev Nh:=@List.size_toArray
abbrev KH:=@getElem!_pos
abbrev N4:=@Go.Sort.alloc_eq_grow
abbrev Mc:=@Go.Sort.heap_grow_old
abbrev M8:=@Array.extract_size
abbrev Mx:=@List.length_filter_le
abbrev NH:=@ne_of_beq_false
abbrev Mo:=@List.any_eq_true
abbrev LH:=@Array.size_push
abbrev NR:=@List.getElem_set_self
abbrev O7:=@List.take_set_of_le
abbrev MF:=@Go.toList_madeCells_one
abbrev Nu:=@Option.getD_some
abbrev LC:=@List.map_id'
abbrev MR:=@Array.getElem?_setIfInBounds
abbrev NW:=@Array.getElem?_range
abbrev Nv:=@Option.isSome_iff_exists
abbrev LN:=@not_true_eq_false
abbrev Mi:=@Nat.le_succ_of_le
abbrev N9:=@List.sum_cons
abbrev NU:=@Nat.add_le_add
abbrev Me:=@Nat.succ_pred_eq_of_pos
abbrev NC:=@List.prefix_iff_eq_take
abbrev Jd:=List UInt8
theorem Je{p:Prop}(h:p):Go.RowKit.Hid p:=h
instance:Coe Jd Value:=⟨λx=>.string ⟨x.toArray⟩⟩
instance:Coe Bool Value:=⟨.bool⟩
namespace Nm
def dig(c:UInt8):Bool:=decide (48<=c.toNat)&&decide (c.toNat<=57)
def pre(l:Jd):Jd:=l.takeWhile dig
def suf(l:Jd):Jd:=l.dropWhile dig
theorem dW(p:UInt8->Bool):∀(l:Jd) (k:Nat),k<=l.length->(∀(j:Nat) b,j<k->l[j]? =some b->p b=true)->(∀b,l[k]? =some b->p b=false)->l.takeWhile p=l.take k/\l.dropWhile p=l.drop k
 |[],k,hk,_,_=>by simp at hk;subst hk;simp
 |x::l,0,_,_,h2=>by
  have:=h2 x (by simp);simp[this]
 |x::l,k+1,hk,h1,h2=>by
  have hx:=h1 0 x (by omega) (by simp);have ih:=dW p l k (by simp at hk;omega) (λj b hj hb=>h1 (j+1) b (by omega) (by simpa using hb)) (λb hb=>h2 b (by simpa using hb));simp[hx,ih]
def sgn:Jd->Bool
 |c::_=>c==45
 |[]=>false
def aU:Jd->Jd
 |c::r=>if c=45\/c=43 then r else c::r
 |[]=>[]
theorem qO(s:ByteArray)(h:0<s.size):s.data.toList=s[0]::s.data.toList.drop 1:=by
 have h':0<s.data.toList.length:=by rw[<-Lib.size_eq];exact h
 have e:=JO h';rw[MV] at e;exact e
theorem uA(s:ByteArray)(h:0<s.size):¬s.toList=[]:=by
 rw[Lib.toList_data];intro e;rw[L6,e] at h;cases h
theorem E0(s:ByteArray)(h:0<s.size):s.toList.isEmpty=false:=by
 rw[Nk];exact uA s h
theorem ua(s:ByteArray)(h:¬0<s.size):s.toList=[]:=by
 rw[Lib.toList_data];apply K6;rw[<-Lib.size_eq];omega
theorem Du(s:ByteArray)(h:¬0<s.size):s.data.toList=[]:=by
 rw[<-Lib.toList_data];exact ua s h
theorem dL{c k:UInt8}(h:c=k):((c.toNat:Int)==(k.toNat:Int))=true:=by subst h;simp
theorem bw{c k:UInt8}(h:¬c=k):((c.toNat:Int)==(k.toNat:Int))=false:=by
 rw[Jp];intro e;exact h (L4.1 (by exact_mod_cast e))
structure Num where
 neg:Bool
 digits:Jd
 exp:Int
deriving DecidableEq
structure bV where
 neg:Bool
 whole:Jd
 frac:Jd
 expNeg:Bool
 exp:Jd
deriving DecidableEq
def Num.zero:Num:=⟨false,[],0⟩
def bV.zero:bV:=⟨false,[],[],false,[]⟩
def tail(neg:Bool)(w f s:Jd):bV×Bool:=
 match s with
 |[]=>(⟨neg,w,f,false,[]⟩,true)
 |c::r=>if c=101\/c=69 then(⟨neg,w,f,sgn r,pre (aU r)⟩,!(pre (aU r)).isEmpty&&(suf (aU r)).isEmpty) else(bV.zero,false)
def cC(w:Jd):Bool:=w.isEmpty||(decide (1<w.length)&&w.head?==some 48)
def bC(neg:Bool)(w s:Jd):bV×Bool:=
 match s with
 |46::r=>if(pre r).isEmpty then(bV.zero,false) else tail neg w (pre r) (suf r)
 |_=>tail neg w [] s
def split(l:Jd):bV×Bool:=
 let s1:=Lib.trimPrefix l [45]
 if cC (pre s1) then(bV.zero,false) else bC (Lib.hasPrefix l [45]) (pre s1) (suf s1)
def sign(n:Num):Int:=if n.digits.isEmpty then 0 else if n.neg then -1 else 1
def aK(a b:Num):Int:=
 let c:=Lib.compareInt (a.digits.length+a.exp) (b.digits.length+b.exp)
 if c=0 then Lib.compareBytes a.digits b.digits else c
def cmp(a b:Num):Int:=
 let c:=Lib.compareInt (sign a) (sign b)
 if c=0 then(if a.neg then aK b a else aK a b) else c
def Fair(n:Num):Prop:=n.digits.length<=1000000/\ -1000000<=n.exp/\n.exp<=1000000
theorem yX(l p:Jd):(Lib.trimPrefix l p).length<=l.length:=by
 unfold Lib.trimPrefix;split
 .simp
 .exact Jh _
theorem pZ(l:Jd):(pre l).length<=l.length:=(Lm dig).length_le
theorem Cd(l:Jd):(suf l).length<=l.length:=(KS dig).length_le
theorem oJ(l:Jd):(aU l).length<=l.length:=by
 cases l with
 |nil=>exact Jh _
 |cons c r=>simp only[aU];split<;>simp
theorem mD(c:UInt8)(l:Jd):Lib.hasPrefix l [c]=(l.head?==some c):=by
 cases l with
 |nil=>rfl
 |cons d r=>
  simp only[Lib.hasPrefix,List.isPrefixOf,Ls,KZ];by_cases h:c=d
  .subst h;simp
  .rw[Jp.2 h,Jp.2 (λe=>h (JY e).symm)]
theorem kB(c:UInt8)(r:Jd)(n:Nat)(h:r.length<=n-1):(⟨(c::r).toArray⟩:ByteArray).extract 1 n=⟨r.toArray⟩:=by
 rw[MT,List.drop_one,MX,L7 h]
theorem yL{l s1 wh s2:Jd}{neg:Bool}(h1:Lib.trimPrefix l [45]=s1)(hn:Lib.hasPrefix l [45]=neg)(hw:pre s1=wh)(hs:suf s1=s2):
  split l=if cC wh then(bV.zero,false) else bC neg wh s2:=by
 subst h1;subst hn;subst hw;subst hs;rfl
theorem fs(neg:Bool)(w t:Jd):bC neg w (46::t)=if(pre t).isEmpty then(bV.zero,false) else tail neg w (pre t) (suf t):=rfl
theorem eH(neg:Bool)(w s:Jd)(h:¬s.head?=some 46):bC neg w s=tail neg w [] s:=by
 unfold bC;split
 .simp at h
 .rfl
theorem lf(neg:Bool)(w f:Jd)(c:UInt8)(r:Jd)(h:c=101\/c=69):tail neg w f (c::r)=(⟨neg,w,f,sgn r,pre (aU r)⟩,!(pre (aU r)).isEmpty&&(suf (aU r)).isEmpty):=by
 simp only[tail];rw[Jo h]
theorem nR(neg:Bool)(w f:Jd)(c:UInt8)(r:Jd)(h:¬(c=101\/c=69)):tail neg w f (c::r)=(bV.zero,false):=by
 simp only[tail];rw[Jj h]
def far:Int:=1099511627776
def mY(l:Jd):Int:=l.foldl (λe c=>min (e*10+((c.toNat:Int)-48)) far) 0
def fP(p:bV):Int:=if p.expNeg then-mY p.exp else mY p.exp
def normal(neg:Bool)(d:Jd)(e:Int):Num×Bool:=
 let l:=Lib.trimLeftB d 48
 let r:=Lib.trimRightB l 48
 let x:=e+((l.length:Int)-r.length)
 if r.isEmpty then(Num.zero,true) else if 60<r.length\/x< -1000\/1000<x then(Num.zero,false) else(⟨neg,r,x⟩,true)
theorem jS{c:UInt8}(h:dig c=true):48<=c.toNat/\c.toNat<=57:=by
 simpa[dig] using h
theorem CM(l:Jd)(k:Nat)(h:k<l.length):mY (l.take (k+1))=min (mY (l.take k)*10+((l[k].toNat:Int)-48)) far:=by
 rw[Jr h];unfold mY;rw[Lg];rfl
theorem CL(l:Jd):∀e:Int,0<=e->e<=far->(∀c∈l,dig c=true)->0<=l.foldl (λe c=>min (e*10+((c.toNat:Int)-48)) far) e/\l.foldl (λe c=>min (e*10+((c.toNat:Int)-48)) far) e<=far:=by
 induction l with
 |nil=>intro e h1 h2 _;exact⟨h1,h2⟩
 |cons c r ih=>
  intro e h1 h2 h;have hc:=jS (h c (by simp));rw[Kn];refine ih _ ?_ ?_ (λd hd=>h d (by simp[hd]))
  .unfold far;omega
  .unfold far;omega
theorem pU(l:Jd)(h:∀c∈l,dig c=true):0<=mY l/\mY l<=1099511627776:=CL l 0 (by decide) (by decide) h
theorem Dw{d l r:Jd}(neg:Bool)(hl:Lib.trimLeftB d 48=l)(hr:Lib.trimRightB l 48=r)(x:Int):
  normal neg d x=if r.isEmpty then(Num.zero,true) else if 60<r.length\/x+((l.length:Int)-r.length)< -1000\/1000<x+((l.length:Int)-r.length) then(Num.zero,false) else(⟨neg,r,x+((l.length:Int)-r.length)⟩,true):=by
 subst hl;subst hr;rfl
def text(n:Num):Jd:=
 if n.digits.isEmpty then[48] else(if n.neg then[45] else[])++n.digits++(if n.exp=0 then[] else 101::Lib.itoa n.exp)
def gu(sp:bV×Bool):Num×Int:=
 if sp.2 then
  let n:=normal sp.1.neg (sp.1.whole++sp.1.frac) (fP sp.1-sp.1.frac.length)
  if n.2 then(n.1,0) else(Num.zero,5)
 else(Num.zero,1)
def parse(l:Jd):Num×Int:=gu (split l)
theorem mA(a:Bool)(p1 p2:Jd)(b:Bool)(p3:Jd):gu (⟨a,p1,p2,b,p3⟩,true)=if(normal a (p1++p2) (fP ⟨a,p1,p2,b,p3⟩-p2.length)).2 then((normal a (p1++p2) (fP ⟨a,p1,p2,b,p3⟩-p2.length)).1,0) else(Num.zero,5):=rfl
theorem gB(l:Jd):∀c∈pre l,dig c=true:=by
 induction l with
 |nil=>intro c h;cases h
 |cons x r ih=>
  intro c h;unfold pre at h;rw[MQ] at h;split at h
  .rcases JB.1 h with rfl|h'
   .assumption
   .exact ih c h'
  .cases h
theorem Fa(a:Bool)(p1 p2:Jd)(b:Bool)(p3:Jd)(h:∀c∈p3,dig c=true): -1099511627776<=fP ⟨a,p1,p2,b,p3⟩/\fP ⟨a,p1,p2,b,p3⟩<=1099511627776:=by
 have:=pU p3 h;unfold fP;simp only;split<;>omega
theorem iR(l:Jd):pre l++suf l=l:=Kc
def Sound(n:Nat)(p:bV):Prop:=(∀c∈p.exp,dig c=true)/\p.exp.length<=n/\p.whole.length+p.frac.length<=n
theorem mM(n:Nat):Sound n bV.zero:=⟨λ_ h=>(by cases h),JE _,JE _⟩
theorem sJ(n:Nat)(neg:Bool)(w f s:Jd)(h:w.length+f.length<=n)(hs:s.length<=n):Sound n (tail neg w f s).1:=by
 unfold tail;split
 .exact⟨λ_ h=>(by cases h),JE _,h⟩
 .rename_i c r;split
  .refine⟨gB _,?_,h⟩;have h1:=pZ (aU r);have h2:=oJ r;simp at hs ⊢;omega
  .exact mM n
theorem pH(l:Jd):Sound l.length (split l).1:=by
 have h0:=yX l [45];have hp:∀t:Jd,(pre t).length+(suf t).length=t.length:=λt=>by rw[<-List.length_append,iR]
 unfold split;simp only;generalize Lib.trimPrefix l [45]=s1 at h0 ⊢;have h1:=hp s1;split
 .exact mM _
 .unfold bC;split
  .rename_i r e;rw[e] at h1;simp only[Jl] at h1;have h2:=hp r;split
   .exact mM _
   .exact sJ _ _ _ _ _ (by omega) (by omega)
  .exact sJ _ _ _ _ _ (by simp;omega) (by omega)
def May(n:Num):Prop:=
 n=Num.zero\/(n.digits≠[]/\(∀c∈n.digits,dig c=true)/\n.digits.head?≠some 48/\n.digits.getLast?≠some 48/\n.digits.length<=60/\ -1000<=n.exp/\n.exp<=1000)
theorem May.fair{n:Num}(h:May n):Fair n:=by
 rcases h with rfl|⟨_,_,_,_,h1,h2,h3⟩
 .exact⟨by decide,by decide,by decide⟩
 .exact⟨by omega,by omega,by omega⟩
def count(k:Int):Num:=(parse (Lib.itoa k)).1
structure Laws:Prop where
 err:∀l,0<=(parse l).2/\(parse l).2<=14
 may:∀l,(parse l).2=0->May (parse l).1
 back:∀n,May n->parse (text n)=(n,0)
 len:∀n,May n->(text n).length<=100
 range:∀a b,-1<=cmp a b/\cmp a b<=1
 flip:∀a b,May a->May b->cmp a b= -cmp b a
 same:∀a b,May a->May b->(cmp a b=0↔a=b)
 next:∀a b c,May a->May b->May c->cmp a b<=0->cmp b c<=0->cmp a c<=0
 countMay:∀k:Int,0<=k->k<=2000000000->May (count k)
 countNext:∀k:Int,0<=k->k<=1000000000->cmp (count k) (count (k+1))= -1
 countWhole:∀k:Int,0<=k->k<=1000000000->0<=(count k).exp
theorem head_drop(p:UInt8->Bool):∀(l:Jd) (c:UInt8),(l.dropWhile p).head?=some c->p c=false
 |[],c,h=>by simp at h
 |x::r,c,h=>by
  rw[ML] at h;split at h
  .exact head_drop p r c h
  .rename_i hx;simp at h;subst h;exact LM.2 hx
theorem sK(c:UInt8):∀l:Jd,l.takeWhile (·==c)=List.replicate (l.takeWhile (·==c)).length c
 |[]=>rfl
 |x::r=>by
  rw[MQ];split
  .rename_i h;have e:x=c:=by simpa using h
   rw[Jl,MP,<-sK c r,e]
  .rfl
def core(d:Jd):Jd:=Lib.trimRightB (Lib.trimLeftB d 48) 48
theorem left_eq(l:Jd):∃a,l=List.replicate a 48++Lib.trimLeftB l 48:=
 ⟨(l.takeWhile (·==48)).length,by rw[<-sK];exact(Kc).symm⟩
theorem right_eq(l:Jd):∃b,l=Lib.trimRightB l 48++List.replicate b 48:=
 ⟨(l.reverse.takeWhile (·==48)).length,by
   unfold Lib.trimRightB
   have h:l.reverse=List.replicate (l.reverse.takeWhile (·==48)).length 48++l.reverse.dropWhile (·==48):=by
    rw[<-sK];exact(Kc).symm
   have h2:=Kk List.reverse h
   rw[MB,List.reverse_append,List.reverse_replicate] at h2
   exact h2⟩
theorem D4(l:Jd):(Lib.trimLeftB l 48).head?≠some 48:=λh=>by
 have:=head_drop (·==48) l 48 h;simp at this
theorem AQ(l:Jd):(Lib.trimRightB l 48).getLast?≠some 48:=λh=>by
 unfold Lib.trimRightB at h;rw[List.getLast?_reverse] at h;have:=head_drop (·==48) _ 48 h;simp at this
theorem nY(d:Jd):(core d).head?≠some 48:=λh=>by
 obtain⟨b,hb⟩:=right_eq (Lib.trimLeftB d 48);have h1:=D4 d;rw[hb] at h1;unfold core at h;apply h1;cases hc:Lib.trimRightB (Lib.trimLeftB d 48) 48 with
 |nil=>rw[hc] at h;simp at h
 |cons x r=>rw[hc] at h;simpa using h
theorem jz(d:Jd):(core d).getLast?≠some 48:=AQ _
theorem qB(d:Jd):∀c∈core d,c∈d:=λc hc=>by
 obtain⟨b,hb⟩:=right_eq (Lib.trimLeftB d 48);obtain⟨a,ha⟩:=left_eq d;rw[ha,hb];exact NS _ (Lf _ hc)
theorem mT(p:UInt8->Bool)(l:Jd)(h:∀c,l.head?=some c->p c=false):l.dropWhile p=l:=by
 cases l with
 |nil=>rfl
 |cons x r=>rw[ML];simp[h x rfl]
theorem left_id(l:Jd)(h:l.head?≠some 48):Lib.trimLeftB l 48=l:=
 mT _ l (λc hc=>by
  simp only[Jp,MY];intro e;subst e;exact h hc)
theorem right_id(l:Jd)(h:l.getLast?≠some 48):Lib.trimRightB l 48=l:=by
 unfold Lib.trimRightB;rw[mT _ _ (λc hc=>by
  simp only[Jp,MY];intro e;subst e;rw[List.head?_reverse] at hc;exact h hc),MB]
theorem CK(l:Jd):0<=(parse l).2/\(parse l).2<=14:=by
 unfold parse gu;split
 .simp only;split<;>exact⟨by simp only;omega,by simp only;omega⟩
 .decide
theorem yP(neg:Bool)(w f s:Jd)(h:∀c∈w++f,dig c=true):∀c∈(tail neg w f s).1.whole++(tail neg w f s).1.frac,dig c=true:=by
 unfold tail;split
 .exact h
 .split
  .exact h
  .intro c hc;simp[bV.zero] at hc
theorem uB(l:Jd):∀c∈(split l).1.whole++(split l).1.frac,dig c=true:=by
 unfold split;simp only;split
 .intro c hc;simp[bV.zero] at hc
 .unfold bC;split
  .split
   .intro c hc;simp[bV.zero] at hc
   .exact yP _ _ _ _ (λc hc=>by
     rcases Jq.1 hc with h|h
     .exact gB _ c h
     .exact gB _ c h)
  .exact yP _ _ _ _ (λc hc=>by simp at hc;exact gB _ c hc)
theorem iQ(neg:Bool)(d:Jd)(x:Int):normal neg d x=if(core d).isEmpty then(Num.zero,true) else if 60<(core d).length\/x+(((Lib.trimLeftB d 48).length:Int)-(core d).length)< -1000\/1000<x+(((Lib.trimLeftB d 48).length:Int)-(core d).length) then(Num.zero,false) else(⟨neg,core d,x+(((Lib.trimLeftB d 48).length:Int)-(core d).length)⟩,true):=rfl
theorem Ay(neg:Bool)(d:Jd)(x:Int)(h:∀c∈d,dig c=true):May (normal neg d x).1:=by
 rw[iQ];split
 .exact .inl rfl
 .rename_i he;split
  .exact .inl rfl
  .rename_i hb;refine .inr ⟨?_,λc hc=>h c (qB d c hc),nY d,jz d,?_,?_,?_⟩
   .intro e;simp only at e;rw[e] at he;simp at he
   .simp only;omega
   .simp only;omega
   .simp only;omega
theorem ue(l:Jd):May (parse l).1:=by
 unfold parse gu;split
 .simp only;split
  .exact Ay _ _ _ (uB l)
  .exact .inl rfl
 .exact .inl rfl
theorem oq(x y:Int): -1<=Lib.compareInt x y/\Lib.compareInt x y<=1:=by
 unfold Lib.compareInt;split
 .decide
 .split<;>decide
theorem xK(x y:Int):Lib.compareInt x y= -Lib.compareInt y x:=by
 unfold Lib.compareInt;by_cases h1:x<y
 .rw[Jo h1,Jj (by omega),Jo h1]
 .rw[Jj h1];by_cases h2:x>y
  .rw[Jo h2,Jo h2];rfl
  .rw[Jj h2,Jj (by omega),Jj (by omega)];rfl
theorem eB(x y:Int):Lib.compareInt x y=0↔x=y:=by
 unfold Lib.compareInt;split
 .constructor<;>intro h<;>omega
 .split<;>constructor<;>intro h<;>omega
theorem zV(x y:Int):Lib.compareInt x y<=0↔x<=y:=by
 unfold Lib.compareInt;split
 .constructor<;>intro h<;>omega
 .split<;>constructor<;>intro h<;>omega
theorem cr:∀a b:Jd,-1<=Lib.compareBytes a b/\Lib.compareBytes a b<=1
 |[],[]=>by decide
 |[],_::_=>by simp[Lib.compareBytes]
 |_::_,[]=>by simp[Lib.compareBytes]
 |x::a,y::b=>by
  unfold Lib.compareBytes;split
  .decide
  .split
   .decide
   .exact cr a b
theorem bT:∀a b:Jd,Lib.compareBytes a b= -Lib.compareBytes b a
 |[],[]=>rfl
 |[],_::_=>by simp[Lib.compareBytes]
 |_::_,[]=>by simp[Lib.compareBytes]
 |x::a,y::b=>by
  have ih:=bT a b;simp only[Lib.compareBytes];by_cases h1:x<y
  .have h2:¬y<x:=by simp only[KL] at*;omega
   rw[Jo h1,Jj h2,Jo h1]
  .rw[Jj h1];by_cases h2:y<x
   .rw[Jo h2,Jo h2];rfl
   .rw[Jj h2,Jj h2,Jj h1];exact ih
theorem cF:∀a:Jd,Lib.compareBytes a a=0
 |[]=>rfl
 |x::a=>by
  simp only[Lib.compareBytes];rw[Jj (by simp only[KL];omega),Jj (by simp only[KL];omega)];exact cF a
theorem dQ:∀a b:Jd,Lib.compareBytes a b=0->a=b
 |[],[],_=>rfl
 |[],_::_,h=>by simp[Lib.compareBytes] at h
 |_::_,[],h=>by simp[Lib.compareBytes] at h
 |x::a,y::b,h=>by
  simp only[Lib.compareBytes] at h;by_cases h1:x<y
  .rw[Jo h1] at h;cases h
  .rw[Jj h1] at h;by_cases h2:y<x
   .rw[Jo h2] at h;cases h
   .rw[Jj h2] at h;have e:x=y:=L4.1 (by simp only[KL] at h1 h2;omega);rw[e,dQ a b h]
theorem fv:∀a b c:Jd,Lib.compareBytes a b<=0->Lib.compareBytes b c<=0->Lib.compareBytes a c<=0
 |[],[],c,_,h=>h
 |[],_::_,[],_,_=>by decide
 |[],_::_,_::_,_,_=>by simp[Lib.compareBytes]
 |_::_,[],_,h,_=>by simp[Lib.compareBytes] at h
 |_::_,_::_,[],_,h=>by simp[Lib.compareBytes] at h
 |x::a,y::b,z::c,h1,h2=>by
  have ih:=fv a b c;simp only[Lib.compareBytes,KL] at*
  by_cases e1:x.toNat<y.toNat
  .by_cases e2:y.toNat<z.toNat
   .rw[Jo (by omega)];decide
   .rw[Jj e2] at h2;by_cases e3:z.toNat<y.toNat
    .rw[Jo e3] at h2;omega
    .rw[Jo (by omega)];decide
  .rw[Jj e1] at h1;by_cases e4:y.toNat<x.toNat
   .rw[Jo e4] at h1;omega
   .rw[Jj e4] at h1;by_cases e2:y.toNat<z.toNat
    .rw[Jo (by omega)];decide
    .rw[Jj e2] at h2;by_cases e3:z.toNat<y.toNat
     .rw[Jo e3] at h2;omega
     .rw[Jj e3] at h2;rw[Jj (by omega),Jj (by omega)];exact ih h1 h2
def place(n:Num):Int:=n.digits.length+n.exp
theorem size_range(a b:Num): -1<=aK a b/\aK a b<=1:=by
 unfold aK;simp only;split
 .exact cr _ _
 .exact oq _ _
theorem CB(a b:Num): -1<=cmp a b/\cmp a b<=1:=by
 unfold cmp;simp only;split
 .split
  .exact size_range _ _
  .exact size_range _ _
 .exact oq _ _
theorem oG(a b:Num):aK a b= -aK b a:=by
 unfold aK;simp only;have h:=xK (a.digits.length+a.exp) (b.digits.length+b.exp);by_cases e:Lib.compareInt (a.digits.length+a.exp) (b.digits.length+b.exp)=0
 .rw[Jo e,Jo (by omega)];exact bT _ _
 .rw[Jj e,Jj (by omega)];exact h
theorem size_le(a b:Num):aK a b<=0↔place a<place b\/(place a=place b/\Lib.compareBytes a.digits b.digits<=0):=by
 unfold aK place;simp only;have h1:=eB (a.digits.length+a.exp) (b.digits.length+b.exp);have h2:=zV (a.digits.length+a.exp) (b.digits.length+b.exp);by_cases e:Lib.compareInt (a.digits.length+a.exp) (b.digits.length+b.exp)=0
 .rw[Jo e];have:=h1.1 e;constructor
  .intro h;exact .inr ⟨this,h⟩
  .rintro(h|⟨_,h⟩)
   .omega
   .exact h
 .rw[Jj e,h2];have:¬_:=λh=>e (h1.2 h);constructor
  .intro h;left;omega
  .rintro(h|⟨h,_⟩)
   .omega
   .exact absurd h this
theorem uw(a b c:Num)(h1:aK a b<=0)(h2:aK b c<=0):aK a c<=0:=by
 rw[size_le] at*
 rcases h1 with h1|⟨h1,h1'⟩<;>rcases h2 with h2|⟨h2,h2'⟩
 .left;omega
 .left;omega
 .left;omega
 .right;exact⟨by omega,fv _ _ _ h1' h2'⟩
theorem ux(a b:Num)(h:aK a b=0):a.digits=b.digits/\a.exp=b.exp:=by
 unfold aK at h;simp only at h;by_cases e:Lib.compareInt (a.digits.length+a.exp) (b.digits.length+b.exp)=0
 .rw[Jo e] at h;have hd:=dQ _ _ h;have:=(eB _ _).1 e;rw[hd] at this;exact⟨hd,by omega⟩
 .rw[Jj e] at h;exact absurd h e
theorem DU(a:Num):aK a a=0:=by
 unfold aK;simp only;rw[Jo ((eB _ _).2 rfl)];exact cF _
theorem sign_neg{a b:Num}(ha:May a)(hb:May b)(h:sign a=sign b):a.neg=b.neg/\(a.digits=[]->a=b):=by
 have key:∀n:Num,May n->(n=Num.zero/\sign n=0)\/(n.digits≠[]/\sign n=if n.neg then -1 else 1):=λn hn=>by
  rcases hn with rfl|⟨hd,_⟩
  .exact .inl ⟨rfl,rfl⟩
  .right
   refine⟨hd,?_⟩;unfold sign;rw[Jj (by simpa using hd)]
 rcases key a ha with⟨rfl,h1⟩|⟨h1,h1'⟩<;>rcases key b hb with⟨rfl,h2⟩|⟨h2,h2'⟩
 .exact⟨rfl,λ_=>rfl⟩
 .rw[h1,h2'] at h;split at h<;>cases h
 .rw[h1',h2] at h;split at h<;>cases h
 .rw[h1',h2'] at h;refine⟨?_,λe=>absurd e h1⟩;cases ea:a.neg<;>cases eb:b.neg<;>simp[ea,eb] at h<;>rfl
theorem wV(a b:Num)(ha:May a)(hb:May b):cmp a b= -cmp b a:=by
 unfold cmp;simp only;have h:=xK (sign a) (sign b);by_cases e:Lib.compareInt (sign a) (sign b)=0
 .have e':Lib.compareInt (sign b) (sign a)=0:=by omega
  rw[Jo e,Jo e'];have hn:=(sign_neg ha hb ((eB _ _).1 e)).1;rw[hn];split
  .exact oG _ _
  .exact oG _ _
 .rw[Jj e,Jj (by omega)];exact h
theorem qy(a b:Num)(ha:May a)(hb:May b):cmp a b=0↔a=b:=by
 constructor
 .intro h;unfold cmp at h;simp only at h;by_cases e:Lib.compareInt (sign a) (sign b)=0
  .rw[Jo e] at h;have hn:=(sign_neg ha hb ((eB _ _).1 e)).1;have hz:a.digits=b.digits/\a.exp=b.exp:=by
    split at h
    .have:=ux _ _ h;exact⟨this.1.symm,this.2.symm⟩
    .exact ux _ _ h
   obtain⟨na,da,xa⟩:=a;obtain⟨nb,db,xb⟩:=b;simp only at hn hz;rw[hn,hz.1,hz.2]
  .rw[Jj e] at h;exact absurd h e
 .rintro rfl;unfold cmp;simp only;rw[Jo ((eB _ _).2 rfl)];split<;>exact DU _
theorem Il(a b:Num):cmp a b<=0↔sign a<sign b\/(sign a=sign b/\(if a.neg then aK b a<=0 else aK a b<=0)):=by
 unfold cmp;simp only;have h1:=eB (sign a) (sign b);have h2:=zV (sign a) (sign b);by_cases e:Lib.compareInt (sign a) (sign b)=0
 .rw[Jo e];have:=h1.1 e;constructor
  .intro h;refine .inr ⟨this,?_⟩;split
   .rw[Jo ‹_›] at h;exact h
   .rw[Jj ‹_›] at h;exact h
  .rintro(h|⟨_,h⟩)
   .omega
   .split
    .rw[Jo ‹_›] at h;exact h
    .rw[Jj ‹_›] at h;exact h
 .rw[Jj e,h2];have:¬_:=λh=>e (h1.2 h);constructor
  .intro h;left;omega
  .rintro(h|⟨h,_⟩)
   .omega
   .exact absurd h this
theorem wW(a b c:Num)(ha:May a)(hb:May b)(h1:cmp a b<=0)(h2:cmp b c<=0):cmp a c<=0:=by
 rw[Il] at*
 rcases h1 with h1|⟨h1,h1'⟩<;>rcases h2 with h2|⟨h2,h2'⟩
 .left;omega
 .left;omega
 .left;omega
 .right
  refine⟨by omega,?_⟩;have hn:=(sign_neg ha hb h1).1;cases e:a.neg
  .rw[e] at hn h1';rw[<-hn] at h2';simp at h1' h2' ⊢;exact uw _ _ _ h1' h2'
  .rw[e] at hn h1';rw[<-hn] at h2';simp at h1' h2' ⊢;exact uw _ _ _ h2' h1'
theorem pX(d e:Jd)(hd:∀c∈d,dig c=true)(he:∀c,e.head?=some c->dig c=false):pre (d++e)=d/\suf (d++e)=e:=by
 induction d with
 |nil=>
  cases e with
  |nil=>exact⟨rfl,rfl⟩
  |cons x r=>
   have:=he x rfl;simp[pre,suf,this]
 |cons x r ih=>
  have hx:=hd x (by simp);have h:=ih (λc hc=>hd c (by simp[hc]));simp only[pre,suf] at h ⊢;simp[hx,h]
theorem fx(k:Nat)(h:k<10):dig (UInt8.ofNat (48+k))=true/\(UInt8.ofNat (48+k)).toNat=48+k:=by
 have e:(UInt8.ofNat (48+k)).toNat=48+k:=by
  rw[N5];omega
 exact⟨by unfold dig;rw[e];simp;omega,e⟩
theorem fL(u:Nat):∀c∈Lib.decDigits u,dig c=true:=by
 induction u using Nat.strongRecOn with
 |ind u ih=>
  rw[Lib.decDigits];split
  .intro c hc;rw[Jt] at hc;subst hc;exact(fx u (by omega)).1
  .intro c hc;rcases Jq.1 hc with h|h
   .exact ih (u/10) (by omega) c h
   .rw[Jt] at h;subst h;exact(fx (u%10) (by omega)).1
theorem me(u:Nat):Lib.decDigits u≠[]:=by
 rw[Lib.decDigits];split<;>simp
theorem kM(u:Nat)(h:u≠0):(Lib.decDigits u).head?≠some 48:=by
 induction u using Nat.strongRecOn with
 |ind u ih=>
  rw[Lib.decDigits];split
  .rename_i h10;intro e;rw[KZ,JM] at e;have:=(fx u h10).2;rw[e] at this;have h48:(48:UInt8).toNat=48:=rfl;omega
  .have:=ih (u/10) (by omega) (by omega);cases hc:Lib.decDigits (u/10) with
   |nil=>exact absurd hc (me _)
   |cons x r=>rw[hc] at this;simpa using this
theorem Fb(u:Nat)(h:u<=1000000):mY (Lib.decDigits u)=u:=by
 induction u using Nat.strongRecOn with
 |ind u ih=>
  rw[Lib.decDigits];split
  .rename_i h10;have e:=(fx u h10).2;simp only[mY,Kn,NQ,e,far];omega
  .have h1:=ih (u/10) (by omega) (by omega);have e:=(fx (u%10) (by omega)).2;unfold mY at h1 ⊢;rw[Lg,h1];simp only[Kn,NQ,e,far];omega
theorem fw(c k:UInt8)(h:dig c=true)(hk:dig k=false):c≠k:=λe=>by subst e;rw[h] at hk;cases hk
theorem xF(d:Jd)(hd:∀c∈d,dig c=true)(c:UInt8)(h:d.head?=some c):dig c=true:=
 hd c (List.mem_of_mem_head? h)
theorem lA(d:Jd)(h:∀c,d.head?=some c->c≠45):Lib.hasPrefix d [45]=false/\Lib.trimPrefix d [45]=d:=by
 have hp:Lib.hasPrefix d [45]=false:=by
  rw[mD];cases hd:d.head? with
  |none=>rfl
  |some c=>simpa using h c hd
 exact⟨hp,by unfold Lib.trimPrefix;rw[hp];rfl⟩
theorem ki(d:Jd):Lib.hasPrefix (45::d) [45]=true/\Lib.trimPrefix (45::d) [45]=d:=by
 have hp:Lib.hasPrefix (45::d) [45]=true:=by rw[mD];rfl
 exact⟨hp,by unfold Lib.trimPrefix;rw[hp];rfl⟩
theorem EN(d:Jd)(h0:d≠[])(h1:d.head?≠some 48):cC d=false:=by
 unfold cC;cases d with
 |nil=>exact absurd rfl h0
 |cons x r=>
  simp only[Mg,N7,Lq]
  right
  simpa using h1
theorem ky(neg:Bool)(l d e:Jd)(hn:Lib.hasPrefix l [45]=neg)(ht:Lib.trimPrefix l [45]=d++e)(hd:∀c∈d,dig c=true)(hb:cC d=false)(he:∀c,e.head?=some c->dig c=false)(h46:¬e.head?=some 46):
  split l=tail neg d [] e:=by
 have hp:=pX d e hd he;rw[yL ht hn hp.1 hp.2,Jj (by rw[hb];decide),eH _ _ _ h46]
theorem zY(x:Int)(h1: -1000<=x)(h2:x<=1000):∃m:Nat,sgn (Lib.itoa x)=decide (x<0)/\aU (Lib.itoa x)=Lib.decDigits m/\(if x<0 then-(m:Int) else m)=x/\m<=1000:=by
 unfold Lib.itoa;by_cases h:x<0
 .rw[Jo h];exact⟨x.natAbs,by simp[sgn,h],by simp[aU],by rw[Jo h];omega,by omega⟩
 .rw[Jj h];refine⟨x.toNat,?_,?_,by rw[Jj h];omega,by omega⟩
  .cases hc:Lib.decDigits x.toNat with
   |nil=>exact absurd hc (me _)
   |cons c r=>
    have:=fL x.toNat c (by rw[hc];simp);have h45:c≠45:=fw c 45 this (by decide);simp[sgn,h45,h]
  .cases hc:Lib.decDigits x.toNat with
   |nil=>exact absurd hc (me _)
   |cons c r=>
    have:=fL x.toNat c (by rw[hc];simp);have h45:c≠45:=fw c 45 this (by decide);have h43:c≠43:=fw c 43 this (by decide);simp[aU,h45,h43]
theorem GN(d:Jd)(h1:d.head?≠some 48)(h2:d.getLast?≠some 48):core d=d:=by
 unfold core;rw[left_id d h1,right_id d h2]
theorem E6(neg:Bool)(d:Jd)(x:Int)(h1: -1000<=x)(h2:x<=1000):
  ∃p3 b,tail neg d [] (if x=0 then[] else 101::Lib.itoa x)=(⟨neg,d,[],b,p3⟩,true)/\fP ⟨neg,d,[],b,p3⟩=x:=by
 by_cases hx:x=0
 .subst hx;exact⟨[],false,by rw[Jo rfl];rfl,rfl⟩
 .obtain⟨m,e1,e2,e3,e4⟩:=zY x h1 h2;have hp:=pX (Lib.decDigits m) [] (fL m) (λc h=>by cases h);rw[JK] at hp;refine⟨Lib.decDigits m,decide (x<0),?_,?_⟩
  .rw[Jj hx,lf _ _ _ _ _ (.inl rfl),e1,e2,hp.1,hp.2];cases hc:Lib.decDigits m with
   |nil=>exact absurd hc (me _)
   |cons c r=>rfl
  .unfold fP;simp only;rw[Fb m (by omega)];by_cases h:x<0
   .rw[Jo h] at e3;simp[h,e3]
   .rw[Jj h] at e3;simp[h,e3]
theorem iq(n:Num)(h:May n):parse (text n)=(n,0):=by
 rcases h with rfl|⟨h0,hd,hh,hl,h60,hx1,hx2⟩
 .decide
 .obtain⟨neg,d,x⟩:=n;simp only at h0 hd hh hl h60 hx1 hx2;have hb:=EN d h0 hh;have he1:∀c,(if x=0 then[] else 101::Lib.itoa x:Jd).head?=some c->dig c=false:=by
   intro c hc;split at hc
   .cases hc
   .simp at hc;subst hc;decide
  have he2:¬(if x=0 then[] else 101::Lib.itoa x:Jd).head?=some 46:=by
   split
   .simp
   .simp
  obtain⟨p3,b,t1,t2⟩:=E6 neg d x hx1 hx2;have hs:split (text ⟨neg,d,x⟩)=(⟨neg,d,[],b,p3⟩,true):=by
   rw[<-t1];have e:d.isEmpty=false:=by simpa using h0
   unfold text;simp only[e,Ki,Kq];cases neg
   .simp only[Ki,Kq,JW];have hp:=lA (d++if x=0 then[] else 101::Lib.itoa x) (λc hc=>by
     cases d with
     |nil=>exact absurd rfl h0
     |cons y r=>
      simp at hc;subst hc;exact fw y 45 (hd y (by simp)) (by decide))
    exact ky false _ d _ hp.1 hp.2 hd hb he1 he2
   .simp only[KJ];have hp:=ki (d++if x=0 then[] else 101::Lib.itoa x);exact ky true _ d _ hp.1 hp.2 hd hb he1 he2
  unfold parse;rw[hs,mA];have hn:normal neg (d++[]) (fP ⟨neg,d,[],b,p3⟩-([]:Jd).length)=(⟨neg,d,x⟩,true):=by
   rw[JK,t2,iQ,GN d hh hl,left_id d hh,Jj (by simpa using h0),Jj (by simp;omega)];simp
  rw[hn];rfl
theorem eG(n:Num)(h:May n):(text n).length<=100:=by
 rcases h with rfl|⟨h0,hd,hh,hl,h60,hx1,hx2⟩
 .decide
 .have hi:=M9 n.exp (by omega) (by omega);unfold text;split
  .decide
  .simp only[Jk];have h1:(if n.neg then[45] else[]:Jd).length<=1:=by split<;>decide
   have h2:(if n.exp=0 then[] else 101::Lib.itoa n.exp:Jd).length<=22:=by
    split
    .decide
    .simp;omega
   omega
theorem sU:∀s:Jd,(∀c∈s,dig c=true)->(∃c∈s,c≠48)->Lib.compareBytes (List.replicate s.length 48) s= -1
 |[],_,h=>by obtain⟨c,hc,_⟩:=h;cases hc
 |y::s,hd,h=>by
  rw[Jl,MP];simp only[Lib.compareBytes,KL];have hy:=jS (hd y (by simp));have h48:(48:UInt8).toNat=48:=rfl;by_cases e:48<y.toNat
  .rw[Jo (by omega)]
  .rw[Jj (by omega),Jj (by omega)];refine sU s (λc hc=>hd c (by simp[hc])) ?_;obtain⟨c,hc,hne⟩:=h;rcases JB.1 hc with rfl|hc'
   .exact absurd (L4.1 (by rw[h48];omega)) hne
   .exact⟨c,hc',hne⟩
theorem BP(y:UInt8)(s:Jd)(h:(y::s).getLast?≠some 48):∃c∈y::s,c≠48:=by
 refine⟨(y::s).getLast (by simp),List.getLast_mem _,λe=>h ?_⟩;rw[MH (by simp),e]
theorem tZ(y:UInt8)(s:Jd)(h:(y::s).getLast?≠some 48):s.getLast?≠some 48:=by
 cases s with
 |nil=>simp
 |cons z r=>simpa[List.getLast?_cons_cons] using h
theorem pad:∀(r1 r2:Jd) (b1 b2:Nat),(∀c∈r1,dig c=true)->(∀c∈r2,dig c=true)->r1.getLast?≠some 48->r2.getLast?≠some 48->r1.length+b1=r2.length+b2->
  Lib.compareBytes (r1++List.replicate b1 48) (r2++List.replicate b2 48)=Lib.compareBytes r1 r2
 |[],[],b1,b2,_,_,_,_,h=>by
  have e:b1=b2:=by simpa using h
  subst e;exact(cF _).trans rfl
 |[],y::r2,b1,b2,_,h2,_,l2,h=>by
  have e:List.replicate b1 (48:UInt8)=List.replicate (y::r2++List.replicate b2 48).length 48:=by
   congr 1;simp at h ⊢;omega
  rw[JW,e,sU]
  .rfl
  .intro c hc;rcases Jq.1 hc with hc|hc
   .exact h2 c hc
   .rw[(List.mem_replicate.1 hc).2];decide
  .obtain⟨c,hc,hne⟩:=BP y r2 l2;exact⟨c,Lf _ hc,hne⟩
 |x::r1,[],b1,b2,h1,_,l1,_,h=>by
  have e:List.replicate b2 (48:UInt8)=List.replicate (x::r1++List.replicate b1 48).length 48:=by
   congr 1;simp at h ⊢;omega
  rw[bT,JW,e,sU]
  .rfl
  .intro c hc;rcases Jq.1 hc with hc|hc
   .exact h1 c hc
   .rw[(List.mem_replicate.1 hc).2];decide
  .obtain⟨c,hc,hne⟩:=BP x r1 l1;exact⟨c,Lf _ hc,hne⟩
 |x::r1,y::r2,b1,b2,h1,h2,l1,l2,h=>by
  have ih:=pad r1 r2 b1 b2 (λc hc=>h1 c (by simp[hc])) (λc hc=>h2 c (by simp[hc])) (tZ x r1 l1) (tZ y r2 l2) (by simp at h;omega);simp only[JS,Lib.compareBytes];rw[ih]
def val(l:Jd):Nat:=l.foldl (λv c=>10*v+(c.toNat-48)) 0
theorem za(l:Jd)(c:UInt8):val (l++[c])=10*val l+(c.toNat-48):=by
 unfold val;rw[Lg];rfl
theorem Gr(l:Jd):∀v,l.foldl (λv c=>10*v+(c.toNat-48)) v=v*10^l.length+val l:=by
 induction l with
 |nil=>intro v;simp[val]
 |cons c r ih=>
  intro v;unfold val;rw[Kn,Kn,ih,ih,Jl,Nat.pow_succ];rw[Ly,Ly,Nat.mul_zero,Lp,JI];have:10*v*10^r.length=v*(10^r.length*10):=by rw[Nat.mul_comm 10 v,Nat.mul_assoc,Nat.mul_comm 10]
  omega
theorem sN(c:UInt8)(r:Jd):val (c::r)=(c.toNat-48)*10^r.length+val r:=by
 show r.foldl _ (10*0+(c.toNat-48))=_;rw[Gr];simp
theorem wA(l:Jd)(h:∀c∈l,dig c=true):val l<10^l.length:=by
 induction l with
 |nil=>decide
 |cons c r ih=>
  have hr:=ih (λd hd=>h d (by simp[hd]));have hc:=jS (h c (by simp));rw[sN,Jl,Nat.pow_succ];have:(c.toNat-48)*10^r.length<=9*10^r.length:=K9 _ (by omega);omega
theorem uE:∀a b:Jd,(∀c∈a,dig c=true)->(∀c∈b,dig c=true)->a.length=b.length->val a<val b->Lib.compareBytes a b= -1
 |[],[],_,_,_,h=>by simp[val] at h
 |[],_::_,_,_,h,_=>by simp at h
 |_::_,[],_,_,h,_=>by simp at h
 |x::a,y::b,ha,hb,hl,hv=>by
  have hl':a.length=b.length:=by simpa using hl
  have h1:=wA a (λc hc=>ha c (by simp[hc]));have h2:=wA b (λc hc=>hb c (by simp[hc]));have hx:=jS (ha x (by simp));have hy:=jS (hb y (by simp));rw[sN,sN,hl'] at hv;rw[hl'] at h1;simp only[Lib.compareBytes,KL];by_cases e1:x.toNat<y.toNat
  .rw[Jo e1]
  .rw[Jj e1];by_cases e2:y.toNat<x.toNat
   .exfalso
    have:(y.toNat-48+1)*10^b.length<=(x.toNat-48)*10^b.length:=K9 _ (by omega);rw[Ly,Nat.one_mul] at this;omega
   .rw[Jj e2];have e:x.toNat=y.toNat:=by omega
    rw[e] at hv;exact uE a b (λc hc=>ha c (by simp[hc])) (λc hc=>hb c (by simp[hc])) hl' (by omega)
theorem iX(u:Nat):val (Lib.decDigits u)=u:=by
 induction u using Nat.strongRecOn with
 |ind u ih=>
  rw[Lib.decDigits];split
  .rename_i h10;have e:=(fx u h10).2;simp only[val,Kn,NQ,e];omega
  .have e:=(fx (u%10) (by omega)).2;rw[za,ih (u/10) (by omega),e];omega
theorem uU(n:Nat):∀m,m<=n->Lib.nDigits m<=Lib.nDigits n:=by
 induction n using Nat.strongRecOn with
 |ind n ih=>
  intro m hm;by_cases h:m<10
  .rw[Lib.nDigits_small h];exact Lib.nDigits_pos n
  .have hn:¬n<10:=by omega
   rw[Lib.nDigits_big h,Lib.nDigits_big hn];have:=ih (n/10) (by omega) (m/10) (by omega);omega
theorem kV(k:Int)(h:0<=k):Lib.itoa k=Lib.decDigits k.toNat:=by unfold Lib.itoa;rw[Jj (by omega)]
theorem GO(u:Nat):cC (Lib.decDigits u)=false:=by
 by_cases h:u=0
 .subst h;rw[Nd (by omega)];decide
 .exact EN _ (me u) (kM u h)
theorem DE(u:Nat):parse (Lib.decDigits u)=gu (⟨false,Lib.decDigits u,[],false,[]⟩,true):=by
 have hp:=lA (Lib.decDigits u) (λc hc=>fw c 45 (xF _ (fL u) c hc) (by decide));unfold parse;rw[ky false _ (Lib.decDigits u) [] hp.1 (by rw[JK];exact hp.2) (fL u) (GO u) (λc h=>by cases h) (by simp)];rfl
theorem wZ(d:Jd):∃b,Lib.trimLeftB d 48=core d++List.replicate b 48:=right_eq _
theorem nZ(u:Nat)(h0:u≠0)(h:u<=2000000000):∃b:Nat,(parse (Lib.decDigits u)).1=⟨false,core (Lib.decDigits u),b⟩/\Lib.decDigits u=core (Lib.decDigits u)++List.replicate b 48/\core (Lib.decDigits u)≠[]:=by
 obtain⟨b,hb⟩:=wZ (Lib.decDigits u);rw[left_id _ (kM u h0)] at hb;have hlen:(Lib.decDigits u).length<=21:=by
  have:=M9 u (by omega) (by omega);rw[kV _ (by omega)] at this;simpa using this
 have hl:=Kk List.length hb;rw[Jk,My] at hl;have hne:core (Lib.decDigits u)≠[]:=by
  intro e;rw[e,JW] at hb;have h1:=kM u h0;rw[hb] at h1;cases b with
  |zero=>exact me u (by rw[hb];rfl)
  |succ n=>rw[MP] at h1;exact h1 rfl
 refine⟨b,?_,hb,hne⟩;have hn:normal false (Lib.decDigits u++[]) (fP ⟨false,Lib.decDigits u,[],false,[]⟩-([]:Jd).length)=(⟨false,core (Lib.decDigits u),b⟩,true):=by
  have hx:fP ⟨false,Lib.decDigits u,[],false,[]⟩=0:=rfl;have e:(0:Int)-(([]:Jd).length:Int)+(((Lib.decDigits u).length:Int)-((core (Lib.decDigits u)).length:Int))=b:=by
   simp only[Jw];omega
  rw[JK,hx,iQ,left_id _ (kM u h0),e,Jj (by simpa using hne),Jj (by omega)]
 rw[DE,mA,hn];rfl
theorem qC:(parse (Lib.decDigits 0)).1=Num.zero:=by
 rw[Nd (by omega)];decide
theorem zC(u:Nat)(h:u<=1000000000):cmp (parse (Lib.decDigits u)).1 (parse (Lib.decDigits (u+1))).1= -1:=by
 obtain⟨b2,e2,d2,n2⟩:=nZ (u+1) (by omega) (by omega);by_cases h0:u=0
 .subst h0;rw[qC,e2];have hs:sign ⟨false,core (Lib.decDigits (0+1)),b2⟩=1:=by
   unfold sign;rw[Jj (by simpa using n2)];rfl
  unfold cmp;rw[hs];rfl
 .obtain⟨b1,e1,d1,n1⟩:=nZ u h0 (by omega);rw[e1,e2];have s1:sign ⟨false,core (Lib.decDigits u),b1⟩=1:=by unfold sign;rw[Jj (by simpa using n1)];rfl
  have s2:sign ⟨false,core (Lib.decDigits (u+1)),b2⟩=1:=by unfold sign;rw[Jj (by simpa using n2)];rfl
  have l1:=Kk List.length d1;have l2:=Kk List.length d2;rw[Jk,My] at l1 l2;have hm:=uU (u+1) u (by omega);rw[<-Lib.decDigits_length,<-Lib.decDigits_length] at hm;unfold cmp;rw[s1,s2];simp only[(eB 1 1).2 rfl,KJ,Ki,Kq];unfold aK;simp only;by_cases e:(Lib.decDigits u).length=(Lib.decDigits (u+1)).length
  .rw[Jo ((eB _ _).2 (by omega))];rw[<-pad _ _ b1 b2 (λc hc=>fL _ c (qB _ c hc)) (λc hc=>fL _ c (qB _ c hc)) (jz _) (jz _) (by omega),<-d1,<-d2];exact uE _ _ (fL _) (fL _) e (by rw[iX,iX];omega)
  .have hlt:Lib.compareInt ((core (Lib.decDigits u)).length+(b1:Int)) ((core (Lib.decDigits (u+1))).length+(b2:Int))= -1:=by
    unfold Lib.compareInt;rw[Jo (by omega)]
   rw[hlt];rfl
theorem zD(k:Int)(h0:0<=k)(h1:k<=1000000000):cmp (count k) (count (k+1))= -1:=by
 unfold count;rw[kV k h0,kV (k+1) (by omega),show(k+1).toNat=k.toNat+1 from by omega];exact zC k.toNat (by omega)
theorem x5(k:Int)(h0:0<=k)(h1:k<=1000000000):0<=(count k).exp:=by
 unfold count;rw[kV k h0];by_cases h:k.toNat=0
 .rw[h,qC];decide
 .obtain⟨b,e,_⟩:=nZ k.toNat h (by omega);rw[e];simp
theorem IA:Laws:=
 ⟨CK,λl _=>ue l,iq,eG,CB,wV,qy,λa b c ha hb _ h1 h2=>wW a b c ha hb h1 h2,λ_ _ _=>ue _,zD,x5⟩
def full(d:Jd)(n:Nat):Jd:=if d.isEmpty then[] else d++List.replicate n 48
def shorter(x y:Jd):Bool:=if x.length=y.length then Op.bytesLess x y else decide (x.length<y.length)
def less(a b:Num):Bool:=
 if a.neg=b.neg then
  (if a.neg then shorter (full b.digits (b.exp-min a.exp b.exp).toNat) (full a.digits (a.exp-min a.exp b.exp).toNat)
   else shorter (full a.digits (a.exp-min a.exp b.exp).toNat) (full b.digits (b.exp-min a.exp b.exp).toNat))
 else a.neg
def fg(a b:Num):Int:=if less a b then -1 else if less b a then 1 else 0
def Small(n:Num):Prop:=n.digits.length<=1000/\ -1000<=n.exp/\n.exp<=1000
def cO(t:Jd):Jd×Bool:=
 match t with
 |[]=>([],true)
 |c::r=>if c=101\/c=69 then(suf (aU r),!(pre (aU r)).isEmpty) else(c::r,true)
def cG(t:Jd):Jd×Bool:=
 match t with
 |46::r=>if(pre r).isEmpty then(suf r,false) else cO (suf r)
 |_=>cO t
def bA(t:Jd):Jd×Bool:=
 let t1:=Lib.trimPrefix t [45]
 if(pre t1).isEmpty then(t1,false) else cG (if t1.head?=some 48 then t1.drop 1 else suf t1)
theorem ez(t:Jd)(h:¬t.head?=some 46):cG t=cO t:=by
 unfold cG;split
 .simp at h
 .rfl
theorem mf(c:UInt8)(r:Jd)(h:¬(c=101\/c=69)):cO (c::r)=(c::r,true):=by
 simp only[cO];rw[Jj h]
theorem qE(c:UInt8)(r:Jd)(h:c=101\/c=69):cO (c::r)=(suf (aU r),!(pre (aU r)).isEmpty):=by
 simp only[cO];rw[Jo h]
theorem yQ(neg:Bool)(w f s:Jd):(tail neg w f s).2=true↔cO s=([],true):=by
 cases s with
 |nil=>simp[tail,cO]
 |cons c r=>
  by_cases h:c=101\/c=69
  .rw[lf _ _ _ _ _ h,qE _ _ h];simp only[JH,Kl,Mq];exact⟨λh=>⟨h.2,h.1⟩,λh=>⟨h.2,h.1⟩⟩
  .rw[nR _ _ _ _ _ h,mf _ _ h];simp
theorem Cw(neg:Bool)(w s:Jd):(bC neg w s).2=true↔cG s=([],true):=by
 by_cases h:s.head?=some 46
 .obtain⟨r,rfl⟩:∃r,s=46::r:=by
   cases s with
   |nil=>cases h
   |cons d t=>exact⟨t,by rw[JY h]⟩
  rw[fs,show cG (46::r)=if(pre r).isEmpty then(suf r,false) else cO (suf r) from rfl];split
  .simp
  .exact yQ _ _ _ _
 .rw[eH _ _ _ h,ez _ h];exact yQ _ _ _ _
theorem E3(l:Jd):(split l).2=true↔bA l=([],true):=by
 unfold split bA;simp only;generalize Lib.trimPrefix l [45]=t;have hd0:=gB t;have ht0:=iR t;generalize pre t=pt at hd0 ht0 ⊢;generalize suf t=st at ht0 ⊢;cases pt with
 |nil=>simp[cC]
 |cons c r=>
  have ht:t=c::(r++st):=ht0.symm;have hh:t.head?=some c:=by rw[ht];rfl
  simp only[Mg,Ki,Kq,hh];by_cases hb:cC (c::r)=true
  .rw[Jo hb];have hb':0<r.length/\c=48:=by
    simp[cC] at hb;exact⟨by omega,hb.2⟩
   obtain⟨hr,rfl⟩:=hb';rw[Jo rfl];cases r with
   |nil=>simp at hr
   |cons d r=>
    have hd:dig d=true:=hd0 d (by simp);have e:t.drop 1=d::(r++st):=by rw[ht];rfl
    rw[e,ez _ (by simpa using fw d 46 hd (by decide)),mf _ _ (by
     rintro(h|h)
     .exact fw d 101 hd (by decide) h
     .exact fw d 69 hd (by decide) h)]
    simp
  .rw[Jj hb];have e:(if some c=some 48 then t.drop 1 else st)=st:=by
    split
    .rename_i h;have hc:c=48:=JY h;have hr:r=[]:=by
      cases r with
      |nil=>rfl
      |cons d r=>exact absurd (by simp[cC,hc]) hb
     rw[ht,hr];rfl
    .rfl
   rw[e];exact Cw _ _ _
structure Sc where
 neg:Bool
 digits:Jd
 behind:Nat
 point:Bool
 exp:Int
 down:Bool
 power:Bool
def Sc.start:Sc:=⟨false,[],0,false,0,false,false⟩
def jM(e:Int)(c:UInt8):Int:=if dig c then min (10*e+(c.toNat:Int)-48) 1000000 else e
def step(st:Sc)(c:UInt8):Sc:=
 if st.power then {st with down:=st.down||c==45,exp:=jM st.exp c}
 else if c=45 then {st with neg:=true}
 else if c=46 then {st with point:=true}
 else if c=101\/c=69 then {st with power:=true}
 else {st with digits:=st.digits++[c],behind:=if st.point then st.behind+1 else st.behind}
def scan(l:Jd):Sc:=l.foldl step Sc.start
theorem DO(l:Jd)(k:Nat)(h:k<l.length):scan (l.take (k+1))=step (scan (l.take k)) l[k]:=by
 rw[Jr h];unfold scan;rw[Lg];rfl
theorem Gh(e:Int)(c:UInt8)(h:0<=e/\e<=1000000):0<=jM e c/\jM e c<=1000000:=by
 unfold jM;split
 .have:=jS ‹_›;omega
 .exact h
theorem DN(l:Jd):∀st:Sc,0<=st.exp/\st.exp<=1000000->st.behind<=st.digits.length->(0<=(l.foldl step st).exp/\(l.foldl step st).exp<=1000000)/\(l.foldl step st).behind<=(l.foldl step st).digits.length/\(l.foldl step st).digits.length<=st.digits.length+l.length:=by
 induction l with
 |nil=>intro st h1 h2;exact⟨h1,h2,by simp⟩
 |cons c r ih=>
  intro st h1 h2;rw[Kn];have key:(0<=(step st c).exp/\(step st c).exp<=1000000)/\(step st c).behind<=(step st c).digits.length/\(step st c).digits.length<=st.digits.length+1:=by
   unfold step;split
   .exact⟨Gh _ _ h1,h2,by simp⟩
   .split
    .exact⟨h1,h2,by simp⟩
    .split
     .exact⟨h1,h2,by simp⟩
     .split
      .exact⟨h1,h2,by simp⟩
      .refine⟨h1,?_,by simp⟩;simp only[Jk,Jy];split<;>omega
  have:=ih (step st c) key.1 key.2.1;refine⟨this.1,this.2.1,?_⟩;simp only[Jl];omega
theorem Hp(l:Jd):(0<=(scan l).exp/\(scan l).exp<=1000000)/\(scan l).behind<=(scan l).digits.length/\(scan l).digits.length<=l.length:=by
 have:=DN l Sc.start ⟨by decide,by decide⟩ (by decide);exact⟨this.1,this.2.1,by have h:=this.2.2;rw[show Sc.start.digits.length=0 from rfl,JI] at h;exact h⟩
def tj(n:Nat)(x:Int):Bool:= !(decide (60<n)||decide (x< -1000)||decide (1000<x))
def made(neg:Bool)(d:Jd)(x:Int):Num×Int:=if d.isEmpty then(Num.zero,0) else if tj d.length x then(⟨neg,d,x⟩,0) else(Num.zero,5)
def vN(st:Sc):Num×Int:=made st.neg (core st.digits) ((if st.down then -st.exp else st.exp)-st.behind+(((Lib.trimLeftB st.digits 48).length:Int)-(core st.digits).length))
def Ey(l:Jd):Prop:=(split l).2=true->(∀c∈(scan l).digits,dig c=true)/\parse l=vN (scan l)
theorem mZ(n:Bool)(D:Jd)(b:Nat)(pt dn:Bool):∀(d:Jd) (e:Int),(∀c∈d,dig c=true)->d.foldl step ⟨n,D,b,pt,e,dn,true⟩=⟨n,D,b,pt,d.foldl jM e,dn,true⟩
 |[],_,_=>rfl
 |c::r,e,h=>by
  have hc:dig c=true:=h c (by simp);have h45:(c==45)=false:=by simpa using fw c 45 hc (by decide)
  rw[Kn,Kn,show step ⟨n,D,b,pt,e,dn,true⟩ c=⟨n,D,b,pt,jM e c,dn,true⟩ from by simp[step,h45]];exact mZ n D b pt dn r _ (λx hx=>h x (by simp[hx]))
theorem qQ(n:Bool)(pt:Bool)(e:Int)(dn:Bool):∀(d D:Jd) (b:Nat),(∀c∈d,dig c=true)->d.foldl step ⟨n,D,b,pt,e,dn,false⟩=⟨n,D++d,if pt then b+d.length else b,pt,e,dn,false⟩
 |[],D,b,_=>by cases pt<;>simp
 |c::r,D,b,h=>by
  have hc:dig c=true:=h c (by simp);have h1:=fw c 45 hc (by decide);have h2:=fw c 46 hc (by decide);have h3:=fw c 101 hc (by decide);have h4:=fw c 69 hc (by decide);rw[Kn,show step ⟨n,D,b,pt,e,dn,false⟩ c=⟨n,D++[c],if pt then b+1 else b,pt,e,dn,false⟩ from by simp[step,h1,h2,h3,h4],qQ n pt e dn r _ _ (λx hx=>h x (by simp[hx]))];cases pt
  .simp
  .simp[O1,MC 1]
def Same(n:Bool)(D:Jd)(b:Nat)(sc:Sc)(p:bV):Prop:=
 (∀c∈p.exp,dig c=true)/\sc.neg=n/\sc.digits=D/\sc.behind=b/\sc.exp=p.exp.foldl jM 0/\sc.down=p.expNeg
theorem uD(neg:Bool)(w f s:Jd)(n:Bool)(D:Jd)(b:Nat)(pt:Bool)(h:(tail neg w f s).2=true):
  (tail neg w f s).1.neg=neg/\(tail neg w f s).1.whole=w/\(tail neg w f s).1.frac=f/\Same n D b (s.foldl step ⟨n,D,b,pt,0,false,false⟩) (tail neg w f s).1:=by
 cases s with
 |nil=>exact⟨rfl,rfl,rfl,λ_ h=>(by cases h),rfl,rfl,rfl,rfl,rfl⟩
 |cons c r=>
  by_cases hc:c=101\/c=69
  .rw[lf _ _ _ _ _ hc] at h ⊢;simp only[JH,Mq] at h;have hr:aU r=pre (aU r):=by
    have:=iR (aU r);rw[h.2,JK] at this;exact this.symm
   have hd:=gB (aU r);refine⟨rfl,rfl,rfl,hd,?_⟩;rw[<-hr] at hd ⊢;simp only;have h0:step ⟨n,D,b,pt,0,false,false⟩ c=⟨n,D,b,pt,0,false,true⟩:=by
    rcases hc with rfl|rfl<;>rfl
   rw[Kn,h0];cases r with
   |nil=>exact⟨rfl,rfl,rfl,rfl,rfl⟩
   |cons d t=>
    by_cases h45:d=45
    .subst h45;have e1:aU (45::t)=t:=rfl;rw[e1] at hd ⊢;rw[Kn,show step ⟨n,D,b,pt,0,false,true⟩ 45=⟨n,D,b,pt,0,true,true⟩ from rfl,mZ _ _ _ _ _ _ _ hd];exact⟨rfl,rfl,rfl,rfl,rfl⟩
    .by_cases h43:d=43
     .subst h43;have e1:aU (43::t)=t:=rfl;rw[e1] at hd ⊢;rw[Kn,show step ⟨n,D,b,pt,0,false,true⟩ 43=⟨n,D,b,pt,0,false,true⟩ from rfl,mZ _ _ _ _ _ _ _ hd];exact⟨rfl,rfl,rfl,rfl,rfl⟩
     .have e1:aU (d::t)=d::t:=by simp[aU,h45,h43]
      rw[e1] at hd ⊢;rw[mZ _ _ _ _ _ _ _ hd];exact⟨rfl,rfl,rfl,rfl,by simp[sgn,h45]⟩
  .rw[nR _ _ _ _ _ hc] at h;cases h
theorem zt(neg:Bool)(w s:Jd)(h:(bC neg w s).2=true):
  (bC neg w s).1.neg=neg/\(bC neg w s).1.whole=w/\Same neg (w++(bC neg w s).1.frac) (bC neg w s).1.frac.length (s.foldl step ⟨neg,w,0,false,0,false,false⟩) (bC neg w s).1:=by
 by_cases h46:s.head?=some 46
 .obtain⟨r,rfl⟩:∃r,s=46::r:=by
   cases s with
   |nil=>cases h46
   |cons d t=>exact⟨t,by rw[JY h46]⟩
  rw[fs] at h ⊢;by_cases hp:(pre r).isEmpty=true
  .rw[Jo hp] at h;cases h
  .rw[Jj hp] at h ⊢;rw[Kn,show step ⟨neg,w,0,false,0,false,false⟩ 46=⟨neg,w,0,true,0,false,false⟩ from rfl];have hf:r.foldl step ⟨neg,w,0,true,0,false,false⟩=(suf r).foldl step ⟨neg,w++pre r,(pre r).length,true,0,false,false⟩:=by
    conv=>lhs;rw[<-iR r]
    rw[Lg,qQ _ _ _ _ _ _ _ (gB r)];simp
   rw[hf];obtain⟨a1,a2,a3,a4⟩:=uD neg w (pre r) (suf r) neg (w++pre r) (pre r).length true h;refine⟨a1,a2,?_⟩;rw[a3];exact a4
 .rw[eH _ _ _ h46] at h ⊢;obtain⟨a1,a2,a3,a4⟩:=uD neg w [] s neg w 0 false h;refine⟨a1,a2,?_⟩;rw[a3,JK];exact a4
theorem Bc(l:Jd)(h:(split l).2=true):Same (split l).1.neg ((split l).1.whole++(split l).1.frac) (split l).1.frac.length (scan l) (split l).1:=by
 unfold split at h ⊢;simp only at h ⊢;have hl:l.foldl step Sc.start=(Lib.trimPrefix l [45]).foldl step ⟨Lib.hasPrefix l [45],[],0,false,0,false,false⟩:=by
  by_cases h45:l.head?=some 45
  .obtain⟨r,rfl⟩:∃r,l=45::r:=by
    cases l with
    |nil=>cases h45
    |cons d t=>exact⟨t,by rw[JY h45]⟩
   rw[(ki r).1,(ki r).2];rfl
  .have hn:=lA l (λc hc e=>h45 (by rw[hc,e]));rw[hn.1,hn.2];rfl
 by_cases hb:cC (pre (Lib.trimPrefix l [45]))=true
 .rw[Jo hb] at h;cases h
 .rw[Jj hb] at h ⊢;obtain⟨a1,a2,a3⟩:=zt _ _ _ h;rw[a1,a2];unfold scan;rw[hl];have e:(Lib.trimPrefix l [45]).foldl step ⟨Lib.hasPrefix l [45],[],0,false,0,false,false⟩=(suf (Lib.trimPrefix l [45])).foldl step ⟨Lib.hasPrefix l [45],pre (Lib.trimPrefix l [45]),0,false,0,false,false⟩:=by
   conv=>lhs;rw[<-iR (Lib.trimPrefix l [45])]
   rw[Lg,qQ _ _ _ _ _ _ _ (gB _)];simp
  rw[e];exact a3
theorem xj:∀(l:Jd) (e:Int),0<=e->(∀c∈l,dig c=true)->l.foldl jM (min e 1000000)=min (l.foldl (λe c=>min (e*10+((c.toNat:Int)-48)) far) e) 1000000
 |[],_,_,_=>rfl
 |c::r,e,h0,h=>by
  have hc:dig c=true:=h c (by simp);have hb:=jS hc;rw[Kn,Kn,show jM (min e 1000000) c=min (min (e*10+((c.toNat:Int)-48)) far) 1000000 from by
   unfold jM far;rw[Jo hc];omega]
  exact xj r _ (by unfold far;omega) (λx hx=>h x (by simp[hx]))
theorem Hc(neg:Bool)(d:Jd)(X X':Int)(h:X=X'\/((X< -1000\/1000<X)/\(X'< -1000\/1000<X'))):
  (if(if 60<d.length\/X< -1000\/1000<X then(Num.zero,false) else(⟨neg,d,X⟩,true):Num×Bool).2=true then((if 60<d.length\/X< -1000\/1000<X then(Num.zero,false) else(⟨neg,d,X⟩,true):Num×Bool).1,(0:Int)) else(Num.zero,5))=if tj d.length X'=true then(⟨neg,d,X'⟩,0) else(Num.zero,5):=by
 by_cases hq:60<d.length\/X< -1000\/1000<X
 .have hm:tj d.length X'=false:=by
   unfold tj;simp only[Bool.not_eq_false',ND,JF];omega
  rw[Jo hq,hm]<;>rfl
 .have hm:tj d.length X'=true:=by
   unfold tj;simp only[Nc,NY,Ks];omega
  have e:X=X':=by omega
  subst e;rw[Jj hq,hm]<;>rfl
theorem IE(l:Jd)(hl:l.length<=100000):Ey l:=by
 intro h;obtain⟨s1,s2,s3,s4,s5,s6⟩:=Bc l h;have hs:=pH l;have hd:=uB l;refine⟨by rw[s3];exact hd,?_⟩;have he:(scan l).exp=min (mY (split l).1.exp) 1000000:=by
  rw[s5];exact xj _ 0 (by decide) s1
 have hbd:=pU _ s1;unfold parse gu vN;rw[Jo h,s2,s3,s4,he,s6];obtain⟨-,-,hz⟩:=hs;simp only;rw[iQ];unfold made fP;generalize hD:(split l).1.whole++(split l).1.frac=D at*
 have hDl:D.length<=100000:=by rw[<-hD,Jk];omega
 obtain⟨a,ha⟩:=left_eq D;obtain⟨b,hb⟩:=wZ D;have hal:D.length=a+(Lib.trimLeftB D 48).length:=by
  conv=>lhs;rw[ha]
  simp
 have hbl:(Lib.trimLeftB D 48).length=(core D).length+b:=by rw[hb];simp
 generalize (split l).1.frac.length=fl at*
 generalize mY (split l).1.exp=ex at*
 by_cases hc:(core D).isEmpty=true
 .rw[Jo hc,Jo hc];rfl
 .rw[Jj hc,Jj hc];have hfl:fl<=100000:=by omega
  cases(split l).1.expNeg;all_goals
   simp only[Ki,Kq,KJ];refine Hc _ _ _ _ ?_;omega
theorem eN:∀x y:Jd,Op.bytesLess x y=decide (Lib.compareBytes x y= -1)
 |[],[]=>by decide
 |_::_,[]=>by simp[Op.bytesLess,Lib.compareBytes]
 |[],_::_=>by simp[Op.bytesLess,Lib.compareBytes]
 |a::x,b::y=>by
  have hcb:Lib.compareBytes (a::x) (b::y)=if a<b then -1 else if b<a then 1 else Lib.compareBytes x y:=by simp only[Lib.compareBytes]
  rw[KM,JF,hcb,Op.bytesLess,eN x y];by_cases h1:a<b
  .rw[Jo h1];simp[h1]
  .rw[Jj h1];by_cases h2:b<a
   .rw[Jo h2];have hne:(a==b)=false:=by
     rw[Jp];rintro rfl;exact h1 h2
    simp[h1,hne]
   .rw[Jj h2];have e:a=b:=L4.1 (by simp only[KL] at h1 h2;omega);subst e;simp[h1]
theorem nN(a b:Num)(m:Int)(ha:a.digits≠[])(hb:b.digits≠[])(da:∀c∈a.digits,dig c=true)(db:∀c∈b.digits,dig c=true)(la:a.digits.getLast?≠some 48)(lb:b.digits.getLast?≠some 48)(h1:m<=a.exp)(h2:m<=b.exp):
  shorter (full a.digits (a.exp-m).toNat) (full b.digits (b.exp-m).toNat)=decide (aK a b= -1):=by
 rw[KM,JF];unfold full;rw[Jj (by simpa using ha),Jj (by simpa using hb)];unfold shorter aK;simp only[Jk,My];have hz:=eB (a.digits.length+a.exp) (b.digits.length+b.exp);have hl:=zV (a.digits.length+a.exp) (b.digits.length+b.exp);have hr:=oq (a.digits.length+a.exp) (b.digits.length+b.exp);by_cases e:Lib.compareInt (a.digits.length+a.exp) (b.digits.length+b.exp)=0
 .have e':=hz.1 e;have hlen:a.digits.length+(a.exp-m).toNat=b.digits.length+(b.exp-m).toNat:=by omega
  rw[Jo hlen,Jo e,eN,JF,pad _ _ _ _ da db la lb hlen]
 .have hne:¬(a.digits.length:Int)+a.exp=b.digits.length+b.exp:=λh=>e (hz.2 h);rw[Jj (by omega),Jj e];generalize Lib.compareInt (a.digits.length+a.exp) (b.digits.length+b.exp)=ci at*
  rw[JF];refine⟨λh=>?_,λh=>?_⟩
  .have:=hl.2 (by omega);omega
  .have:=hl.1 (by omega);omega
theorem xD(d:Jd)(n:Nat)(h:d≠[]):0<(full d n).length:=by
 unfold full;rw[Jj (by simpa using h)];have:0<d.length:=L5.2 h;simp only[Jk];omega
theorem pE(y:Jd)(h:0<y.length):shorter [] y=true/\shorter y []=false:=by
 unfold shorter;simp only[Jw];rw[Jj (by omega),Jj (by omega)];simp;omega
theorem fE(a b:Num)(ha:May a)(hb:May b):fg a b=cmp a b:=by
 rcases ha with rfl|⟨ha,da,_,la,_,_,_⟩<;>rcases hb with rfl|⟨hb,db,_,lb,_,_,_⟩
 .decide
 .have hl:=λn=>pE _ (xD b.digits n hb);have hf:∀n,full [] n=[]:=λ_=>rfl;obtain⟨nb,d,x⟩:=b;have hs:d.isEmpty=false:=by simpa using hb
  cases nb
  .simp only[fg,less,cmp,Num.zero,sign,hf,hs,hl,Lib.compareInt,KJ,Kq,Ki,Mr];simp
  .simp only[fg,less,cmp,Num.zero,sign,hs,Lib.compareInt,KJ,Kq,Ki,Mr];simp
 .have hl:=λn=>pE _ (xD a.digits n ha);have hf:∀n,full [] n=[]:=λ_=>rfl;obtain⟨na,d,x⟩:=a;have hs:d.isEmpty=false:=by simpa using ha
  cases na
  .simp only[fg,less,cmp,Num.zero,sign,hf,hs,hl,Lib.compareInt,KJ,Kq,Ki,Mr];simp
  .simp only[fg,less,cmp,Num.zero,sign,hs,Lib.compareInt,KJ,Kq,Ki,Mr];simp
 .have h1:=nN a b (min a.exp b.exp) ha hb da db la lb (by omega) (by omega);have h2:=nN b a (min a.exp b.exp) hb ha db da lb la (by omega) (by omega);have hm:min b.exp a.exp=min a.exp b.exp:=by omega
  have hfl:=oG a b;have hra:=size_range a b;have hsa:a.digits.isEmpty=false:=by simpa using ha
  have hsb:b.digits.isEmpty=false:=by simpa using hb
  unfold fg less cmp sign;rw[hm,h1,h2,hsa,hsb];generalize aK a b=s at*
  generalize aK b a=t at*
  cases a.neg<;>cases b.neg
  .simp[Lib.compareInt];split
   .omega
   .split<;>omega
  .simp[Lib.compareInt]
  .simp[Lib.compareInt]
  .simp[Lib.compareInt];split
   .omega
   .split<;>omega
end Nm
