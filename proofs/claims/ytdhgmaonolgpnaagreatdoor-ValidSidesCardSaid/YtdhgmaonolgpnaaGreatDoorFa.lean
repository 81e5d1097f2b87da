import Derived.Test.YtdhgmaonolgpnaaGreatDoorProg
import Derived.Maps.OwnSet
import Derived.Test.YtdhgmaonolgpnaaGreatDoorMa
set_option linter.unusedSimpArgs false
namespace Go.Proofs.YtdhgmaonolgpnaaGreatDoor
section
open Go.RowKit Go.Maps Go.ChangeMaps Go.MapKept
def iE(P:Program)(K:TypeId)(w:World)(b n:Nat)(S:Value->Option Value):Prop:=
 ∃es clock,w.heap[b]? =some (.map es clock)/\es.size=n/\(∀e∈es.toList,∃l,keyOf P K e.key=some l)/\es.toList.Pairwise (λx y=>x.key≠y.key)/\∀x v,S x=some v↔∃e∈es.toList,e.key=x/\e.val=v
section
variable {P:Program} {K E T:TypeId} {w w':World} {b n:Nat} {S:Value->Option Value}
theorem iE.new(w:World):iE P K (w.alloc (.map #[] 0)) w.heap.size 0 (λ_=>none):=
 ⟨#[],0,heap_alloc_new w _,rfl,λe he=>by simp at he,by simp,λx v=>by simp⟩
theorem iE.lt(h:iE P K w b n S):b<w.heap.size:=by
 obtain⟨es,clock,hb,_⟩:=h;exact(Array.getElem?_eq_some_iff.1 hb).1
theorem iE.far(h:iE P K w b n S)(hb:w'.heap[b]? =w.heap[b]?):iE P K w' b n S:=by
 obtain⟨es,clock,h1,h2⟩:=h;exact⟨es,clock,hb.trans h1,h2⟩
theorem iE.on(h:iE P K w b n S)(hb:Below w.heap.size w w'):iE P K w' b n S:=h.far (hb.block b h.lt)
theorem iE.congr{S':Value->Option Value}(h:iE P K w b n S)(hS:∀x,S' x=S x):iE P K w b n S':=by
 obtain⟨es,clock,h1,h2,h3,h4,h5⟩:=h;exact⟨es,clock,h1,h2,h3,h4,λx v=>by rw[hS];exact h5 x v⟩
theorem iE.look(hK:Keyed P K)(hT:P.underlying T=some (.map K E)){z:Value}(hz:(zeroValue E).run P w=.ok z w)(h:iE P K w b n S){x:Value}{l:Lit}(hx:keyOf P K x=some l)(c:Bool):
  (Instr.lookup T (.map (some b)) x c).run P w=.ok (if c then .tuple #[(S x).getD z,.bool (S x).isSome] else(S x).getD z) w:=by
 obtain⟨es,clock,h1,h2,h3,h4,h5⟩:=h;rcases hK.find w hx es.toList h3 with⟨f1,f2⟩|⟨j,e,f1,f2,f3⟩
 .have hS:S x=none:=by
   cases hS:S x with
   |none=>rfl
   |some v=>obtain⟨e,he,k1,_⟩:=(h5 x v).1 hS;exact absurd k1 (f2 e he)
  rw[hS];cases c<;>simp[Instr.lookup,run_underlying hT,MapKept.run_getObj_map h1,hK.check w _ hx,f1,hz,Result.andThen]
 .have hS:S x=some e.val:=(h5 x e.val).2 ⟨e,List.mem_of_getElem? f2,f3,rfl⟩;rw[hS];cases c<;>simp[Instr.lookup,run_underlying hT,MapKept.run_getObj_map h1,hK.check w _ hx,f1,Result.andThen]
theorem iE.put(hK:Keyed P K)(hT:P.underlying T=some (.map K E))(h:iE P K w b n S){x v:Value}{l:Lit}(hx:keyOf P K x=some l){S':Value->Option Value}(hs1:S' x=some v)(hs2:∀y,¬x=y->S' y=S y):
  ∃w',(Instr.mapUpdate T (.map (some b)) x v).run P w=.ok () w'/\iE P K w' b (if(S x).isSome=true then n else n+1) S'/\w.grownBy w' (some b):=by
 obtain⟨es,clock,h1,h2,h3,h4,h5⟩:=h;have hgr:∀es' clock',w.grownBy (setBlock w b (.map es' clock')) (some b):=λes' clock'=>⟨rfl,rfl,rfl,by simp[setBlock],λi _ hi=>heap_setBlock_other h1 _ (λe=>hi (by rw[e]))⟩;rcases hK.find w hx es.toList h3 with⟨f1,f2⟩|⟨j,e,f1,f2,f3⟩
 .have hS:S x=none:=by
   cases hS:S x with
   |none=>rfl
   |some v=>obtain⟨e,he,k1,_⟩:=(h5 x v).1 hS;exact absurd k1 (f2 e he)
  rw[hS];refine⟨setBlock w b (.map (es.push ⟨x,v,clock⟩) (clock+1)),?_,⟨es.push ⟨x,v,clock⟩,clock+1,heap_setBlock_same h1 _,by simp[h2],?_,?_,?_⟩,hgr _ _⟩
  .simp[Instr.mapUpdate,run_underlying hT,MapKept.run_getObj_map h1,hK.check w false hx,f1,MapKept.run_setObj_map _ h1,Result.andThen,setBlock]
  .intro e he;rw[Array.toList_push,List.mem_append,List.mem_singleton] at he;rcases he with he|rfl
   .exact h3 e he
   .exact⟨l,hx⟩
  .rw[Array.toList_push];refine List.pairwise_append.2 ⟨h4,by simp,λa ha c hc=>?_⟩;rw[List.mem_singleton] at hc;subst hc;exact f2 a ha
  .intro y u;simp only[Array.toList_push,List.mem_append,List.mem_singleton];by_cases hxy:x=y
   .subst hxy;rw[hs1];constructor
    .intro hu;injection hu with hu;exact⟨⟨x,v,clock⟩,.inr rfl,rfl,hu⟩
    .rintro⟨e,he|rfl,k1,k2⟩
     .exact absurd k1 (f2 e he)
     .exact congrArg some k2
   .rw[hs2 y hxy,h5];constructor
    .rintro⟨e,he,k1,k2⟩;exact⟨e,.inl he,k1,k2⟩
    .rintro⟨e,he|rfl,k1,k2⟩
     .exact⟨e,he,k1,k2⟩
     .exact absurd k1 hxy
 .have hS:S x=some e.val:=(h5 x e.val).2 ⟨e,List.mem_of_getElem? f2,f3,rfl⟩;rw[hS];have hj:es[j]? =some e:=by simpa using f2
  have hjl:j<es.toList.length:=(List.getElem?_eq_some_iff.1 f2).1;have hlist:(es.modify j (λe'=>{e' with key:=x,val:=v})).toList=es.toList.set j {e with key:=x,val:=v}:=by rw[Array.toList_modify,modify_eq_set _ _ _ _ f2]
  have hkeys:(es.toList.set j {e with key:=x,val:=v}).map (·.key)=es.toList.map (·.key):=by
   rw[List.map_set];refine List.ext_getElem? λi=>?_;by_cases hi:j=i
   .subst hi;rw[List.getElem?_set_self (by simpa using hjl),List.getElem?_map,f2];simp[f3]
   .rw[List.getElem?_set_ne hi]
  refine⟨setBlock w b (.map (es.modify j (λe'=>{e' with key:=x,val:=v})) clock),?_,⟨_,clock,heap_setBlock_same h1 _,by simp[h2],?_,?_,?_⟩,hgr _ _⟩
  .simp[Instr.mapUpdate,run_underlying hT,MapKept.run_getObj_map h1,hK.check w false hx,f1,hj,f3,hK.stays w hx,MapKept.run_setObj_map _ h1,Result.andThen,setBlock]
  .intro a ha;rw[hlist] at ha;have:a.key∈es.toList.map (·.key):=by rw[<-hkeys];exact List.mem_map.2 ⟨a,ha,rfl⟩
   obtain⟨a',ha',e1⟩:=List.mem_map.1 this;rw[<-e1];exact h3 a' ha'
  .rw[hlist];have hp:=List.pairwise_map.2 h4;rw[<-hkeys] at hp;exact List.pairwise_map.1 hp
  .intro y u;rw[hlist];by_cases hxy:x=y
   .subst hxy;rw[hs1];constructor
    .intro hu;injection hu with hu;exact⟨{e with key:=x,val:=v},List.mem_iff_getElem.2 ⟨j,by simpa using hjl,by simp⟩,rfl,hu⟩
    .rintro⟨a,ha,k1,k2⟩;obtain⟨i,hi,ea⟩:=List.getElem_of_mem ha;rw[List.getElem_set] at ea;split at ea
     .rw[<-ea] at k2;rw[<-k2]
     .rename_i hne
      exfalso
      have hi':i<es.toList.length:=by simpa using hi
      have hkk:=(List.pairwise_iff_getElem.1 h4);have he:es.toList[j]=e:=(List.getElem?_eq_some_iff.1 f2).2;rcases Nat.lt_or_gt_of_ne hne with q|q
      .exact hkk j i hjl hi' q (by rw[he,ea,f3,k1])
      .exact hkk i j hi' hjl q (by rw[he,ea,f3,k1])
   .rw[hs2 y hxy,h5];constructor
    .rintro⟨a,ha,k1,k2⟩;obtain⟨i,hi,ea⟩:=List.getElem_of_mem ha;have hne:j≠i:=λq=>by
      subst q;have he:es.toList[j]=e:=(List.getElem?_eq_some_iff.1 f2).2;rw[he] at ea;rw[<-ea,f3] at k1;exact hxy k1
     exact⟨a,List.mem_iff_getElem.2 ⟨i,by simpa using hi,by rw[List.getElem_set_ne hne];exact ea⟩,k1,k2⟩
    .rintro⟨a,ha,k1,k2⟩;obtain⟨i,hi,ea⟩:=List.getElem_of_mem ha;rw[List.getElem_set] at ea;split at ea
     .rw[<-ea] at k1;exact absurd k1 hxy
     .exact⟨a,ea▸List.getElem_mem _,k1,k2⟩
theorem iE.len(hT:P.underlying T=some (.map K E))(h:iE P K w b n S)(ty:TypeId):(Builtin.len_ #[T] ty #[.map (some b)]).run P w=.ok (.int .i64 (n:Int)) w:=by
 obtain⟨es,clock,h1,h2,_⟩:=h;simp[Builtin.len_,run_underlying hT,MapKept.run_getObj_map h1,goInt,Result.andThen,h2]
end
end
