import Derived.Test.YtmfpiodlecapiaaGreatDoorJ16
import Derived.Lib.SliceRun
set_option maxHeartbeats 4000000
set_option maxRecDepth 100000
namespace Go.Proofs.YtmfpiodlecapiaaGreatDoor.Pk
open Go.Proofs.Tryz
theorem nodup_len:∀{l m:List Nat},l.Nodup->(∀a∈l,a∈m)->l.length<=m.length
 | [],_,_,_=>Nat.zero_le _
 |a::l,m,hn,hs=>by
  have kv:=List.nodup_cons.1 hn;have ha:=hs a (List.mem_cons_self ..);have h:=nodup_len (m:=m.erase a) kv.2 (fun b hb=>(List.mem_erase_of_ne (fun e:b=a=>kv.1 (e▸hb))).2 (hs b (List.mem_cons_of_mem _ hb)));rw[List.length_erase_of_mem ha]at h;have:0<m.length:=List.length_pos_of_mem ha;rw[List.length_cons];omega
theorem nodup_map:∀{l:List Nat} {f:Nat->Nat},l.Nodup->(∀a∈l,∀b∈l,f a=f b->a=b)->(l.map f).Nodup
 | [],_,_,_=>List.nodup_nil
 |a::l,f,hn,hi=>by
  have kv:=List.nodup_cons.1 hn;rw[List.map_cons,List.nodup_cons];refine⟨fun h=>?_,nodup_map kv.2 (fun b hb c hc=>hi b (List.mem_cons_of_mem _ hb) c (List.mem_cons_of_mem _ hc))⟩;obtain⟨b,hb,e⟩:=List.mem_map.1 h;have:=hi b (List.mem_cons_of_mem _ hb) a (List.mem_cons_self ..) e;exact kv.1 (this▸hb)
theorem filter_len(p:Nat->Bool)(l:List Nat):(l.filter p).length+(l.filter (fun a=> !p a)).length=l.length:=by
 induction l with
 |nil=>rfl
 |cons a l ih=>
  cases h:p a
  iterate 2 (·simp[h];omega)
def rowAt(K n i:Nat):Nat:=if n<K then(if i=n then 1 else 0)else weight (n-K) i
def sumN(f:Nat->Nat):Nat->Nat
 |0=>0
 |k+1=>sumN f k ^^^ f k
def dotN(K n:Nat)(x:Nat->Nat):Nat:=sumN (fun i=>Gf.mul (x i) (rowAt K n i)) K
theorem sumN_congr{f g:Nat->Nat}:∀{k:Nat},(∀i,i<k->f i=g i)->sumN f k=sumN g k
 |0,_=>rfl
 |k+1,h=>by
  rw[sumN,sumN,sumN_congr (fun i hi=>h i (by omega)),h k (by omega)]
theorem sumN_zero:∀{f:Nat->Nat} {k:Nat},(∀i,i<k->f i=0)->sumN f k=0
 |_,0,_=>rfl
 |f,k+1,h=>by rw[sumN,sumN_zero (fun i hi=>h i (by omega)),h k (by omega)];rfl
theorem sumN_one{f:Nat->Nat}{n:Nat}:∀{k:Nat},n<k->(∀i,i<k->i≠n->f i=0)->sumN f k=f n
 |k+1,hn,h=>by
  rw[sumN];by_cases e:n=k
  .subst e;rw[sumN_zero (fun i hi=>h i (by omega) (by omega)),Nat.zero_xor]
  .rw[sumN_one (show n<k by omega) (fun i hi bd=>h i (by omega) bd),h k (by omega) (fun e2=>e e2.symm),Nat.xor_zero]
theorem frac_append(a:Nat)(q:Nat×Nat):∀l:List (Nat×Nat),Gf.frac a (l++ [q])=Gf.frac a l ^^^ Gf.mul q.2 (Gf.inv (a ^^^ q.1))
 |[]=>by
  rw[List.nil_append,Gf.frac_cons];have e:Gf.frac a []=0:=by rw[Gf.frac]
  rw[e,Nat.xor_zero,Nat.zero_xor]
 |r::l=>by rw[List.cons_append,Gf.frac_cons,Gf.frac_cons,frac_append a q l,Nat.xor_assoc]
theorem frac_range{a:Nat}{x:Nat->Nat}:∀k:Nat,Gf.frac a ((List.range k).map (fun i=>(i,x i)))=sumN (fun i=>Gf.mul (x i) (Gf.inv (a ^^^ i))) k
 |0=>by rw[sumN];rfl
 |k+1=>by rw[List.range_succ,List.map_append,List.map_cons,List.map_nil,frac_append,frac_range k,sumN]
theorem frac_filter{a:Nat}(ha:a<256){x:Nat->Nat}(p:Nat->Bool):∀{l:List Nat},(∀i∈l,i<256/\a≠i)->(∀i∈l,p i=false->x i=0)->Gf.frac a ((l.filter p).map (fun i=>(i,x i)))=Gf.frac a (l.map (fun i=>(i,x i)))
 | [],_,_=>rfl
 |i::l,hl,h=>by
  have ih:=frac_filter ha p (fun j hj=>hl j (List.mem_cons_of_mem _ hj)) (fun j hj=>h j (List.mem_cons_of_mem _ hj));have hi:=hl i (List.mem_cons_self ..);cases hp:p i
  .rw[List.filter_cons_of_neg (by simp[hp]),List.map_cons,Gf.frac_cons,ih,h i (List.mem_cons_self ..) hp];have h0:a ^^^ i≠0:=fun e=>hi.2 (Gf.xor_eq_zero e);rw[Gf.zero_mul (Gf.inv_lt (Gf.xor_lt ha hi.1) h0),Nat.zero_xor]
  .rw[List.filter_cons_of_pos (by simp[hp]),List.map_cons,List.map_cons,Gf.frac_cons,Gf.frac_cons,ih]
theorem rows_inj{K:Nat}{ns:List Nat}{x:Nat->Nat}(hK:K<=20)(hn:ns.Nodup)(s_:∀n∈ns,n<K+20)(hl:K<=ns.length)(hx:∀i,i<K->x i<256)(h0:∀n∈ns,dotN K n x=0):∀i,i<K->x i=0:=by
 have h1:∀n∈ns,n<K->x n=0:=by
  intro n hm DM;have e:=h0 n hm;unfold dotN at e;rw[sumN_one DM (fun i hi bd=>by
   show Gf.mul (x i) (rowAt K n i)=0;unfold rowAt;rw[if_pos DM,if_neg bd,Gf.mul_zero (hx i hi)])]at e
  unfold rowAt at e;rwa [if_pos DM,if_pos rfl,Gf.mul_one (hx n DM)]at e
 have ub:∀i,i∈((List.range K).filter (fun i=> !(ns.contains i)))↔i<K/\i∉ns:=by
  intro i;rw[List.mem_filter];simp
 intro i hi;by_cases him:i∈ns
 .exact h1 i him hi
 have key:=Gf.cauchy (l:=((List.range K).filter (fun i=> !(ns.contains i))).map (fun i=>(i,x i))) (az:=(ns.filter (fun n=> !(decide (n<K)))).map (fun n=>255-(n-K)))
  (fun q hq=>by
   obtain⟨j,hj,rfl⟩:=List.mem_map.1 hq;have qk:=(ub j).1 hj;exact⟨by show j<256;omega,hx j qk.1⟩)
  (by
   rw[List.map_map];have e:(Prod.fst∘fun i=>(i,x i))=fun i=>i:=rfl;rw[e,List.map_id'];exact List.Pairwise.filter _ List.nodup_range)
  (fun a ha=>by
   obtain⟨n,_,rfl⟩:=List.mem_map.1 ha;omega)
  (nodup_map (List.Pairwise.filter _ hn) (fun a ha b hb e=>by
   have h2:=List.mem_filter.1 ha;have h3:=List.mem_filter.1 hb;have h4:=s_ a h2.1;have h5:=s_ b h3.1;have h6:¬a<K:=by simpa using h2.2
   have h7:¬b<K:=by simpa using h3.2
   omega))
  (fun a ha q hq=>by
   obtain⟨n,hm,rfl⟩:=List.mem_map.1 ha;obtain⟨j,hj,rfl⟩:=List.mem_map.1 hq;have h2:=s_ n (List.mem_filter.1 hm).1;have h3:=((ub j).1 hj).1;show 255-(n-K)≠j;omega)
  (by
   rw[List.length_map,List.length_map];have e1:=filter_len (fun i=>ns.contains i) (List.range K);have e2:=filter_len (fun n=>decide (n<K)) ns;have e3:(ns.filter (fun n=>decide (n<K))).length<=((List.range K).filter (fun i=>ns.contains i)).length:=nodup_len (List.Pairwise.filter _ hn) (fun a ha=>by
    have h2:=List.mem_filter.1 ha;have h3:a<K:=by simpa using h2.2
    rw[List.mem_filter];exact⟨List.mem_range.2 h3,by simpa using h2.1⟩)
   rw[List.length_range]at e1;omega)
  (fun a ha=>by
   obtain⟨n,hm,rfl⟩:=List.mem_map.1 ha;have h2:=List.mem_filter.1 hm;have h3:¬n<K:=by simpa using h2.2
   have h4:=s_ n h2.1;have e:=h0 n h2.1;unfold dotN at e;rw[frac_filter (by omega) (fun i=> !(ns.contains i)) (fun j hj=>⟨by have:=List.mem_range.1 hj;omega,by have:=List.mem_range.1 hj;omega⟩) (fun j hj hp=>h1 j (by simpa using hp) (List.mem_range.1 hj)),frac_range];rw[<-e];refine sumN_congr (fun j hj=>?_);unfold rowAt;rw[if_neg h3];rfl)
 exact key (i,x i) (List.mem_map.2 ⟨i,(ub i).2 ⟨hi,him⟩,rfl⟩)
theorem sumTo_at{blk:List Nat}{s j K:Nat}(h:blk.length=K*s){c:Nat}(hc:c<s):∀k,k<=K->(sumTo blk s j k)[c]? =some (sumN (fun i=>Gf.mul (blk[i*s+c]?.getD 0) (weight j i)) k)
 |0,_=>by simp[sumTo,sumN,hc]
 |k+1,hk=>by
  have ih:=sumTo_at (j:=j) h hc k (by omega);have hl:=sumTo_length (j:=j) h k (by omega);rw[sumTo,addTimes_at _ _ _ _ (by rw[piece_length h hk,hl]) (by rw[hl];exact hc),ih,piece_at hc,sumN];rfl
theorem pieceN_at{blk:List Nat}{s K n c:Nat}(h:blk.length=K*s)(hb:∀x∈blk,x<256)(hc:c<s):(pieceN blk s K n)[c]? =some (dotN K n (fun i=>blk[i*s+c]?.getD 0)):=by
 have ai:∀i,i<K->i*s+c<blk.length:=fun i hi=>by
  have:=Nat.mul_le_mul_right s hi;rw[Nat.succ_mul]at this;omega
 unfold pieceN dotN;by_cases hn:n<K
 .rw[if_pos hn,piece_at hc,sumN_one hn (fun i hi bd=>by
   show Gf.mul _ (rowAt K n i)=0;unfold rowAt;have hx:blk[i*s+c]?.getD 0<256:=by simp[ai i hi];exact hb _ (List.getElem_mem _)
   rw[if_pos hn,if_neg bd,Gf.mul_zero hx])]
  unfold rowAt;have hx:blk[n*s+c]?.getD 0<256:=by simp[ai n hn];exact hb _ (List.getElem_mem _)
  rw[if_pos hn,if_pos rfl,Gf.mul_one hx];simp[ai n hn]
 .rw[if_neg hn,sumTo_at h hc K (Nat.le_refl _)];congr 1
  refine sumN_congr (fun i hi=>?_);unfold rowAt;rw[if_neg hn]
end Go.Proofs.YtmfpiodlecapiaaGreatDoor.Pk
namespace Go.Proofs.YtmfpiodlecapiaaGreatDoor.Gs
open Go.Proofs.Tryz
open Go.Proofs.YtmfpiodlecapiaaGreatDoor
variable{r x d:Nat->Nat}{c a b f g p m n:Nat}{R:Nat->Nat->Nat}
def lin(K:Nat)(r x:Nat->Nat):Nat:=Pk.sumN (fun j=>Gf.mul (x j) (r j)) K
def Small(K:Nat)(x:Nat->Nat):Prop:=∀j,j<K->x j<256
def bV(K:Nat)(R:Nat->Nat->Nat):Prop:=∀i,i<K->Small K (R i)
def Solves(K:Nat)(R:Nat->Nat->Nat)(d x:Nat->Nat):Prop:=∀i,i<K->lin K (R i) x=d i
theorem tK(f g:Nat->Nat):∀k:Nat,Pk.sumN (fun j=>f j ^^^ g j) k=Pk.sumN f k ^^^ Pk.sumN g k
 |0=>by rw[Pk.sumN,Pk.sumN,Pk.sumN];rfl
 |k+1=>by
  rw[Pk.sumN,Pk.sumN,Pk.sumN,tK f g k];exact Gf.yG _ _ _ _
theorem EH{f:Nat->Nat}:∀{k:Nat},(∀i,i<k->f i<256)->Pk.sumN f k<256
 |0,_=>by rw[Pk.sumN];decide
 |k+1,h=>by rw[Pk.sumN];exact Gf.xor_lt (EH (fun i hi=>h i (by omega))) (h k (by omega))
theorem Hq{f:Nat->Nat}{c:Nat}(hc:c<256):∀{k:Nat},(∀i,i<k->f i<256)->Pk.sumN (fun j=>Gf.mul (f j) c) k=Gf.mul (Pk.sumN f k) c
 |0,_=>by rw[Pk.sumN,Pk.sumN,Gf.zero_mul hc]
 |k+1,h=>by
  rw[Pk.sumN,Pk.sumN,Hq hc (fun i hi=>h i (by omega)),Gf.add_mul (EH (fun i hi=>h i (by omega))) (h k (by omega)) hc]
theorem lin_lt{K:Nat}(hr:Small K r)(hx:Small K x):lin K r x<256:=EH (fun j hj=>Gf.mul_lt (hx j hj) (hr j hj))
theorem X0{K:Nat}(r s x:Nat->Nat):lin K (fun j=>r j ^^^ s j) x=lin K r x ^^^ lin K s x:=by
 unfold lin;rw[<-tK];exact Pk.sumN_congr (fun j _=>Gf.mul_add _ _ _)
theorem Dw{K:Nat}(hc:c<256)(hr:Small K r)(hx:Small K x):lin K (fun j=>Gf.mul (r j) c) x=Gf.mul (lin K r x) c:=by
 unfold lin;rw[<-Hq hc (fun j hj=>Gf.mul_lt (hx j hj) (hr j hj))];exact Pk.sumN_congr (fun j hj=>(Gf.mul_assoc (hx j hj) (hr j hj) hc).symm)
theorem QC{K:Nat}{s:Nat->Nat}(h:∀j,j<K->r j=s j):lin K r x=lin K s x:=Pk.sumN_congr (fun j hj=>by rw[h j hj])
def swap{α:Type}(c p:Nat)(y:α)(R:Nat->α)(i:Nat):α:=if i=c then y else if i=p then R c else R i
def dx(c m:Nat)(R:Nat->Nat->Nat)(i j:Nat):Nat:=if i<m/\i≠c then R i j ^^^ Gf.mul (R c j) (R i c)else R i j
def kC(c m:Nat)(R:Nat->Nat->Nat)(d:Nat->Nat)(i:Nat):Nat:=if i<m/\i≠c then d i ^^^ Gf.mul (d c) (R i c)else d i
theorem Mc(ha:a<256)(hb:b<256)(hf:f<256)(hg:g<256)(Fc:Gf.mul f g=1)(h:Gf.mul a f=Gf.mul b f):a=b:=by
 have h1:Gf.mul (Gf.mul a f) g=Gf.mul (Gf.mul b f) g:=by rw[h]
 rwa [Gf.mul_assoc ha hf hg,Gf.mul_assoc hb hf hg,Fc,Gf.mul_one ha,Gf.mul_one hb]at h1
theorem J4(h:a ^^^ c=b ^^^ c):a=b:=by
 have h1:(a ^^^ c) ^^^ c=(b ^^^ c) ^^^ c:=by rw[h]
 rwa [Nat.xor_assoc,Nat.xor_self,Nat.xor_zero,Nat.xor_assoc,Nat.xor_self,Nat.xor_zero]at h1
theorem Hg{K:Nat}(hR:bV K R)(hd:Small K d)(hx:Small K x)(hc:c<K)(hp:p<K)(hf:f<256)(hg:g<256)(Fc:Gf.mul f g=1):
  Solves K (swap c p (fun j=>Gf.mul (R p j) f) R) (swap c p (Gf.mul (d p) f) d) x↔Solves K R d x:=by
 have e:lin K (fun j=>Gf.mul (R p j) f) x=Gf.mul (lin K (R p) x) f:=Dw hf (hR p hp) hx;constructor
 .intro h;have Q6:lin K (R p) x=d p:=by
   have h1:=h c hc;unfold swap at h1;rw[if_pos rfl,if_pos rfl,e]at h1;exact Mc (lin_lt (hR p hp) hx) (hd p hp) hf hg Fc h1
  intro i hi;by_cases h1:i=p
  .rw[h1];exact Q6
  .by_cases h2:i=c
   .subst h2;have h3:=h p hp;unfold swap at h3;rw[if_neg (fun e=>h1 e.symm),if_pos rfl,if_neg (fun e=>h1 e.symm),if_pos rfl]at h3;exact h3
   .have h3:=h i hi;unfold swap at h3;rw[if_neg h2,if_neg h1,if_neg h2,if_neg h1]at h3;exact h3
 .intro h i hi;unfold swap;by_cases h2:i=c
  .rw[if_pos h2,if_pos h2,e,h p hp]
  .rw[if_neg h2,if_neg h2];by_cases h1:i=p
   .rw[if_pos h1,if_pos h1];exact h c hc
   .rw[if_neg h1,if_neg h1];exact h i hi
theorem JD{K:Nat}(hR:bV K R)(hx:Small K x)(hc:c<K):Solves K (dx c m R) (kC c m R d) x↔Solves K R d x:=by
 have e:∀i,i<K->lin K (fun j=>R i j ^^^ Gf.mul (R c j) (R i c)) x=lin K (R i) x ^^^ Gf.mul (lin K (R c) x) (R i c):=fun i hi=>by
  rw[X0,Dw (hR i hi c hc) (hR c hc) hx]
 have ec:dx c m R c=R c:=by funext j;unfold dx;rw[if_neg (fun h=>h.2 rfl)]
 have dc:kC c m R d c=d c:=by unfold kC;rw[if_neg (fun h=>h.2 rfl)]
 constructor
 .intro h;have di:lin K (R c) x=d c:=by have h1:=h c hc;rw[ec,dc]at h1;exact h1
  intro i hi;have h1:=h i hi;by_cases h2:i<m/\i≠c
  .have e1:dx c m R i=fun j=>R i j ^^^ Gf.mul (R c j) (R i c):=by funext j;unfold dx;rw[if_pos h2]
   have e2:kC c m R d i=d i ^^^ Gf.mul (d c) (R i c):=by unfold kC;rw[if_pos h2]
   rw[e1,e2,e i hi,di]at h1;exact J4 h1
  .have e1:dx c m R i=R i:=by funext j;unfold dx;rw[if_neg h2]
   have e2:kC c m R d i=d i:=by unfold kC;rw[if_neg h2]
   rw[e1,e2]at h1;exact h1
 .intro h i hi;by_cases h2:i<m/\i≠c
  .have e1:dx c m R i=fun j=>R i j ^^^ Gf.mul (R c j) (R i c):=by funext j;unfold dx;rw[if_pos h2]
   have e2:kC c m R d i=d i ^^^ Gf.mul (d c) (R i c):=by unfold kC;rw[if_pos h2]
   rw[e1,e2,e i hi,h c hc,h i hi]
  .have e1:dx c m R i=R i:=by funext j;unfold dx;rw[if_neg h2]
   have e2:kC c m R d i=d i:=by unfold kC;rw[if_neg h2]
   rw[e1,e2];exact h i hi
def Unit(K c:Nat)(R:Nat->Nat->Nat):Prop:=∀i j,i<K->j<c->R i j=if i=j then 1 else 0
def Gi(K:Nat)(R:Nat->Nat->Nat):Prop:=∀x,Small K x->Solves K R (fun _=>0) x->∀i,i<K->x i=0
theorem pivot{K:Nat}(hR:bV K R)(hU:Unit K c R)(hI:Gi K R)(hc:c<K):∃p,c<=p/\p<K/\R p c≠0:=by
 refine Classical.byContradiction fun gA=>?_;have hz:∀p,c<=p->p<K->R p c=0:=fun p h1 h2=>Classical.byContradiction fun h3=>gA ⟨p,h1,h2,h3⟩;have hx:=hI (fun j=>if j<c then R j c else if j=c then 1 else 0) (fun j hj=>by
  show(if j<c then R j c else if j=c then 1 else 0)<256;split
  .exact hR j hj c hc
  .split<;>decide) (fun i hi=>by
  show lin K (R i) _=0;unfold lin;by_cases hic:i<c
  .
   have e:∀j,j<K->Gf.mul (if j<c then R j c else if j=c then 1 else 0) (R i j)=(if j=i then R i c else 0) ^^^ (if j=c then R i c else 0):=fun j hj=>by
    by_cases h1:j<c
    .rw[if_pos h1,hU i j hi h1,if_neg (show¬j=c by omega),Nat.xor_zero];by_cases h2:j=i
     .subst h2;rw[if_pos rfl,if_pos rfl,Gf.mul_one (hR j hj c hc)]
     .rw[if_neg (fun e=>h2 e.symm),if_neg h2,Gf.mul_zero (hR j hj c hc)]
    .rw[if_neg h1,if_neg (show¬j=i by omega),Nat.zero_xor];by_cases h2:j=c
     .subst h2;rw[if_pos rfl,if_pos rfl,Gf.one_mul (hR i hi j hj)]
     .rw[if_neg h2,if_neg h2,Gf.zero_mul (hR i hi j hj)]
   rw[Pk.sumN_congr e,tK,Pk.sumN_one (f:=fun j=>if j=i then R i c else 0) hi (fun j _ bd=>if_neg bd),Pk.sumN_one (f:=fun j=>if j=c then R i c else 0) hc (fun j _ bd=>if_neg bd)];simp
  .refine Pk.sumN_zero (fun j hj=>?_);show Gf.mul (if j<c then R j c else if j=c then 1 else 0) (R i j)=0;by_cases h1:j<c
   .rw[hU i j hi h1,if_neg (show¬i=j by omega)];rw[if_pos h1];exact Gf.mul_zero (hR j hj c hc)
   .rw[if_neg h1];by_cases h2:j=c
    .subst h2;rw[if_pos rfl,hz i (by omega) hi];exact Gf.mul_zero (by decide)
    .rw[if_neg h2];exact Gf.zero_mul (hR i hi j hj)) c hc
 simp at hx
theorem kU{K:Nat}(hR:bV K R)(hc:c<K)(hp:p<K)(hf:f<256):bV K (swap c p (fun j=>Gf.mul (R p j) f) R):=fun i hi j hj=>by
 unfold swap;split
 .exact Gf.mul_lt (hR p hp j hj) hf
 .split
  .exact hR c hc j hj
  .exact hR i hi j hj
theorem Hl{K:Nat}(hd:Small K d)(hc:c<K)(hp:p<K)(hf:f<256):Small K (swap c p (Gf.mul (d p) f) d):=fun i hi=>by
 unfold swap;split
 .exact Gf.mul_lt (hd p hp) hf
 .split
  .exact hd c hc
  .exact hd i hi
theorem M9{K:Nat}(hR:bV K R)(hc:c<K):bV K (dx c m R):=fun i hi j hj=>by
 unfold dx;split
 .exact Gf.xor_lt (hR i hi j hj) (Gf.mul_lt (hR c hc j hj) (hR i hi c hc))
 .exact hR i hi j hj
theorem JE{K:Nat}(hR:bV K R)(hd:Small K d)(hc:c<K):Small K (kC c m R d):=fun i hi=>by
 unfold kC;split
 .exact Gf.xor_lt (hd i hi) (Gf.mul_lt (hd c hc) (hR i hi c hc))
 .exact hd i hi
def kV(K c p:Nat)(R:Nat->Nat->Nat):Nat->Nat->Nat:=dx c K (swap c p (fun j=>Gf.mul (R p j) (Gf.inv (R p c))) R)
def yY(K c p:Nat)(R:Nat->Nat->Nat)(d:Nat->Nat):Nat->Nat:=kC c K (swap c p (fun j=>Gf.mul (R p j) (Gf.inv (R p c))) R) (swap c p (Gf.mul (d p) (Gf.inv (R p c))) d)
theorem pE{K:Nat}(hR:bV K R)(hd:Small K d)(hx:Small K x)(hc:c<K)(hp:p<K)(h0:R p c≠0):Solves K (kV K c p R) (yY K c p R d) x↔Solves K R d x:=by
 have hf:=Gf.inv_lt (hR p hp c hc) h0;have Fc:Gf.mul (Gf.inv (R p c)) (R p c)=1:=by rw[Gf.mul_comm hf (hR p hp c hc)];exact Gf.Fb (hR p hp c hc) h0
 exact(JD (kU hR hc hp hf) hx hc).trans (Hg hR hd hx hc hp hf (hR p hp c hc) Fc)
theorem yV{K:Nat}(hR:bV K R)(hc:c<K)(hp:p<K)(h0:R p c≠0):bV K (kV K c p R):=
 M9 (kU hR hc hp (Gf.inv_lt (hR p hp c hc) h0)) hc
theorem wX{K:Nat}(hR:bV K R)(hd:Small K d)(hc:c<K)(hp:p<K)(h0:R p c≠0):Small K (yY K c p R d):=
 JE (kU hR hc hp (Gf.inv_lt (hR p hp c hc) h0)) (Hl hd hc hp (Gf.inv_lt (hR p hp c hc) h0)) hc
theorem KU{K:Nat}(hR:bV K R)(hc:c<K)(hp:p<K)(h0:R p c≠0):∀i,i<K->yY K c p R (fun _=>0) i=0:=fun i hi=>by
 have hf:=Gf.inv_lt (hR p hp c hc) h0;have e:∀k,swap c p (Gf.mul 0 (Gf.inv (R p c))) (fun _=>0) k=0:=fun k=>by
  unfold swap;split
  .exact Gf.zero_mul hf
  .split<;>rfl
 unfold yY kC;split
 .rw[e,e,Gf.zero_mul (kU hR hc hp hf i hi c hc)];rfl
 .exact e i
theorem Ht{K:Nat}(hR:bV K R)(hI:Gi K R)(hc:c<K)(hp:p<K)(h0:R p c≠0):Gi K (kV K c p R):=fun x hx h=>by
 refine hI x hx ((pE hR (d:=fun _=>0) (fun _ _=>(by decide:(0:Nat)<256)) hx hc hp h0).1 (fun i hi=>?_));rw[h i hi,KU hR hc hp h0 i hi]
theorem Df{K:Nat}(hR:bV K R)(hU:Unit K c R)(hc:c<K)(la:c<=p)(hp:p<K)(h0:R p c≠0):Unit K (c+1) (kV K c p R):=by
 have hf:=Gf.inv_lt (hR p hp c hc) h0;have s1:∀j,j<c->swap c p (fun j=>Gf.mul (R p j) (Gf.inv (R p c))) R c j=0:=fun j hj=>by
  unfold swap;rw[if_pos rfl,hU p j hp hj,if_neg (by omega),Gf.zero_mul hf]
 have s2:swap c p (fun j=>Gf.mul (R p j) (Gf.inv (R p c))) R c c=1:=by
  unfold swap;rw[if_pos rfl];exact Gf.Fb (hR p hp c hc) h0
 have s3:∀i j,i<K->i≠c->j<c->swap c p (fun j=>Gf.mul (R p j) (Gf.inv (R p c))) R i j=if i=j then 1 else 0:=fun i j hi bd hj=>by
  unfold swap;rw[if_neg bd];by_cases Ex:i=p
  .rw[if_pos Ex,hU c j hc hj,if_neg (show¬c=j by omega),if_neg (show¬i=j by omega)]
  .rw[if_neg Ex,hU i j hi hj]
 have hS:=kU hR hc hp hf;intro i j hi hj;unfold kV dx;by_cases bd:i≠c
 .rw[if_pos ⟨hi,bd⟩];by_cases MT:j=c
  .subst MT;rw[s2,Gf.one_mul (hS i hi j hc),Nat.xor_self,if_neg bd]
  .rw[s1 j (by omega),Gf.zero_mul (hS i hi c hc),Nat.xor_zero];exact s3 i j hi bd (by omega)
 .have ei:i=c:=Classical.byContradiction fun h=>bd h;subst ei;rw[if_neg (fun h=>h.2 rfl)];by_cases MT:j=i
  .subst MT;rw[s2,if_pos rfl]
  .rw[s1 j (by omega),if_neg (fun h=>MT h.symm)]
theorem wH{K:Nat}(hU:Unit K K R)(hx:Small K x):Solves K R d x↔∀i,i<K->x i=d i:=by
 have e:∀i,i<K->lin K (R i) x=x i:=fun i hi=>by
  unfold lin;have h1:∀j,j<K->Gf.mul (x j) (R i j)=if j=i then x i else 0:=fun j hj=>by
   rw[hU i j hi hj];by_cases h:j=i
   .subst h;rw[if_pos rfl,if_pos rfl,Gf.mul_one (hx j hj)]
   .rw[if_neg (fun e=>h e.symm),if_neg h,Gf.mul_zero (hx j hj)]
  rw[Pk.sumN_congr h1,Pk.sumN_one (f:=fun j=>if j=i then x i else 0) hi (fun j _ bd=>if_neg bd),if_pos rfl]
 exact⟨fun h i hi=>by rw[<-h i hi,e i hi],fun h i hi=>by rw[e i hi,h i hi]⟩
def it(n:Nat)(R:Nat->Nat->Nat):Nat->Nat->Nat->Nat
 |0=>R
 |c+1=>kV n c c (it n R c)
theorem Ta(i j:Nat):swap c c (fun j=>Gf.mul (R c j) f) R i j=swap c c (Gf.mul (R c j) f) (fun i=>R i j) i:=by
 unfold swap;split<;>rfl
theorem Hu(n c j:Nat)(R:Nat->Nat->Nat):yY n c c R (fun i=>R i j)=fun i=>kV n c c R i j:=by
 funext i;simp only[yY,kV,kC,dx,Ta]
theorem Pq(R:Nat->Nat->Nat)(hm:m<=n){i:Nat}(hi:i<m)(j:Nat):kV n c c R i j=kV m c c R i j:=by
 have:i<n:=by omega
 simp only[kV,dx,hi,this,true_and]
theorem DF{S:Nat->Nat->Nat}(h:∀i j,i<m->j<m->R i j=S i j)(hI:Gi m R):Gi m S:=fun x hx hs=>hI x hx fun i hi=>by
 rw[QC (h i · hi)];exact hs i hi
theorem Dh(h:bV n R)(hm:m<=n):bV m R:=fun i hi j hj=>h i (by omega) j (by omega)
theorem WZ(h:Unit n c R)(hm:m<=n):Unit m c R:=fun i j hi hj=>h i j (by omega) hj
theorem uf(hS:bV n R)(hU:Unit n c R)(hI:∀m,c<m->m<=n->Gi m R)(hc:c<n):R c c≠0:=by
 obtain⟨p,h1,h2,h3⟩:=pivot (K:=c+1) (Dh hS (by omega)) (WZ hU (by omega)) (hI (c+1) (by omega) (by omega)) (by omega);obtain rfl:p=c:=by omega
 exact h3
theorem zT{n:Nat}{R:Nat->Nat->Nat}(hS:bV n R)(hI:∀m,m<=n->Gi m R):∀c,c<=n->bV n (it n R c)/\Unit n c (it n R c)/\∀m,c<m->m<=n->Gi m (it n R c)
 |0,_=>⟨hS,fun i j _ h=>by omega,fun m _ h=>hI m h⟩
 |c+1,h=>by
  obtain⟨h1,h2,h3⟩:=zT hS hI c (by omega);have hp:=uf h1 h2 h3 (by omega);refine⟨yV h1 (by omega) (by omega) hp,Df h1 h2 (by omega) (Nat.le_refl _) (by omega) hp,fun m hm hn=>?_⟩;refine DF (R:=kV m c c (it n R c)) (fun i j hi _=>(Pq _ hn hi j).symm) ?_;exact Ht (Dh h1 hn) (h3 m (by omega) hn) (by omega) (by omega) hp
theorem Uy(hS:bV n R)(hI:∀m,m<=n->Gi m R)(hc:c<n):it n R c c c≠0:=by
 obtain⟨h1,h2,h3⟩:=zT hS hI c (by omega);exact uf h1 h2 h3 hc
theorem zS{n j:Nat}{R:Nat->Nat->Nat}(hS:bV n R)(hI:∀m,m<=n->Gi m R)(hj:∀i,i<n->R i j<256):∀c,c<=n->∀i,i<n->it n R c i j<256
 |0,_=>hj
 |c+1,h=>by
  have ih:=zS hS hI hj c (by omega);obtain⟨h1,h2,h3⟩:=zT hS hI c (by omega);have hp:=uf h1 h2 h3 (show c<n by omega);have hd:Small n (fun i=>it n R c i j):=ih;have:=wX (c:=c) (p:=c) h1 hd (by omega) (by omega) hp;rw[Hu]at this;exact this
theorem Dy{n j:Nat}{R:Nat->Nat->Nat}(hS:bV n R)(hI:∀m,m<=n->Gi m R)(hj:∀i,i<n->R i j<256){x:Nat->Nat}(hx:Small n x)(h0:Solves n R (fun i=>R i j) x):∀c,c<=n->Solves n (it n R c) (fun i=>it n R c i j) x
 |0,_=>h0
 |c+1,h=>by
  have ih:=Dy hS hI hj hx h0 c (by omega);obtain⟨h1,h2,h3⟩:=zT hS hI c (by omega);have hp:=uf h1 h2 h3 (show c<n by omega);have hd:Small n (fun i=>it n R c i j):=zS hS hI hj c (by omega);have:=(pE (c:=c) (p:=c) h1 hd hx (by omega) (by omega) hp).2 ih;rw[Hu]at this;exact this
theorem it_end{j:Nat}(hS:bV n R)(hI:∀m,m<=n->Gi m R)(hj:∀i,i<n->R i j<256)(hx:Small n x)(h0:Solves n R (fun i=>R i j) x):∀i,i<n->it n R n i j=x i:=fun i hi=>by
 obtain⟨_,h2,_⟩:=zT hS hI n (Nat.le_refl _);exact((wH h2 hx).1 (Dy hS hI hj hx h0 n (Nat.le_refl _)) i hi).symm
theorem JJ{a b:Nat->Nat}(ha:∀i,i<n->a i<256)(hb:∀i,i<n->b i<256)(Bm:∀i j,i<n->j<n->a i=a j->i=j)(hbn:∀i j,i<n->j<n->b i=b j->i=j)(j':∀i j,i<n->j<n->a i≠b j):
  ∀m,m<=n->Gi m (fun i j=>Gf.inv (a i ^^^ b j)):=by
 intro m hm x hx h0 i hi;have hf:∀(a0:Nat) (k:Nat),Gf.frac a0 ((List.range k).map (fun j=>(b j,x j)))=Pk.sumN (fun j=>Gf.mul (x j) (Gf.inv (a0 ^^^ b j))) k:=by
  intro a0 k;induction k with
  |zero=>rfl
  |succ k ih=>rw[List.range_succ,List.map_append,List.map_cons,List.map_nil,Pk.frac_append,ih];rfl
 have:=Gf.cauchy (l:=(List.range m).map (fun j=>(b j,x j))) (az:=(List.range m).map a) (fun q hq=>by
   obtain⟨j,hj,rfl⟩:=List.mem_map.1 hq;rw[List.mem_range]at hj;exact⟨hb j (by omega),hx j hj⟩)
  (by
   rw[List.map_map];exact Pk.nodup_map List.nodup_range fun i hi j hj e=>hbn i j (by rw[List.mem_range]at hi;omega) (by rw[List.mem_range]at hj;omega) e)
  (fun y hy=>by
   obtain⟨j,hj,rfl⟩:=List.mem_map.1 hy;rw[List.mem_range]at hj;exact ha j (by omega))
  (Pk.nodup_map List.nodup_range fun i hi j hj e=>Bm i j (by rw[List.mem_range]at hi;omega) (by rw[List.mem_range]at hj;omega) e)
  (fun y hy q hq=>by
   obtain⟨j,hj,rfl⟩:=List.mem_map.1 hy;obtain⟨k,hk,rfl⟩:=List.mem_map.1 hq;rw[List.mem_range]at hj hk;exact j' j k (by omega) (by omega))
  (by simp)
  (fun y hy=>by
   obtain⟨j,hj,rfl⟩:=List.mem_map.1 hy;rw[List.mem_range]at hj;rw[hf];exact h0 j hj)
  (b i,x i) (List.mem_map.2 ⟨i,List.mem_range.2 hi,rfl⟩)
 exact this
end Go.Proofs.YtmfpiodlecapiaaGreatDoor.Gs
namespace Go.Proofs.YtmfpiodlecapiaaGreatDoor
open Go.Proofs.Tryz
section
open Go.RowKit Go.Deep
attribute [local go_sem↓] Go.wp_at_zero Go.wp_at_succ
variable{c i n:Nat}{f:Nat->Nat}{k ck:List Item}{rv:Value}{o:Oper}{cfn:FuncId}{cT:Array Value}{bA:Array Oper}{aT:List Nat}{a b w0:World}
def eO:List Nat->Code->Code
 | [],c=>c
 |0::p,.seq a _=>eO p a
 |_::p,.seq _ b=>eO p b
 |_::p,.block _ b=>eO p b
 |_::p,.loop b=>eO p b
 |0::p,.cond _ a _=>eO p a
 |_::p,.cond _ _ b=>eO p b
 |_::_,c=>c
def lst(c:Nat)(f:Nat->Nat):List Nat:=(List.range c).map f
theorem bN(c:Nat)(f:Nat->Nat):(lst c f).length=c:=by simp[lst]
theorem nO(h:i<c):(lst c f)[i]?.getD 0=f i:=by simp[lst,h]
theorem MC(h:∀j,j<c->f j<256):∀x∈lst c f,x<256:=fun x hx=>by
 obtain⟨j,hj,rfl⟩:=List.mem_map.1 hx;exact h j (List.mem_range.1 hj)
theorem Qx{g:Nat->Nat}(h:∀j,j<c->f j=g j):lst c f=lst c g:=List.map_congr_left fun j hj=>h j (List.mem_range.1 hj)
theorem Ap{l r:List Nat}(hl:l.length=r.length)(h:∀i,i<r.length->l[i]?.getD 0=r[i]?.getD 0):l=r:=by
 apply List.ext_getElem?;intro i;rcases Nat.lt_or_ge i r.length with hi|hi
 .have:=h i hi;have bh:i<l.length:=by omega
  simpa[hi,bh]using this
 .rw[List.getElem?_eq_none hi,List.getElem?_eq_none (by omega)]
theorem Qw(c t:Nat)(f:Nat->Nat):dZ (lst c f) t c=lst c (fun j=>Gf.mul (f j) t):=by
 refine Ap (by rw[kY,bN,bN]) fun i hi=>?_;rw[bN]at hi;rw[zk (by rw[bN];exact hi),if_pos hi,nO hi,nO hi]
theorem XY(c t:Nat)(f g:Nat->Nat):iw (lst c f) 0 (lst c g) t c=lst c (fun j=>f j ^^^ Gf.mul (g j) t):=by
 refine Ap (by rw[jk,bN,bN]) fun i hi=>?_;rw[bN]at hi;rw[qA (by rw[bN];exact hi),if_pos (by omega),nO hi,nO hi,Nat.sub_zero,nO hi]
structure eH(w:World)(n c:Nat)(rg:Nat->Nat)(M:Nat->Nat->Nat):Prop where
 row:∀i,i<n->aB w (rg i) 5 (bO (lst c (M i)))
 inj:∀i j,i<n->j<n->rg i=rg j->i=j
 lt:∀i j,i<n->j<c->M i j<256
def Bf(w:World)(rv:Value)(n c:Nat)(rg:Nat->Nat):Prop:=∃a cap,rv= .slice a n cap/\(0<n->∃g,a=some ⟨g,0,none⟩/\(∀i,i<n->w.cell? ⟨g,i,none⟩=some (.slice (some ⟨rg i,0,none⟩) c c))/\∀i,i<n->rg i≠g)
theorem eH.set{w w':World}{rg:Nat->Nat}{M:Nat->Nat->Nat}(h:eH w n c rg M){r:Nat}(hr:r<n)(hf:∀j,j<c->f j<256)(hg:w.grownBy w' (some (rg r)))(cj:aB w' (rg r) 5 (bO (lst c f))):eH w' n c rg (fun i=>if i=r then f else M i):=by
 refine⟨fun i hi=>?_,h.inj,fun i j hi hj=>?_⟩
 .by_cases e:i=r
  .subst e;simp only[if_true];exact cj
  .simp only[if_neg e];exact(h.row i hi).of_block (hg.block _ (h.row i hi).lt fun e2=>e (h.inj i r hi hr (Option.some.inj e2)))
 .show(if i=r then f else M i) j<256;split
  .exact hf j hj
  .exact h.lt i j hi hj
theorem eH.congr{w:World}{rg:Nat->Nat}{M M':Nat->Nat->Nat}(h:eH w n c rg M)(he:∀i j,i<n->j<c->M i j=M' i j):eH w n c rg M':=
 ⟨fun i hi=>by rw[<-Qx (he i · hi)];exact h.row i hi,h.inj,fun i j hi hj=>by rw[<-he i j hi hj];exact h.lt i j hi hj⟩
theorem TF{Q:Exit->Act->World->Prop}{k:Nat}{rg:Nat->Nat}{M:Nat->Nat->Nat}{dv:Value}{w:World}{j2 j3 j4 j7 j8 a3 a7 a2 a6 a5 a4 c4 d1 b5 c5 d3 b8 c8 d5 c2 b1 c6 a9 b2 c3 b7 b9 c0 b3 a8 b0 d4 b6 d2 c9 c7 b4 d0 a1:Value}(hk:k<n)(py:n<=c)(hc:c<=65536)(DI:Bf w rv n c rg)(hM:eH w n c rg M)(hp:M k k≠0)
  (hQ:∀(h7 h8 H' h19 Pa H5 xi H4 H0 HJ HH Hx Hv Hs Hn Hm Hk h33 h34 h35 h36 h37 Zb Za Y_ Y9 Y8 uu Y7:Value) (w':World),Kp (fun b=>∃i,i<n/\b=rg i) w w'->eH w' n c rg (Gs.kV n k k M)->Q .normal ⟨#[rv,dv,j2,j3,j4,.int .i64 k,.slice (some ⟨rg k,0,none⟩) c c,h7,h8,rv,.int .i64 n,.int .i64 k,a3,a7,a2,a6,a5,a4,H',h19,Pa,H5,xi,H4,H0,HJ,HH,Hx,Hv,Hs,Hn,Hm,Hk,h33,h34,h35,h36,h37,Zb,Za,Y_,Y9,Y8,uu,Y7,a1],[]⟩ w'):
  (eO [1,0,1,0,0,1,1,0,0,1,1] (f150.body.getD .skip)).wp prog Q ⟨#[rv,dv,j2,j3,j4,.int .i64 k,.slice (some ⟨rg k,0,none⟩) c c,j7,j8,rv,.int .i64 n,.int .i64 k,a3,a7,a2,a6,a5,a4,c4,d1,b5,c5,d3,b8,c8,d5,c2,b1,c6,a9,b2,c3,b7,b9,c0,b3,a8,b0,d4,b6,d2,c9,c7,b4,d0,a1],[]⟩ w:=by
 obtain⟨a,cap,rfl,hh⟩:=DI;obtain⟨g,rfl,bm,Yg⟩:=hh (by omega);have ot:k<c:=by omega
 have Sc:=Gf.inv_lt (hM.lt k k hk ot) hp;have N5:∀j,j<c->Gf.mul (M k j) (Gf.inv (M k k))<256:=fun j hj=>Gf.mul_lt (hM.lt k j hk hj) Sc;have HC:=hide bm;have HM:=hide hM;have HN:=hide Yg;have HQ:=hide hQ
 have ae:w.cell? ⟨rg k,k,none⟩=some (.int .u8 ((M k k:Nat):Int)):=by
  apply (hM.row k hk).cell;have:=gX (l:=lst c (M k)) (i:=k) (by rw[bN];exact ot);rw[nO ot]at this;exact this
 have ua:=hM.lt k k hk ot;have hI:=hide (fun w=>nP (M k k) ua w);have N6:Hid (Calls prog 188 #[.slice (some ⟨rg k,0,none⟩) c c,.int .i64 (Gf.inv (M k k):Nat)] w fun e w'=>e= .returned (.tuple #[])/\w.grownBy w' (some (rg k))/\aB w' (rg k) 5 (bO (lst c (fun j=>Gf.mul (M k j) (Gf.inv (M k k)))))):=by
  have:=Lu (rg k) c (Gf.inv (M k k)) c (lst c (M k)) (bN _ _) hc (MC fun j hj=>hM.lt k j hk hj) Sc w (hM.row k hk);rw[Qw]at this;exact this
 have Ek:IntKind.i64.wrap ((M k k:Nat):Int)=((M k k:Nat):Int):=aH _ (by omega) (by omega);clear bm hM Yg hQ;simp only[f150,Option.getD_some,eO];have sg:(0:Int)<=(k:Int):=by omega
 have qi:(k:Int)<(c:Int):=by omega
 have oX:Hid (∀w1,w.grownBy w1 (some (rg k))->aB w1 (rg k) 5 (bO (lst c (fun j=>Gf.mul (M k j) (Gf.inv (M k k)))))->eH w1 n c rg (Gs.dx k 0 (Gs.swap k k (fun j=>Gf.mul (M k j) (Gf.inv (M k k))) M))):=fun w1 hg hr=>by
  refine(HM.out.set hk N5 hg hr).congr fun i j hi hj=>?_;simp only[Gs.dx,Gs.swap,Nat.not_lt_zero,false_and,if_false];by_cases e:i=k
  .simp only[e,if_true]
  .simp only[if_neg e]
 have hE:Hid (Gs.kV n k k M=Gs.dx k n (Gs.swap k k (fun j=>Gf.mul (M k j) (Gf.inv (M k k))) M)):=rfl;rw[hE.out]at HQ;have hSk:Hid (∀i j,i≠k->Gs.swap k k (fun j=>Gf.mul (M k j) (Gf.inv (M k k))) M i j=M i j):=fun i j hi=>by simp only[Gs.swap,if_neg hi]
 clear hE hp N5 ua Sc;generalize Gs.swap k k (fun j=>Gf.mul (M k j) (Gf.inv (M k k))) M=S at oX HQ hSk;generalize lst c (fun j=>Gf.mul (M k j) (Gf.inv (M k k)))=sc at oX N6;generalize Gf.inv (M k k)=y at N6 hI;generalize M k k=x at ae hI Ek;go_wp2_with first|(go_at_call 113;refine(hI.out _).mono ?_;rintro _ wq ⟨rfl,hq⟩;have cI:=hq.symm;clear hq;subst cI)|(go_at_call 188;refine N6.out.mono ?_;rintro _ w1 ⟨rfl,c_,dg⟩;replace c_:=hide c_;replace dg:=hide dg)
 have wj:=hide (oX.out w1 c_.out dg.out);have gi:Hid (Kp (fun b=>∃i,i<n/\b=rg i) w w1):=(Kp.refl _ _).grown c_.out fun b hb=>.inl ⟨k,hk,(Option.some.inj hb).symm⟩;clear oX c_ dg ae N6 hI;go_loopw [28] (fun x wr=>∃r:Nat,r<=n/\x= .int .i64 r/\Kp (fun b=>∃i,i<n/\b=rg i) w wr/\eH wr n c rg (Gs.dx k r S))
  (fun x _=>leftOf n (intOf x).toNat)
 case atStart=>exact⟨0,by omega,rfl,gi.out,wj.out⟩
 case round=>
  obtain⟨r,hr,rfl,er,bu⟩:=hrel;by_cases ai:r<n
  .have tk:wr.cell? ⟨g,r,none⟩=some (.slice (some ⟨rg r,0,none⟩) c c):=by
    have h1:=HC.out r ai;have hgl:g<w.heap.size:=by
     have:=h1;unfold World.cell? at this;cases hb:w.heap[g]? with
     |none=>rw[hb]at this;simp at this
     |some o=>exact(Array.getElem?_eq_some_iff.1 hb).1
    have e:=er.block g hgl (by rintro⟨i,hi,e⟩;exact HN.out i hi e.symm);unfold World.cell? at h1⊢;rw[e];exact h1
   have ff:(0:Int)<=(r:Int):=by omega
   have dg:(r:Int)<(n:Int):=by omega
   by_cases Dg:r=k
   .subst Dg;have An:Hid (eH wr n c rg (Gs.dx r (r+1) S)):=by
     refine bu.congr fun i j hi hj=>?_;have:(i<r/\i≠r)↔(i<r+1/\i≠r):=by omega
     simp only[Gs.dx,this]
    have Yo:=hide er;clear er bu;go_wp2;go_roundw
    case rel=>exact⟨r+1,by omega,by go_num,Yo.out,An.out⟩
    case measure=>refine aW ?_ ?_<;>simp only[intOf]<;>omega
   .have bd:¬(r:Int)=(k:Int):=by omega
    have bw:∀j,Gs.dx k r S r j=S r j:=fun j=>by simp only[Gs.dx,Nat.lt_irrefl,false_and,if_false]
    have U6:∀j,Gs.dx k r S k j=S k j:=fun j=>by simp only[Gs.dx,ne_eq,not_true_eq_false,and_false,if_false]
    have ot:k<c:=by omega
    have cj:=bu.row r ai;have YT:=bu.row k hk;have Yi:∀j,j<c->S r j<256:=fun j hj=>by rw[<-bw j];exact bu.lt r j ai hj
    have ye:∀j,j<c->S k j<256:=fun j hj=>by rw[<-U6 j];exact bu.lt k j hk hj
    have Ay:wr.cell? ⟨rg r,k,none⟩=some (.int .u8 ((S r k:Nat):Int)):=by
     apply cj.cell;have:=gX (l:=lst c (Gs.dx k r S r)) (i:=k) (by rw[bN];exact ot);rw[nO ot,bw]at this;exact this
    have ht:=Yi k ot;have hA:Hid (Calls prog 170 #[.slice (some ⟨rg r,0,none⟩) c c,.slice (some ⟨rg k,0,none⟩) c c,.int .i64 (S r k:Nat)] wr fun e w'=>
      e= .returned (.tuple #[])/\wr.grownBy w' (some (rg r))/\eH w' n c rg (Gs.dx k (r+1) S)):=by
     have:=oH (rg r) 0 c c (rg k) 0 c (S r k) c (lst c (Gs.dx k r S r)) (lst c (Gs.dx k r S k)) (bN _ _) hc (Nat.le_refl _) (by rw[bN];omega) (MC fun j hj=>by rw[U6];exact ye j hj) (MC fun j hj=>by rw[bw];exact Yi j hj) ht wr
      (fun e=>Dg (bu.inj r k ai hk e.symm)) cj (fun j hj=>by
       rw[Nat.zero_add];apply YT.cell;exact gX (by rw[bN];exact hj))
     refine this.mono ?_;rintro e w' ⟨rfl,h1,h2⟩;refine⟨rfl,h1,?_⟩;rw[XY]at h2;refine(bu.set ai (fun j hj=>?_) h1 h2).congr fun i j hi hj=>?_
     .rw[bw,U6];exact Gf.xor_lt (Yi j hj) (Gf.mul_lt (ye j hj) ht)
     .by_cases e:i=r
      .subst e;have h1:i<i+1/\i≠k:=⟨by omega,Dg⟩;simp only[if_true,bw,U6];simp only[Gs.dx,if_pos h1]
      .have:(i<r/\i≠k)↔(i<r+1/\i≠k):=by omega
       simp only[if_neg e,Gs.dx,this]
    have Yo:=hide er;clear er bu cj YT Yi ye bw U6;generalize S r k=t at hA Ay ht;have fN:IntKind.i64.wrap (t:Int)=(t:Int):=aH _ (by omega) (by omega);have hne2:∀w,Sem.run prog (binOp .neq 3 (.int .i64 (r:Int)) (.int .i64 (k:Int))) w= .ok (.bool true) w:=by
     intro w;simp[go_sem,bd]
    go_wp2_with (go_at_call 170;refine hA.out.mono ?_;rintro _ w2 ⟨rfl,eQ,dE⟩;replace eQ:=hide eQ;replace dE:=hide dE)
    go_roundw
    case rel=>exact⟨r+1,by omega,by go_num,Yo.out.grown eQ.out fun b hb=>.inl ⟨r,ai,(Option.some.inj hb).symm⟩,dE.out⟩
    case measure=>refine aW ?_ ?_<;>simp only[intOf]<;>omega
  .have e:r=n:=by omega
   subst e;have Yo:=hide er;have Ot:=hide bu
   clear er bu;go_wp2;exact HQ.out _ _ _ _ _ _ _ _ _ _ _ _ _ _ _ _ _ _ _ _ _ _ _ _ _ _ _ _ _ wr Yo.out Ot.out
open Go.Conc Go.RowKit Go.bn Go.Ren Go.kg Go.Deep
theorem zU{P:Program}{X A:FuncId->Bool}{K:FuncId->Nat->Nat}{f:Fr}{fs:List Fr}{w:World}(h:JV P X A K f fs w){ops:Array Oper}{rest:List Nat}(ba:f.todo= .inRegion ops (i::rest)::k)(ho:ops[i]? =some o){v:Value}(hv:∀(ρ:Array Nat) d,o.dst=some d->CR ρ (K f.fn d) v v):JV P X A K (f.finish v) fs w:=by
 obtain⟨ρ,h1,h2⟩:=h;have hF:n_ P X A K ρ w f fs f fs w:=⟨h1,by rw[lS];exact h2⟩;have:=sJ hF ba ho (hv ρ);exact⟨ρ,this.st,by have h:=this.wr;rwa [lS]at h⟩
theorem Yv(ρ:Array Nat)(n:Int):CR ρ 4 (.tuple #[.int .i64 n,.bool false,.agg #[]]) (.tuple #[.int .i64 n,.bool false,.agg #[]]):=by
 refine(⟨_,_,rfl,rfl,rfl,fun i x x' h1 h2=>?_,fun i x x' hi h1 h2=>?_⟩:CR ρ 4 _ _)
 .rw[h1]at h2;obtain rfl:=Option.some.inj h2;match i,h1 with
  |0,h1=>obtain rfl:=Option.some.inj h1;exact .int _ _
  |1,h1=>obtain rfl:=Option.some.inj h1;exact .bool _
  |2,h1=>obtain rfl:=Option.some.inj h1;exact .agg rfl fun i v v' h=>by simp at h
  |i+3,h1=>simp at h1
 .rw[h1]at h2;obtain rfl:=Option.some.inj h2;match i,h1,hi with
  |0,h1,_=>obtain rfl:=Option.some.inj h1;exact .int _ _
  |1,h1,_=>obtain rfl:=Option.some.inj h1;exact .bool _
theorem Xt(Dn:Nat)(ops:Array Oper)(s:nA Nat)(Next:nA Nat->Prop)(τ:Nat->Question->Nat)(d:Nat)(h:bS Dn ops s Next):bS Dn ops (s.re τ d) (fun s'=>∃s0,Next s0/\s'=s0.re τ d):=by
 obtain⟨T,rest,k,h1,h2,h3⟩:=h;refine⟨T,rest,k,h1,h2,fun s' hs=>?_⟩;rcases hs with rfl|rfl
 .exact⟨_,h3 _ (.inl rfl),rfl⟩
 .exact⟨_,h3 _ (.inr rfl),rfl⟩
section
variable {Dn:Nat} {Stop:nA Nat->Prop} {fs:List Fr} {w:World}
theorem aN.poll{m:Nat}{T:Array Value}{rest:List Nat}(hT:T[3]? =some (.chan (some Dn)))
  (h1:aN prog aQ aZ jX (bS Dn (aX (aI 2 (f187.body.getD .skip)))) Stop m ((⟨187,T,.inRegion (aX (aI 2 (f187.body.getD .skip))) (0::rest)::k,false⟩:Fr).finish (.tuple #[.int .i64 (-1),.bool false,.agg #[]])) fs w)
  (h2:aN prog aQ aZ jX (bS Dn (aX (aI 2 (f187.body.getD .skip)))) Stop 1 ((⟨187,T,.inRegion (aX (aI 2 (f187.body.getD .skip))) (0::rest)::k,false⟩:Fr).finish (.tuple #[.int .i64 0,.bool false,.agg #[]])) fs w):
  aN prog aQ aZ jX (bS Dn (aX (aI 2 (f187.body.getD .skip)))) Stop m ⟨187,T,.inRegion (aX (aI 2 (f187.body.getD .skip))) (0::rest)::k,false⟩ fs w:=by
 intro hI;refine .node (Next:=fun s'=>s'=⟨m,_,fs,w⟩\/s'=⟨1,_,fs,w⟩) ⟨T,rest,k,rfl,hT,fun s' hs=>hs⟩ (fun s' hs=>?_);have hv:∀(n:Int) (ρ:Array Nat) d,((aX (aI 2 (f187.body.getD .skip)))[0]).dst=some d->CR ρ (jX 187 d) (.tuple #[.int .i64 n,.bool false,.agg #[]]) (.tuple #[.int .i64 n,.bool false,.agg #[]]):=by
  intro n ρ d hd;have hd:some 4=some d:=hd;obtain rfl:=Option.some.inj hd;exact Yv ρ n
 rcases hs with rfl|rfl
 .exact h1 (zU hI rfl rfl (hv (-1)))
 .exact h2 (zU hI rfl rfl (hv 0))
theorem MV(hR:jT (bS Dn (aX (aI 2 (f187.body.getD .skip)))) Stop){ci:Nat}(ho:bA[ci]? =some o)
  (h1:aN prog aQ aZ jX (bS Dn (aX (aI 2 (f187.body.getD .skip)))) Stop 0 ⟨cfn,((⟨cT,[]⟩:Act).put o.dst (.bool false)).tmps,.inRegion bA aT::ck,false⟩ fs w)
  (h2:aN prog aQ aZ jX (bS Dn (aX (aI 2 (f187.body.getD .skip)))) Stop 1 ⟨cfn,((⟨cT,[]⟩:Act).put o.dst (.bool true)).tmps,.inRegion bA aT::ck,false⟩ fs w):
  aN prog aQ aZ jX (bS Dn (aX (aI 2 (f187.body.getD .skip)))) Stop 0 ⟨187,#[.chan (some Dn),undef,undef,undef,undef,undef,undef],[.code (f187.body.getD .skip)],false⟩ (⟨cfn,cT,.inRegion bA (ci::aT)::ck,false⟩::fs) w:=by
 have hC:=closed2;conv=>arg 8;simp only[f187,Option.getD_some]
 refine aN.seq hC hR (aN.run hC hR bf closed (by kernel_rfl) fun τ d=>?_);go_wp2;refine aN.re hR ?_ _ _;refine aN.seq hC hR (aN.run hC hR bf closed (by kernel_rfl) fun τ d=>?_);go_wp2;refine aN.re hR ?_ _ _;refine aN.seq hC hR (aN.reg hC hR (l:= [0,1,2]) rfl ?_);refine aN.poll (m:=0) (rest:= [1,2]) rfl ?_ ?_
 .simp only[Fr.finish,f187,Option.getD_some,aI,aX];refine aN.op hC rfl rfl (fun τ d K hK=>?_);go_simp;refine hK _ _ (aN.re hR ?_ _ _);clear hK;try walk_nrm
  refine aN.op hC rfl rfl (fun τ d K hK=>?_);go_simp;refine hK _ _ (aN.re hR ?_ _ _);clear hK;try walk_nrm
  refine aN.aJ hC hR (aN.run hC hR bf closed (by kernel_rfl) fun τ d=>?_);go_wp2;intro todo;refine aN.re hR ?_ _ _;exact aN.back hC hR ho func187 (v:=.bool false) (by simp[results,f187,go_sem]) (by simp[results,f187]) h1
 .simp only[Fr.finish,f187,Option.getD_some,aI,aX];refine aN.op hC rfl rfl (fun τ d K hK=>?_);go_simp;refine hK _ _ (aN.re hR ?_ _ _);clear hK;try walk_nrm
  refine aN.op hC rfl rfl (fun τ d K hK=>?_);go_simp;refine hK _ _ (aN.re hR ?_ _ _);clear hK;try walk_nrm
  refine aN.aJ hC hR (aN.run hC hR bf closed (by kernel_rfl) fun τ d=>?_);go_wp2;intro todo;refine aN.re hR ?_ _ _;exact aN.back hC hR ho func187 (v:=.bool true) (by simp[results,f187,go_sem]) (by simp[results,f187]) h2
structure Kt(X:Nat->Prop)(w w':World):Prop where
 size:w.heap.size<=w'.heap.size
 block:∀k,k<w.heap.size->¬X k->w'.heap[k]? =w.heap[k]?
theorem Kt.refl(X:Nat->Prop)(w:World):Kt X w w:=⟨Nat.le_refl _,fun _ _ _=>rfl⟩
theorem Kt.trans{X:Nat->Prop}{c:World}(h:Kt X a b)(h':Kt X b c):Kt X a c:=⟨Nat.le_trans h.size h'.size,fun k hk hx=>(h'.block k (Nat.lt_of_lt_of_le hk h.size) hx).trans (h.block k hk hx)⟩
theorem Kt.of_kp{X:Nat->Prop}(h:Kp X a b):Kt X a b:=⟨h.size,h.block⟩
theorem Kt.join{X Y:Nat->Prop}{c:World}(h:Kt X a b)(h':Kt Y b c)(hy:∀k,Y k->X k\/a.heap.size<=k):Kt X a c:=⟨Nat.le_trans h.size h'.size,fun k hk hx=>(h'.block k (Nat.lt_of_lt_of_le hk h.size) fun y=>(hy k y).elim hx fun hl=>by omega).trans (h.block k hk hx)⟩
theorem Bf.kt{X:Nat->Prop}{rg:Nat->Nat}(h:Bf a rv n c rg)(hk:Kt X a b)(hx:∀g,0<n->(∀i,i<n->rg i≠g)->g<a.heap.size->¬X g):Bf b rv n c rg:=by
 obtain⟨ad,cap,rfl,h1⟩:=h;refine⟨ad,cap,rfl,fun hn=>?_⟩;obtain⟨g,rfl,h2,h3⟩:=h1 hn;refine⟨g,rfl,fun i hi=>?_,h3⟩;have h4:=h2 i hi;have hg:g<a.heap.size:=by
  have:=h4;unfold World.cell? at this;cases hb:a.heap[g]? with
  |none=>rw[hb]at this;simp at this
  |some o=>exact(Array.getElem?_eq_some_iff.1 hb).1
 have e:=hk.block g hg (hx g hn h3 hg);unfold World.cell? at h4⊢;rw[e];exact h4
theorem Lm(hR:jT (bS Dn (aX (aI 2 (f187.body.getD .skip)))) Stop){ci:Nat}(ho:bA[ci]? =some o){rg:Nat->Nat}{M:Nat->Nat->Nat}(py:n<=c)(hc:c<=65536)(DI:Bf w0 rv n c rg)(UL:∀k,k<n->Gs.it n M k k k≠0)
  (h1:∀w,Kt (fun b=>∃i,i<n/\b=rg i) w0 w->eH w n c rg (Gs.it n M n)->aN prog aQ aZ jX (bS Dn (aX (aI 2 (f187.body.getD .skip)))) Stop 0 ⟨cfn,((⟨cT,[]⟩:Act).put o.dst (.bool true)).tmps,.inRegion bA aT::ck,false⟩ fs w)
  (h2:∀w,Kt (fun b=>∃i,i<n/\b=rg i) w0 w->aN prog aQ aZ jX (bS Dn (aX (aI 2 (f187.body.getD .skip)))) Stop 1 ⟨cfn,((⟨cT,[]⟩:Act).put o.dst (.bool false)).tmps,.inRegion bA aT::ck,false⟩ fs w):
  ∀(r k:Nat),k+r=n->∀(j2 j3 j4 j5 j6 j7 j8 a3 a7 a2 a6 a5 a4 c4 d1 b5 c5 d3 b8 c8 d5 c2 b1 c6 a9 b2 c3 b7 b9 c0 b3 a8 b0 d4 b6 d2 c9 c7 b4 d0 a1:Value) (w:World),Kt (fun b=>∃i,i<n/\b=rg i) w0 w->eH w n c rg (Gs.it n M k)->aN prog aQ aZ jX (bS Dn (aX (aI 2 (f187.body.getD .skip)))) Stop 0 ⟨150,#[rv,.chan (some Dn),j2,j3,j4,j5,j6,j7,j8,rv,.int .i64 n,.int .i64 k,a3,a7,a2,a6,a5,a4,c4,d1,b5,c5,d3,b8,c8,d5,c2,b1,c6,a9,b2,c3,b7,b9,c0,b3,a8,b0,d4,b6,d2,c9,c7,b4,d0,a1],[.code (eO [1,0,1,0,0] (f150.body.getD .skip)),.inLoop (eO [1,0,1,0,0] (f150.body.getD .skip)),.inBlock 0,.code (eO [1,1] (f150.body.getD .skip))],false⟩ (⟨cfn,cT,.inRegion bA (ci::aT)::ck,false⟩::fs) w:=by
 have hC:=closed2;have hX:∀g,0<n->(∀i,i<n->rg i≠g)->g<w0.heap.size->¬∃i,i<n/\g=rg i:=by
  rintro g _ h _ ⟨i,hi,e⟩;exact h i hi e.symm
 intro r;induction r with
 |zero=>
  intro k mB j2 j3 j4 j5 j6 j7 j8 a3 a7 a2 a6 a5 a4 c4 d1 b5 c5 d3 b8 c8 d5 c2 b1 c6 a9 b2 c3 b7 b9 c0 b3 a8 b0 d4 b6 d2 c9 c7 b4 d0 a1 w AM bu;obtain rfl:k=n:=by omega
  obtain⟨ra,ZR,rfl,_⟩:=DI;conv=>arg 8;simp only[f150,Option.getD_some,eO]
  refine aN.seq hC hR (aN.run hC hR bf closed (by kernel_rfl) fun τ d=>?_);go_wp2;refine aN.re hR ?_ _ _;refine aN.seq hC hR (aN.no hC hR (by first|rfl|simp[Act.eval]) (aN.exit hC hR rfl ?_));refine aN.run hC hR bf closed (by kernel_rfl) fun τ d=>?_;go_wp2;intro todo;refine aN.re hR ?_ _ _;exact aN.back hC hR ho func150 (v:=.bool true) (by simp[results,f150,go_sem]) (by simp[results,f150]) (h1 w AM bu)
 |succ r ih=>
  intro k mB j2 j3 j4 j5 j6 j7 j8 a3 a7 a2 a6 a5 a4 c4 d1 b5 c5 d3 b8 c8 d5 c2 b1 c6 a9 b2 c3 b7 b9 c0 b3 a8 b0 d4 b6 d2 c9 c7 b4 d0 a1 w AM bu;have hk:k<n:=by omega
  have IS:=DI.kt AM hX;have I1:=IS;obtain⟨ra,ZR,rfl,hh⟩:=IS;obtain⟨g,rfl,bm,Yg⟩:=hh (by omega);have hcw:=bm k hk;clear hh bm Yg;have sg:(0:Int)<=(k:Int):=by omega
  have qi:(k:Int)<(n:Int):=by omega
  have hkw:IntKind.i64.wrap ((k:Int)+1)=((k+1:Nat):Int):=aH _ (by omega) (by omega);conv=>arg 8;simp only[f150,Option.getD_some,eO]
  refine aN.seq hC hR (aN.run hC hR bf closed (by kernel_rfl) fun τ d=>?_);go_wp2;refine aN.re hR ?_ _ _;refine aN.seq hC hR (aN.yes hC hR (by first|rfl|simp[Act.eval,qi]) (aN.skip hC hR ?_));refine aN.seq hC hR (aN.block hC hR (aN.seq hC hR (aN.run hC hR bf closed (by kernel_rfl) fun τ d=>?_)));have hcw':(w.re τ d).cell? ⟨g,k,none⟩=some (.slice (some ⟨rg k,0,none⟩) c c):=hcw;go_wp2;refine aN.re hR ?_ _ _;clear hcw';refine aN.seq hC hR (aN.seq hC hR (aN.reg hC hR (l:= [0,1]) rfl ?_));refine aN.op hC rfl rfl (fun τ d K hK=>?_);go_simp;refine hK _ _ (aN.re hR ?_ _ _);clear hK;try walk_nrm
  refine aN.fB hC hR rfl rfl rfl func187 rfl rfl (T':=#[.chan (some Dn),undef,undef,undef,undef,undef,undef]) (by first|rfl|simp[Act.eval,f187]) ?_;refine MV hR (o:=?o) ?ho ?g1 ?g2
  case ho=>rfl
  case g1=>
   try walk_nrm
   refine aN.aJ hC hR (aN.no hC hR (by first|rfl|simp[Act.eval]) (aN.skip hC hR ?_));refine aN.run hC hR bf closed (by kernel_rfl) fun τ d=>?_;refine TF (w:=w.re τ d) hk py hc I1 (show eH (w.re τ d) n c rg (Gs.it n M k)from⟨bu.row,bu.inj,bu.lt⟩) (UL k hk) (fun h7 h8 H' h19 Pa H5 xi H4 H0 HJ HH Hx Hv Hs Hn Hm Hk h33 h34 h35 h36 h37 Zb Za Y_ Y9 Y8 uu Y7 w' er dE=>.inl ⟨rfl,?_⟩);have hkt2:Kt (fun b=>∃i,i<n/\b=rg i) w0 w':=AM.trans (have q:=Kt.of_kp er;⟨q.size,q.block⟩);clear er hcw I1 bu AM;refine aN.inBlock hC hR (aN.run hC hR bf closed (by kernel_rfl) fun τ d=>?_);go_wp2;refine aN.re hR ?_ _ _;refine aN.inLoop hC hR ?_;exact ih (k+1) (by omega) _ _ _ _ _ _ _ _ _ _ _ _ _ _ _ _ _ _ _ _ _ _ _ _ _ _ _ _ _ _ _ _ _ _ _ _ _ _ _ _ _ w' hkt2 dE
  case g2=>
   try walk_nrm
   refine aN.aJ hC hR (aN.yes hC hR (by first|rfl|simp[Act.eval]) ?_);refine aN.run hC hR bf closed (by kernel_rfl) fun τ d=>?_;go_wp2;intro todo;refine aN.re hR ?_ _ _;exact aN.back hC hR ho func150 (v:=.bool false) (by simp[results,f150,go_sem]) (by simp[results,f150]) (h2 w AM)
theorem Ll(hR:jT (bS Dn (aX (aI 2 (f187.body.getD .skip)))) Stop){ci:Nat}(ho:bA[ci]? =some o){rg:Nat->Nat}{M:Nat->Nat->Nat}(py:n<=c)(hc:c<=65536)(DI:Bf w0 rv n c rg)(bu:eH w0 n c rg M)(UL:∀k,k<n->Gs.it n M k k k≠0)
  (h1:∀w,Kt (fun b=>∃i,i<n/\b=rg i) w0 w->eH w n c rg (Gs.it n M n)->aN prog aQ aZ jX (bS Dn (aX (aI 2 (f187.body.getD .skip)))) Stop 0 ⟨cfn,((⟨cT,[]⟩:Act).put o.dst (.bool true)).tmps,.inRegion bA aT::ck,false⟩ fs w)
  (h2:∀w,Kt (fun b=>∃i,i<n/\b=rg i) w0 w->aN prog aQ aZ jX (bS Dn (aX (aI 2 (f187.body.getD .skip)))) Stop 1 ⟨cfn,((⟨cT,[]⟩:Act).put o.dst (.bool false)).tmps,.inRegion bA aT::ck,false⟩ fs w):
  aN prog aQ aZ jX (bS Dn (aX (aI 2 (f187.body.getD .skip)))) Stop 0 ⟨150,#[rv,.chan (some Dn),undef,undef,undef,undef,undef,undef,undef,undef,undef,undef,undef,undef,undef,undef,undef,undef,undef,undef,undef,undef,undef,undef,undef,undef,undef,undef,undef,undef,undef,undef,undef,undef,undef,undef,undef,undef,undef,undef,undef,undef,undef,undef,undef,undef],[.code (f150.body.getD .skip)],false⟩ (⟨cfn,cT,.inRegion bA (ci::aT)::ck,false⟩::fs) w0:=by
 have hC:=closed2;have hL:=Lm (fs:=fs) hR ho py hc DI UL h1 h2;obtain⟨ra,ZR,rfl,_⟩:=DI;conv=>arg 8;simp only[f150,Option.getD_some]
 conv at hL=>simp only[f150,Option.getD_some,eO]
 refine aN.seq hC hR (aN.run hC hR bf closed (by kernel_rfl) fun τ d=>?_);go_wp2;refine aN.re hR ?_ _ _;refine aN.seq hC hR (aN.seq hC hR (aN.run hC hR bf closed (by kernel_rfl) fun τ d=>?_));go_wp2;refine aN.re hR ?_ _ _;refine aN.block hC hR (aN.loop hC hR ?_);exact hL n 0 (by omega) _ _ _ _ _ _ _ _ _ _ _ _ _ _ _ _ _ _ _ _ _ _ _ _ _ _ _ _ _ _ _ _ _ _ _ _ _ _ _ _ _ w0 (Kt.refl _ _) bu
end
end
section
open Go.RowKit Go.Deep
attribute [local go_sem↓] Go.wp_at_zero Go.wp_at_succ
theorem bR{w:World}{a:Addr}{v:Value}(h:w.cell? a=some v):a.block<w.heap.size:=by
 unfold World.cell? at h;cases hb:w.heap[a.block]? with
 |none=>rw[hb]at h;simp at h
 |some o=>exact(Array.getElem?_eq_some_iff.1 hb).1
def picks(pa:Nat->Option Addr)(heard:Bool)(n:Nat):List Nat:=(List.range n).filter fun j=>(pa j).isSome==heard
theorem LM(pa:Nat->Option Addr)(heard:Bool)(k:Nat):picks pa heard (k+1)=if(pa k).isSome==heard then picks pa heard k++ [k]else picks pa heard k:=by
 unfold picks;rw[List.range_succ,List.filter_append];by_cases h:((pa k).isSome==heard)=true<;>simp[h]
theorem iW(pa:Nat->Option Addr)(heard:Bool)(n:Nat):(picks pa heard n).length<=n:=by
 have:=List.length_filter_le (fun j=>(pa j).isSome==heard) (List.range n);simpa[picks]using this
theorem Tryz.infoInt0:(prog.info? 3).map (fun i=>(i.zero,i.size,i.bytes))=some (some (.int .i64 0),1,8):=by kernel_rfl
theorem J7(a:Option Addr)(cap:Nat)(heard:Bool)(w:World):Calls prog 148 #[.slice a 0 cap,.bool heard] w fun e w'=>e= .returned (.slice none 0 0)/\w'=w:=by
 go_enter func148,ntmps148;go_wp2;go_loopw [5,10] (fun v x wr=>v= .slice none 0 0/\x= .int .i64 0/\wr=w) (fun _ _ _=>0)
 case atStart=>exact⟨rfl,rfl,rfl⟩
 case round=>
  obtain⟨rfl,rfl,rfl⟩:=hrel;go_wp2;go_ret;exact⟨rfl,rfl⟩
theorem yI(pb po n cap:Nat)(pa:Nat->Option Addr)(pl pc:Nat->Nat)(heard:Bool)(hn:n<=65536)(w:World)(hc:∀j,j<n->w.cell? ⟨pb,po+j,none⟩=some (.slice (pa j) (pl j) (pc j))):
  Calls prog 148 #[.slice (some ⟨pb,po,none⟩) n cap,.bool heard] w fun e w'=>
   ∃v,e= .returned v/\bK w' 3 v (dF (picks pa heard n))/\(∀k,v.ownBlock=some k->w.heap.size<=k)/\Below w.heap.size w w':=by
 obtain⟨i0,hi,ep,cJ,cW⟩:=info_parts Tryz.infoInt0;have hC:=hide hc;have yf:Hid (0<n->pb<w.heap.size):=fun h=>by
  have:=hc 0 h;exact bR this
 clear hc;go_enter func148,ntmps148;go_wp2;go_loopw [5,10] (fun v x wr=>∃k:Nat,k<=n/\x= .int .i64 k/\bK wr 3 v (dF (picks pa heard k))/\(∀k,v.ownBlock=some k->w.heap.size<=k)/\Below w.heap.size w wr)
  (fun _ x _=>leftOf n (intOf x).toNat)
 case atStart=>exact⟨0,by omega,rfl,by simpa[picks,dF]using h_ _ _,by intro k hk;simp[Value.ownBlock]at hk,Below.refl _ _⟩
 case round=>
  obtain⟨k,hk,rfl,br,fh,hb⟩:=hrel;by_cases ai:k<n
  .have hO:=hide br;have Fq:=hide fh;have hB:=hide hb
   have bm:wr.cell? ⟨pb,po+k,none⟩=some (.slice (pa k) (pl k) (pc k)):=by
    rw[hb.cell (show pb<w.heap.size from yf.out (by omega))];exact hC.out k ai
   have hS:=hide (LM pa heard k);have BB:=iW pa heard k;have Yk:Hid ((dF (picks pa heard k)).length<=k):=by show _<=_;rw[dS];exact BB
   clear br fh hb BB;have sg:(0:Int)<=(k:Int):=by omega
   have qi:(k:Int)<(n:Int):=by omega
   revert bm hS;generalize gr:pa k=pk;generalize pl k=l1;generalize pc k=c1;clear gr;intro bm hS;have kq:∀w,Sem.run prog (binOp .neq 28 (.slice pk l1 c1) (.slice none 0 0)) w= .ok (.bool pk.isSome) w:=by
    intro w;cases pk<;>simp[go_sem,underlying28]
   by_cases hq:(pk.isSome==heard)=true
   .have tn:Hid (dF (picks pa heard (k+1))=dF (picks pa heard k)++ [.int .i64 (k:Int)]):=by
     show _=_;have:=hS.out;rw[if_pos hq]at this;rw[this];simp[dF]
    have hqe:pk.isSome=heard:=by simpa using hq
    clear hS hq;cases heard with
    |true=>
     obtain⟨q,rfl⟩:=Option.isSome_iff_exists.1 hqe;go_wp2_with (at_builtin;refine dG _ rfl _ _ 33 rfl 3 i0 (.int .i64 0) 8 underlying33 hi ep cJ cW rfl _ _ rfl (hO.out.alloc _) ⟨wr.heap.size,0,none⟩ 1 1 [.int .i64 k] rfl rfl (cell_one_new _ _ _) (by intro u hu;simp at hu;subst hu;rfl) (by have:=Yk.out;simp[maxLen];omega) (by have:=Yk.out;omega) ?_)
     intro v' w1 bt;have hA:=hide bt;clear bt;go_wp2;go_roundw
     case rel=>
      have cC:=hB.out.size;have mo:w.heap.size<=(wr.alloc (.cells #[.int .i64 (k:Int)] 3)).heap.size:=by simp;omega
      refine⟨k+1,by omega,by go_num,?_,hA.out.from mo Fq.out,hA.out.below (hB.out.alloc cC _) mo Fq.out⟩;rw[tn.out];exact hA.out.own
     case measure=>refine aW ?_ ?_<;>simp only[intOf]<;>omega
    |false=>
     obtain rfl:pk=none:=by cases pk<;>simp_all
     go_wp2_with (at_builtin;refine dG _ rfl _ _ 33 rfl 3 i0 (.int .i64 0) 8 underlying33 hi ep cJ cW rfl _ _ rfl (hO.out.alloc _) ⟨wr.heap.size,0,none⟩ 1 1 [.int .i64 k] rfl rfl (cell_one_new _ _ _) (by intro u hu;simp at hu;subst hu;rfl) (by have:=Yk.out;simp[maxLen];omega) (by have:=Yk.out;omega) ?_)
     intro v' w1 bt;have hA:=hide bt;clear bt;go_wp2;go_roundw
     case rel=>
      have cC:=hB.out.size;have mo:w.heap.size<=(wr.alloc (.cells #[.int .i64 (k:Int)] 3)).heap.size:=by simp;omega
      refine⟨k+1,by omega,by go_num,?_,hA.out.from mo Fq.out,hA.out.below (hB.out.alloc cC _) mo Fq.out⟩;rw[tn.out];exact hA.out.own
     case measure=>refine aW ?_ ?_<;>simp only[intOf]<;>omega
   .have tn:Hid (dF (picks pa heard (k+1))=dF (picks pa heard k)):=by
     show _=_;have:=hS.out;rw[if_neg hq]at this;rw[this]
    have hqe:¬pk.isSome=heard:=by simpa using hq
    clear hS hq;cases heard with
    |true=>
     obtain rfl:pk=none:=by cases pk<;>simp_all
     go_wp2;go_roundw
     case rel=>
      refine⟨k+1,by omega,by go_num,?_,Fq.out,hB.out⟩;rw[tn.out];exact hO.out
     case measure=>refine aW ?_ ?_<;>simp only[intOf]<;>omega
    |false=>
     obtain⟨q,rfl⟩:∃q,pk=some q:=by cases pk with|none=>simp_all|some q=>exact⟨q,rfl⟩
     go_wp2;go_roundw
     case rel=>
      refine⟨k+1,by omega,by go_num,?_,Fq.out,hB.out⟩;rw[tn.out];exact hO.out
     case measure=>refine aW ?_ ?_<;>simp only[intOf]<;>omega
  .have e:k=n:=by omega
   subst e;have hO:=hide br;have Fq:=hide fh;have hB:=hide hb
   clear br fh hb;go_wp2;go_ret;exact⟨_,rfl,hO.out,Fq.out,hB.out⟩
theorem Nc(pb po n cap:Nat)(xs:List Value)(hl:Hid (xs.length=n))(h1:∀u∈xs,u.oneCell'=true)(hn:n<=65536)(w:World)(hc:∀j u,xs[j]? =some u->w.cell? ⟨pb,po+j,none⟩=some u):
  Calls prog 147 #[.slice (some ⟨pb,po,none⟩) n cap] w fun e w'=>
   ∃v,e= .returned v/\bK w' 28 v xs/\(∀k,v.ownBlock=some k->w.heap.size<=k)/\Below w.heap.size w w':=by
 obtain⟨i0,hi,ep,cJ,cW⟩:=info_parts Tryz.infoBytes;have hC:Hid (∀j u,xs[j]? =some u->(w.alloc (.cells #[] 28)).cell? ((⟨pb,po,none⟩:Addr).add j)=some u):=fun j u hu=>by
  have:=hc j u hu;rw[Addr.add_lit,World.cell?_alloc_old _ _ _ (by have:=bR this;simp only at this⊢;omega)];exact this
 have hO:Hid (bK (w.alloc (.cells #[] 28)) 28 (.slice (some ⟨w.heap.size,0,none⟩) 0 0) []):=.inr ⟨w.heap.size,0,[],rfl,iG w [] _,by simp,by simp[maxLen],rfl,rfl⟩;clear hc;have he:∀w,Sem.run prog (binOp .eql 25 (.slice (some ⟨pb,po,none⟩) n cap) (.slice none 0 0)) w= .ok (.bool false) w:=by
  intro w;exact Go.Lib.run_eql_slice_nil w _ _ _ _ _ _ _ underlying25
 go_enter func147,ntmps147;go_wp2_with (at_builtin;refine dG _ rfl _ _ 25 rfl 28 i0 (.slice none 0 0) 24 underlying25 hi ep cJ cW rfl _ _ rfl hO.out ⟨pb,po,none⟩ n cap xs rfl hl.out hC.out h1 (by simp[maxLen];omega) (by simp;omega) ?_)
 intro v' w1 bt;have hA:=hide bt;clear bt;go_wp2;go_ret;have mo:w.heap.size<=(w.alloc (.cells #[] 28)).heap.size:=by simp
 refine⟨_,rfl,by simpa using hA.out.own,hA.out.from mo (by intro k hk;simp[Value.ownBlock]at hk;omega),hA.out.below ((Below.refl _ _).alloc (Nat.le_refl _) _) mo (by intro k hk;simp[Value.ownBlock]at hk;omega)⟩
end
