import Derived.Test.YtmfpiodlecapiaaGreatDoorJ17
namespace Go.Proofs.YtmfpiodlecapiaaGreatDoor.Pk
theorem nodup_map:∀{l:List Nat} {f:Nat->Nat},l.Nodup->(∀a∈l,∀b∈l,f a=f b->a=b)->(l.map f).Nodup
 | [],_,_,_=>List.nodup_nil
 |a::l,f,hn,hi=>by
  have hn':=List.nodup_cons.1 hn;rw[List.map_cons,List.nodup_cons];refine⟨fun h=>?_,nodup_map hn'.2 (fun b hb c hc=>hi b (List.mem_cons_of_mem _ hb) c (List.mem_cons_of_mem _ hc))⟩;obtain⟨b,hb,e⟩:=List.mem_map.1 h;have:=hi b (List.mem_cons_of_mem _ hb) a (List.mem_cons_self ..) e;exact hn'.1 (this▸hb)
def rowAt(K n i:Nat):Nat:=if n<K then(if i=n then 1 else 0)else weight (n-K) i
def sumN(f:Nat->Nat):Nat->Nat
 |0=>0
 |k+1=>sumN f k ^^^ f k
def dotN(K n:Nat)(x:Nat->Nat):Nat:=sumN (fun i=>Gf.mul (x i) (rowAt K n i)) K
theorem sumN_congr{f g:Nat->Nat}:∀{k:Nat},(∀i,i<k->f i=g i)->sumN f k=sumN g k
 |0,_=>rfl
 |k+1,h=>by
  rw[sumN,sumN,sumN_congr (fun i hi=>h i (by omega)),h k (by omega)]
theorem sumN_zero:∀{f:Nat->Nat} {k:Nat},(∀i,i<k->f i=0)->sumN f k=0
 |_,0,_=>rfl
 |f,k+1,h=>by rw[sumN,sumN_zero (fun i hi=>h i (by omega)),h k (by omega)];rfl
theorem sumN_one{f:Nat->Nat}{n:Nat}:∀{k:Nat},n<k->(∀i,i<k->i≠n->f i=0)->sumN f k=f n
 |k+1,hn,h=>by
  rw[sumN];by_cases e:n=k
  ·subst e;rw[sumN_zero (fun i hi=>h i (by omega) (by omega)),Nat.zero_xor]
  ·rw[sumN_one (show n<k by omega) (fun i hi hne=>h i (by omega) hne),h k (by omega) (fun e2=>e e2.symm),Nat.xor_zero]
theorem frac_append(a:Nat)(q:Nat×Nat):∀l:List (Nat×Nat),Gf.frac a (l++ [q])=Gf.frac a l ^^^ Gf.mul q.2 (Gf.inv (a ^^^ q.1))
 |[]=>by
  rw[List.nil_append,Gf.frac_cons];have e:Gf.frac a []=0:=by rw[Gf.frac]
  rw[e,Nat.xor_zero,Nat.zero_xor]
 |r::l=>by rw[List.cons_append,Gf.frac_cons,Gf.frac_cons,frac_append a q l,Nat.xor_assoc]
theorem sumTo_at{blk:List Nat}{s j K:Nat}(h:blk.length=K*s){c:Nat}(hc:c<s):∀k,k<=K->(sumTo blk s j k)[c]? =some (sumN (fun i=>Gf.mul (blk[i*s+c]?.getD 0) (weight j i)) k)
 |0,_=>by simp[sumTo,sumN,hc]
 |k+1,hk=>by
  have ih:=sumTo_at (j:=j) h hc k (by omega);have hl:=sumTo_length (j:=j) h k (by omega);rw[sumTo,addTimes_at _ _ _ _ (by rw[piece_length h hk,hl]) (by rw[hl];exact hc),ih,piece_at hc,sumN];rfl
theorem pieceN_at{blk:List Nat}{s K n c:Nat}(h:blk.length=K*s)(hb:∀x∈blk,x<256)(hc:c<s):(pieceN blk s K n)[c]? =some (dotN K n (fun i=>blk[i*s+c]?.getD 0)):=by
 have hlt:∀i,i<K->i*s+c<blk.length:=fun i hi=>by
  have:=Nat.mul_le_mul_right s hi;rw[Nat.succ_mul]at this;omega
 unfold pieceN dotN;by_cases hn:n<K
 ·rw[if_pos hn,piece_at hc,sumN_one hn (fun i hi hne=>by
   show Gf.mul _ (rowAt K n i)=0;unfold rowAt;have hx:blk[i*s+c]?.getD 0<256:=by simp[hlt i hi];exact hb _ (List.getElem_mem _)
   rw[if_pos hn,if_neg hne,Gf.mul_zero hx])]
  unfold rowAt;have hx:blk[n*s+c]?.getD 0<256:=by simp[hlt n hn];exact hb _ (List.getElem_mem _)
  rw[if_pos hn,if_pos rfl,Gf.mul_one hx];simp[hlt n hn]
 ·rw[if_neg hn,sumTo_at h hc K (Nat.le_refl _)];congr 1
  refine sumN_congr (fun i hi=>?_);unfold rowAt;rw[if_neg hn]
end Go.Proofs.YtmfpiodlecapiaaGreatDoor.Pk
namespace Go.Proofs.YtmfpiodlecapiaaGreatDoor.Gs
open Go.Proofs.YtmfpiodlecapiaaGreatDoor
def lin(K:Nat)(r x:Nat->Nat):Nat:=Pk.sumN (fun j=>Gf.mul (x j) (r j)) K
def Small(K:Nat)(x:Nat->Nat):Prop:=∀j,j<K->x j<256
def b_(K:Nat)(R:Nat->Nat->Nat):Prop:=∀i,i<K->Small K (R i)
def Solves(K:Nat)(R:Nat->Nat->Nat)(d x:Nat->Nat):Prop:=∀i,i<K->lin K (R i) x=d i
theorem xq(f g:Nat->Nat):∀k:Nat,Pk.sumN (fun j=>f j ^^^ g j) k=Pk.sumN f k ^^^ Pk.sumN g k
 |0=>by rw[Pk.sumN,Pk.sumN,Pk.sumN];rfl
 |k+1=>by
  rw[Pk.sumN,Pk.sumN,Pk.sumN,xq f g k];exact Gf.wQ _ _ _ _
theorem BR{f:Nat->Nat}:∀{k:Nat},(∀i,i<k->f i<256)->Pk.sumN f k<256
 |0,_=>by rw[Pk.sumN];decide
 |k+1,h=>by rw[Pk.sumN];exact Gf.xor_lt (BR (fun i hi=>h i (by omega))) (h k (by omega))
theorem Ew{f:Nat->Nat}{c:Nat}(hc:c<256):∀{k:Nat},(∀i,i<k->f i<256)->Pk.sumN (fun j=>Gf.mul (f j) c) k=Gf.mul (Pk.sumN f k) c
 |0,_=>by rw[Pk.sumN,Pk.sumN,Gf.zero_mul hc]
 |k+1,h=>by
  rw[Pk.sumN,Pk.sumN,Ew hc (fun i hi=>h i (by omega)),Gf.add_mul (BR (fun i hi=>h i (by omega))) (h k (by omega)) hc]
theorem Yc{K:Nat}{r x:Nat->Nat}(hr:Small K r)(hx:Small K x):lin K r x<256:=BR (fun j hj=>Gf.mul_lt (hx j hj) (hr j hj))
theorem Vr{K:Nat}(r s x:Nat->Nat):lin K (fun j=>r j ^^^ s j) x=lin K r x ^^^ lin K s x:=by
 unfold lin;rw[<-xq];exact Pk.sumN_congr (fun j _=>Gf.mul_add _ _ _)
theorem AX{K c:Nat}{r x:Nat->Nat}(hc:c<256)(hr:Small K r)(hx:Small K x):lin K (fun j=>Gf.mul (r j) c) x=Gf.mul (lin K r x) c:=by
 unfold lin;rw[<-Ew hc (fun j hj=>Gf.mul_lt (hx j hj) (hr j hj))];exact Pk.sumN_congr (fun j hj=>(Gf.mul_assoc (hx j hj) (hr j hj) hc).symm)
theorem Oh{K:Nat}{r s x:Nat->Nat}(h:∀j,j<K->r j=s j):lin K r x=lin K s x:=Pk.sumN_congr (fun j hj=>by rw[h j hj])
def swap{α:Type}(c p:Nat)(y:α)(R:Nat->α)(i:Nat):α:=if i=c then y else if i=p then R c else R i
def cB(c m:Nat)(R:Nat->Nat->Nat)(i j:Nat):Nat:=if i<m/\i≠c then R i j ^^^ Gf.mul (R c j) (R i c)else R i j
def jr(c m:Nat)(R:Nat->Nat->Nat)(d:Nat->Nat)(i:Nat):Nat:=if i<m/\i≠c then d i ^^^ Gf.mul (d c) (R i c)else d i
theorem Jh{a b f g:Nat}(ha:a<256)(hb:b<256)(hf:f<256)(hg:g<256)(hfg:Gf.mul f g=1)(h:Gf.mul a f=Gf.mul b f):a=b:=by
 have h1:Gf.mul (Gf.mul a f) g=Gf.mul (Gf.mul b f) g:=by rw[h]
 rwa [Gf.mul_assoc ha hf hg,Gf.mul_assoc hb hf hg,hfg,Gf.mul_one ha,Gf.mul_one hb]at h1
theorem Hf{a b c:Nat}(h:a ^^^ c=b ^^^ c):a=b:=by
 have h1:(a ^^^ c) ^^^ c=(b ^^^ c) ^^^ c:=by rw[h]
 rwa [Nat.xor_assoc,Nat.xor_self,Nat.xor_zero,Nat.xor_assoc,Nat.xor_self,Nat.xor_zero]at h1
theorem Es{K c p f g:Nat}{R:Nat->Nat->Nat}{d x:Nat->Nat}(hR:b_ K R)(hd:Small K d)(hx:Small K x)(hc:c<K)(hp:p<K)(hf:f<256)(hg:g<256)(hfg:Gf.mul f g=1):
  Solves K (swap c p (fun j=>Gf.mul (R p j) f) R) (swap c p (Gf.mul (d p) f) d) x↔Solves K R d x:=by
 have e:lin K (fun j=>Gf.mul (R p j) f) x=Gf.mul (lin K (R p) x) f:=AX hf (hR p hp) hx;constructor
 ·intro h;have hpp:lin K (R p) x=d p:=by
   have h1:=h c hc;unfold swap at h1;rw[if_pos rfl,if_pos rfl,e]at h1;exact Jh (Yc (hR p hp) hx) (hd p hp) hf hg hfg h1
  intro i hi;by_cases h1:i=p
  ·rw[h1];exact hpp
  ·by_cases h2:i=c
   ·subst h2;have h3:=h p hp;unfold swap at h3;rw[if_neg (fun e=>h1 e.symm),if_pos rfl,if_neg (fun e=>h1 e.symm),if_pos rfl]at h3;exact h3
   ·have h3:=h i hi;unfold swap at h3;rw[if_neg h2,if_neg h1,if_neg h2,if_neg h1]at h3;exact h3
 ·intro h i hi;unfold swap;by_cases h2:i=c
  ·rw[if_pos h2,if_pos h2,e,h p hp]
  ·rw[if_neg h2,if_neg h2];by_cases h1:i=p
   ·rw[if_pos h1,if_pos h1];exact h c hc
   ·rw[if_neg h1,if_neg h1];exact h i hi
theorem Gq{K c m:Nat}{R:Nat->Nat->Nat}{d x:Nat->Nat}(hR:b_ K R)(hx:Small K x)(hc:c<K):Solves K (cB c m R) (jr c m R d) x↔Solves K R d x:=by
 have e:∀i,i<K->lin K (fun j=>R i j ^^^ Gf.mul (R c j) (R i c)) x=lin K (R i) x ^^^ Gf.mul (lin K (R c) x) (R i c):=fun i hi=>by
  rw[Vr,AX (hR i hi c hc) (hR c hc) hx]
 have ec:cB c m R c=R c:=by funext j;unfold cB;rw[if_neg (fun h=>h.2 rfl)]
 have dc:jr c m R d c=d c:=by unfold jr;rw[if_neg (fun h=>h.2 rfl)]
 constructor
 ·intro h;have hcc:lin K (R c) x=d c:=by have h1:=h c hc;rw[ec,dc]at h1;exact h1
  intro i hi;have h1:=h i hi;by_cases h2:i<m/\i≠c
  ·have e1:cB c m R i=fun j=>R i j ^^^ Gf.mul (R c j) (R i c):=by funext j;unfold cB;rw[if_pos h2]
   have e2:jr c m R d i=d i ^^^ Gf.mul (d c) (R i c):=by unfold jr;rw[if_pos h2]
   rw[e1,e2,e i hi,hcc]at h1;exact Hf h1
  ·have e1:cB c m R i=R i:=by funext j;unfold cB;rw[if_neg h2]
   have e2:jr c m R d i=d i:=by unfold jr;rw[if_neg h2]
   rw[e1,e2]at h1;exact h1
 ·intro h i hi;by_cases h2:i<m/\i≠c
  ·have e1:cB c m R i=fun j=>R i j ^^^ Gf.mul (R c j) (R i c):=by funext j;unfold cB;rw[if_pos h2]
   have e2:jr c m R d i=d i ^^^ Gf.mul (d c) (R i c):=by unfold jr;rw[if_pos h2]
   rw[e1,e2,e i hi,h c hc,h i hi]
  ·have e1:cB c m R i=R i:=by funext j;unfold cB;rw[if_neg h2]
   have e2:jr c m R d i=d i:=by unfold jr;rw[if_neg h2]
   rw[e1,e2];exact h i hi
def Unit(K c:Nat)(R:Nat->Nat->Nat):Prop:=∀i j,i<K->j<c->R i j=if i=j then 1 else 0
def L9(K:Nat)(R:Nat->Nat->Nat):Prop:=∀x,Small K x->Solves K R (fun _=>0) x->∀i,i<K->x i=0
theorem pivot{K c:Nat}{R:Nat->Nat->Nat}(hR:b_ K R)(hU:Unit K c R)(hI:L9 K R)(hc:c<K):∃p,c<=p/\p<K/\R p c≠0:=by
 refine Classical.byContradiction fun hno=>?_;have hz:∀p,c<=p->p<K->R p c=0:=fun p h1 h2=>Classical.byContradiction fun h3=>hno ⟨p,h1,h2,h3⟩;have hx:=hI (fun j=>if j<c then R j c else if j=c then 1 else 0) (fun j hj=>by
  show(if j<c then R j c else if j=c then 1 else 0)<256;split
  ·exact hR j hj c hc
  ·split<;>decide) (fun i hi=>by
  show lin K (R i) _=0;unfold lin;by_cases hic:i<c
  ·
   have e:∀j,j<K->Gf.mul (if j<c then R j c else if j=c then 1 else 0) (R i j)=(if j=i then R i c else 0) ^^^ (if j=c then R i c else 0):=fun j hj=>by
    by_cases h1:j<c
    ·rw[if_pos h1,hU i j hi h1,if_neg (show¬j=c by omega),Nat.xor_zero];by_cases h2:j=i
     ·subst h2;rw[if_pos rfl,if_pos rfl,Gf.mul_one (hR j hj c hc)]
     ·rw[if_neg (fun e=>h2 e.symm),if_neg h2,Gf.mul_zero (hR j hj c hc)]
    ·rw[if_neg h1,if_neg (show¬j=i by omega),Nat.zero_xor];by_cases h2:j=c
     ·subst h2;rw[if_pos rfl,if_pos rfl,Gf.one_mul (hR i hi j hj)]
     ·rw[if_neg h2,if_neg h2,Gf.zero_mul (hR i hi j hj)]
   rw[Pk.sumN_congr e,xq,Pk.sumN_one (f:=fun j=>if j=i then R i c else 0) hi (fun j _ hne=>if_neg hne),Pk.sumN_one (f:=fun j=>if j=c then R i c else 0) hc (fun j _ hne=>if_neg hne)];simp
  ·refine Pk.sumN_zero (fun j hj=>?_);show Gf.mul (if j<c then R j c else if j=c then 1 else 0) (R i j)=0;by_cases h1:j<c
   ·rw[hU i j hi h1,if_neg (show¬i=j by omega)];rw[if_pos h1];exact Gf.mul_zero (hR j hj c hc)
   ·rw[if_neg h1];by_cases h2:j=c
    ·subst h2;rw[if_pos rfl,hz i (by omega) hi];exact Gf.mul_zero (by decide)
    ·rw[if_neg h2];exact Gf.zero_mul (hR i hi j hj)) c hc
 simp at hx
theorem jQ{K c p f:Nat}{R:Nat->Nat->Nat}(hR:b_ K R)(hc:c<K)(hp:p<K)(hf:f<256):b_ K (swap c p (fun j=>Gf.mul (R p j) f) R):=fun i hi j hj=>by
 unfold swap;split
 ·exact Gf.mul_lt (hR p hp j hj) hf
 ·split
  ·exact hR c hc j hj
  ·exact hR i hi j hj
theorem Et{K c p f:Nat}{d:Nat->Nat}(hd:Small K d)(hc:c<K)(hp:p<K)(hf:f<256):Small K (swap c p (Gf.mul (d p) f) d):=fun i hi=>by
 unfold swap;split
 ·exact Gf.mul_lt (hd p hp) hf
 ·split
  ·exact hd c hc
  ·exact hd i hi
theorem JL{K c m:Nat}{R:Nat->Nat->Nat}(hR:b_ K R)(hc:c<K):b_ K (cB c m R):=fun i hi j hj=>by
 unfold cB;split
 ·exact Gf.xor_lt (hR i hi j hj) (Gf.mul_lt (hR c hc j hj) (hR i hi c hc))
 ·exact hR i hi j hj
theorem Gt{K c m:Nat}{R:Nat->Nat->Nat}{d:Nat->Nat}(hR:b_ K R)(hd:Small K d)(hc:c<K):Small K (jr c m R d):=fun i hi=>by
 unfold jr;split
 ·exact Gf.xor_lt (hd i hi) (Gf.mul_lt (hd c hc) (hR i hi c hc))
 ·exact hd i hi
def kC(K c p:Nat)(R:Nat->Nat->Nat):Nat->Nat->Nat:=cB c K (swap c p (fun j=>Gf.mul (R p j) (Gf.inv (R p c))) R)
def Av(K c p:Nat)(R:Nat->Nat->Nat)(d:Nat->Nat):Nat->Nat:=jr c K (swap c p (fun j=>Gf.mul (R p j) (Gf.inv (R p c))) R) (swap c p (Gf.mul (d p) (Gf.inv (R p c))) d)
theorem uR{K c p:Nat}{R:Nat->Nat->Nat}{d x:Nat->Nat}(hR:b_ K R)(hd:Small K d)(hx:Small K x)(hc:c<K)(hp:p<K)(h0:R p c≠0):Solves K (kC K c p R) (Av K c p R d) x↔Solves K R d x:=by
 have hf:=Gf.inv_lt (hR p hp c hc) h0;have hfg:Gf.mul (Gf.inv (R p c)) (R p c)=1:=by rw[Gf.mul_comm hf (hR p hp c hc)];exact Gf.CY (hR p hp c hc) h0
 exact(Gq (jQ hR hc hp hf) hx hc).trans (Es hR hd hx hc hp hf (hR p hp c hc) hfg)
theorem Ir{K c p:Nat}{R:Nat->Nat->Nat}(hR:b_ K R)(hc:c<K)(hp:p<K)(h0:R p c≠0):b_ K (kC K c p R):=
 JL (jQ hR hc hp (Gf.inv_lt (hR p hp c hc) h0)) hc
theorem EA{K c p:Nat}{R:Nat->Nat->Nat}{d:Nat->Nat}(hR:b_ K R)(hd:Small K d)(hc:c<K)(hp:p<K)(h0:R p c≠0):Small K (Av K c p R d):=
 Gt (jQ hR hc hp (Gf.inv_lt (hR p hp c hc) h0)) (Et hd hc hp (Gf.inv_lt (hR p hp c hc) h0)) hc
theorem Iu{K c p:Nat}{R:Nat->Nat->Nat}(hR:b_ K R)(hc:c<K)(hp:p<K)(h0:R p c≠0):∀i,i<K->Av K c p R (fun _=>0) i=0:=fun i hi=>by
 have hf:=Gf.inv_lt (hR p hp c hc) h0;have e:∀k,swap c p (Gf.mul 0 (Gf.inv (R p c))) (fun _=>0) k=0:=fun k=>by
  unfold swap;split
  ·exact Gf.zero_mul hf
  ·split<;>rfl
 unfold Av jr;split
 ·rw[e,e,Gf.zero_mul (jQ hR hc hp hf i hi c hc)];rfl
 ·exact e i
theorem Qk{K c p:Nat}{R:Nat->Nat->Nat}(hR:b_ K R)(hI:L9 K R)(hc:c<K)(hp:p<K)(h0:R p c≠0):L9 K (kC K c p R):=fun x hx h=>by
 refine hI x hx ((uR hR (d:=fun _=>0) (fun _ _=>(by decide:(0:Nat)<256)) hx hc hp h0).1 (fun i hi=>?_));rw[h i hi,Iu hR hc hp h0 i hi]
theorem M9{K c p:Nat}{R:Nat->Nat->Nat}(hR:b_ K R)(hU:Unit K c R)(hc:c<K)(hcp:c<=p)(hp:p<K)(h0:R p c≠0):Unit K (c+1) (kC K c p R):=by
 have hf:=Gf.inv_lt (hR p hp c hc) h0;have s1:∀j,j<c->swap c p (fun j=>Gf.mul (R p j) (Gf.inv (R p c))) R c j=0:=fun j hj=>by
  unfold swap;rw[if_pos rfl,hU p j hp hj,if_neg (by omega),Gf.zero_mul hf]
 have s2:swap c p (fun j=>Gf.mul (R p j) (Gf.inv (R p c))) R c c=1:=by
  unfold swap;rw[if_pos rfl];exact Gf.CY (hR p hp c hc) h0
 have s3:∀i j,i<K->i≠c->j<c->swap c p (fun j=>Gf.mul (R p j) (Gf.inv (R p c))) R i j=if i=j then 1 else 0:=fun i j hi hne hj=>by
  unfold swap;rw[if_neg hne];by_cases hip:i=p
  ·rw[if_pos hip,hU c j hc hj,if_neg (show¬c=j by omega),if_neg (show¬i=j by omega)]
  ·rw[if_neg hip,hU i j hi hj]
 have hS:=jQ hR hc hp hf;intro i j hi hj;unfold kC cB;by_cases hne:i≠c
 ·rw[if_pos ⟨hi,hne⟩];by_cases hjc:j=c
  ·subst hjc;rw[s2,Gf.one_mul (hS i hi j hc),Nat.xor_self,if_neg hne]
  ·rw[s1 j (by omega),Gf.zero_mul (hS i hi c hc),Nat.xor_zero];exact s3 i j hi hne (by omega)
 ·have ei:i=c:=Classical.byContradiction fun h=>hne h;subst ei;rw[if_neg (fun h=>h.2 rfl)];by_cases hjc:j=i
  ·subst hjc;rw[s2,if_pos rfl]
  ·rw[s1 j (by omega),if_neg (fun h=>hjc h.symm)]
theorem DW{K:Nat}{R:Nat->Nat->Nat}{d x:Nat->Nat}(hU:Unit K K R)(hx:Small K x):Solves K R d x↔∀i,i<K->x i=d i:=by
 have e:∀i,i<K->lin K (R i) x=x i:=fun i hi=>by
  unfold lin;have h1:∀j,j<K->Gf.mul (x j) (R i j)=if j=i then x i else 0:=fun j hj=>by
   rw[hU i j hi hj];by_cases h:j=i
   ·subst h;rw[if_pos rfl,if_pos rfl,Gf.mul_one (hx j hj)]
   ·rw[if_neg (fun e=>h e.symm),if_neg h,Gf.mul_zero (hx j hj)]
  rw[Pk.sumN_congr h1,Pk.sumN_one (f:=fun j=>if j=i then x i else 0) hi (fun j _ hne=>if_neg hne),if_pos rfl]
 exact⟨fun h i hi=>by rw[<-h i hi,e i hi],fun h i hi=>by rw[e i hi,h i hi]⟩
def it(n:Nat)(R:Nat->Nat->Nat):Nat->Nat->Nat->Nat
 |0=>R
 |c+1=>kC n c c (it n R c)
theorem Qg{c:Nat}{f:Nat}{R:Nat->Nat->Nat}(i j:Nat):swap c c (fun j=>Gf.mul (R c j) f) R i j=swap c c (Gf.mul (R c j) f) (fun i=>R i j) i:=by
 unfold swap;split<;>rfl
theorem EB(n c j:Nat)(R:Nat->Nat->Nat):Av n c c R (fun i=>R i j)=fun i=>kC n c c R i j:=by
 funext i;simp only[Av,kC,jr,cB,Qg]
theorem M_{n m c:Nat}(R:Nat->Nat->Nat)(hm:m<=n){i:Nat}(hi:i<m)(j:Nat):kC n c c R i j=kC m c c R i j:=by
 have:i<n:=by omega
 simp only[kC,cB,hi,this,true_and]
theorem A_{m:Nat}{R S:Nat->Nat->Nat}(h:∀i j,i<m->j<m->R i j=S i j)(hI:L9 m R):L9 m S:=fun x hx hs=>hI x hx fun i hi=>by
 rw[Oh (h i · hi)];exact hs i hi
theorem Aw{n m:Nat}{R:Nat->Nat->Nat}(h:b_ n R)(hm:m<=n):b_ m R:=fun i hi j hj=>h i (by omega) j (by omega)
theorem UH{n m c:Nat}{R:Nat->Nat->Nat}(h:Unit n c R)(hm:m<=n):Unit m c R:=fun i j hi hj=>h i j (by omega) hj
theorem rW{n c:Nat}{R:Nat->Nat->Nat}(hS:b_ n R)(hU:Unit n c R)(hI:∀m,c<m->m<=n->L9 m R)(hc:c<n):R c c≠0:=by
 obtain⟨p,h1,h2,h3⟩:=pivot (K:=c+1) (Aw hS (by omega)) (UH hU (by omega)) (hI (c+1) (by omega) (by omega)) (by omega);obtain rfl:p=c:=by omega
 exact h3
theorem yu{n:Nat}{R:Nat->Nat->Nat}(hS:b_ n R)(hI:∀m,m<=n->L9 m R):∀c,c<=n->b_ n (it n R c)/\Unit n c (it n R c)/\∀m,c<m->m<=n->L9 m (it n R c)
 |0,_=>⟨hS,fun i j _ h=>by omega,fun m _ h=>hI m h⟩
 |c+1,h=>by
  obtain⟨h1,h2,h3⟩:=yu hS hI c (by omega);have hp:=rW h1 h2 h3 (by omega);refine⟨Ir h1 (by omega) (by omega) hp,M9 h1 h2 (by omega) (Nat.le_refl _) (by omega) hp,fun m hm hn=>?_⟩;refine A_ (R:=kC m c c (it n R c)) (fun i j hi _=>(M_ _ hn hi j).symm) ?_;exact Qk (Aw h1 hn) (h3 m (by omega) hn) (by omega) (by omega) hp
theorem Rq{n:Nat}{R:Nat->Nat->Nat}(hS:b_ n R)(hI:∀m,m<=n->L9 m R){c:Nat}(hc:c<n):it n R c c c≠0:=by
 obtain⟨h1,h2,h3⟩:=yu hS hI c (by omega);exact rW h1 h2 h3 hc
theorem yt{n j:Nat}{R:Nat->Nat->Nat}(hS:b_ n R)(hI:∀m,m<=n->L9 m R)(hj:∀i,i<n->R i j<256):∀c,c<=n->∀i,i<n->it n R c i j<256
 |0,_=>hj
 |c+1,h=>by
  have ih:=yt hS hI hj c (by omega);obtain⟨h1,h2,h3⟩:=yu hS hI c (by omega);have hp:=rW h1 h2 h3 (show c<n by omega);have hd:Small n (fun i=>it n R c i j):=ih;have:=EA (c:=c) (p:=c) h1 hd (by omega) (by omega) hp;rw[EB]at this;exact this
theorem AZ{n j:Nat}{R:Nat->Nat->Nat}(hS:b_ n R)(hI:∀m,m<=n->L9 m R)(hj:∀i,i<n->R i j<256){x:Nat->Nat}(hx:Small n x)(h0:Solves n R (fun i=>R i j) x):∀c,c<=n->Solves n (it n R c) (fun i=>it n R c i j) x
 |0,_=>h0
 |c+1,h=>by
  have ih:=AZ hS hI hj hx h0 c (by omega);obtain⟨h1,h2,h3⟩:=yu hS hI c (by omega);have hp:=rW h1 h2 h3 (show c<n by omega);have hd:Small n (fun i=>it n R c i j):=yt hS hI hj c (by omega);have:=(uR (c:=c) (p:=c) h1 hd hx (by omega) (by omega) hp).2 ih;rw[EB]at this;exact this
theorem Yg{n j:Nat}{R:Nat->Nat->Nat}(hS:b_ n R)(hI:∀m,m<=n->L9 m R)(hj:∀i,i<n->R i j<256){x:Nat->Nat}(hx:Small n x)(h0:Solves n R (fun i=>R i j) x):∀i,i<n->it n R n i j=x i:=fun i hi=>by
 obtain⟨_,h2,_⟩:=yu hS hI n (Nat.le_refl _);exact((DW h2 hx).1 (AZ hS hI hj hx h0 n (Nat.le_refl _)) i hi).symm
theorem Gy{n:Nat}{a b:Nat->Nat}(ha:∀i,i<n->a i<256)(hb:∀i,i<n->b i<256)(han:∀i j,i<n->j<n->a i=a j->i=j)(hbn:∀i j,i<n->j<n->b i=b j->i=j)(hab:∀i j,i<n->j<n->a i≠b j):
  ∀m,m<=n->L9 m (fun i j=>Gf.inv (a i ^^^ b j)):=by
 intro m hm x hx h0 i hi;have hf:∀(a0:Nat) (k:Nat),Gf.frac a0 ((List.range k).map (fun j=>(b j,x j)))=Pk.sumN (fun j=>Gf.mul (x j) (Gf.inv (a0 ^^^ b j))) k:=by
  intro a0 k;induction k with
  |zero=>rfl
  |succ k ih=>rw[List.range_succ,List.map_append,List.map_cons,List.map_nil,Pk.frac_append,ih];rfl
 have:=Gf.cauchy (l:=(List.range m).map (fun j=>(b j,x j))) (az:=(List.range m).map a) (fun q hq=>by
   obtain⟨j,hj,rfl⟩:=List.mem_map.1 hq;rw[List.mem_range]at hj;exact⟨hb j (by omega),hx j hj⟩)
  (by
   rw[List.map_map];exact Pk.nodup_map List.nodup_range fun i hi j hj e=>hbn i j (by rw[List.mem_range]at hi;omega) (by rw[List.mem_range]at hj;omega) e)
  (fun y hy=>by
   obtain⟨j,hj,rfl⟩:=List.mem_map.1 hy;rw[List.mem_range]at hj;exact ha j (by omega))
  (Pk.nodup_map List.nodup_range fun i hi j hj e=>han i j (by rw[List.mem_range]at hi;omega) (by rw[List.mem_range]at hj;omega) e)
  (fun y hy q hq=>by
   obtain⟨j,hj,rfl⟩:=List.mem_map.1 hy;obtain⟨k,hk,rfl⟩:=List.mem_map.1 hq;rw[List.mem_range]at hj hk;exact hab j k (by omega) (by omega))
  (by simp)
  (fun y hy=>by
   obtain⟨j,hj,rfl⟩:=List.mem_map.1 hy;rw[List.mem_range]at hj;rw[hf];exact h0 j hj)
  (b i,x i) (List.mem_map.2 ⟨i,List.mem_range.2 hi,rfl⟩)
 exact this
end Go.Proofs.YtmfpiodlecapiaaGreatDoor.Gs
namespace Go.Proofs.YtmfpiodlecapiaaGreatDoor
open Go.RowKit Go.Deep
attribute [local go_sem↓] Go.wp_at_zero Go.wp_at_succ
def dP:List Nat->Code->Code
 | [],c=>c
 |0::p,.seq a _=>dP p a
 |_::p,.seq _ b=>dP p b
 |_::p,.block _ b=>dP p b
 |_::p,.loop b=>dP p b
 |0::p,.cond _ a _=>dP p a
 |_::p,.cond _ _ b=>dP p b
 |_::_,c=>c
def lst(c:Nat)(f:Nat->Nat):List Nat:=(List.range c).map f
theorem bL(c:Nat)(f:Nat->Nat):(lst c f).length=c:=by simp[lst]
theorem mg{c:Nat}{f:Nat->Nat}{i:Nat}(h:i<c):(lst c f)[i]?.getD 0=f i:=by simp[lst,h]
theorem Jl{c:Nat}{f:Nat->Nat}(h:∀j,j<c->f j<256):∀x∈lst c f,x<256:=fun x hx=>by
 obtain⟨j,hj,rfl⟩:=List.mem_map.1 hx;exact h j (List.mem_range.1 hj)
theorem Og{c:Nat}{f g:Nat->Nat}(h:∀j,j<c->f j=g j):lst c f=lst c g:=List.map_congr_left fun j hj=>h j (List.mem_range.1 hj)
theorem yM{l r:List Nat}(hl:l.length=r.length)(h:∀i,i<r.length->l[i]?.getD 0=r[i]?.getD 0):l=r:=by
 apply List.ext_getElem?;intro i;rcases Nat.lt_or_ge i r.length with hi|hi
 ·have:=h i hi;have hi':i<l.length:=by omega
  simpa[hi,hi']using this
 ·rw[List.getElem?_eq_none hi,List.getElem?_eq_none (by omega)]
theorem Oe(c t:Nat)(f:Nat->Nat):dH (lst c f) t c=lst c (fun j=>Gf.mul (f j) t):=by
 refine yM (by rw[jT,bL,bL]) fun i hi=>?_;rw[bL]at hi;rw[xE (by rw[bL];exact hi),if_pos hi,mg hi,mg hi]
theorem Vo(c t:Nat)(f g:Nat->Nat):fP (lst c f) 0 (lst c g) t c=lst c (fun j=>f j ^^^ Gf.mul (g j) t):=by
 refine yM (by rw[ig,bL,bL]) fun i hi=>?_;rw[bL]at hi;rw[oQ (by rw[bL];exact hi),if_pos (by omega),mg hi,mg hi,Nat.sub_zero,mg hi]
structure dO(w:World)(n c:Nat)(rg:Nat->Nat)(M:Nat->Nat->Nat):Prop where
 row:∀i,i<n->aB w (rg i) 5 (bN (lst c (M i)))
 inj:∀i j,i<n->j<n->rg i=rg j->i=j
 lt:∀i j,i<n->j<c->M i j<256
def zh(w:World)(rv:Value)(n c:Nat)(rg:Nat->Nat):Prop:=∃a cap,rv= .slice a n cap/\(0<n->∃g,a=some ⟨g,0,none⟩/\(∀i,i<n->w.cell? ⟨g,i,none⟩=some (.slice (some ⟨rg i,0,none⟩) c c))/\∀i,i<n->rg i≠g)
theorem dO.set{w w':World}{n c:Nat}{rg:Nat->Nat}{M:Nat->Nat->Nat}(h:dO w n c rg M){r:Nat}(hr:r<n){f:Nat->Nat}(hf:∀j,j<c->f j<256)(hg:w.grownBy w' (some (rg r)))(hrow:aB w' (rg r) 5 (bN (lst c f))):dO w' n c rg (fun i=>if i=r then f else M i):=by
 refine⟨fun i hi=>?_,h.inj,fun i j hi hj=>?_⟩
 ·by_cases e:i=r
  ·subst e;simp only[if_true];exact hrow
  ·simp only[if_neg e];exact(h.row i hi).of_block (hg.block _ (h.row i hi).lt fun e2=>e (h.inj i r hi hr (Option.some.inj e2)))
 ·show(if i=r then f else M i) j<256;split
  ·exact hf j hj
  ·exact h.lt i j hi hj
theorem dO.congr{w:World}{n c:Nat}{rg:Nat->Nat}{M M':Nat->Nat->Nat}(h:dO w n c rg M)(he:∀i j,i<n->j<c->M i j=M' i j):dO w n c rg M':=
 ⟨fun i hi=>by rw[<-Og (he i · hi)];exact h.row i hi,h.inj,fun i j hi hj=>by rw[<-he i j hi hj];exact h.lt i j hi hj⟩
set_option maxRecDepth 20000 in
set_option maxHeartbeats 1000000 in
theorem Qx{Q:Exit->Act->World->Prop}{n c k:Nat}{rg:Nat->Nat}{M:Nat->Nat->Nat}{rv dv:Value}{w:World}{j2 j3 j4 j7 j8 a4 a7 a6 a1 a3 a2 c9 c2 b9 b1 d2 b8 a9 b0 b4 d4 b5 b7 c7 d3 c4 d0 d1 a8 c5 b2 c0 c1 c6 c8 b6 b3 c3 a5:Value}(hk:k<n)(hnc:n<=c)(hc:c<=65536)(Ba:zh w rv n c rg)(hM:dO w n c rg M)(hp:M k k≠0)
  (hQ:∀(h7 h8 h18 h19 h20 h21 h22 h23 Lx Lu Ls h27 SG SF SE h31 h32 Xd Xc Xb Xa h37 Lr Lp Lm Ll Lj h43 Lh:Value) (w':World),Kp (fun b=>∃i,i<n/\b=rg i) w w'->dO w' n c rg (Gs.kC n k k M)->Q .normal ⟨#[rv,dv,j2,j3,j4,.int .i64 k,.slice (some ⟨rg k,0,none⟩) c c,h7,h8,rv,.int .i64 n,.int .i64 k,a4,a7,a6,a1,a3,a2,h18,h19,h20,h21,h22,h23,Lx,Lu,Ls,h27,SG,SF,SE,h31,h32,Xd,Xc,Xb,Xa,h37,Lr,Lp,Lm,Ll,Lj,h43,Lh,a5],[]⟩ w'):
  (dP [1,0,1,0,0,1,1,0,0,1,1] (Tryz.f150.body.getD .skip)).wp Tryz.prog Q ⟨#[rv,dv,j2,j3,j4,.int .i64 k,.slice (some ⟨rg k,0,none⟩) c c,j7,j8,rv,.int .i64 n,.int .i64 k,a4,a7,a6,a1,a3,a2,c9,c2,b9,b1,d2,b8,a9,b0,b4,d4,b5,b7,c7,d3,c4,d0,d1,a8,c5,b2,c0,c1,c6,c8,b6,b3,c3,a5],[]⟩ w:=by
 obtain⟨a,cap,rfl,hh⟩:=Ba;obtain⟨g,rfl,hcell,VF⟩:=hh (by omega);have hkc:k<c:=by omega
 have hiv:=Gf.inv_lt (hM.lt k k hk hkc) hp;have hSl:∀j,j<c->Gf.mul (M k j) (Gf.inv (M k k))<256:=fun j hj=>Gf.mul_lt (hM.lt k j hk hj) hiv;have HC:=hide hcell;have HM:=hide hM;have HN:=hide VF;have HQ:=hide hQ
 have hkk:w.cell? ⟨rg k,k,none⟩=some (.int .u8 ((M k k:Nat):Int)):=by
  apply (hM.row k hk).cell;have:=fV (l:=lst c (M k)) (i:=k) (by rw[bL];exact hkc);rw[mg hkc]at this;exact this
 have hlk:=hM.lt k k hk hkc;have hI:=hide (fun w=>mD (M k k) hlk w);have hSc:Hid (Calls Tryz.prog 188 #[.slice (some ⟨rg k,0,none⟩) c c,.int .i64 (Gf.inv (M k k):Nat)] w fun e w'=>e= .returned (.tuple #[])/\w.grownBy w' (some (rg k))/\aB w' (rg k) 5 (bN (lst c (fun j=>Gf.mul (M k j) (Gf.inv (M k k)))))):=by
  have:=IW (rg k) c (Gf.inv (M k k)) c (lst c (M k)) (bL _ _) hc (Jl fun j hj=>hM.lt k j hk hj) hiv w (hM.row k hk);rw[Oe]at this;exact this
 have hmk:IntKind.i64.wrap ((M k k:Nat):Int)=((M k k:Nat):Int):=aF _ (by omega) (by omega);clear hcell hM VF hQ;simp only[Tryz.f150,Option.getD_some,dP];have hk0:(0:Int)<=(k:Int):=by omega
 have hk1:(k:Int)<(c:Int):=by omega
 have hS1:Hid (∀w1,w.grownBy w1 (some (rg k))->aB w1 (rg k) 5 (bN (lst c (fun j=>Gf.mul (M k j) (Gf.inv (M k k)))))->dO w1 n c rg (Gs.cB k 0 (Gs.swap k k (fun j=>Gf.mul (M k j) (Gf.inv (M k k))) M))):=fun w1 hg hr=>by
  refine(HM.out.set hk hSl hg hr).congr fun i j hi hj=>?_;simp only[Gs.cB,Gs.swap,Nat.not_lt_zero,false_and,if_false];by_cases e:i=k
  ·simp only[e,if_true]
  ·simp only[if_neg e]
 have hE:Hid (Gs.kC n k k M=Gs.cB k n (Gs.swap k k (fun j=>Gf.mul (M k j) (Gf.inv (M k k))) M)):=rfl;rw[hE.out]at HQ;have hSk:Hid (∀i j,i≠k->Gs.swap k k (fun j=>Gf.mul (M k j) (Gf.inv (M k k))) M i j=M i j):=fun i j hi=>by simp only[Gs.swap,if_neg hi]
 clear hE hp hSl hlk hiv;generalize Gs.swap k k (fun j=>Gf.mul (M k j) (Gf.inv (M k k))) M=S at hS1 HQ hSk;generalize lst c (fun j=>Gf.mul (M k j) (Gf.inv (M k k)))=sc at hS1 hSc;generalize Gf.inv (M k k)=y at hSc hI;generalize M k k=x at hkk hI hmk;go_wp2_with first|(go_at_call 113;refine(hI.out _).mono ?_;rintro _ wq ⟨rfl,hq⟩;have hq2:=hq.symm;clear hq;subst hq2)|(go_at_call 188;refine hSc.out.mono ?_;rintro _ w1 ⟨rfl,hg1,hr1⟩;replace hg1:=hide hg1;replace hr1:=hide hr1)
 have Uw:=hide (hS1.out w1 hg1.out hr1.out);have hK1:Hid (Kp (fun b=>∃i,i<n/\b=rg i) w w1):=(Kp.refl _ _).grown hg1.out fun b hb=>.inl ⟨k,hk,(Option.some.inj hb).symm⟩;clear hS1 hg1 hr1 hkk hSc hI;go_loopw [28] (fun x wr=>∃r:Nat,r<=n/\x= .int .i64 r/\Kp (fun b=>∃i,i<n/\b=rg i) w wr/\dO wr n c rg (Gs.cB k r S))
  (fun x _=>leftOf n (intOf x).toNat)
 case atStart=>exact⟨0,by omega,rfl,hK1.out,Uw.out⟩
 case round=>
  obtain⟨r,hr,rfl,hkp,hrows⟩:=hrel;by_cases hlt:r<n
  ·have hcg:wr.cell? ⟨g,r,none⟩=some (.slice (some ⟨rg r,0,none⟩) c c):=by
    have h1:=HC.out r hlt;have hgl:g<w.heap.size:=by
     have:=h1;unfold World.cell? at this;cases hb:w.heap[g]? with
     |none=>rw[hb]at this;simp at this
     |some o=>exact(Array.getElem?_eq_some_iff.1 hb).1
    have e:=hkp.block g hgl (by rintro⟨i,hi,e⟩;exact HN.out i hi e.symm);unfold World.cell? at h1⊢;rw[e];exact h1
   have hr0:(0:Int)<=(r:Int):=by omega
   have hr1:(r:Int)<(n:Int):=by omega
   by_cases ZW:r=k
   ·subst ZW;have Yl:Hid (dO wr n c rg (Gs.cB r (r+1) S)):=by
     refine hrows.congr fun i j hi hj=>?_;have:(i<r/\i≠r)↔(i<r+1/\i≠r):=by omega
     simp only[Gs.cB,this]
    have VW:=hide hkp;clear hkp hrows;go_wp2;go_roundw
    case rel=>exact⟨r+1,by omega,by go_num,VW.out,Yl.out⟩
    case measure=>refine aO ?_ ?_<;>simp only[intOf]<;>omega
   ·have hne:¬(r:Int)=(k:Int):=by omega
    have hcur:∀j,Gs.cB k r S r j=S r j:=fun j=>by simp only[Gs.cB,Nat.lt_irrefl,false_and,if_false]
    have R7:∀j,Gs.cB k r S k j=S k j:=fun j=>by simp only[Gs.cB,ne_eq,not_true_eq_false,and_false,if_false]
    have hkc:k<c:=by omega
    have hrow:=hrows.row r hlt;have WK:=hrows.row k hk;have VH:∀j,j<c->S r j<256:=fun j hj=>by rw[<-hcur j];exact hrows.lt r j hlt hj
    have hltk:∀j,j<c->S k j<256:=fun j hj=>by rw[<-R7 j];exact hrows.lt k j hk hj
    have hcell2:wr.cell? ⟨rg r,k,none⟩=some (.int .u8 ((S r k:Nat):Int)):=by
     apply hrow.cell;have:=fV (l:=lst c (Gs.cB k r S r)) (i:=k) (by rw[bL];exact hkc);rw[mg hkc,hcur]at this;exact this
    have ht:=VH k hkc;have hA:Hid (Calls Tryz.prog 170 #[.slice (some ⟨rg r,0,none⟩) c c,.slice (some ⟨rg k,0,none⟩) c c,.int .i64 (S r k:Nat)] wr fun e w'=>
      e= .returned (.tuple #[])/\wr.grownBy w' (some (rg r))/\dO w' n c rg (Gs.cB k (r+1) S)):=by
     have:=ng (rg r) 0 c c (rg k) 0 c (S r k) c (lst c (Gs.cB k r S r)) (lst c (Gs.cB k r S k)) (bL _ _) hc (Nat.le_refl _) (by rw[bL];omega) (Jl fun j hj=>by rw[R7];exact hltk j hj) (Jl fun j hj=>by rw[hcur];exact VH j hj) ht wr
      (fun e=>ZW (hrows.inj r k hlt hk e.symm)) hrow (fun j hj=>by
       rw[Nat.zero_add];apply WK.cell;exact fV (by rw[bL];exact hj))
     refine this.mono ?_;rintro e w' ⟨rfl,h1,h2⟩;refine⟨rfl,h1,?_⟩;rw[Vo]at h2;refine(hrows.set hlt (fun j hj=>?_) h1 h2).congr fun i j hi hj=>?_
     ·rw[hcur,R7];exact Gf.xor_lt (VH j hj) (Gf.mul_lt (hltk j hj) ht)
     ·by_cases e:i=r
      ·subst e;have h1:i<i+1/\i≠k:=⟨by omega,ZW⟩;simp only[if_true,hcur,R7];simp only[Gs.cB,if_pos h1]
      ·have:(i<r/\i≠k)↔(i<r+1/\i≠k):=by omega
       simp only[if_neg e,Gs.cB,this]
    have VW:=hide hkp;clear hkp hrows hrow WK VH hltk hcur R7;generalize S r k=t at hA hcell2 ht;have hwt:IntKind.i64.wrap (t:Int)=(t:Int):=aF _ (by omega) (by omega);have hne2:∀w,Sem.run Tryz.prog (binOp .neq 3 (.int .i64 (r:Int)) (.int .i64 (k:Int))) w= .ok (.bool true) w:=by
     intro w;simp[go_sem,hne]
    go_wp2_with (go_at_call 170;refine hA.out.mono ?_;rintro _ w2 ⟨rfl,hg2,hr2⟩;replace hg2:=hide hg2;replace hr2:=hide hr2)
    go_roundw
    case rel=>exact⟨r+1,by omega,by go_num,VW.out.grown hg2.out fun b hb=>.inl ⟨r,hlt,(Option.some.inj hb).symm⟩,hr2.out⟩
    case measure=>refine aO ?_ ?_<;>simp only[intOf]<;>omega
  ·have e:r=n:=by omega
   subst e;have VW:=hide hkp;have Le:=hide hrows
   clear hkp hrows;go_wp2;exact HQ.out _ _ _ _ _ _ _ _ _ _ _ _ _ _ _ _ _ _ _ _ _ _ _ _ _ _ _ _ _ wr VW.out Le.out
end Go.Proofs.YtmfpiodlecapiaaGreatDoor
