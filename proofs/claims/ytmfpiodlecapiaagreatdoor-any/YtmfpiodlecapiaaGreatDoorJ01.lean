import Derived.WalkKit
import Derived.WalkSpells
import Derived.WalkLawsBesides
import Derived.Deep.OwnRows
set_option maxRecDepth 100000
namespace Go.Proofs.YtmfpiodlecapiaaGreatDoor
open Go.RowKit Go.Deep
theorem hide{p:Prop}(h:p):Hid p:=h
def aB(w:World)(g:Nat)(t:TypeId)(L:List Value):Prop:=w.heap[g]? =some (.cells L.toArray t (0,0))
theorem aB.cell{w:World}{g:Nat}{t:TypeId}{L:List Value}(h:aB w g t L)(i:Nat)(v:Value)(hv:L[i]? =some v):w.cell? ⟨g,i,none⟩=some v:=by
 unfold aB at h;simp[World.cell?,h,hv]
theorem aB.frozen{w:World}{g:Nat}{t:TypeId}{L:List Value}(h:aB w g t L)(i:Nat):w.frozen? ⟨g,i,none⟩=false:=by
 unfold aB at h;simp[World.frozen?,h]
theorem aB.lt{w:World}{g:Nat}{t:TypeId}{L:List Value}(h:aB w g t L):g<w.heap.size:=
 (Array.getElem?_eq_some_iff.1 h).1
theorem aB.of_block{w w':World}{g:Nat}{t:TypeId}{L:List Value}(h:aB w g t L)(e:w'.heap[g]? =w.heap[g]?):aB w' g t L:=e.trans h
theorem aB.below{w w':World}{g B:Nat}{t:TypeId}{L:List Value}(h:aB w g t L)(hb:Below B w w')(hg:g<B):aB w' g t L:=h.of_block (hb.block g hg)
theorem aB.later{w w':World}{g:Nat}{t:TypeId}{L:List Value}(h:aB w g t L)(hb:Below w.heap.size w w'):aB w' g t L:=h.below hb h.lt
theorem aB.set{w:World}{g:Nat}{t:TypeId}{L:List Value}(h:aB w g t L)(i:Nat)(v:Value):aB (w.setCell ⟨g,i,none⟩ v) g t (L.set i v):=by
 unfold aB at*;simp[World.setCell,Array.getElem?_modify,h]
theorem aB.other{w:World}{g:Nat}{t:TypeId}{L:List Value}(h:aB w g t L){a:Addr}(ha:g≠a.block)(v:Value):aB (w.setCell a v) g t L:=
 h.of_block (blk_setCell_other _ _ _ _ ha)
theorem aB.alloc{w:World}{g:Nat}{t:TypeId}{L:List Value}(h:aB w g t L)(o:Obj):aB (w.alloc o) g t L:=h.of_block (blk_alloc_lt _ _ _ h.lt)
theorem aB.drew{w:World}{g:Nat}{t:TypeId}{L:List Value}(h:aB w g t L):aB w.drew g t L:=h
theorem aB.drewN{w:World}{g:Nat}{t:TypeId}{L:List Value}(h:aB w g t L)(n:Nat):aB (w.drewN n) g t L:=h
theorem gy(w:World)(L:List Value)(t:TypeId):aB (w.alloc (.cells L.toArray t)) w.heap.size t L:=blk_alloc_new _ _
theorem aP(w:World)(c:Array Value)(t:TypeId):aB (w.alloc (.cells c t)) w.heap.size t c.toList:=by
 have:=blk_alloc_new w (.cells c t);unfold aB;simpa using this
theorem gF(w:World)(z:Value)(n:Nat)(t:TypeId):aB (w.alloc (.cells (madeCells #[z] n) t)) w.heap.size t (List.replicate n z):=by
 have:=aP w (madeCells #[z] n) t;rwa [toList_madeCells_one]at this
theorem aB.unique{w:World}{g:Nat}{t t':TypeId}{L L':List Value}(h:aB w g t L)(h':aB w g t' L'):t=t'/\L=L':=by
 unfold aB at h h';rw[h]at h';simp at h';exact⟨h'.2,h'.1⟩
theorem aB.lX{w:World}{g g':Nat}{t t':TypeId}{L L':List Value}(h:aB w g t L)(h':aB w g' t' L')(ht:t≠t'):g≠g':=
 fun e=>ht ((by subst e;exact h.unique h':t=t'/\L=L').1)
def bW(l:List Nat):List Value:=l.map (fun n:Nat=>Value.int .i64 (n:Int))
def bN(l:List Nat):List Value:=l.map (fun n:Nat=>Value.int .u8 (n:Int))
theorem pR{l:List Nat}{i:Nat}(h:i<l.length):(bW l)[i]? =some (.int .i64 ((l[i]?.getD 0:Nat):Int)):=by simp[bW,h]
theorem fV{l:List Nat}{i:Nat}(h:i<l.length):(bN l)[i]? =some (.int .u8 ((l[i]?.getD 0:Nat):Int)):=by simp[bN,h]
theorem dG(l:List Nat):(bW l).length=l.length:=by simp[bW]
theorem aU(l:List Nat):(bN l).length=l.length:=by simp[bN]
def fill{α:Type}(L:List α)(d:α)(k:Nat):List α:=L.take k++List.replicate (L.length-k) d
theorem Gi{α:Type}(L:List α)(d:α)(k:Nat)(h:k<=L.length):(fill L d k).length=L.length:=by simp[fill];omega
theorem uj{α:Type}(L:List α)(d:α):fill L d 0=List.replicate L.length d:=by simp[fill]
theorem yJ{α:Type}(L:List α)(d:α):fill L d L.length=L:=by simp[fill]
theorem V3{α:Type}(L:List α)(d:α)(k:Nat)(h:k<L.length):(fill L d k)[k]? =some d:=by
 unfold fill;rw[List.getElem?_append_right (by simp;omega),List.getElem?_replicate,if_pos (by simp;omega)]
theorem Gh{α:Type}(L:List α)(d:α)(k:Nat)(v:α)(h:L[k]? =some v):(fill L d k).set k v=fill L d (k+1):=by
 have hk:k<L.length:=(List.getElem?_eq_some_iff.1 h).1;apply List.ext_getElem?;intro i;unfold fill;rw[List.getElem?_set];by_cases e:k=i
 ·subst e;rw[if_pos rfl,if_pos (by simp;omega),List.getElem?_append_left (by simp;omega),List.getElem?_take,if_pos (by omega),h]
 ·rw[if_neg e];by_cases hi:i<k
  ·rw[List.getElem?_append_left (by simp;omega),List.getElem?_append_left (by simp;omega),List.getElem?_take,List.getElem?_take,if_pos hi,if_pos (by omega)]
  ·rw[List.getElem?_append_right (by simp;omega),List.getElem?_append_right (by simp;omega)];simp only[List.length_take,List.getElem?_replicate];have e1:min k L.length=k:=by omega
   have e2:min (k+1) L.length=k+1:=by omega
   rw[e1,e2];by_cases hl:i<L.length
   ·rw[if_pos (by omega),if_pos (by omega)]
   ·rw[if_neg (by omega),if_neg (by omega)]
theorem sI(w:World)(a b c:Value)(t:TypeId):(w.alloc (.cells #[a,b,c] t)).cell? ⟨w.heap.size,0,none⟩=some a:=(aP w #[a,b,c] t).cell 0 _ rfl
theorem wJ(w:World)(a b c:Value)(t:TypeId):(w.alloc (.cells #[a,b,c] t)).cell? ⟨w.heap.size,1,none⟩=some b:=(aP w #[a,b,c] t).cell 1 _ rfl
theorem LZ(w:World)(a b c:Value)(t:TypeId):(w.alloc (.cells #[a,b,c] t)).cell? ⟨w.heap.size,2,none⟩=some c:=(aP w #[a,b,c] t).cell 2 _ rfl
def leftOf(m n:Nat):Nat:=m-n
theorem aO{b x y:Nat}(h:x<y)(hb:x<b):leftOf b y<leftOf b x:=by unfold leftOf;omega
def mix{α:Type}(P S:List α)(k:Nat):List α:=P.take k++S.drop k
theorem Q5{α:Type}(P S:List α):mix P S 0=S:=by simp[mix]
theorem Vn{α:Type}(P S:List α)(h:P.length=S.length):mix P S S.length=P:=by simp[mix,<-h]
theorem qN{α:Type}(P S:List α)(k:Nat)(h:P.length=S.length)(hk:k<S.length):(mix P S k)[k]? =S[k]? :=by
 unfold mix;rw[List.getElem?_append_right (by simp;omega)];simp;congr 1;omega
theorem C8{α:Type}(P S:List α)(k:Nat)(v:α)(h:P.length=S.length)(hv:P[k]? =some v):(mix P S k).set k v=mix P S (k+1):=by
 have hk:k<P.length:=(List.getElem?_eq_some_iff.1 hv).1;apply List.ext_getElem?;intro i;unfold mix;rw[List.getElem?_set];by_cases e:k=i
 ·subst e;rw[if_pos rfl,if_pos (by simp;omega),List.getElem?_append_left (by simp;omega),List.getElem?_take,if_pos (by omega),hv]
 ·rw[if_neg e];by_cases hi:i<k
  ·rw[List.getElem?_append_left (by simp;omega),List.getElem?_append_left (by simp;omega),List.getElem?_take,List.getElem?_take,if_pos hi,if_pos (by omega)]
  ·rw[List.getElem?_append_right (by simp;omega),List.getElem?_append_right (by simp;omega)];simp only[List.length_take,List.getElem?_drop];congr 1;omega
theorem getD_lt{l:List Nat}{k b:Nat}(h:∀x∈l,x<b)(hk:k<l.length):l[k]?.getD 0<b:=by
 have:l[k]? =some l[k]:=by simp[hk]
 rw[this];exact h _ (List.getElem_mem hk)
theorem getD_some{l:List Nat}{k:Nat}(hk:k<l.length):l[k]? =some (l[k]?.getD 0):=by simp[hk]
theorem grownBy_setCell{w w':World}{g:Nat}(h:w.grownBy w' (some g))(i:Nat)(v:Value):w.grownBy (w'.setCell ⟨g,i,none⟩ v) (some g):=
 ⟨h.os,h.tape,h.output,by simpa[World.setCell]using h.size,fun k hk hne=>by
  rw[blk_setCell_other _ _ _ _ (fun e=>hne (by rw[e]))];exact h.block k hk hne⟩
theorem grownBy_drew{w w':World}{r:Option Nat}(h:w.grownBy w' r):w.grownBy w'.drew r:=⟨h.os,h.tape,h.output,h.size,h.block⟩
theorem grownBy_trans{w w' w'':World}{r:Option Nat}(h:w.grownBy w' r)(h':w'.grownBy w'' r):w.grownBy w'' r:=
 ⟨h'.os.trans h.os,h'.tape.trans h.tape,h'.output.trans h.output,Nat.le_trans h.size h'.size,fun k hk hne=>(h'.block k (Nat.lt_of_lt_of_le hk h.size) hne).trans (h.block k hk hne)⟩
theorem lW(w:World)(L:List Value)(t:TypeId)(n:Nat)(h:n=w.heap.size):∀j u,L[j]? =some u->(w.alloc (.cells L.toArray t)).cell? ((⟨n,0,none⟩:Addr).add j)=some u:=by
 subst h;intro j u hu;rw[Addr.add_lit];have:=(gy w L t).cell j u hu;simpa using this
def bM(w:World)(e:TypeId)(v:Value)(xs:List Value):Prop:=
 (v= .slice none 0 0/\xs= [])\/
 ∃g cap cur,v= .slice (some ⟨g,0,none⟩) xs.length cap/\aB w g e cur/\xs.length<=cap/\cap<=maxLen/\cur.length=cap/\cur.take xs.length=xs
theorem iW(w:World)(e:TypeId):bM w e (.slice none 0 0) []:=.inl ⟨rfl,rfl⟩
theorem bM.of_block{w w':World}{e:TypeId}{v:Value}{xs:List Value}(h:bM w e v xs)(hk:∀g,v.ownBlock=some g->w'.heap[g]? =w.heap[g]?):bM w' e v xs:=by
 rcases h with h|⟨g,cap,cur,rfl,hr,h1,h2,h3,h4⟩
 ·exact .inl h
 ·exact .inr ⟨g,cap,cur,rfl,hr.of_block (hk g rfl),h1,h2,h3,h4⟩
theorem bM.lt{w:World}{e:TypeId}{v:Value}{xs:List Value}(h:bM w e v xs){g:Nat}(hg:v.ownBlock=some g):g<w.heap.size:=by
 rcases h with⟨rfl,_⟩|⟨g',cap,cur,rfl,hr,_⟩
 ·simp[Value.ownBlock]at hg
 ·simp[Value.ownBlock]at hg;subst hg;exact hr.lt
theorem bM.below{w w':World}{B:Nat}{e:TypeId}{v:Value}{xs:List Value}(h:bM w e v xs)(hb:Below B w w')(hg:∀g,v.ownBlock=some g->g<B):bM w' e v xs:=
 h.of_block (fun g hv=>hb.block g (hg g hv))
theorem bM.later{w w':World}{e:TypeId}{v:Value}{xs:List Value}(h:bM w e v xs)(hb:Below w.heap.size w w'):bM w' e v xs:=
 h.below hb (fun _ hv=>h.lt hv)
theorem bM.alloc{w:World}{e:TypeId}{v:Value}{xs:List Value}(h:bM w e v xs)(o:Obj):bM (w.alloc o) e v xs:=
 h.of_block (fun _ hv=>blk_alloc_lt _ _ _ (h.lt hv))
theorem bM.drew{w:World}{e:TypeId}{v:Value}{xs:List Value}(h:bM w e v xs):bM w.drew e v xs:=h
theorem bM.shape{w:World}{e:TypeId}{v:Value}{xs:List Value}(h:bM w e v xs):∃a c,v= .slice a xs.length c:=by
 rcases h with⟨rfl,rfl⟩|⟨g,cap,cur,rfl,_⟩
 ·exact⟨none,0,rfl⟩
 ·exact⟨_,_,rfl⟩
theorem bM.open'{w:World}{e:TypeId}{v:Value}{xs:List Value}(h:bM w e v xs)(hx:0<xs.length):∃g cap cur,v= .slice (some ⟨g,0,none⟩) xs.length cap/\aB w g e cur/\xs.length<=cap/\cap<=maxLen/\cur.length=cap/\cur.take xs.length=xs:=by
 rcases h with⟨_,rfl⟩|h
 ·simp at hx
 ·exact h
theorem take_at{α:Type}{l xs:List α}{i:Nat}{v:α}(h:l.take xs.length=xs)(hi:xs[i]? =some v):l[i]? =some v:=by
 have hlt:i<xs.length:=(List.getElem?_eq_some_iff.1 hi).1;have h2:(l.take xs.length)[i]? =some v:=by rw[h];exact hi
 rw[List.getElem?_take,if_pos hlt]at h2;exact h2
theorem bM.kG{w:World}{e t:TypeId}{v:Value}{xs L:List Value}{b:Nat}(h:bM w e v xs)(hr:aB w b t L)(ht:t≠e):v.ownBlock≠some b:=by
 intro hv;rcases h with⟨rfl,_⟩|⟨g,cap,cur,rfl,hg,_⟩
 ·simp[Value.ownBlock]at hv
 ·simp[Value.ownBlock]at hv;subst hv;exact ht (hr.unique hg).1
theorem tL{α:Type}{l:List α}{k:Nat}{v:α}(h:l[k]? =some v):l.take k++ [v]=l.take (k+1):=by
 rw[List.take_add_one,h];rfl
theorem QJ{w:World}{g K:Nat}{e:TypeId}{cur xs:List Value}(h:aB w g e cur)(ht:cur.take K=xs)(hl:xs.length=K):∀j u,xs[j]? =some u->w.cell? ((⟨g,0,none⟩:Addr).add j)=some u:=by
 intro j u hu;rw[Addr.add_lit];have:=h.cell j u (take_at (by rw[hl];exact ht) hu);simpa using this
def fC(w w':World)(e:TypeId)(v v':Value)(xs news:List Value):Prop:=
 (∃g c cur,v= .slice (some ⟨g,0,none⟩) xs.length c/\aB w g e cur/\cur.length=c/\cur.take xs.length=xs/\xs.length+news.length<=c/\c<=maxLen/\
  v'= .slice (some ⟨g,0,none⟩) (xs.length+news.length) c/\w'=w.setRow g (xs++news++cur.drop (xs.length+news.length)).toArray)\/
 (∃c cells,v'= .slice (some ⟨w.heap.size,0,none⟩) (xs.length+news.length) c/\w'=w.drew.alloc (.cells (xs++news++cells).toArray e)/\xs.length+news.length+cells.length=c/\c<=maxLen)\/
 (v= .slice none 0 0/\xs= []/\news= []/\v'=v/\w'=w)
theorem uS{w:World}{g:Nat}{e:TypeId}{L:List Value}(h:aB w g e L)(M:List Value):aB (w.setRow g M.toArray) g e M:=setRow_heap w g _ _ e _ h
theorem fC.own{w w':World}{e:TypeId}{v v':Value}{xs news:List Value}(h:fC w w' e v v' xs news):bM w' e v' (xs++news):=by
 rcases h with⟨g,c,cur,rfl,hr,hl,ht,hroom,hm,rfl,rfl⟩|⟨c,cells,rfl,rfl,hc,hm⟩|⟨rfl,rfl,rfl,rfl,rfl⟩
 ·refine .inr ⟨g,c,_,by simp,uS hr _,by simpa using hroom,hm,by simp;omega,?_⟩;rw[List.take_left]
 ·refine .inr ⟨w.heap.size,c,xs++news++cells,by simp,blk_alloc_new w.drew _,by simp;omega,hm,by simp;omega,?_⟩;rw[List.take_left]
 ·exact .inl ⟨rfl,rfl⟩
theorem fC.grown{w w':World}{e:TypeId}{v v':Value}{xs news:List Value}(h:fC w w' e v v' xs news):w.grownBy w' v.ownBlock:=by
 rcases h with⟨g,c,cur,rfl,hr,hl,ht,hroom,hm,rfl,rfl⟩|⟨c,cells,rfl,rfl,hc,hm⟩|⟨rfl,rfl,rfl,rfl,rfl⟩
 ·exact⟨rfl,rfl,rfl,by simp[World.setRow],fun k _ hk=>setRow_other w g k _ (fun e=>hk (by simp[Value.ownBlock,e]))⟩
 ·exact⟨rfl,rfl,rfl,by simp,fun k hk _=>blk_alloc_lt w.drew _ k hk⟩
 ·exact World.grownBy.refl _ _
theorem fC.below{w0 w w':World}{B:Nat}{e:TypeId}{v v':Value}{xs news:List Value}(h:fC w w' e v v' xs news)(hb:Below B w0 w)(hB:B<=w.heap.size)(hv:∀k,v.ownBlock=some k->B<=k):Below B w0 w':=
 hb.grown h.grown hB hv
theorem fC.block{w w':World}{e:TypeId}{v v':Value}{xs news:List Value}(h:fC w w' e v v' xs news):v'.ownBlock=v.ownBlock\/v'.ownBlock=some w.heap.size:=by
 rcases h with⟨g,c,cur,rfl,hr,hl,ht,hroom,hm,rfl,rfl⟩|⟨c,cells,rfl,rfl,hc,hm⟩|⟨rfl,rfl,rfl,rfl,rfl⟩
 ·exact .inl rfl
 ·exact .inr rfl
 ·exact .inl rfl
theorem fC.from{w w':World}{B:Nat}{e:TypeId}{v v':Value}{xs news:List Value}(h:fC w w' e v v' xs news)(hB:B<=w.heap.size)(hv:∀k,v.ownBlock=some k->B<=k):∀k,v'.ownBlock=some k->B<=k:=by
 intro k hk;rcases h.block with e|e
 ·exact hv k (e▸hk)
 ·rw[e]at hk;simp at hk;omega
theorem fC.other{w w':World}{e t:TypeId}{v v':Value}{xs news L:List Value}{g:Nat}(h:fC w w' e v v' xs news)(hr:aB w g t L)(hne:v.ownBlock≠some g):aB w' g t L:=
 hr.of_block (h.grown.block g hr.lt (fun e=>hne e.symm))
section
variable {P:Program} (w:World)
theorem KE(t ty e:TypeId)(i:TypeInfo)(z:Value)(bytes:Nat)(ht:P.underlying t=some (.slice e))(hi:P.info? e=some i)(hz:i.zero=some z)(hsize:i.size=1)(hby:i.bytes=bytes)(hzs:z.cells.size=1)
  (v:Value)(xs:List Value)(hown:bM w e v xs)(a:Addr)(m c:Nat)(news:List Value)(hl:news.length=m)(hnews:∀j u,news[j]? =some u->w.cell? (a.add j)=some u)(h1:∀u∈news,u.oneCell'=true)
  (h63:xs.length+m<=maxLen)(hbytes:(xs.length+m)*bytes<=140737488355328):
  ∃v' w',(Builtin.append_ #[t,t] ty #[v,.slice (some a) m c]).run P w= .ok v' w'/\fC w w' e v v' xs news:=by
 subst hl;subst hby;have hsmall:xs.length+news.length<=9223372036854775807:=by simp only[maxLen]at h63;omega
 have hl1:news.length=news.length*i.size:=by rw[hsize,Nat.mul_one]
 rcases hown with⟨rfl,rfl⟩|⟨g,cap,cur,rfl,hg,hnc,hcm,hcs,htake⟩
 ·by_cases hm:news.length=0
  ·have hn:news= []:=List.eq_nil_of_length_eq_zero hm;subst hn;refine⟨.slice none 0 0,w,?_,.inr (.inr ⟨rfl,rfl,rfl,rfl,rfl⟩)⟩;simp[Builtin.append_,run_underlying ht,sizeOf,typeInfo,hi,Builtin.lenOf,Builtin.firstCells,loadCells,loadCellsFrom]
  ·have hr:=run_append_nil (P:=P) w t ty e i z ht hi hz a news.length c news hl1 hnews (by omega) (by simp at hsmall;omega) (by simp at hbytes;omega);refine⟨_,_,hr,.inr (.inl ⟨grownCap w news.length 0 e,(Builtin.zeroCells z.cells (grownCap w news.length 0 e-news.length)).toList,by simp,by congr 2;apply Array.ext';simp,?_,?_⟩)⟩
   ·have hge:=grownCap_ge w news.length 0 e;simp[size_zeroCells,hzs];omega
   ·exact grownCap_le_maxLen w _ 0 e (by simpa using h63)
 ·by_cases hroom:xs.length+news.length<=cap
  ·have hr:=run_append_room (P:=P) w t ty e i ht hi g xs.length cap cur.toArray hg a news.length c news hl1 hnews h1 hroom (by rw[hsize];simp;omega);refine⟨_,_,hr,.inl ⟨g,cap,cur,rfl,hg,hcs,htake,hroom,hcm,rfl,?_⟩⟩;simp[hsize,htake]
  ·have holds:∀j u,xs[j]? =some u->w.cell? ((⟨g,0,none⟩:Addr).add j)=some u:=by
    intro j u hu;rw[Addr.add_lit];have:=hg.cell j u (take_at htake hu);simpa using this
   have hr:=run_append_grow (P:=P) w t ty e i z ht hi hz ⟨g,0,none⟩ xs.length cap xs (by rw[hsize,Nat.mul_one]) holds a news.length c news hl1 hnews (by omega) (by omega) (growslice_fits (by omega) hbytes);refine⟨_,_,hr,.inr (.inl ⟨grownCap w (xs.length+news.length) cap e,(Builtin.zeroCells z.cells (grownCap w (xs.length+news.length) cap e-(xs.length+news.length))).toList,rfl,by congr 2;apply Array.ext';simp,?_,?_⟩)⟩
   ·have hge:=grownCap_ge w (xs.length+news.length) cap e;simp[size_zeroCells,hzs];omega
   ·exact grownCap_le_maxLen w _ cap e h63
theorem Xo{o:Oper}{a:Act}{K:Act->World->Prop}{Q:Exit->Act->World->Prop}(s x:Operand)(t:TypeId)
  (ho:o.op= .call {callee:=.builtin .append,args:=#[s,x],argTypes:=#[t,t]})
  (e:TypeId)(i:TypeInfo)(z:Value)(bytes:Nat)(ht:P.underlying t=some (.slice e))(hi:P.info? e=some i)(hz:i.zero=some z)(hsize:i.size=1)(hby:i.bytes=bytes)(hzs:z.cells.size=1)
  (v:Value)(xs:List Value)(hs:a.eval s=v)(hown:bM w e v xs)
  (ad:Addr)(m c:Nat)(news:List Value)(hx:a.eval x= .slice (some ad) m c)(hl:news.length=m)(hnews:∀j u,news[j]? =some u->w.cell? (ad.add j)=some u)(h1:∀u∈news,u.oneCell'=true)
  (h63:xs.length+m<=maxLen)(hbytes:(xs.length+m)*bytes<=140737488355328)
  (h:∀v' w',fC w w' e v v' xs news->K (a.put o.dst v') w'):o.wp P a w K Q:=by
 obtain⟨v',w',hr,h2⟩:=KE (P:=P) w t o.type e i z bytes ht hi hz hsize hby hzs v xs hown ad m c news hl hnews h1 h63 hbytes;unfold Oper.wp execOp;simp only[ho,resolve,invoke,builtin,Sem.run_bind,Sem.run_pure,Result.andThen_ok,List.map_toArray,List.map_cons,List.map_nil,hs,hx,hr];exact h v' w' h2
theorem dn{ops:Array Oper}{rest:List Oper}{o:Oper}{a:Act}{Q:Exit->Act->World->Prop}(hgd:o.guard=none)(s x:Operand)(t:TypeId)
  (ho:o.op= .call {callee:=.builtin .append,args:=#[s,x],argTypes:=#[t,t]})
  (e:TypeId)(i:TypeInfo)(z:Value)(bytes:Nat)(ht:P.underlying t=some (.slice e))(hi:P.info? e=some i)(hz:i.zero=some z)(hsize:i.size=1)(hby:i.bytes=bytes)(hzs:z.cells.size=1)
  (v:Value)(xs:List Value)(hs:a.eval s=v)(hown:bM w e v xs)
  (ad:Addr)(m c:Nat)(news:List Value)(hx:a.eval x= .slice (some ad) m c)(hl:news.length=m)(hnews:∀j u,news[j]? =some u->w.cell? (ad.add j)=some u)(h1:∀u∈news,u.oneCell'=true)
  (h63:xs.length+m<=maxLen)(hbytes:(xs.length+m)*bytes<=140737488355328)
  (h:∀v' w',fC w w' e v v' xs news->wpList P ops Q rest (a.put o.dst v') w'):wpList P ops Q (o::rest) a w:=
 wpList_plain hgd fun _ hK=>Xo w s x t ho e i z bytes ht hi hz hsize hby hzs v xs hs hown ad m c news hx hl hnews h1 h63 hbytes fun v' w' h2=>hK _ _ (h v' w' h2)
theorem pq{ops:Array Oper}{rest:List Oper}{o:Oper}{a:Act}{Q:Exit->Act->World->Prop}
  (hg:o.guard=none)(l c:Operand)(t:TypeId)(hop:o.op=Op.makeSlice t l c)
  (e:TypeId)(i:TypeInfo)(z:Value)(ht:P.underlying t=some (.slice e))(hi:P.info? e=some i)(hz:i.zero=some z)(hsize:i.size=1)(hz1:z.cells=#[z])
  (kl kc:IntKind)(m n:Nat)(hl:a.eval l= .int kl (m:Int))(hc:a.eval c= .int kc (n:Int))(hmn:m<=n)(hbytes:i.bytes*n<=281474976710656)(h63:n<=9223372036854775807)
  (hK:wpList P ops Q rest (a.put o.dst (.slice (some ⟨w.heap.size,0,none⟩) m n)) (w.alloc (.cells (madeCells #[z] n) e))):
  wpList P ops Q (o::rest) a w:=by
 refine wpList_plain hg fun K hK'=>?_;have hb':(i.bytes:Int)*(n:Int)<=281474976710656:=by
  have h:((i.bytes*n:Nat):Int)<=281474976710656:=by omega
  rwa [Int.natCast_mul]at h
 have hr:=run_make (P:=P) w t e i z ht hi hz kl kc m n (by omega) (by omega) hb' (by omega);simp only[Int.toNat_natCast,hsize,Nat.mul_one,hz1]at hr;unfold Oper.wp;simp[execOp,hop,hl,hc,hr,Result.andThen];exact hK' _ _ hK
theorem NQ(w:World)(e:TypeId)(z:Value)(n:Nat)(hm:n<=maxLen):bM (w.alloc (.cells (madeCells #[z] n) e)) e (.slice (some ⟨w.heap.size,0,none⟩) 0 n) []:=
 .inr ⟨w.heap.size,n,_,rfl,gF w z n e,by simp,hm,by simp,by simp⟩
theorem oI{α:Type}(L:List α)(z:α)(n m:Nat)(h:n+m<=L.length):(fill L z n).take n++(L.drop n).take m++(fill L z n).drop (n+m)=fill L z (n+m):=by
 unfold fill;have e1:(L.take n++List.replicate (L.length-n) z).take n=L.take n:=by
  have:(L.take n).length=n:=by simp;omega
  rw[List.take_append_of_le_length (by omega),List.take_of_length_le (by omega)]
 have e2:(L.take n++List.replicate (L.length-n) z).drop (n+m)=List.replicate (L.length-(n+m)) z:=by
  have:(L.take n).length=n:=by simp;omega
  rw[List.drop_append,List.drop_of_length_le (by omega),List.nil_append,List.drop_replicate,this];congr 1;omega
 rw[e1,e2,List.take_add]
theorem eP{ops:Array Oper}{rest:List Oper}{o:Oper}{a:Act}{Q:Exit->Act->World->Prop}(hgd:o.guard=none)(s x:Operand)(t:TypeId)
  (ho:o.op= .call {callee:=.builtin .append,args:=#[s,x],argTypes:=#[t,t]})
  (e:TypeId)(i:TypeInfo)(ht:P.underlying t=some (.slice e))(hi:P.info? e=some i)(hsize:i.size=1)
  (g n c:Nat)(L:List Value)(z:Value)(hs:a.eval s= .slice (some ⟨g,0,none⟩) n c)(hL:L.length=c)(hr:aB w g e (fill L z n))
  (ad:Addr)(m cx:Nat)(news:List Value)(hx:a.eval x= .slice (some ad) m cx)(hl:news.length=m)(hnews:∀j u,news[j]? =some u->w.cell? (ad.add j)=some u)(h1:∀u∈news,u.oneCell'=true)
  (hd:(L.drop n).take m=news)(hroom:n+m<=c)
  (h:∀w',aB w' g e (fill L z (n+m))->w.grownBy w' (some g)->wpList P ops Q rest (a.put o.dst (.slice (some ⟨g,0,none⟩) (n+m) c)) w'):wpList P ops Q (o::rest) a w:=by
 refine wpList_plain hgd fun K hK=>?_;subst hL;have hfl:(fill L z n).length=L.length:=Gi _ _ _ (by omega);have hrun:=run_append_room (P:=P) w t o.type e i ht hi g n L.length (fill L z n).toArray hr ad m cx news (by rw[hsize,Nat.mul_one];exact hl) hnews h1 hroom (by rw[hsize];simp[hfl];omega);unfold Oper.wp execOp;simp only[ho,resolve,invoke,builtin,Sem.run_bind,Sem.run_pure,Result.andThen_ok,List.map_toArray,List.map_cons,List.map_nil,hs,hx,hrun];refine hK _ _ (h _ ?_ ?_)
 ·have:=uS hr ((fill L z n).take n++news++(fill L z n).drop (n+m));rw[<-hd,oI L z n m hroom]at this;rw[hsize,hl];simpa[oI,hd,<-oI L z n m hroom]using this
 ·exact⟨rfl,rfl,rfl,by simp[World.setRow],fun k _ hk=>setRow_other w g k _ (fun e=>hk (by rw[e]))⟩
end
structure Kp(X:Nat->Prop)(w w':World):Prop where
 os:w'.os=w.os
 tape:w'.tape=w.tape
 output:w'.output=w.output
 size:w.heap.size<=w'.heap.size
 block:∀k,k<w.heap.size->¬X k->w'.heap[k]? =w.heap[k]?
namespace Kp
variable {X:Nat->Prop} {w w' w'':World}
theorem refl(X:Nat->Prop)(w:World):Kp X w w:=⟨rfl,rfl,rfl,Nat.le_refl _,fun _ _ _=>rfl⟩
theorem alloc(h:Kp X w w')(o:Obj):Kp X w (w'.alloc o):=
 ⟨h.os,h.tape,h.output,by have:=h.size;simp;omega,fun k hk hx=>(blk_alloc_lt _ _ _ (Nat.lt_of_lt_of_le hk h.size)).trans (h.block k hk hx)⟩
theorem drew(h:Kp X w w'):Kp X w w'.drew:=⟨h.os,h.tape,h.output,h.size,h.block⟩
theorem setCell(h:Kp X w w'){a:Addr}(ha:X a.block\/w.heap.size<=a.block)(v:Value):Kp X w (w'.setCell a v):=
 ⟨h.os,h.tape,h.output,by simpa[World.setCell]using h.size,fun k hk hx=>(blk_setCell_other _ _ _ _ (by rintro rfl;rcases ha with h1|h1;exact hx h1;omega)).trans (h.block k hk hx)⟩
theorem grown{r:Option Nat}(h:Kp X w w')(hg:w'.grownBy w'' r)(hr:∀k,r=some k->X k\/w.heap.size<=k):Kp X w w'':=
 ⟨hg.os.trans h.os,hg.tape.trans h.tape,hg.output.trans h.output,Nat.le_trans h.size hg.size,fun k hk hx=>
  (hg.block k (Nat.lt_of_lt_of_le hk h.size) (fun e=>by rcases hr k e.symm with h1|h1;exact hx h1;omega)).trans (h.block k hk hx)⟩
theorem below(h:Kp X w w')(hb:Below w'.heap.size w' w''):Kp X w w'':=
 ⟨hb.os.trans h.os,hb.tape.trans h.tape,hb.output.trans h.output,Nat.le_trans h.size hb.size,fun k hk hx=>(hb.block k (Nat.lt_of_lt_of_le hk h.size)).trans (h.block k hk hx)⟩
theorem of_below(h:Below w.heap.size w w'):Kp X w w':=(Kp.refl X w).below h
theorem trans(h:Kp X w w')(h':Kp X w' w''):Kp X w w'':=
 ⟨h'.os.trans h.os,h'.tape.trans h.tape,h'.output.trans h.output,Nat.le_trans h.size h'.size,fun k hk hx=>(h'.block k (Nat.lt_of_lt_of_le hk h.size) hx).trans (h.block k hk hx)⟩
theorem join{Y:Nat->Prop}(h:Kp X w w')(h':Kp Y w' w'')(hy:∀k,Y k->X k\/w.heap.size<=k):Kp X w w'':=
 ⟨h'.os.trans h.os,h'.tape.trans h.tape,h'.output.trans h.output,Nat.le_trans h.size h'.size,fun k hk hx=>(h'.block k (Nat.lt_of_lt_of_le hk h.size) (fun e=>by rcases hy k e with h1|h1;exact hx h1;omega)).trans (h.block k hk hx)⟩
theorem mono{Y:Nat->Prop}(h:Kp X w w')(hxy:∀k,X k->Y k):Kp Y w w':=⟨h.os,h.tape,h.output,h.size,fun k hk hy=>h.block k hk (fun hx=>hy (hxy k hx))⟩
theorem row{g:Nat}{t:TypeId}{L:List Value}(h:Kp X w w')(hr:aB w g t L)(hg:¬X g):aB w' g t L:=hr.of_block (h.block g hr.lt hg)
theorem own{e:TypeId}{v:Value}{xs:List Value}(h:Kp X w w')(ho:bM w e v xs)(hg:∀g,v.ownBlock=some g->¬X g):bM w' e v xs:=ho.of_block (fun g hv=>h.block g (ho.lt hv) (hg g hv))
theorem toBelow{B:Nat}(h:Kp X w w')(hX:∀k,X k->B<=k)(hB:B<=w.heap.size):Below B w w':=
 ⟨h.os,h.tape,h.output,h.size,fun k hk=>h.block k (by omega) (fun hx=>by have:=hX k hx;omega)⟩
end Kp
end Go.Proofs.YtmfpiodlecapiaaGreatDoor
namespace Go.Proofs.YtmfpiodlecapiaaGreatDoor.Cut
def pieces(len s:Nat):Nat:=max 1 ((len+s-1)/s)
def blocks(n m:Nat):Nat:=(n+m-1)/m
def eX(n z:Nat):List Nat:=(List.range z).map (fun i=>n/z+if i<n%z then 1 else 0)
def sizes(len s m:Nat):List Nat:=eX (pieces len s) (blocks (pieces len s) m)
theorem iN(n z:Nat):(eX n z).length=z:=by simp[eX]
theorem gD(len s:Nat):1<=pieces len s:=by unfold pieces;omega
theorem AJ{len s:Nat}(hl:len<=2000)(hs:1<=s):pieces len s<=2000:=by
 unfold pieces;have:(len+s-1)/s<=2000:=by
  rw[Nat.div_le_iff_le_mul (by omega)];have:2000*1<=2000*s:=Nat.mul_le_mul_left _ hs;have h2:1999*1<=1999*s:=Nat.mul_le_mul_left _ hs;omega
 omega
theorem j_{n m:Nat}(hn:1<=n)(hm:1<=m):1<=blocks n m:=by
 unfold blocks;rw[Nat.le_div_iff_mul_le (by omega)];omega
theorem Br{n m:Nat}(hn:1<=n)(hm:1<=m):blocks n m<=n:=by
 unfold blocks;rw[Nat.div_le_iff_le_mul (by omega)];have:n*1<=n*m:=Nat.mul_le_mul_left _ hm;obtain⟨k,rfl⟩:∃k,n=k+1:=⟨n-1,by omega⟩;have:k*1<=k*m:=Nat.mul_le_mul_left _ hm;rw[Nat.succ_mul];omega
theorem Nk(q r:Nat):∀k,((List.range k).map (fun i=>q+if i<r then 1 else 0)).sum=k*q+min k r:=by
 intro k;induction k with
 |zero=>simp
 |succ k ih=>
  rw[List.range_succ,List.map_append,List.sum_append,ih,Nat.succ_mul];simp;split<;>omega
theorem IU{n z:Nat}(hz:1<=z):(eX n z).sum=n:=by
 unfold eX;rw[Nk];have:=Nat.mod_lt n (show 0<z by omega);have h2:=Nat.div_add_mod n z;have e:min z (n%z)=n%z:=by omega
 rw[e];exact h2
theorem zJ{n z m:Nat}(hz:1<=z)(hzn:z<=n)(hm:n<=z*m):∀k∈eX n z,1<=k/\k<=m:=by
 intro k hk;simp only[eX,List.mem_map,List.mem_range]at hk;obtain⟨i,hi,rfl⟩:=hk;have h1:1<=n/z:=by rw[Nat.le_div_iff_mul_le (by omega)];omega
 have h2:=Nat.div_add_mod n z;have h3:=Nat.mod_lt n (show 0<z by omega);refine⟨by omega,?_⟩;split
 ·rename_i h;rcases Nat.lt_or_ge (n/z) m with h4|h4
  ·omega
  ·have:=Nat.mul_le_mul_left z h4;omega
 ·rcases Nat.lt_or_ge m (n/z)with h4|h4
  ·have:=Nat.mul_le_mul_left z h4;rw[Nat.mul_succ]at this;omega
  ·omega
theorem sJ{n m:Nat}(hm:1<=m):n<=blocks n m*m:=by
 unfold blocks;have:=Nat.div_add_mod (n+m-1) m;have h2:=Nat.mod_lt (n+m-1) (show 0<m by omega);rw[Nat.mul_comm];omega
theorem lV{len s:Nat}(hs:1<=s):len<=pieces len s*s:=by
 have h:=sJ (n:=len) (m:=s) hs;unfold blocks at h;unfold pieces;have:(len+s-1)/s*s<=max 1 ((len+s-1)/s)*s:=Nat.mul_le_mul_right _ (by omega);omega
theorem tQ{len s m:Nat}(hm:1<=m):(sizes len s m).sum=pieces len s:=IU (j_ (gD _ _) hm)
theorem fD(len s m:Nat):(sizes len s m).length=blocks (pieces len s) m:=iN _ _
theorem jw{len s m:Nat}(hm:1<=m):∀k∈sizes len s m,1<=k/\k<=m:=
 zJ (j_ (gD _ _) hm) (Br (gD _ _) hm) (sJ hm)
end Go.Proofs.YtmfpiodlecapiaaGreatDoor.Cut
namespace Go.Proofs.YtmfpiodlecapiaaGreatDoor
namespace Tx
def val(f:Nat->Nat)(a:Nat):Nat->Nat
 |0=>0
 |n+1=>2*val f a n+f (a+n)
theorem jL{f:Nat->Nat}(hf:∀k,f k<2)(a n:Nat):val f a n<2^n:=by
 induction n with
 |zero=>simp[val]
 |succ n ih=>have:=hf (a+n);rw[val,Nat.pow_succ];omega
theorem val_add(f:Nat->Nat)(a m n:Nat):val f a (m+n)=val f a m*2^n+val f (a+m) n:=by
 induction n with
 |zero=>simp[val]
 |succ n ih=>
  have e:val f a m*(2^n*2)=2*(val f a m*2^n):=by rw[<-Nat.mul_assoc,Nat.mul_comm]
  rw[<-Nat.add_assoc,val,ih,val,Nat.pow_succ,Nat.add_assoc a m n,e];omega
theorem BG{f:Nat->Nat}(hf:∀k,f k<2)(a m n:Nat):val f a (m+n)/2^n=val f a m:=by
 rw[val_add,Nat.mul_comm,Nat.mul_add_div (Nat.two_pow_pos n),Nat.div_eq_of_lt (jL hf _ _),Nat.add_zero]
theorem val_mod{f:Nat->Nat}(hf:∀k,f k<2)(a m n:Nat):val f a (m+n)%2^n=val f (a+m) n:=by
 rw[val_add,Nat.mul_comm,Nat.mul_add_mod,Nat.mod_eq_of_lt (jL hf _ _)]
theorem val_congr{f g:Nat->Nat}{a b n:Nat}(h:∀i,i<n->f (a+i)=g (b+i)):val f a n=val g b n:=by
 induction n with
 |zero=>rfl
 |succ n ih=>rw[val,val,ih (fun i hi=>h i (by omega)),h n (by omega)]
theorem val_zero{f:Nat->Nat}{a n:Nat}(h:∀i,i<n->f (a+i)=0):val f a n=0:=by
 induction n with
 |zero=>rfl
 |succ n ih=>rw[val,ih (fun i hi=>h i (by omega)),h n (by omega)]
def kg(d:List Nat)(k:Nat):Nat:=d[k/8]?.getD 0/2^(7-k%8)%2
def mK(t:List Nat)(k:Nat):Nat:=t[k/6]?.getD 0/2^(5-k%6)%2
theorem iP(d:List Nat)(k:Nat):kg d k<2:=Nat.mod_lt _ (by decide)
theorem wK(t:List Nat)(k:Nat):mK t k<2:=Nat.mod_lt _ (by decide)
theorem vv{d:List Nat}{k:Nat}(h:8*d.length<=k):kg d k=0:=by
 unfold kg;rw[List.getElem?_eq_none (by omega)];simp
theorem PG:∀x,x<256->val (fun i=>x/2^(7-i%8)%2) 0 8=x:=by decide
theorem PK:∀x,x<64->val (fun i=>x/2^(5-i%6)%2) 0 6=x:=by decide
theorem DV(d:List Nat)(m:Nat)(h:d[m]?.getD 0<256):val (kg d) (8*m) 8=d[m]?.getD 0:=by
 refine Eq.trans (val_congr (g:=fun i=>d[m]?.getD 0/2^(7-i%8)%2) (b:=0) fun i hi=>?_) (PG _ h);unfold kg;have e1:(8*m+i)/8=m:=by omega
 have e2:(8*m+i)%8=(0+i)%8:=by omega
 rw[e1,e2]
theorem UE(t:List Nat)(m:Nat)(h:t[m]?.getD 0<64):val (mK t) (6*m) 6=t[m]?.getD 0:=by
 refine Eq.trans (val_congr (g:=fun i=>t[m]?.getD 0/2^(5-i%6)%2) (b:=0) fun i hi=>?_) (PK _ h);unfold mK;have e1:(6*m+i)/6=m:=by omega
 have e2:(6*m+i)%6=(0+i)%6:=by omega
 rw[e1,e2]
theorem OZ{t:List Nat}{x k:Nat}(h:k<6*t.length):mK (t++ [x]) k=mK t k:=by
 unfold mK;rw[List.getElem?_append_left (by omega)]
theorem sV{t:List Nat}{x a n:Nat}(h:a+n<=6*t.length):val (mK (t++ [x])) a n=val (mK t) a n:=
 val_congr fun i hi=>OZ (by omega)
def jB(n:Nat):List Nat:=if n<26 then [65+n]else if n<52 then [71+n]else [206,125+n]
def rn(n:Nat):Nat:=if n<26 then 65+n else if n<52 then 71+n else 893+n
theorem XI{a b:Nat}(ha:a<64)(hb:b<64)(h:rn a=rn b):a=b:=by
 unfold rn at h;split at h<;>split at h<;>(try split at h)<;>(try split at h)<;>omega
def pre(d:List Nat)(e:Nat):List Nat:=(List.range e).flatMap (fun j=>jB (val (kg d) (6*j) 6))
theorem QF(d:List Nat):pre d 0= []:=rfl
theorem nS(d:List Nat)(e:Nat):pre d (e+1)=pre d e++jB (val (kg d) (6*e) 6):=by
 unfold pre;rw[List.range_succ,List.flatMap_append];simp
theorem uZ(n:Nat):(jB n).length<=2:=by
 unfold jB;split
 ·simp
 ·split<;>simp
theorem qI(d:List Nat)(e:Nat):(pre d e).length<=2*e:=by
 induction e with
 |zero=>simp[QF]
 |succ e ih=>have:=uZ (val (kg d) (6*e) 6);rw[nS,List.length_append];omega
theorem Vu{n:Nat}(h:n<64):∀x∈jB n,x<256:=by
 intro x hx;unfold jB at hx;split at hx
 ·simp at hx;omega
 ·split at hx
  iterate 2 (·simp at hx;omega)
theorem QG(d:List Nat)(e:Nat):∀x∈pre d e,x<256:=by
 intro x hx;unfold pre at hx;rw[List.mem_flatMap]at hx;obtain⟨j,_,h⟩:=hx;exact Vu (jL (iP d) _ 6) x h
def dQ(d:List Nat):List Nat:=pre d ((8*d.length+5)/6)
abbrev greek(bs:List Nat)(i:Nat):Prop:=bs[i]?.getD 0=206/\i+1<bs.length/\177<=bs[i+1]?.getD 0/\bs[i+1]?.getD 0<=188
def numAt(bs:List Nat)(i:Nat):Int:=
 if bs[i]?.getD 0=32\/bs[i]?.getD 0=10 then-1
 else if 65<=bs[i]?.getD 0/\bs[i]?.getD 0<=90 then(bs[i]?.getD 0:Int)-65
 else if 97<=bs[i]?.getD 0/\bs[i]?.getD 0<=122 then(bs[i]?.getD 0:Int)-71
 else if greek bs i then(bs[i+1]?.getD 0:Int)-125
 else-2
def gq(bs:List Nat)(i:Nat):Nat:=if greek bs i then 2 else 1
theorem xB(bs:List Nat)(i:Nat):1<=gq bs i/\gq bs i<=2:=by unfold gq;split<;>omega
theorem Nj(bs:List Nat)(i:Nat)(h:i<bs.length):i+gq bs i<=bs.length:=by
 unfold gq;split
 ·rename_i hg;have:=hg.2.1;omega
 ·omega
def parse(bs:List Nat):Nat->Nat->Option (List Nat)
 |0,_=>some []
 |f+1,i=>if i<bs.length then(if numAt bs i= -2 then none else if numAt bs i= -1 then parse bs f (i+1)else(parse bs f (i+gq bs i)).map ((numAt bs i).toNat:: ·))else some []
def iV(bs:List Nat):Option (List Nat):=parse bs bs.length 0
theorem NK(bs:List Nat)(f i:Nat)(h:¬i<bs.length):parse bs f i=some []:=by
 cases f with
 |zero=>rfl
 |succ f=>rw[parse,if_neg h]
def mM(bs t:List Nat)(i:Nat):Prop:=∃f,bs.length<=i+f/\iV bs=(parse bs f i).map (t++ ·)
theorem Ag(bs:List Nat):mM bs [] 0:=⟨bs.length,by omega,by rw[iV];simp⟩
theorem mM.ends{bs t:List Nat}{i:Nat}(h:mM bs t i)(hi:¬i<bs.length):iV bs=some t:=by
 obtain⟨f,_,e⟩:=h;rw[e,NK _ _ _ hi];simp
theorem mM.none{bs t:List Nat}{i:Nat}(h:mM bs t i)(hi:i<bs.length)(hn:numAt bs i= -2):iV bs=none:=by
 obtain⟨f,hf,e⟩:=h;obtain⟨f,rfl⟩:∃g,f=g+1:=⟨f-1,by omega⟩;rw[e,parse,if_pos hi,if_pos hn];rfl
theorem mM.blank{bs t:List Nat}{i:Nat}(h:mM bs t i)(hi:i<bs.length)(hn:numAt bs i= -1):mM bs t (i+1):=by
 obtain⟨f,hf,e⟩:=h;obtain⟨f,rfl⟩:∃g,f=g+1:=⟨f-1,by omega⟩;exact⟨f,by omega,by rw[e,parse,if_pos hi,if_neg (by omega),if_pos hn]⟩
theorem mM.letter{bs t:List Nat}{i n:Nat}(h:mM bs t i)(hi:i<bs.length)(hn:numAt bs i=(n:Int)):mM bs (t++ [n]) (i+gq bs i):=by
 obtain⟨f,hf,e⟩:=h;obtain⟨f,rfl⟩:∃g,f=g+1:=⟨f-1,by omega⟩;have:=xB bs i;refine⟨f,by omega,?_⟩;rw[e,parse,if_pos hi,if_neg (by omega),if_neg (by omega),hn];simp;cases parse bs f (i+gq bs i)<;>simp
def fM(t:List Nat):List Nat:=(List.range (6*t.length/8)).map (fun j=>val (mK t) (8*j) 8)
abbrev tV(t:List Nat):Prop:=6*t.length%8<6/\val (mK t) (8*(6*t.length/8)) (6*t.length%8)=0
def eY(bs:List Nat):Option (List Nat):=(iV bs).bind (fun t=>if tV t then some (fM t)else none)
theorem kV(t:List Nat):(fM t).length=6*t.length/8:=by simp[fM]
theorem uq{t:List Nat}{x:Nat}(h:6*(t.length+1)/8=6*t.length/8):fM (t++ [x])=fM t:=by
 unfold fM;rw[List.length_append,List.length_singleton,h];apply List.map_congr_left;intro j hj;rw[List.mem_range]at hj;exact sV (by omega)
theorem uw{t:List Nat}{x:Nat}(h:6*(t.length+1)/8=6*t.length/8+1):fM (t++ [x])=fM t++ [val (mK (t++ [x])) (8*(6*t.length/8)) 8]:=by
 unfold fM;rw[List.length_append,List.length_singleton,h,List.range_succ,List.map_append];congr 1
 apply List.map_congr_left;intro j hj;rw[List.mem_range]at hj;exact sV (by omega)
theorem PE{t:List Nat}{n:Nat}(hn:n<64):val (mK (t++ [n])) (8*(6*t.length/8)) (6*t.length%8+6)=val (mK t) (8*(6*t.length/8)) (6*t.length%8)*64+n:=by
 have e:8*(6*t.length/8)+6*t.length%8=6*t.length:=by omega
 have h6:(t++ [n])[t.length]?.getD 0=n:=by simp
 have hv:=UE (t++ [n]) t.length (by rw[h6];exact hn);rw[val_add,sV (by omega),e,hv,h6]
abbrev zk(l:List Nat):Prop:=
 11<=l.length/\l[0]?.getD 0=70/\256*l[3]?.getD 0+l[4]?.getD 0<=2000/\(1<=l[5]?.getD 0/\l[5]?.getD 0<=16)/\(1<=l[6]?.getD 0/\l[6]?.getD 0<=20)/\l[7]?.getD 0<=20/\
 Cut.blocks (Cut.pieces (256*l[3]?.getD 0+l[4]?.getD 0) (l[5]?.getD 0)) (l[6]?.getD 0)<=256/\
 l[8]?.getD 0<Cut.blocks (Cut.pieces (256*l[3]?.getD 0+l[4]?.getD 0) (l[5]?.getD 0)) (l[6]?.getD 0)/\
 l[9]?.getD 0<(Cut.sizes (256*l[3]?.getD 0+l[4]?.getD 0) (l[5]?.getD 0) (l[6]?.getD 0))[l[8]?.getD 0]?.getD 0+l[7]?.getD 0/\
 l.length=10+l[5]?.getD 0
end Tx
end Go.Proofs.YtmfpiodlecapiaaGreatDoor
