import Derived.Test.YtmfpiodlecapiaaJ01
import Derived.BigQuiet
import Derived.Deep.QuietTactic
import Derived.Deep.RegionWith
import Derived.Deep.DrawnRows
namespace Go.Proofs.Ytmfpiodlecapiaa
open Go.RowKit Go.Deep
def OwnS(w:World)(e:TypeId)(v:Value)(xs:List Value):Prop:=
 (v= .slice none 0 0/\xs= [])\/
 ∃g cap cur,v= .slice (some ⟨g,0,none⟩) xs.length cap/\qS w g e cur/\xs.length<=cap/\cap<=maxLen/\cur.length=cap/\cur.take xs.length=xs
theorem ownS_nil(w:World)(e:TypeId):OwnS w e (.slice none 0 0) []:=.inl ⟨rfl,rfl⟩
theorem OwnS.of_block{w w':World}{e:TypeId}{v:Value}{xs:List Value}(h:OwnS w e v xs)(hk:∀g,v.ownBlock=some g->w'.heap[g]? =w.heap[g]?):OwnS w' e v xs:=by
 rcases h with h|⟨g,cap,cur,rfl,hr,h1,h2,h3,h4⟩
 ·exact .inl h
 ·exact .inr ⟨g,cap,cur,rfl,hr.of_block (hk g rfl),h1,h2,h3,h4⟩
theorem OwnS.lt{w:World}{e:TypeId}{v:Value}{xs:List Value}(h:OwnS w e v xs){g:Nat}(hg:v.ownBlock=some g):g<w.heap.size:=by
 rcases h with⟨rfl,_⟩|⟨g',cap,cur,rfl,hr,_⟩
 ·simp[Value.ownBlock]at hg
 ·simp[Value.ownBlock]at hg;subst hg;exact hr.lt
theorem OwnS.below{w w':World}{B:Nat}{e:TypeId}{v:Value}{xs:List Value}(h:OwnS w e v xs)(hb:Below B w w')(hg:∀g,v.ownBlock=some g->g<B):OwnS w' e v xs:=
 h.of_block (fun g hv=>hb.block g (hg g hv))
theorem OwnS.later{w w':World}{e:TypeId}{v:Value}{xs:List Value}(h:OwnS w e v xs)(hb:Below w.heap.size w w'):OwnS w' e v xs:=
 h.below hb (fun _ hv=>h.lt hv)
theorem OwnS.alloc{w:World}{e:TypeId}{v:Value}{xs:List Value}(h:OwnS w e v xs)(o:Obj):OwnS (w.alloc o) e v xs:=
 h.of_block (fun _ hv=>blk_alloc_lt _ _ _ (h.lt hv))
theorem OwnS.drew{w:World}{e:TypeId}{v:Value}{xs:List Value}(h:OwnS w e v xs):OwnS w.drew e v xs:=h
theorem OwnS.shape{w:World}{e:TypeId}{v:Value}{xs:List Value}(h:OwnS w e v xs):∃a c,v= .slice a xs.length c:=by
 rcases h with⟨rfl,rfl⟩|⟨g,cap,cur,rfl,_⟩
 ·exact⟨none,0,rfl⟩
 ·exact⟨_,_,rfl⟩
theorem OwnS.open'{w:World}{e:TypeId}{v:Value}{xs:List Value}(h:OwnS w e v xs)(hx:0<xs.length):∃g cap cur,v= .slice (some ⟨g,0,none⟩) xs.length cap/\qS w g e cur/\xs.length<=cap/\cap<=maxLen/\cur.length=cap/\cur.take xs.length=xs:=by
 rcases h with⟨_,rfl⟩|h
 ·simp at hx
 ·exact h
theorem take_at{α:Type}{l xs:List α}{i:Nat}{v:α}(h:l.take xs.length=xs)(hi:xs[i]? =some v):l[i]? =some v:=by
 have hlt:i<xs.length:=(List.getElem?_eq_some_iff.1 hi).1;have h2:(l.take xs.length)[i]? =some v:=by rw[h];exact hi
 rw[List.getElem?_take,if_pos hlt]at h2;exact h2
theorem OwnS.ne_type{w:World}{e t:TypeId}{v:Value}{xs L:List Value}{b:Nat}(h:OwnS w e v xs)(hr:qS w b t L)(ht:t≠e):v.ownBlock≠some b:=by
 intro hv;rcases h with⟨rfl,_⟩|⟨g,cap,cur,rfl,hg,_⟩
 ·simp[Value.ownBlock]at hv
 ·simp[Value.ownBlock]at hv;subst hv;exact ht (hr.unique hg).1
theorem take_snoc{α:Type}{l:List α}{k:Nat}{v:α}(h:l[k]? =some v):l.take k++ [v]=l.take (k+1):=by
 rw[List.take_add_one,h];rfl
theorem own_news{w:World}{g K:Nat}{e:TypeId}{cur xs:List Value}(h:qS w g e cur)(ht:cur.take K=xs)(hl:xs.length=K):∀j u,xs[j]? =some u->w.cell? ((⟨g,0,none⟩:Addr).add j)=some u:=by
 intro j u hu;rw[Addr.add_lit];have:=h.cell j u (take_at (by rw[hl];exact ht) hu);simpa using this
def AppTo(w w':World)(e:TypeId)(v v':Value)(xs news:List Value):Prop:=
 (∃g c cur,v= .slice (some ⟨g,0,none⟩) xs.length c/\qS w g e cur/\cur.length=c/\cur.take xs.length=xs/\xs.length+news.length<=c/\c<=maxLen/\
  v'= .slice (some ⟨g,0,none⟩) (xs.length+news.length) c/\w'=w.setRow g (xs++news++cur.drop (xs.length+news.length)).toArray)\/
 (∃c cells,v'= .slice (some ⟨w.heap.size,0,none⟩) (xs.length+news.length) c/\w'=w.drew.alloc (.cells (xs++news++cells).toArray e)/\xs.length+news.length+cells.length=c/\c<=maxLen)\/
 (v= .slice none 0 0/\xs= []/\news= []/\v'=v/\w'=w)
theorem rowL_setRow{w:World}{g:Nat}{e:TypeId}{L:List Value}(h:qS w g e L)(M:List Value):qS (w.setRow g M.toArray) g e M:=setRow_heap w g _ _ e _ h
theorem AppTo.own{w w':World}{e:TypeId}{v v':Value}{xs news:List Value}(h:AppTo w w' e v v' xs news):OwnS w' e v' (xs++news):=by
 rcases h with⟨g,c,cur,rfl,hr,hl,ht,hroom,hm,rfl,rfl⟩|⟨c,cells,rfl,rfl,hc,hm⟩|⟨rfl,rfl,rfl,rfl,rfl⟩
 ·refine .inr ⟨g,c,_,by simp,rowL_setRow hr _,by simpa using hroom,hm,by simp;omega,?_⟩;rw[List.take_left]
 ·refine .inr ⟨w.heap.size,c,xs++news++cells,by simp,blk_alloc_new w.drew _,by simp;omega,hm,by simp;omega,?_⟩;rw[List.take_left]
 ·exact .inl ⟨rfl,rfl⟩
theorem AppTo.grown{w w':World}{e:TypeId}{v v':Value}{xs news:List Value}(h:AppTo w w' e v v' xs news):w.grownBy w' v.ownBlock:=by
 rcases h with⟨g,c,cur,rfl,hr,hl,ht,hroom,hm,rfl,rfl⟩|⟨c,cells,rfl,rfl,hc,hm⟩|⟨rfl,rfl,rfl,rfl,rfl⟩
 ·exact⟨rfl,rfl,rfl,by simp[World.setRow],fun k _ hk=>setRow_other w g k _ (fun e=>hk (by simp[Value.ownBlock,e]))⟩
 ·exact⟨rfl,rfl,rfl,by simp,fun k hk _=>blk_alloc_lt w.drew _ k hk⟩
 ·exact World.grownBy.refl _ _
theorem AppTo.below{w0 w w':World}{B:Nat}{e:TypeId}{v v':Value}{xs news:List Value}(h:AppTo w w' e v v' xs news)(hb:Below B w0 w)(hB:B<=w.heap.size)(hv:∀k,v.ownBlock=some k->B<=k):Below B w0 w':=
 hb.grown h.grown hB hv
theorem AppTo.block{w w':World}{e:TypeId}{v v':Value}{xs news:List Value}(h:AppTo w w' e v v' xs news):v'.ownBlock=v.ownBlock\/v'.ownBlock=some w.heap.size:=by
 rcases h with⟨g,c,cur,rfl,hr,hl,ht,hroom,hm,rfl,rfl⟩|⟨c,cells,rfl,rfl,hc,hm⟩|⟨rfl,rfl,rfl,rfl,rfl⟩
 ·exact .inl rfl
 ·exact .inr rfl
 ·exact .inl rfl
theorem AppTo.from{w w':World}{B:Nat}{e:TypeId}{v v':Value}{xs news:List Value}(h:AppTo w w' e v v' xs news)(hB:B<=w.heap.size)(hv:∀k,v.ownBlock=some k->B<=k):∀k,v'.ownBlock=some k->B<=k:=by
 intro k hk;rcases h.block with e|e
 ·exact hv k (e▸hk)
 ·rw[e]at hk;simp at hk;omega
theorem AppTo.other{w w':World}{e t:TypeId}{v v':Value}{xs news L:List Value}{g:Nat}(h:AppTo w w' e v v' xs news)(hr:qS w g t L)(hne:v.ownBlock≠some g):qS w' g t L:=
 hr.of_block (h.grown.block g hr.lt (fun e=>hne e.symm))
section
variable {P:Program} (w:World)
theorem run_app(t ty e:TypeId)(i:TypeInfo)(z:Value)(bytes:Nat)(ht:P.underlying t=some (.slice e))(hi:P.info? e=some i)(hz:i.zero=some z)(hsize:i.size=1)(hby:i.bytes=bytes)(hzs:z.cells.size=1)
  (v:Value)(xs:List Value)(hown:OwnS w e v xs)(a:Addr)(m c:Nat)(news:List Value)(hl:news.length=m)(hnews:∀j u,news[j]? =some u->w.cell? (a.add j)=some u)(h1:∀u∈news,u.oneCell'=true)
  (h63:xs.length+m<=maxLen)(hbytes:(xs.length+m)*bytes<=140737488355328):
  ∃v' w',(Builtin.append_ #[t,t] ty #[v,.slice (some a) m c]).run P w= .ok v' w'/\AppTo w w' e v v' xs news:=by
 subst hl;subst hby;have hsmall:xs.length+news.length<=9223372036854775807:=by simp only[maxLen]at h63;omega
 have hl1:news.length=news.length*i.size:=by rw[hsize,Nat.mul_one]
 rcases hown with⟨rfl,rfl⟩|⟨g,cap,cur,rfl,hg,hnc,hcm,hcs,htake⟩
 ·by_cases hm:news.length=0
  ·have hn:news= []:=List.eq_nil_of_length_eq_zero hm;subst hn;refine⟨.slice none 0 0,w,?_,.inr (.inr ⟨rfl,rfl,rfl,rfl,rfl⟩)⟩;simp[Builtin.append_,run_underlying ht,sizeOf,typeInfo,hi,Builtin.lenOf,Builtin.firstCells,loadCells,loadCellsFrom]
  ·have hr:=run_append_nil (P:=P) w t ty e i z ht hi hz a news.length c news hl1 hnews (by omega) (by simp at hsmall;omega) (by simp at hbytes;omega);refine⟨_,_,hr,.inr (.inl ⟨grownCap w news.length 0 e,(Builtin.zeroCells z.cells (grownCap w news.length 0 e-news.length)).toList,by simp,by congr 2;apply Array.ext';simp,?_,?_⟩)⟩
   ·have hge:=grownCap_ge w news.length 0 e;simp[size_zeroCells,hzs];omega
   ·exact grownCap_le_maxLen w _ 0 e (by simpa using h63)
 ·by_cases hroom:xs.length+news.length<=cap
  ·have hr:=run_append_room (P:=P) w t ty e i ht hi g xs.length cap cur.toArray hg a news.length c news hl1 hnews h1 hroom (by rw[hsize];simp;omega);refine⟨_,_,hr,.inl ⟨g,cap,cur,rfl,hg,hcs,htake,hroom,hcm,rfl,?_⟩⟩;simp[hsize,htake]
  ·have holds:∀j u,xs[j]? =some u->w.cell? ((⟨g,0,none⟩:Addr).add j)=some u:=by
    intro j u hu;rw[Addr.add_lit];have:=hg.cell j u (take_at htake hu);simpa using this
   have hr:=run_append_grow (P:=P) w t ty e i z ht hi hz ⟨g,0,none⟩ xs.length cap xs (by rw[hsize,Nat.mul_one]) holds a news.length c news hl1 hnews (by omega) (by omega) (growslice_fits (by omega) hbytes);refine⟨_,_,hr,.inr (.inl ⟨grownCap w (xs.length+news.length) cap e,(Builtin.zeroCells z.cells (grownCap w (xs.length+news.length) cap e-(xs.length+news.length))).toList,rfl,by congr 2;apply Array.ext';simp,?_,?_⟩)⟩
   ·have hge:=grownCap_ge w (xs.length+news.length) cap e;simp[size_zeroCells,hzs];omega
   ·exact grownCap_le_maxLen w _ cap e h63
theorem wp_app{o:Oper}{a:Act}{K:Act->World->Prop}{Q:Exit->Act->World->Prop}(s x:Operand)(t:TypeId)
  (ho:o.op= .call {callee:=.builtin .append,args:=#[s,x],argTypes:=#[t,t]})
  (e:TypeId)(i:TypeInfo)(z:Value)(bytes:Nat)(ht:P.underlying t=some (.slice e))(hi:P.info? e=some i)(hz:i.zero=some z)(hsize:i.size=1)(hby:i.bytes=bytes)(hzs:z.cells.size=1)
  (v:Value)(xs:List Value)(hs:a.eval s=v)(hown:OwnS w e v xs)
  (ad:Addr)(m c:Nat)(news:List Value)(hx:a.eval x= .slice (some ad) m c)(hl:news.length=m)(hnews:∀j u,news[j]? =some u->w.cell? (ad.add j)=some u)(h1:∀u∈news,u.oneCell'=true)
  (h63:xs.length+m<=maxLen)(hbytes:(xs.length+m)*bytes<=140737488355328)
  (h:∀v' w',AppTo w w' e v v' xs news->K (a.put o.dst v') w'):o.wp P a w K Q:=by
 obtain⟨v',w',hr,h2⟩:=run_app (P:=P) w t o.type e i z bytes ht hi hz hsize hby hzs v xs hown ad m c news hl hnews h1 h63 hbytes;unfold Oper.wp execOp;simp only[ho,resolve,invoke,builtin,Sem.run_bind,Sem.run_pure,Result.andThen_ok,List.map_toArray,List.map_cons,List.map_nil,hs,hx,hr];exact h v' w' h2
theorem wpList_app{ops:Array Oper}{rest:List Oper}{o:Oper}{a:Act}{Q:Exit->Act->World->Prop}(hgd:o.guard=none)(s x:Operand)(t:TypeId)
  (ho:o.op= .call {callee:=.builtin .append,args:=#[s,x],argTypes:=#[t,t]})
  (e:TypeId)(i:TypeInfo)(z:Value)(bytes:Nat)(ht:P.underlying t=some (.slice e))(hi:P.info? e=some i)(hz:i.zero=some z)(hsize:i.size=1)(hby:i.bytes=bytes)(hzs:z.cells.size=1)
  (v:Value)(xs:List Value)(hs:a.eval s=v)(hown:OwnS w e v xs)
  (ad:Addr)(m c:Nat)(news:List Value)(hx:a.eval x= .slice (some ad) m c)(hl:news.length=m)(hnews:∀j u,news[j]? =some u->w.cell? (ad.add j)=some u)(h1:∀u∈news,u.oneCell'=true)
  (h63:xs.length+m<=maxLen)(hbytes:(xs.length+m)*bytes<=140737488355328)
  (h:∀v' w',AppTo w w' e v v' xs news->wpList P ops Q rest (a.put o.dst v') w'):wpList P ops Q (o::rest) a w:=
 wpList_plain hgd fun _ hK=>wp_app w s x t ho e i z bytes ht hi hz hsize hby hzs v xs hs hown ad m c news hx hl hnews h1 h63 hbytes fun v' w' h2=>hK _ _ (h v' w' h2)
theorem wpList_mk{ops:Array Oper}{rest:List Oper}{o:Oper}{a:Act}{Q:Exit->Act->World->Prop}
  (hg:o.guard=none)(l c:Operand)(t:TypeId)(hop:o.op=Op.makeSlice t l c)
  (e:TypeId)(i:TypeInfo)(z:Value)(ht:P.underlying t=some (.slice e))(hi:P.info? e=some i)(hz:i.zero=some z)(hsize:i.size=1)(hz1:z.cells=#[z])
  (kl kc:IntKind)(m n:Nat)(hl:a.eval l= .int kl (m:Int))(hc:a.eval c= .int kc (n:Int))(hmn:m<=n)(hbytes:i.bytes*n<=281474976710656)(h63:n<=9223372036854775807)
  (hK:wpList P ops Q rest (a.put o.dst (.slice (some ⟨w.heap.size,0,none⟩) m n)) (w.alloc (.cells (madeCells #[z] n) e))):
  wpList P ops Q (o::rest) a w:=by
 refine wpList_plain hg fun K hK'=>?_;have hb':(i.bytes:Int)*(n:Int)<=281474976710656:=by
  have h:((i.bytes*n:Nat):Int)<=281474976710656:=by omega
  rwa [Int.natCast_mul]at h
 have hr:=run_make (P:=P) w t e i z ht hi hz kl kc m n (by omega) (by omega) hb' (by omega);simp only[Int.toNat_natCast,hsize,Nat.mul_one,hz1]at hr;unfold Oper.wp;simp[execOp,hop,hl,hc,hr,Result.andThen];exact hK' _ _ hK
theorem ownS_made(w:World)(e:TypeId)(z:Value)(n:Nat)(hm:n<=maxLen):OwnS (w.alloc (.cells (madeCells #[z] n) e)) e (.slice (some ⟨w.heap.size,0,none⟩) 0 n) []:=
 .inr ⟨w.heap.size,n,_,rfl,rowL_made w z n e,by simp,hm,by simp,by simp⟩
theorem fill_append{α:Type}(L:List α)(z:α)(n m:Nat)(h:n+m<=L.length):(fill L z n).take n++(L.drop n).take m++(fill L z n).drop (n+m)=fill L z (n+m):=by
 unfold fill;have e1:(L.take n++List.replicate (L.length-n) z).take n=L.take n:=by
  have:(L.take n).length=n:=by simp;omega
  rw[List.take_append_of_le_length (by omega),List.take_of_length_le (by omega)]
 have e2:(L.take n++List.replicate (L.length-n) z).drop (n+m)=List.replicate (L.length-(n+m)) z:=by
  have:(L.take n).length=n:=by simp;omega
  rw[List.drop_append,List.drop_of_length_le (by omega),List.nil_append,List.drop_replicate,this];congr 1;omega
 rw[e1,e2,List.take_add]
theorem wpList_fill{ops:Array Oper}{rest:List Oper}{o:Oper}{a:Act}{Q:Exit->Act->World->Prop}(hgd:o.guard=none)(s x:Operand)(t:TypeId)
  (ho:o.op= .call {callee:=.builtin .append,args:=#[s,x],argTypes:=#[t,t]})
  (e:TypeId)(i:TypeInfo)(ht:P.underlying t=some (.slice e))(hi:P.info? e=some i)(hsize:i.size=1)
  (g n c:Nat)(L:List Value)(z:Value)(hs:a.eval s= .slice (some ⟨g,0,none⟩) n c)(hL:L.length=c)(hr:qS w g e (fill L z n))
  (ad:Addr)(m cx:Nat)(news:List Value)(hx:a.eval x= .slice (some ad) m cx)(hl:news.length=m)(hnews:∀j u,news[j]? =some u->w.cell? (ad.add j)=some u)(h1:∀u∈news,u.oneCell'=true)
  (hd:(L.drop n).take m=news)(hroom:n+m<=c)
  (h:∀w',qS w' g e (fill L z (n+m))->w.grownBy w' (some g)->wpList P ops Q rest (a.put o.dst (.slice (some ⟨g,0,none⟩) (n+m) c)) w'):wpList P ops Q (o::rest) a w:=by
 refine wpList_plain hgd fun K hK=>?_;subst hL;have hfl:(fill L z n).length=L.length:=fill_length _ _ _ (by omega);have hrun:=run_append_room (P:=P) w t o.type e i ht hi g n L.length (fill L z n).toArray hr ad m cx news (by rw[hsize,Nat.mul_one];exact hl) hnews h1 hroom (by rw[hsize];simp[hfl];omega);unfold Oper.wp execOp;simp only[ho,resolve,invoke,builtin,Sem.run_bind,Sem.run_pure,Result.andThen_ok,List.map_toArray,List.map_cons,List.map_nil,hs,hx,hrun];refine hK _ _ (h _ ?_ ?_)
 ·have:=rowL_setRow hr ((fill L z n).take n++news++(fill L z n).drop (n+m));rw[<-hd,fill_append L z n m hroom]at this;rw[hsize,hl];simpa[fill_append,hd,<-fill_append L z n m hroom]using this
 ·exact⟨rfl,rfl,rfl,by simp[World.setRow],fun k _ hk=>setRow_other w g k _ (fun e=>hk (by rw[e]))⟩
end
structure Kp(X:Nat->Prop)(w w':World):Prop where
 os:w'.os=w.os
 tape:w'.tape=w.tape
 output:w'.output=w.output
 size:w.heap.size<=w'.heap.size
 block:∀k,k<w.heap.size->¬X k->w'.heap[k]? =w.heap[k]?
namespace Kp
variable {X:Nat->Prop} {w w' w'':World}
theorem refl(X:Nat->Prop)(w:World):Kp X w w:=⟨rfl,rfl,rfl,Nat.le_refl _,fun _ _ _=>rfl⟩
theorem alloc(h:Kp X w w')(o:Obj):Kp X w (w'.alloc o):=
 ⟨h.os,h.tape,h.output,by have:=h.size;simp;omega,fun k hk hx=>(blk_alloc_lt _ _ _ (Nat.lt_of_lt_of_le hk h.size)).trans (h.block k hk hx)⟩
theorem drew(h:Kp X w w'):Kp X w w'.drew:=⟨h.os,h.tape,h.output,h.size,h.block⟩
theorem setCell(h:Kp X w w'){a:Addr}(ha:X a.block\/w.heap.size<=a.block)(v:Value):Kp X w (w'.setCell a v):=
 ⟨h.os,h.tape,h.output,by simpa[World.setCell]using h.size,fun k hk hx=>(blk_setCell_other _ _ _ _ (by rintro rfl;rcases ha with h1|h1;exact hx h1;omega)).trans (h.block k hk hx)⟩
theorem grown{r:Option Nat}(h:Kp X w w')(hg:w'.grownBy w'' r)(hr:∀k,r=some k->X k\/w.heap.size<=k):Kp X w w'':=
 ⟨hg.os.trans h.os,hg.tape.trans h.tape,hg.output.trans h.output,Nat.le_trans h.size hg.size,fun k hk hx=>
  (hg.block k (Nat.lt_of_lt_of_le hk h.size) (fun e=>by rcases hr k e.symm with h1|h1;exact hx h1;omega)).trans (h.block k hk hx)⟩
theorem below(h:Kp X w w')(hb:Below w'.heap.size w' w''):Kp X w w'':=
 ⟨hb.os.trans h.os,hb.tape.trans h.tape,hb.output.trans h.output,Nat.le_trans h.size hb.size,fun k hk hx=>(hb.block k (Nat.lt_of_lt_of_le hk h.size)).trans (h.block k hk hx)⟩
theorem of_below(h:Below w.heap.size w w'):Kp X w w':=(Kp.refl X w).below h
theorem trans(h:Kp X w w')(h':Kp X w' w''):Kp X w w'':=
 ⟨h'.os.trans h.os,h'.tape.trans h.tape,h'.output.trans h.output,Nat.le_trans h.size h'.size,fun k hk hx=>(h'.block k (Nat.lt_of_lt_of_le hk h.size) hx).trans (h.block k hk hx)⟩
theorem join{Y:Nat->Prop}(h:Kp X w w')(h':Kp Y w' w'')(hy:∀k,Y k->X k\/w.heap.size<=k):Kp X w w'':=
 ⟨h'.os.trans h.os,h'.tape.trans h.tape,h'.output.trans h.output,Nat.le_trans h.size h'.size,fun k hk hx=>(h'.block k (Nat.lt_of_lt_of_le hk h.size) (fun e=>by rcases hy k e with h1|h1;exact hx h1;omega)).trans (h.block k hk hx)⟩
theorem mono{Y:Nat->Prop}(h:Kp X w w')(hxy:∀k,X k->Y k):Kp Y w w':=⟨h.os,h.tape,h.output,h.size,fun k hk hy=>h.block k hk (fun hx=>hy (hxy k hx))⟩
theorem row{g:Nat}{t:TypeId}{L:List Value}(h:Kp X w w')(hr:qS w g t L)(hg:¬X g):qS w' g t L:=hr.of_block (h.block g hr.lt hg)
theorem own{e:TypeId}{v:Value}{xs:List Value}(h:Kp X w w')(ho:OwnS w e v xs)(hg:∀g,v.ownBlock=some g->¬X g):OwnS w' e v xs:=ho.of_block (fun g hv=>h.block g (ho.lt hv) (hg g hv))
theorem toBelow{B:Nat}(h:Kp X w w')(hX:∀k,X k->B<=k)(hB:B<=w.heap.size):Below B w w':=
 ⟨h.os,h.tape,h.output,h.size,fun k hk=>h.block k (by omega) (fun hx=>by have:=hX k hx;omega)⟩
end Kp
end Go.Proofs.Ytmfpiodlecapiaa
namespace Go.Proofs.Ytmfpiodlecapiaa.Pk
def weight(j i:Nat):Nat:=Gf.inv ((255-j) ^^^ i)
def addTimes(S bs:List Nat)(t:Nat):List Nat:=List.zipWith (fun x y=>x ^^^ Gf.mul y t) S bs
theorem addTimes_length(S bs:List Nat)(t:Nat)(h:bs.length=S.length):(addTimes S bs t).length=S.length:=by simp[addTimes,h]
theorem addTimes_at(S bs:List Nat)(t k:Nat)(h:bs.length=S.length)(hk:k<S.length):(addTimes S bs t)[k]? =some (S[k]?.getD 0 ^^^ Gf.mul (bs[k]?.getD 0) t):=by
 simp[addTimes,hk,h]
def piece(blk:List Nat)(s i:Nat):List Nat:=(blk.drop (i*s)).take s
def sumTo(blk:List Nat)(s j:Nat):Nat->List Nat
 |0=>List.replicate s 0
 |k+1=>addTimes (sumTo blk s j k) (piece blk s k) (weight j k)
theorem piece_length{blk:List Nat}{s i K:Nat}(h:blk.length=K*s)(hi:i<K):(piece blk s i).length=s:=by
 have:=Nat.mul_le_mul_right s hi;rw[Nat.succ_mul]at this;simp[piece];omega
theorem piece_lt{blk:List Nat}(h:∀x∈blk,x<256)(s i:Nat):∀x∈piece blk s i,x<256:=fun x hx=>h x (List.mem_of_mem_drop (List.mem_of_mem_take hx))
theorem piece_at{blk:List Nat}{s i c:Nat}(hc:c<s):(piece blk s i)[c]? =blk[i*s+c]? :=by simp[piece,hc]
theorem addTimes_lt{S bs:List Nat}{t:Nat}(hS:∀x∈S,x<256)(hb:∀x∈bs,x<256)(ht:t<256):∀x∈addTimes S bs t,x<256:=by
 intro x hx;unfold addTimes at hx;rw[List.zipWith_eq_zipWith_take_min]at hx;simp only[List.mem_iff_getElem,List.getElem_zipWith]at hx;obtain⟨i,hi,rfl⟩:=hx;refine Gf.xor_lt (hS _ ?_) (Gf.mul_lt (hb _ ?_) ht)
 ·exact List.mem_of_mem_take (List.getElem_mem _)
 ·exact List.mem_of_mem_take (List.getElem_mem _)
theorem weight_ne{j i:Nat}(hj:j<32)(hi:i<32):(255-j) ^^^ i≠0:=by
 intro h;have e:(255-j)=i:=by
  have:((255-j) ^^^ i) ^^^ i=0 ^^^ i:=by rw[h]
  rw[Nat.xor_assoc,Nat.xor_self,Nat.xor_zero,Nat.zero_xor]at this;exact this
 omega
theorem weight_lt{j i:Nat}(hj:j<32)(hi:i<32):weight j i<256:=Gf.inv_lt (Gf.xor_lt (by omega) (by omega)) (weight_ne hj hi)
theorem sumTo_length{blk:List Nat}{s j K:Nat}(h:blk.length=K*s):∀k,k<=K->(sumTo blk s j k).length=s:=by
 intro k;induction k with
 |zero=>intro _;simp[sumTo]
 |succ k ih=>
  intro hk;have h1:=ih (by omega);rw[sumTo,addTimes_length _ _ _ (by rw[piece_length h hk,h1]),h1]
theorem sumTo_lt{blk:List Nat}{s j:Nat}(hb:∀x∈blk,x<256)(hj:j<32):∀k,k<=32->∀x∈sumTo blk s j k,x<256:=by
 intro k;induction k with
 |zero=>intro _ x hx;simp[sumTo]at hx;omega
 |succ k ih=>intro hk;exact addTimes_lt (ih (by omega)) (piece_lt hb s k) (weight_lt hj (by omega))
def pieceN(blk:List Nat)(s K n:Nat):List Nat:=if n<K then piece blk s n else sumTo blk s (n-K) K
theorem pieceN_length{blk:List Nat}{s K n:Nat}(h:blk.length=K*s):(pieceN blk s K n).length=s:=by
 unfold pieceN;split
 ·exact piece_length h (by assumption)
 ·exact sumTo_length h K (Nat.le_refl _)
theorem pieceN_lt{blk:List Nat}{s K n:Nat}(hb:∀x∈blk,x<256)(hK:K<=32)(hn:n<K+32):∀x∈pieceN blk s K n,x<256:=by
 unfold pieceN;split
 ·exact piece_lt hb s n
 ·exact sumTo_lt hb (by omega) K hK
def head(id len s m p z q:Nat):List Nat:= [70,id/256,id%256,len/256,len%256,s,m,p,z,q]
def packet(id len s m p z q:Nat)(bs:List Nat):List Nat:=head id len s m p z q++bs
def ofBlock(id len s m p z K:Nat)(blk:List Nat):List (List Nat):=(List.range (K+p)).map (fun q=>packet id len s m p z q (pieceN blk s K q))
theorem ofBlock_length(id len s m p z K:Nat)(blk:List Nat):(ofBlock id len s m p z K blk).length=K+p:=by simp[ofBlock]
theorem ofBlock_at{id len s m p z K q:Nat}{blk:List Nat}(h:q<K+p):(ofBlock id len s m p z K blk)[q]? =some (packet id len s m p z q (pieceN blk s K q)):=by simp[ofBlock,h]
def blkAt(D L:List Nat)(s z:Nat):List Nat:=(D.drop ((L.take z).sum*s)).take (L[z]?.getD 0*s)
def filled(obj:List Nat)(M:Nat):List Nat:=obj++List.replicate (M-obj.length) 0
def upTo(id len s m p:Nat)(L D:List Nat)(k:Nat):List (List Nat):=(List.range k).flatMap (fun z=>ofBlock id len s m p z (L[z]?.getD 0) (blkAt D L s z))
theorem upTo_succ(id len s m p:Nat)(L D:List Nat)(k:Nat):upTo id len s m p L D (k+1)=upTo id len s m p L D k++ofBlock id len s m p k (L[k]?.getD 0) (blkAt D L s k):=by
 simp[upTo,List.range_succ]
def packets(id:Nat)(obj:List Nat)(s m p:Nat):List (List Nat):=
 upTo id obj.length s m p (Cut.sizes obj.length s m) (filled obj (Cut.pieces obj.length s*s)) (Cut.sizes obj.length s m).length
theorem upTo_length(id len s m p:Nat)(L D:List Nat):∀k,k<=L.length->(upTo id len s m p L D k).length=(L.take k).sum+k*p:=by
 intro k;induction k with
 |zero=>intro _;simp[upTo]
 |succ k ih=>
  intro hk;have e:L[k]? =some (L[k]?.getD 0):=by simp[show k<L.length by omega]
  rw[upTo_succ,List.length_append,ih (by omega),ofBlock_length,List.take_add_one,e,Nat.succ_mul];simp;omega
def start(L:List Nat)(p z:Nat):Nat:=(L.take z).sum+z*p
theorem start_succ{L:List Nat}{p z:Nat}(h:z<L.length):start L p (z+1)=start L p z+(L[z]?.getD 0+p):=by
 have e:L[z]? =some (L[z]?.getD 0):=by simp[h]
 unfold start;rw[List.take_add_one,e,Nat.succ_mul];simp;omega
theorem start_mono{L:List Nat}{p z:Nat}:∀k,z<=k->k<=L.length->start L p z<=start L p k:=by
 intro k hk;induction hk with
 |refl=>intro _;exact Nat.le_refl _
 |@step m hm ih=>
  intro hk;have h:=start_succ (p:=p) (show m<L.length from hk);have:=ih (Nat.le_of_lt hk);show start L p z<=start L p (m+1);omega
theorem upTo_len{id len s m p:Nat}{L D:List Nat}{k:Nat}(hk:k<=L.length):(upTo id len s m p L D k).length=start L p k:=upTo_length _ _ _ _ _ _ _ k hk
theorem upTo_at{id len s m p:Nat}{L D:List Nat}{z i:Nat}:∀k,z<k->k<=L.length->i<L[z]?.getD 0+p->(upTo id len s m p L D k)[start L p z+i]? =some (packet id len s m p z i (pieceN (blkAt D L s z) s (L[z]?.getD 0) i)):=by
 intro k;induction k with
 |zero=>intro h;omega
 |succ k ih=>
  intro hz hk hi;rw[upTo_succ];by_cases hzk:z<k
  ·have h1:=start_succ (L:=L) (p:=p) (show z<L.length by omega);have h2:=start_mono (L:=L) (p:=p) (z:=z+1) k hzk (by omega);rw[List.getElem?_append_left (by rw[upTo_len (by omega)];omega)];exact ih hzk (by omega) hi
  ·have e:z=k:=by omega
   subst e;rw[List.getElem?_append_right (by rw[upTo_len (by omega)];omega),upTo_len (by omega),Nat.add_sub_cancel_left];exact ofBlock_at hi
theorem packet_length{id len s m p z q:Nat}{bs:List Nat}(h:bs.length=s):(packet id len s m p z q bs).length=10+s:=by
 simp[packet,head,h];omega
end Go.Proofs.Ytmfpiodlecapiaa.Pk
namespace Go.Proofs.Ytmfpiodlecapiaa
open Go.RowKit Go.Deep
attribute [local go_sem↓] Go.wp_at_zero Go.wp_at_succ
def Bytes(w:World)(v:Value)(bs:List Nat):Prop:=
 ∃b off cap,v= .slice (some ⟨b,off,none⟩) bs.length cap/\bs.length<=cap/\(∀x∈bs,x<256)/\∀j,j<bs.length->w.cell? ⟨b,off+j,none⟩=some (.int .u8 ((bs[j]?.getD 0:Nat):Int))
theorem addTimes_core(g b off cap t n:Nat)(S bs:List Nat)(hl1:Hid (S.length=n))(hl2:Hid (bs.length=n))(hlen:n<=65536)(hbs:∀x∈bs,x<256)(hS:∀x∈S,x<256)(ht:t<256)(w:World)
  (hbg:b≠g)(hg:qS w g 5 (u8s S))(hc:∀j,j<n->w.cell? ⟨b,off+j,none⟩=some (.int .u8 ((bs[j]?.getD 0:Nat):Int))):
  Calls Try.prog 93 #[.slice (some ⟨g,0,none⟩) n n,.slice (some ⟨b,off,none⟩) n cap,.int .i64 t] w fun e w'=>
   e= .returned (.tuple #[])/\w.grownBy w' (some g)/\qS w' g 5 (u8s (Pk.addTimes S bs t)):=by
 go_enter Try.func93,Try.ntmps93;go_wp2;have hPl:Hid ((Pk.addTimes S bs t).length=S.length):=Pk.addTimes_length S bs t (by rw[hl1.out,hl2.out]);go_loopw [10] (fun x wr=>∃k:Nat,k<=n/\x= .int .i64 k/\w.grownBy wr (some g)/\qS wr g 5 (mix (u8s (Pk.addTimes S bs t)) (u8s S) k))
  (fun x _=>leftOf n (intOf x).toNat)
 case atStart=>exact⟨0,by omega,rfl,World.grownBy.refl _ _,by rw[mix_zero];exact hg⟩
 case round=>
  obtain⟨k,hk,rfl,hgr,hr⟩:=hrel;by_cases hkl:k<n
  ·have hkS:k<S.length:=by rw[hl1.out];exact hkl
   have hkb:k<bs.length:=by rw[hl2.out];exact hkl
   have hcb:wr.cell? ⟨b,off+k,none⟩=some (.int .u8 ((bs[k]?.getD 0:Nat):Int)):=hgr.cell (hc k hkl) (by simpa using hbg);have hcg:wr.cell? ⟨g,k,none⟩=some (.int .u8 ((S[k]?.getD 0:Nat):Int)):=by
    apply hr.cell;rw[mix_at _ _ _ (by simp[u8s_length,hPl.out]) (by simp[u8s_length,hkS])];exact u8s_at hkS
   have hf:=hr.frozen k;have hx:=getD_lt hbs hkb;have hy:=getD_lt hS hkS;have hV:Hid ((u8s (Pk.addTimes S bs t))[k]? =some (.int .u8 (((S[k]?.getD 0 ^^^ Gf.mul (bs[k]?.getD 0) t:Nat)):Int))):=by
    show _=_;have:=Pk.addTimes_at S bs t k (by rw[hl1.out,hl2.out]) hkS;simp[u8s,this]
   have hR:=hide hr;have hG:=hide hgr
   clear hr hgr;have hC:=hide hc;clear hc hkS hkb;revert hcb hcg hx hy hV;generalize bs[k]?.getD 0=x;generalize S[k]?.getD 0=y;intro hcb hcg hx hy hV;have hm:=Gf.mul_lt hx ht;have M:=hide (fun w=>mul_walk x t hx ht w);revert hm M hV;generalize Gf.mul x t=m;intro hV hm M;have hxm:=Gf.xor_lt hy hm;have hk0:(0:Int)<=(k:Int):=by omega
   have hk1:(k:Int)<(n:Int):=by omega
   have hwx:IntKind.i64.wrap (x:Int)=(x:Int):=qB _ (by omega) (by omega);have hwy:IntKind.i64.wrap (y:Int)=(y:Int):=qB _ (by omega) (by omega);have hw8:IntKind.u8.wrap ((y ^^^ m:Nat):Int)=((y ^^^ m:Nat):Int):=wrap_u8_in _ (by omega) (by omega);go_wp2_with fail
   go_region_with (first|(go_at_call 32;refine(M.out _).mono ?_;rintro _ _ ⟨rfl,rfl⟩)|(go_at_call 54;refine(add_walk _ _ (by omega) (by omega) _).mono ?_;rintro _ _ ⟨rfl,rfl⟩))
   all_goals
    go_wp2;go_roundw
    case rel=>
     refine⟨k+1,by omega,by go_num,grownBy_drew (grownBy_setCell hG.out _ _),?_⟩;have:=hR.out.set k (.int .u8 ((y ^^^ m:Nat):Int));rw[mix_set _ _ _ _ (by simp[u8s_length,hPl.out]) hV.out]at this;exact this.drew
    case measure=>refine qD ?_ ?_<;>simp only[intOf]<;>omega
  ·have e:k=n:=by omega
   subst e;have hr':qS wr g 5 (u8s (Pk.addTimes S bs t)):=by
    have h2:=mix_all (u8s (Pk.addTimes S bs t)) (u8s S) (by simp[u8s_length,hPl.out]);rw[u8s_length,hl1.out]at h2;rw[h2]at hr;exact hr
   have hR:=hide hr';have hG:=hide hgr
   clear hr hr' hgr;go_wp2;go_end0;exact⟨rfl,hG.out,hR.out⟩
theorem weight_walk(j i:Nat)(hj:j<32)(hi:i<32)(w:World):
  Calls Try.prog 94 #[.int .i64 j,.int .i64 i] w fun e w'=>e= .returned (.int .i64 (Pk.weight j i:Nat))/\w'=w:=by
 have hx:=Gf.xor_lt (a:=255-j) (b:=i) (by omega) (by omega);have hA:=hide (fun w=>add_walk (255-j) i (by omega) (by omega) w);have hI:=hide (fun w=>inverse_walk ((255-j) ^^^ i) hx w);have hA':Hid (∀w,Calls Try.prog 54 #[.int .i64 (255-(j:Int)),.int .i64 i] w fun e w'=>e= .returned (.int .i64 (((255-j) ^^^ i:Nat):Int))/\w'=w):=by
  have e:((255-j:Nat):Int)=255-(j:Int):=by omega
  intro w;have:=hA.out w;rw[e]at this;exact this
 clear hA;unfold Pk.weight;revert hI hA' hx;generalize (255-j) ^^^ i=x;intro hx hI hA';revert hI;generalize Gf.inv x=y;intro hI;go_enter Try.func94,Try.ntmps94;go_wp2_with first|(go_at_call 54;refine(hA'.out _).mono ?_;rintro _ _ ⟨rfl,rfl⟩)|(go_at_call 33;refine(hI.out _).mono ?_;rintro _ _ ⟨rfl,rfl⟩)
 go_ret;exact⟨rfl,rfl⟩
theorem Try.infoBytes:(Try.prog.info? 36).map (fun i=>(i.zero,i.size,i.bytes))=some (some (.slice none 0 0),1,24):=by kernel_rfl
theorem Try.infoByte:(Try.prog.info? 5).map (fun i=>(i.zero,i.size,i.bytes))=some (some (.int .u8 0),1,1):=by kernel_rfl
def pieceV(b off s c:Nat)(i:Nat):Value:=.slice (some ⟨b,off+i*s,none⟩) s (c-i*s)
def ownV(b off s c K:Nat):List Value:=(List.range K).map (pieceV b off s c)
theorem ownV_at{b off s c K k:Nat}(h:k<K):(ownV b off s c K)[k]? =some (pieceV b off s c k):=by simp[ownV,h]
theorem ownV_length(b off s c K:Nat):(ownV b off s c K).length=K:=by simp[ownV]
theorem split_walk(b off s c K n:Nat)(hn:Hid (n=K*s))(hs:1<=s)(hn2:n<=65536)(hK:K<=65536)(hc:n<=c)(hc2:c<=9223372036854775807)(w:World):
  Calls Try.prog 79 #[.slice (some ⟨b,off,none⟩) n c,.int .i64 s] w fun e w'=>
   ∃v,e= .returned v/\OwnS w' 36 v (ownV b off s c K)/\(∀k,v.ownBlock=some k->w.heap.size<=k)/\Below w.heap.size w w':=by
 obtain⟨i0,hi,hz0,hz1,hz2⟩:=info_parts Try.infoBytes;go_enter Try.func79,Try.ntmps79;go_wp2;go_loopw [5,6] (fun v x wr=>∃k a:Nat,k<=K/\Hid (a=k*s)/\a<=n/\x= .int .i64 a/\OwnS wr 36 v ((ownV b off s c K).take k)/\(∀k,v.ownBlock=some k->w.heap.size<=k)/\Below w.heap.size w wr)
  (fun _ x _=>leftOf n (intOf x).toNat)
 case atStart=>exact⟨0,0,by omega,(show Hid _ from by show 0=0*s;omega),by omega,rfl,by simpa using ownS_nil _ _,by intro k hk;simp[Value.ownBlock]at hk,Below.refl _ _⟩
 case round=>
  obtain⟨k,a,hk,ha,han,rfl,hown,hbk,hb⟩:=hrel;by_cases hlt:a<n
  ·have hkK:k<K:=by
    have h1:=ha.out;have h2:=hn.out
    rcases Nat.lt_or_ge k K with h|h
    ·exact h
    ·have:=Nat.mul_le_mul_right s h;omega
   have has:a+s<=n:=by
    have h1:=ha.out;have h2:=hn.out
    have:=Nat.mul_le_mul_right s hkK;rw[Nat.succ_mul]at this;omega
   have hO:=hide hown;have hBk:=hide hbk;have hB:=hide hb
   have hlen:Hid ((ownV b off s c K).length=K):=ownV_length _ _ _ _ _;have hV:Hid ((ownV b off s c K)[k]? =some (.slice (some ⟨b,off+a,none⟩) s (c-a))):=by
    show _=_;rw[ownV_at hkK];unfold pieceV;rw[ha.out]
   clear hown hbk hb;have h0a:(0:Int)<=(a:Int):=by omega
   have h0b:(a:Int)+(s:Int)<=(c:Int):=by omega
   go_wp2_with (at_builtin;refine wpList_app _ rfl _ _ 33 rfl 36 i0 (.slice none 0 0) 24 Try.underlying33 hi hz0 hz1 hz2 rfl _ _ rfl (hO.out.alloc _) ⟨wr.heap.size,0,none⟩ 1 1 [.slice (some ⟨b,off+a,none⟩) s (c-a)] rfl rfl (cell_one_new _ _ _) (by intro u hu;simp at hu;subst hu;rfl) (by simp[maxLen];omega) (by simp;omega) ?_)
   intro v' w1 happ;have hA:=hide happ;clear happ;go_wp2;go_roundw
   case rel=>
    have hsz:=hB.out.size;have hwr:w.heap.size<=(wr.alloc (.cells #[.slice (some ⟨b,off+a,none⟩) s (c-a)] 36)).heap.size:=by simp;omega
    refine⟨k+1,a+s,by omega,?_,by omega,by go_num,?_,hA.out.from hwr hBk.out,hA.out.below (hB.out.alloc hsz _) hwr hBk.out⟩
    ·show a+s=(k+1)*s;rw[Nat.succ_mul,<-ha.out]
    ·have:=hA.out.own;rwa [take_snoc hV.out]at this
   case measure=>refine qD ?_ ?_<;>simp only[intOf]<;>omega
  ·have e:k=K:=by
    have h1:=ha.out;have h2:=hn.out
    have:a=n:=by omega
    rcases Nat.lt_or_ge k K with h|h
    ·have h3:=Nat.mul_le_mul_right s h;rw[Nat.succ_mul]at h3;omega
    ·omega
   subst e;have hO:Hid (OwnS wr 36 u5 (ownV b off s c k)):=by
    show OwnS _ _ _ _;rw[<-List.take_length (l:=ownV b off s c k),ownV_length];exact hown
   have hBk:=hide hbk;have hB:=hide hb
   clear hown hbk hb;go_wp2;go_ret;exact⟨_,rfl,hO.out,hBk.out,hB.out⟩
theorem spare_walk(b off s c K j gO capO:Nat)(cur:List Value)(blk:List Nat)(hl:Hid (blk.length=K*s))(hb:∀x∈blk,x<256)(hK:K<=32)(hj:j<32)(hs:1<=s)(hs2:s<=65536)(w:World)
  (hO:qS w gO 36 cur)(htk:Hid (cur.take K=ownV b off s c K))(hbl:b<w.heap.size)
  (hc:∀q,q<K*s->w.cell? ⟨b,off+q,none⟩=some (.int .u8 ((blk[q]?.getD 0:Nat):Int))):
  Calls Try.prog 80 #[.slice (some ⟨gO,0,none⟩) K capO,.int .i64 j,.int .i64 s] w fun e w'=>
   e= .returned (.slice (some ⟨w.heap.size,0,none⟩) s s)/\Below w.heap.size w w'/\qS w' w.heap.size 5 (u8s (Pk.sumTo blk s j K)):=by
 obtain⟨i0,hi,hz0,hz1,hz2⟩:=info_parts Try.infoByte;have hgO:=hO.lt;have HO:=hide hO;have HC:=hide hc
 clear hO hc;go_enter Try.func80,Try.ntmps80;go_wp2_with (at_make;refine wpList_make_row _ rfl _ _ 36 rfl 5 i0 (.int .u8 0) Try.underlying36 hi hz0 hz1 rfl .i64 .i64 s rfl rfl (by rw[hz2];omega) (by omega) ?_)
 have hb0:Below w.heap.size w (w.alloc (.cells (madeCells #[.int .u8 0] s) 5)):=(Below.refl _ _).alloc (Nat.le_refl _) _;have hr0:qS (w.alloc (.cells (madeCells #[.int .u8 0] s) 5)) w.heap.size 5 (u8s (Pk.sumTo blk s j 0)):=by
  have:=rowL_made w (.int .u8 0) s 5;simpa[u8s,Pk.sumTo]using this
 have hB0:=hide hb0;have hR0:=hide hr0
 clear hb0 hr0;go_loopw [14] (fun x wr=>∃k:Nat,k<=K/\x= .int .i64 k/\Below w.heap.size w wr/\qS wr w.heap.size 5 (u8s (Pk.sumTo blk s j k)))
  (fun x _=>leftOf K (intOf x).toNat)
 case atStart=>exact⟨0,by omega,rfl,hB0.out,hR0.out⟩
 case round=>
  obtain⟨k,hk,rfl,hbw,hr⟩:=hrel;by_cases hlt:k<K
  ·have hcO:wr.cell? ⟨gO,k,none⟩=some (.slice (some ⟨b,off+k*s,none⟩) s (c-k*s)):=by
    apply (HO.out.below hbw hgO).cell;have:(cur.take K)[k]? =some (pieceV b off s c k):=by rw[htk.out];exact ownV_at hlt
    rw[List.getElem?_take,if_pos hlt]at this;exact this
   have hWt:=hide (fun w=>weight_walk j k hj (by omega) w);have hA:Hid (Calls Try.prog 93 #[.slice (some ⟨w.heap.size,0,none⟩) s s,.slice (some ⟨b,off+k*s,none⟩) s (c-k*s),.int .i64 (Pk.weight j k:Nat)] wr fun e w'=>
     e= .returned (.tuple #[])/\wr.grownBy w' (some w.heap.size)/\qS w' w.heap.size 5 (u8s (Pk.sumTo blk s j (k+1)))):=by
    refine addTimes_core w.heap.size b (off+k*s) (c-k*s) (Pk.weight j k) s (Pk.sumTo blk s j k) (Pk.piece blk s k) (Pk.sumTo_length hl.out k hk) (Pk.piece_length hl.out hlt) hs2 (Pk.piece_lt hb s k) (Pk.sumTo_lt hb hj k (by omega)) (Pk.weight_lt hj (by omega)) wr (by omega) hr ?_;intro q hq;have h3:=Nat.mul_le_mul_right s hlt;rw[Nat.succ_mul]at h3;have:=HC.out (k*s+q) (by omega);rw[Pk.piece_at hq,Nat.add_assoc,hbw.cell (by exact hbl)];exact this
   have hB:=hide hbw;clear hbw hr;revert hWt hA;generalize Pk.weight j k=wt;intro hWt hA;revert hcO hA;generalize off+k*s=o1;generalize c-k*s=c1;intro hcO hA;go_wp2_with first|(go_at_call 94;refine(hWt.out _).mono ?_;rintro _ _ ⟨rfl,rfl⟩)|(go_at_call 93;refine hA.out.mono ?_;rintro _ w1 ⟨rfl,hg1,hr1⟩;replace hg1:=hide hg1;replace hr1:=hide hr1)
   go_roundw
   case rel=>exact⟨k+1,by omega,by go_num,hB.out.grown hg1.out hB.out.size (by intro q hq;simp at hq;omega),hr1.out⟩
   case measure=>refine qD ?_ ?_<;>simp only[intOf]<;>omega
  ·have e:k=K:=by omega
   subst e;have hB:=hide hbw;have hR:=hide hr
   clear hbw hr;go_wp2;go_ret;exact⟨rfl,hB.out,hR.out⟩
end Go.Proofs.Ytmfpiodlecapiaa
