import Derived.Test.YtmfpiodlecapiaaGreatDoorJ15
import Derived.BigQuiet
import Derived.Deep.QuietTactic
import Derived.Deep.RegionWith
import Derived.Deep.DrawnRows
import Derived.Test.YtmfpiodlecapiaaGreatDoorJ14
namespace Go.Proofs.YtmfpiodlecapiaaGreatDoor
open Go.Proofs.Tryz
open Go.RowKit Go.Deep
variable{e t:TypeId}{v v':Value}{g B:Nat}{o:Oper}{a:Act}
def bK(w:World)(e:TypeId)(v:Value)(xs:List Value):Prop:=
 (v= .slice none 0 0/\xs= [])\/
 ∃g cap cur,v= .slice (some ⟨g,0,none⟩) xs.length cap/\aB w g e cur/\xs.length<=cap/\cap<=maxLen/\cur.length=cap/\cur.take xs.length=xs
theorem h_(w:World)(e:TypeId):bK w e (.slice none 0 0) []:=.inl ⟨rfl,rfl⟩
theorem bK.of_block{w w':World}{xs:List Value}(h:bK w e v xs)(hk:∀g,v.ownBlock=some g->w'.heap[g]? =w.heap[g]?):bK w' e v xs:=by
 rcases h with h|⟨g,cap,cur,rfl,hr,h1,h2,h3,h4⟩
 .exact .inl h
 .exact .inr ⟨g,cap,cur,rfl,hr.of_block (hk g rfl),h1,h2,h3,h4⟩
theorem bK.lt{w:World}{xs:List Value}(h:bK w e v xs)(hg:v.ownBlock=some g):g<w.heap.size:=by
 rcases h with⟨rfl,_⟩|⟨g',cap,cur,rfl,hr,_⟩
 .simp[Value.ownBlock]at hg
 .simp[Value.ownBlock]at hg;subst hg;exact hr.lt
theorem bK.below{w w':World}{xs:List Value}(h:bK w e v xs)(hb:Below B w w')(hg:∀g,v.ownBlock=some g->g<B):bK w' e v xs:=
 h.of_block (fun g hv=>hb.block g (hg g hv))
theorem bK.later{w w':World}{xs:List Value}(h:bK w e v xs)(hb:Below w.heap.size w w'):bK w' e v xs:=
 h.below hb (fun _ hv=>h.lt hv)
theorem bK.alloc{w:World}{xs:List Value}(h:bK w e v xs)(o:Obj):bK (w.alloc o) e v xs:=
 h.of_block (fun _ hv=>blk_alloc_lt _ _ _ (h.lt hv))
theorem bK.drew{w:World}{xs:List Value}(h:bK w e v xs):bK w.drew e v xs:=h
theorem bK.shape{w:World}{e:TypeId}{v:Value}{xs:List Value}(h:bK w e v xs):∃a c,v= .slice a xs.length c:=by
 rcases h with⟨rfl,rfl⟩|⟨g,cap,cur,rfl,_⟩
 .exact⟨none,0,rfl⟩
 .exact⟨_,_,rfl⟩
theorem bK.open'{w:World}{xs:List Value}(h:bK w e v xs)(hx:0<xs.length):∃g cap cur,v= .slice (some ⟨g,0,none⟩) xs.length cap/\aB w g e cur/\xs.length<=cap/\cap<=maxLen/\cur.length=cap/\cur.take xs.length=xs:=by
 rcases h with⟨_,rfl⟩|h
 .simp at hx
 .exact h
theorem take_at{α:Type}{l xs:List α}{i:Nat}{v:α}(h:l.take xs.length=xs)(hi:xs[i]? =some v):l[i]? =some v:=by
 have ai:i<xs.length:=(List.getElem?_eq_some_iff.1 hi).1;have h2:(l.take xs.length)[i]? =some v:=by rw[h];exact hi
 rw[List.getElem?_take,if_pos ai]at h2;exact h2
theorem bK.lU{w:World}{xs L:List Value}{b:Nat}(h:bK w e v xs)(hr:aB w b t L)(ht:t≠e):v.ownBlock≠some b:=by
 intro hv;rcases h with⟨rfl,_⟩|⟨g,cap,cur,rfl,hg,_⟩
 .simp[Value.ownBlock]at hv
 .simp[Value.ownBlock]at hv;subst hv;exact ht (hr.unique hg).1
theorem vC{α:Type}{l:List α}{k:Nat}{v:α}(h:l[k]? =some v):l.take k++ [v]=l.take (k+1):=by
 rw[List.take_add_one,h];rfl
theorem TU{w:World}{K:Nat}{cur xs:List Value}(h:aB w g e cur)(ht:cur.take K=xs)(hl:xs.length=K):∀j u,xs[j]? =some u->w.cell? ((⟨g,0,none⟩:Addr).add j)=some u:=by
 intro j u hu;rw[Addr.add_lit];have:=h.cell j u (take_at (by rw[hl];exact ht) hu);simpa using this
def gD(w w':World)(e:TypeId)(v v':Value)(xs news:List Value):Prop:=
 (∃g c cur,v= .slice (some ⟨g,0,none⟩) xs.length c/\aB w g e cur/\cur.length=c/\cur.take xs.length=xs/\xs.length+news.length<=c/\c<=maxLen/\
  v'= .slice (some ⟨g,0,none⟩) (xs.length+news.length) c/\w'=w.setRow g (xs++news++cur.drop (xs.length+news.length)).toArray)\/
 (∃c cells,v'= .slice (some ⟨w.heap.size,0,none⟩) (xs.length+news.length) c/\w'=w.drew.alloc (.cells (xs++news++cells).toArray e)/\xs.length+news.length+cells.length=c/\c<=maxLen)\/
 (v= .slice none 0 0/\xs= []/\news= []/\v'=v/\w'=w)
theorem wY{w:World}{L:List Value}(h:aB w g e L)(M:List Value):aB (w.setRow g M.toArray) g e M:=setRow_heap w g _ _ e _ h
theorem gD.own{w w':World}{xs news:List Value}(h:gD w w' e v v' xs news):bK w' e v' (xs++news):=by
 rcases h with⟨g,c,cur,rfl,hr,hl,ht,eh,hm,rfl,rfl⟩|⟨c,cells,rfl,rfl,hc,hm⟩|⟨rfl,rfl,rfl,rfl,rfl⟩
 .refine .inr ⟨g,c,_,by simp,wY hr _,by simpa using eh,hm,by simp;omega,?_⟩;rw[List.take_left]
 .refine .inr ⟨w.heap.size,c,xs++news++cells,by simp,blk_alloc_new w.drew _,by simp;omega,hm,by simp;omega,?_⟩;rw[List.take_left]
 .exact .inl ⟨rfl,rfl⟩
theorem gD.grown{w w':World}{xs news:List Value}(h:gD w w' e v v' xs news):w.grownBy w' v.ownBlock:=by
 rcases h with⟨g,c,cur,rfl,hr,hl,ht,eh,hm,rfl,rfl⟩|⟨c,cells,rfl,rfl,hc,hm⟩|⟨rfl,rfl,rfl,rfl,rfl⟩
 .exact⟨rfl,rfl,rfl,by simp[World.setRow],fun k _ hk=>setRow_other w g k _ (fun e=>hk (by simp[Value.ownBlock,e]))⟩
 .exact⟨rfl,rfl,rfl,by simp,fun k hk _=>blk_alloc_lt w.drew _ k hk⟩
 .exact World.grownBy.refl _ _
theorem gD.below{w0 w w':World}{xs news:List Value}(h:gD w w' e v v' xs news)(hb:Below B w0 w)(hB:B<=w.heap.size)(hv:∀k,v.ownBlock=some k->B<=k):Below B w0 w':=
 hb.grown h.grown hB hv
theorem gD.block{w w':World}{xs news:List Value}(h:gD w w' e v v' xs news):v'.ownBlock=v.ownBlock\/v'.ownBlock=some w.heap.size:=by
 rcases h with⟨g,c,cur,rfl,hr,hl,ht,eh,hm,rfl,rfl⟩|⟨c,cells,rfl,rfl,hc,hm⟩|⟨rfl,rfl,rfl,rfl,rfl⟩
 .exact .inl rfl
 .exact .inr rfl
 .exact .inl rfl
theorem gD.from{w w':World}{xs news:List Value}(h:gD w w' e v v' xs news)(hB:B<=w.heap.size)(hv:∀k,v.ownBlock=some k->B<=k):∀k,v'.ownBlock=some k->B<=k:=by
 intro k hk;rcases h.block with e|e
 .exact hv k (e▸hk)
 .rw[e]at hk;simp at hk;omega
theorem gD.other{w w':World}{xs news L:List Value}(h:gD w w' e v v' xs news)(hr:aB w g t L)(bd:v.ownBlock≠some g):aB w' g t L:=
 hr.of_block (h.grown.block g hr.lt (fun e=>bd e.symm))
section
variable {P:Program} (w:World)
theorem NS(t ty e:TypeId)(i:TypeInfo)(z:Value)(bytes:Nat)(ht:P.underlying t=some (.slice e))(hi:P.info? e=some i)(hz:i.zero=some z)(db:i.size=1)(lR:i.bytes=bytes)(rK:z.cells.size=1)
  (v:Value)(xs:List Value)(br:bK w e v xs)(a:Addr)(m c:Nat)(news:List Value)(hl:news.length=m)(eC:∀j u,news[j]? =some u->w.cell? (a.add j)=some u)(h1:∀u∈news,u.oneCell'=true)
  (lB:xs.length+m<=maxLen)(dy:(xs.length+m)*bytes<=140737488355328):
  ∃v' w',(Builtin.append_ #[t,t] ty #[v,.slice (some a) m c]).run P w= .ok v' w'/\gD w w' e v v' xs news:=by
 subst hl;subst lR;have rI:xs.length+news.length<=9223372036854775807:=by simp only[maxLen]at lB;omega
 have lr:news.length=news.length*i.size:=by rw[db,Nat.mul_one]
 rcases br with⟨rfl,rfl⟩|⟨g,cap,cur,rfl,hg,py,gh,si,rh⟩
 .by_cases hm:news.length=0
  .have hn:news= []:=List.eq_nil_of_length_eq_zero hm;subst hn;refine⟨.slice none 0 0,w,?_,.inr (.inr ⟨rfl,rfl,rfl,rfl,rfl⟩)⟩;simp[Builtin.append_,run_underlying ht,sizeOf,typeInfo,hi,Builtin.lenOf,Builtin.firstCells,loadCells,loadCellsFrom]
  .have hr:=run_append_nil (P:=P) w t ty e i z ht hi hz a news.length c news lr eC (by omega) (by simp at rI;omega) (by simp at dy;omega);refine⟨_,_,hr,.inr (.inl ⟨grownCap w news.length 0 e,(Builtin.zeroCells z.cells (grownCap w news.length 0 e-news.length)).toList,by simp,by congr 2;apply Array.ext';simp,?_,?_⟩)⟩
   .have eJ:=grownCap_ge w news.length 0 e;simp[size_zeroCells,rK];omega
   .exact grownCap_le_maxLen w _ 0 e (by simpa using lB)
 .by_cases eh:xs.length+news.length<=cap
  .have hr:=run_append_room (P:=P) w t ty e i ht hi g xs.length cap cur.toArray hg a news.length c news lr eC h1 eh (by rw[db];simp;omega);refine⟨_,_,hr,.inl ⟨g,cap,cur,rfl,hg,si,rh,eh,gh,rfl,?_⟩⟩;simp[db,rh]
  .have holds:∀j u,xs[j]? =some u->w.cell? ((⟨g,0,none⟩:Addr).add j)=some u:=by
    intro j u hu;rw[Addr.add_lit];have:=hg.cell j u (take_at rh hu);simpa using this
   have hr:=run_append_grow (P:=P) w t ty e i z ht hi hz ⟨g,0,none⟩ xs.length cap xs (by rw[db,Nat.mul_one]) holds a news.length c news lr eC (by omega) (by omega) (growslice_fits (by omega) dy);refine⟨_,_,hr,.inr (.inl ⟨grownCap w (xs.length+news.length) cap e,(Builtin.zeroCells z.cells (grownCap w (xs.length+news.length) cap e-(xs.length+news.length))).toList,rfl,by congr 2;apply Array.ext';simp,?_,?_⟩)⟩
   .have eJ:=grownCap_ge w (xs.length+news.length) cap e;simp[size_zeroCells,rK];omega
   .exact grownCap_le_maxLen w _ cap e lB
theorem Zq{K:Act->World->Prop}{Q:Exit->Act->World->Prop}(s x:Operand)(t:TypeId)
  (ho:o.op= .call {callee:=.builtin .append,args:=#[s,x],argTypes:=#[t,t]})
  (e:TypeId)(i:TypeInfo)(z:Value)(bytes:Nat)(ht:P.underlying t=some (.slice e))(hi:P.info? e=some i)(hz:i.zero=some z)(db:i.size=1)(lR:i.bytes=bytes)(rK:z.cells.size=1)
  (v:Value)(xs:List Value)(hs:a.eval s=v)(br:bK w e v xs)
  (ad:Addr)(m c:Nat)(news:List Value)(hx:a.eval x= .slice (some ad) m c)(hl:news.length=m)(eC:∀j u,news[j]? =some u->w.cell? (ad.add j)=some u)(h1:∀u∈news,u.oneCell'=true)
  (lB:xs.length+m<=maxLen)(dy:(xs.length+m)*bytes<=140737488355328)
  (h:∀v' w',gD w w' e v v' xs news->K (a.put o.dst v') w'):o.wp P a w K Q:=by
 obtain⟨v',w',hr,h2⟩:=NS (P:=P) w t o.type e i z bytes ht hi hz db lR rK v xs br ad m c news hl eC h1 lB dy;unfold Oper.wp execOp;simp only[ho,resolve,invoke,builtin,Sem.run_bind,Sem.run_pure,Result.andThen_ok,List.map_toArray,List.map_cons,List.map_nil,hs,hx,hr];exact h v' w' h2
theorem dG{ops:Array Oper}{rest:List Oper}{Q:Exit->Act->World->Prop}(k_:o.guard=none)(s x:Operand)(t:TypeId)
  (ho:o.op= .call {callee:=.builtin .append,args:=#[s,x],argTypes:=#[t,t]})
  (e:TypeId)(i:TypeInfo)(z:Value)(bytes:Nat)(ht:P.underlying t=some (.slice e))(hi:P.info? e=some i)(hz:i.zero=some z)(db:i.size=1)(lR:i.bytes=bytes)(rK:z.cells.size=1)
  (v:Value)(xs:List Value)(hs:a.eval s=v)(br:bK w e v xs)
  (ad:Addr)(m c:Nat)(news:List Value)(hx:a.eval x= .slice (some ad) m c)(hl:news.length=m)(eC:∀j u,news[j]? =some u->w.cell? (ad.add j)=some u)(h1:∀u∈news,u.oneCell'=true)
  (lB:xs.length+m<=maxLen)(dy:(xs.length+m)*bytes<=140737488355328)
  (h:∀v' w',gD w w' e v v' xs news->wpList P ops Q rest (a.put o.dst v') w'):wpList P ops Q (o::rest) a w:=
 wpList_plain k_ fun _ hK=>Zq w s x t ho e i z bytes ht hi hz db lR rK v xs hs br ad m c news hx hl eC h1 lB dy fun v' w' h2=>hK _ _ (h v' w' h2)
theorem qF{ops:Array Oper}{rest:List Oper}{Q:Exit->Act->World->Prop}
  (hg:o.guard=none)(l c:Operand)(t:TypeId)(a_:o.op=Op.makeSlice t l c)
  (e:TypeId)(i:TypeInfo)(z:Value)(ht:P.underlying t=some (.slice e))(hi:P.info? e=some i)(hz:i.zero=some z)(db:i.size=1)(cJ:z.cells=#[z])
  (kl kc:IntKind)(m n:Nat)(hl:a.eval l= .int kl (m:Int))(hc:a.eval c= .int kc (n:Int))(Eg:m<=n)(dy:i.bytes*n<=281474976710656)(lB:n<=9223372036854775807)
  (hK:wpList P ops Q rest (a.put o.dst (.slice (some ⟨w.heap.size,0,none⟩) m n)) (w.alloc (.cells (madeCells #[z] n) e))):
  wpList P ops Q (o::rest) a w:=by
 refine wpList_plain hg fun K hK'=>?_;have cU:(i.bytes:Int)*(n:Int)<=281474976710656:=by
  have h:((i.bytes*n:Nat):Int)<=281474976710656:=by omega
  rwa [Int.natCast_mul]at h
 have hr:=run_make (P:=P) w t e i z ht hi hz kl kc m n (by omega) (by omega) cU (by omega);simp only[Int.toNat_natCast,db,Nat.mul_one,cJ]at hr;unfold Oper.wp;simp[execOp,a_,hl,hc,hr,Result.andThen];exact hK' _ _ hK
theorem Qh(w:World)(e:TypeId)(z:Value)(n:Nat)(hm:n<=maxLen):bK (w.alloc (.cells (madeCells #[z] n) e)) e (.slice (some ⟨w.heap.size,0,none⟩) 0 n) []:=
 .inr ⟨w.heap.size,n,_,rfl,jA w z n e,by simp,hm,by simp,by simp⟩
theorem qh{α:Type}(L:List α)(z:α)(n m:Nat)(h:n+m<=L.length):(fill L z n).take n++(L.drop n).take m++(fill L z n).drop (n+m)=fill L z (n+m):=by
 unfold fill;have e1:(L.take n++List.replicate (L.length-n) z).take n=L.take n:=by
  have:(L.take n).length=n:=by simp;omega
  rw[List.take_append_of_le_length (by omega),List.take_of_length_le (by omega)]
 have e2:(L.take n++List.replicate (L.length-n) z).drop (n+m)=List.replicate (L.length-(n+m)) z:=by
  have:(L.take n).length=n:=by simp;omega
  rw[List.drop_append,List.drop_of_length_le (by omega),List.nil_append,List.drop_replicate,this];congr 1;omega
 rw[e1,e2,List.take_add]
theorem fP{ops:Array Oper}{rest:List Oper}{Q:Exit->Act->World->Prop}(k_:o.guard=none)(s x:Operand)(t:TypeId)
  (ho:o.op= .call {callee:=.builtin .append,args:=#[s,x],argTypes:=#[t,t]})
  (e:TypeId)(i:TypeInfo)(ht:P.underlying t=some (.slice e))(hi:P.info? e=some i)(db:i.size=1)
  (g n c:Nat)(L:List Value)(z:Value)(hs:a.eval s= .slice (some ⟨g,0,none⟩) n c)(hL:L.length=c)(hr:aB w g e (fill L z n))
  (ad:Addr)(m cx:Nat)(news:List Value)(hx:a.eval x= .slice (some ad) m cx)(hl:news.length=m)(eC:∀j u,news[j]? =some u->w.cell? (ad.add j)=some u)(h1:∀u∈news,u.oneCell'=true)
  (hd:(L.drop n).take m=news)(eh:n+m<=c)
  (h:∀w',aB w' g e (fill L z (n+m))->w.grownBy w' (some g)->wpList P ops Q rest (a.put o.dst (.slice (some ⟨g,0,none⟩) (n+m) c)) w'):wpList P ops Q (o::rest) a w:=by
 refine wpList_plain k_ fun K hK=>?_;subst hL;have Sk:(fill L z n).length=L.length:=Ju _ _ _ (by omega);have ag:=run_append_room (P:=P) w t o.type e i ht hi g n L.length (fill L z n).toArray hr ad m cx news (by rw[db,Nat.mul_one];exact hl) eC h1 eh (by rw[db];simp[Sk];omega);unfold Oper.wp execOp;simp only[ho,resolve,invoke,builtin,Sem.run_bind,Sem.run_pure,Result.andThen_ok,List.map_toArray,List.map_cons,List.map_nil,hs,hx,ag];refine hK _ _ (h _ ?_ ?_)
 .have:=wY hr ((fill L z n).take n++news++(fill L z n).drop (n+m));rw[<-hd,qh L z n m eh]at this;rw[db,hl];simpa[qh,hd,<-qh L z n m eh]using this
 .exact⟨rfl,rfl,rfl,by simp[World.setRow],fun k _ hk=>setRow_other w g k _ (fun e=>hk (by rw[e]))⟩
end
structure Kp(X:Nat->Prop)(w w':World):Prop where
 os:w'.os=w.os
 tape:w'.tape=w.tape
 output:w'.output=w.output
 size:w.heap.size<=w'.heap.size
 block:∀k,k<w.heap.size->¬X k->w'.heap[k]? =w.heap[k]?
namespace Kp
variable {X:Nat->Prop} {w w' w'':World}
theorem refl(X:Nat->Prop)(w:World):Kp X w w:=⟨rfl,rfl,rfl,Nat.le_refl _,fun _ _ _=>rfl⟩
theorem alloc(h:Kp X w w')(o:Obj):Kp X w (w'.alloc o):=
 ⟨h.os,h.tape,h.output,by have:=h.size;simp;omega,fun k hk hx=>(blk_alloc_lt _ _ _ (Nat.lt_of_lt_of_le hk h.size)).trans (h.block k hk hx)⟩
theorem drew(h:Kp X w w'):Kp X w w'.drew:=⟨h.os,h.tape,h.output,h.size,h.block⟩
theorem setCell(h:Kp X w w'){a:Addr}(ha:X a.block\/w.heap.size<=a.block)(v:Value):Kp X w (w'.setCell a v):=
 ⟨h.os,h.tape,h.output,by simpa[World.setCell]using h.size,fun k hk hx=>(blk_setCell_other _ _ _ _ (by rintro rfl;rcases ha with h1|h1;exact hx h1;omega)).trans (h.block k hk hx)⟩
theorem grown{r:Option Nat}(h:Kp X w w')(hg:w'.grownBy w'' r)(hr:∀k,r=some k->X k\/w.heap.size<=k):Kp X w w'':=
 ⟨hg.os.trans h.os,hg.tape.trans h.tape,hg.output.trans h.output,Nat.le_trans h.size hg.size,fun k hk hx=>
  (hg.block k (Nat.lt_of_lt_of_le hk h.size) (fun e=>by rcases hr k e.symm with h1|h1;exact hx h1;omega)).trans (h.block k hk hx)⟩
theorem below(h:Kp X w w')(hb:Below w'.heap.size w' w''):Kp X w w'':=
 ⟨hb.os.trans h.os,hb.tape.trans h.tape,hb.output.trans h.output,Nat.le_trans h.size hb.size,fun k hk hx=>(hb.block k (Nat.lt_of_lt_of_le hk h.size)).trans (h.block k hk hx)⟩
theorem of_below(h:Below w.heap.size w w'):Kp X w w':=(Kp.refl X w).below h
theorem trans(h:Kp X w w')(h':Kp X w' w''):Kp X w w'':=
 ⟨h'.os.trans h.os,h'.tape.trans h.tape,h'.output.trans h.output,Nat.le_trans h.size h'.size,fun k hk hx=>(h'.block k (Nat.lt_of_lt_of_le hk h.size) hx).trans (h.block k hk hx)⟩
theorem join{Y:Nat->Prop}(h:Kp X w w')(h':Kp Y w' w'')(hy:∀k,Y k->X k\/w.heap.size<=k):Kp X w w'':=
 ⟨h'.os.trans h.os,h'.tape.trans h.tape,h'.output.trans h.output,Nat.le_trans h.size h'.size,fun k hk hx=>(h'.block k (Nat.lt_of_lt_of_le hk h.size) (fun e=>by rcases hy k e with h1|h1;exact hx h1;omega)).trans (h.block k hk hx)⟩
theorem mono{Y:Nat->Prop}(h:Kp X w w')(CL:∀k,X k->Y k):Kp Y w w':=⟨h.os,h.tape,h.output,h.size,fun k hk hy=>h.block k hk (fun hx=>hy (CL k hx))⟩
theorem row{L:List Value}(h:Kp X w w')(hr:aB w g t L)(hg:¬X g):aB w' g t L:=hr.of_block (h.block g hr.lt hg)
theorem own{xs:List Value}(h:Kp X w w')(ho:bK w e v xs)(hg:∀g,v.ownBlock=some g->¬X g):bK w' e v xs:=ho.of_block (fun g hv=>h.block g (ho.lt hv) (hg g hv))
theorem toBelow(h:Kp X w w')(hX:∀k,X k->B<=k)(hB:B<=w.heap.size):Below B w w':=
 ⟨h.os,h.tape,h.output,h.size,fun k hk=>h.block k (by omega) (fun hx=>by have:=hX k hx;omega)⟩
end Kp
end Go.Proofs.YtmfpiodlecapiaaGreatDoor
namespace Go.Proofs.YtmfpiodlecapiaaGreatDoor.Pk
open Go.Proofs.Tryz
variable{s i j n m p z q:Nat}{bs D:List Nat}
def weight(j i:Nat):Nat:=Gf.inv ((255-j) ^^^ i)
def eG(S bs:List Nat)(t:Nat):List Nat:=List.zipWith (fun x y=>x ^^^ Gf.mul y t) S bs
theorem oG(S bs:List Nat)(t:Nat)(h:bs.length=S.length):(eG S bs t).length=S.length:=by simp[eG,h]
theorem addTimes_at(S bs:List Nat)(t k:Nat)(h:bs.length=S.length)(hk:k<S.length):(eG S bs t)[k]? =some (S[k]?.getD 0 ^^^ Gf.mul (bs[k]?.getD 0) t):=by
 simp[eG,hk,h]
def piece(blk:List Nat)(s i:Nat):List Nat:=(blk.drop (i*s)).take s
def sumTo(blk:List Nat)(s j:Nat):Nat->List Nat
 |0=>List.replicate s 0
 |k+1=>eG (sumTo blk s j k) (piece blk s k) (weight j k)
theorem piece_length{blk:List Nat}{K:Nat}(h:blk.length=K*s)(hi:i<K):(piece blk s i).length=s:=by
 have:=Nat.mul_le_mul_right s hi;rw[Nat.succ_mul]at this;simp[piece];omega
theorem m_{blk:List Nat}(h:∀x∈blk,x<256)(s i:Nat):∀x∈piece blk s i,x<256:=fun x hx=>h x (List.mem_of_mem_drop (List.mem_of_mem_take hx))
theorem piece_at{blk:List Nat}{c:Nat}(hc:c<s):(piece blk s i)[c]? =blk[i*s+c]? :=by simp[piece,hc]
theorem JR{S:List Nat}{t:Nat}(hS:∀x∈S,x<256)(hb:∀x∈bs,x<256)(ht:t<256):∀x∈eG S bs t,x<256:=by
 intro x hx;unfold eG at hx;rw[List.zipWith_eq_zipWith_take_min]at hx;simp only[List.mem_iff_getElem,List.getElem_zipWith]at hx;obtain⟨i,hi,rfl⟩:=hx;refine Gf.xor_lt (hS _ ?_) (Gf.mul_lt (hb _ ?_) ht)
 iterate 2 (·exact List.mem_of_mem_take (List.getElem_mem _))
theorem OO(hj:j<32)(hi:i<32):(255-j) ^^^ i≠0:=by
 intro h;have e:(255-j)=i:=by
  have:((255-j) ^^^ i) ^^^ i=0 ^^^ i:=by rw[h]
  rw[Nat.xor_assoc,Nat.xor_self,Nat.xor_zero,Nat.zero_xor]at this;exact this
 omega
theorem iJ(hj:j<32)(hi:i<32):weight j i<256:=Gf.inv_lt (Gf.xor_lt (by omega) (by omega)) (OO hj hi)
theorem sumTo_length{blk:List Nat}{K:Nat}(h:blk.length=K*s):∀k,k<=K->(sumTo blk s j k).length=s:=by
 intro k;induction k with
 |zero=>intro _;simp[sumTo]
 |succ k ih=>
  intro hk;have h1:=ih (by omega);rw[sumTo,oG _ _ _ (by rw[piece_length h hk,h1]),h1]
theorem Ho{blk:List Nat}(hb:∀x∈blk,x<256)(hj:j<32):∀k,k<=32->∀x∈sumTo blk s j k,x<256:=by
 intro k;induction k with
 |zero=>intro _ x hx;simp[sumTo]at hx;omega
 |succ k ih=>intro hk;exact JR (ih (by omega)) (m_ hb s k) (iJ hj (by omega))
def pieceN(blk:List Nat)(s K n:Nat):List Nat:=if n<K then piece blk s n else sumTo blk s (n-K) K
theorem dW{blk:List Nat}{K:Nat}(h:blk.length=K*s):(pieceN blk s K n).length=s:=by
 unfold pieceN;split
 .exact piece_length h (by assumption)
 .exact sumTo_length h K (Nat.le_refl _)
theorem P9{blk:List Nat}{K:Nat}(hb:∀x∈blk,x<256)(hK:K<=32)(hn:n<K+32):∀x∈pieceN blk s K n,x<256:=by
 unfold pieceN;split
 .exact m_ hb s n
 .exact Ho hb (by omega) K hK
def head(id len s m p z q:Nat):List Nat:= [70,id/256,id%256,len/256,len%256,s,m,p,z,q]
def packet(id len s m p z q:Nat)(bs:List Nat):List Nat:=head id len s m p z q++bs
def iy(id len s m p z K:Nat)(blk:List Nat):List (List Nat):=(List.range (K+p)).map (fun q=>packet id len s m p z q (pieceN blk s K q))
theorem lD(id len s m p z K:Nat)(blk:List Nat):(iy id len s m p z K blk).length=K+p:=by simp[iy]
theorem zC{id len K:Nat}{blk:List Nat}(h:q<K+p):(iy id len s m p z K blk)[q]? =some (packet id len s m p z q (pieceN blk s K q)):=by simp[iy,h]
def mD(D L:List Nat)(s z:Nat):List Nat:=(D.drop ((L.take z).sum*s)).take (L[z]?.getD 0*s)
def filled(obj:List Nat)(M:Nat):List Nat:=obj++List.replicate (M-obj.length) 0
def upTo(id len s m p:Nat)(L D:List Nat)(k:Nat):List (List Nat):=(List.range k).flatMap (fun z=>iy id len s m p z (L[z]?.getD 0) (mD D L s z))
theorem uX(id len s m p:Nat)(L D:List Nat)(k:Nat):upTo id len s m p L D (k+1)=upTo id len s m p L D k++iy id len s m p k (L[k]?.getD 0) (mD D L s k):=by
 simp[upTo,List.range_succ]
def packets(id:Nat)(obj:List Nat)(s m p:Nat):List (List Nat):=
 upTo id obj.length s m p (Cut.sizes obj.length s m) (filled obj (Cut.pieces obj.length s*s)) (Cut.sizes obj.length s m).length
theorem wF(id len s m p:Nat)(L D:List Nat):∀k,k<=L.length->(upTo id len s m p L D k).length=(L.take k).sum+k*p:=by
 intro k;induction k with
 |zero=>intro _;simp[upTo]
 |succ k ih=>
  intro hk;have e:L[k]? =some (L[k]?.getD 0):=by simp[show k<L.length by omega]
  rw[uX,List.length_append,ih (by omega),lD,List.take_add_one,e,Nat.succ_mul];simp;omega
def start(L:List Nat)(p z:Nat):Nat:=(L.take z).sum+z*p
theorem jy{L:List Nat}(h:z<L.length):start L p (z+1)=start L p z+(L[z]?.getD 0+p):=by
 have e:L[z]? =some (L[z]?.getD 0):=by simp[h]
 unfold start;rw[List.take_add_one,e,Nat.succ_mul];simp;omega
theorem rP{L:List Nat}:∀k,z<=k->k<=L.length->start L p z<=start L p k:=by
 intro k hk;induction hk with
 |refl=>intro _;exact Nat.le_refl _
 |@step m hm ih=>
  intro hk;have h:=jy (p:=p) (show m<L.length from hk);have:=ih (Nat.le_of_lt hk);show start L p z<=start L p (m+1);omega
theorem oZ{id len:Nat}{L:List Nat}{k:Nat}(hk:k<=L.length):(upTo id len s m p L D k).length=start L p k:=wF _ _ _ _ _ _ _ k hk
theorem WY{id len:Nat}{L:List Nat}:∀k,z<k->k<=L.length->i<L[z]?.getD 0+p->(upTo id len s m p L D k)[start L p z+i]? =some (packet id len s m p z i (pieceN (mD D L s z) s (L[z]?.getD 0) i)):=by
 intro k;induction k with
 |zero=>intro h;omega
 |succ k ih=>
  intro hz hk hi;rw[uX];by_cases hzk:z<k
  .have h1:=jy (L:=L) (p:=p) (show z<L.length by omega);have h2:=rP (L:=L) (p:=p) (z:=z+1) k hzk (by omega);rw[List.getElem?_append_left (by rw[oZ (by omega)];omega)];exact ih hzk (by omega) hi
  .have e:z=k:=by omega
   subst e;rw[List.getElem?_append_right (by rw[oZ (by omega)];omega),oZ (by omega),Nat.add_sub_cancel_left];exact zC hi
theorem BP{id len:Nat}(h:bs.length=s):(packet id len s m p z q bs).length=10+s:=by
 simp[packet,head,h];omega
end Go.Proofs.YtmfpiodlecapiaaGreatDoor.Pk
namespace Go.Proofs.YtmfpiodlecapiaaGreatDoor
open Go.Proofs.Tryz
open Go.RowKit Go.Deep
attribute [local go_sem↓] Go.wp_at_zero Go.wp_at_succ
variable{k o t i:Nat}{R bs:List Nat}
def Bytes(w:World)(v:Value)(bs:List Nat):Prop:=
 ∃b off cap,v= .slice (some ⟨b,off,none⟩) bs.length cap/\bs.length<=cap/\(∀x∈bs,x<256)/\∀j,j<bs.length->w.cell? ⟨b,off+j,none⟩=some (.int .u8 ((bs[j]?.getD 0:Nat):Int))
theorem CK(g b off cap t n:Nat)(S bs:List Nat)(lr:Hid (S.length=n))(fS:Hid (bs.length=n))(hlen:n<=65536)(oB:∀x∈bs,x<256)(hS:∀x∈S,x<256)(ht:t<256)(w:World)
  (SD:b≠g)(hg:aB w g 5 (bO S))(hc:∀j,j<n->w.cell? ⟨b,off+j,none⟩=some (.int .u8 ((bs[j]?.getD 0:Nat):Int))):
  Calls prog 170 #[.slice (some ⟨g,0,none⟩) n n,.slice (some ⟨b,off,none⟩) n cap,.int .i64 t] w fun e w'=>
   e= .returned (.tuple #[])/\w.grownBy w' (some g)/\aB w' g 5 (bO (Pk.eG S bs t)):=by
 go_enter func170,ntmps170;go_wp2;have BB:Hid ((Pk.eG S bs t).length=S.length):=Pk.oG S bs t (by rw[lr.out,fS.out]);go_loopw [10] (fun x wr=>∃k:Nat,k<=n/\x= .int .i64 k/\w.grownBy wr (some g)/\aB wr g 5 (mix (bO (Pk.eG S bs t)) (bO S) k))
  (fun x _=>leftOf n (intOf x).toNat)
 case atStart=>exact⟨0,by omega,rfl,World.grownBy.refl _ _,by rw[Uj];exact hg⟩
 case round=>
  obtain⟨k,hk,rfl,lz,hr⟩:=hrel;by_cases se:k<n
  .have Er:k<S.length:=by rw[lr.out];exact se
   have vA:k<bs.length:=by rw[fS.out];exact se
   have Fu:wr.cell? ⟨b,off+k,none⟩=some (.int .u8 ((bs[k]?.getD 0:Nat):Int)):=lz.cell (hc k se) (by simpa using SD);have tk:wr.cell? ⟨g,k,none⟩=some (.int .u8 ((S[k]?.getD 0:Nat):Int)):=by
    apply hr.cell;rw[su _ _ _ (by simp[aP,BB.out]) (by simp[aP,Er])];exact gX Er
   have hf:=hr.frozen k;have hx:=getD_lt oB vA;have hy:=getD_lt hS Er;have hV:Hid ((bO (Pk.eG S bs t))[k]? =some (.int .u8 (((S[k]?.getD 0 ^^^ Gf.mul (bs[k]?.getD 0) t:Nat)):Int))):=by
    show _=_;have:=Pk.addTimes_at S bs t k (by rw[lr.out,fS.out]) Er;simp[bO,this]
   have hR:=hide hr;have hG:=hide lz
   clear hr lz;have hC:=hide hc;clear hc Er vA;revert Fu tk hx hy hV;generalize bs[k]?.getD 0=x;generalize S[k]?.getD 0=y;intro Fu tk hx hy hV;have hm:=Gf.mul_lt hx ht;have M:=hide (fun w=>pR x t hx ht w);revert hm M hV;generalize Gf.mul x t=m;intro hV hm M;have hxm:=Gf.xor_lt hy hm;have sg:(0:Int)<=(k:Int):=by omega
   have qi:(k:Int)<(n:Int):=by omega
   have hwx:IntKind.i64.wrap (x:Int)=(x:Int):=aH _ (by omega) (by omega);have hwy:IntKind.i64.wrap (y:Int)=(y:Int):=aH _ (by omega) (by omega);have PQ:IntKind.u8.wrap ((y ^^^ m:Nat):Int)=((y ^^^ m:Nat):Int):=dw _ (by omega) (by omega);go_wp2_with fail
   go_region_with (first|(go_at_call 112;refine(M.out _).mono ?_;rintro _ _ ⟨rfl,rfl⟩)|(go_at_call 168;refine(uP _ _ (by omega) (by omega) _).mono ?_;rintro _ _ ⟨rfl,rfl⟩))
   all_goals
    go_wp2;go_roundw
    case rel=>
     refine⟨k+1,by omega,by go_num,grownBy_drew (grownBy_setCell hG.out _ _),?_⟩;have:=hR.out.set k (.int .u8 ((y ^^^ m:Nat):Int));rw[Fg _ _ _ _ (by simp[aP,BB.out]) hV.out]at this;exact this.drew
    case measure=>refine aW ?_ ?_<;>simp only[intOf]<;>omega
  .have e:k=n:=by omega
   subst e;have fR:aB wr g 5 (bO (Pk.eG S bs t)):=by
    have h2:=XV (bO (Pk.eG S bs t)) (bO S) (by simp[aP,BB.out]);rw[aP,lr.out]at h2;rw[h2]at hr;exact hr
   have hR:=hide fR;have hG:=hide lz
   clear hr fR lz;go_wp2;go_end0;exact⟨rfl,hG.out,hR.out⟩
theorem oQ(j i:Nat)(hj:j<32)(hi:i<32)(w:World):
  Calls prog 171 #[.int .i64 j,.int .i64 i] w fun e w'=>e= .returned (.int .i64 (Pk.weight j i:Nat))/\w'=w:=by
 have hx:=Gf.xor_lt (a:=255-j) (b:=i) (by omega) (by omega);have hA:=hide (fun w=>uP (255-j) i (by omega) (by omega) w);have hI:=hide (fun w=>nP ((255-j) ^^^ i) hx w);have Cf:Hid (∀w,Calls prog 168 #[.int .i64 (255-(j:Int)),.int .i64 i] w fun e w'=>e= .returned (.int .i64 (((255-j) ^^^ i:Nat):Int))/\w'=w):=by
  have e:((255-j:Nat):Int)=255-(j:Int):=by omega
  intro w;have:=hA.out w;rw[e]at this;exact this
 clear hA;unfold Pk.weight;revert hI Cf hx;generalize (255-j) ^^^ i=x;intro hx hI Cf;revert hI;generalize Gf.inv x=y;intro hI;go_enter func171,ntmps171;go_wp2_with first|(go_at_call 168;refine(Cf.out _).mono ?_;rintro _ _ ⟨rfl,rfl⟩)|(go_at_call 113;refine(hI.out _).mono ?_;rintro _ _ ⟨rfl,rfl⟩)
 go_ret;exact⟨rfl,rfl⟩
theorem Tryz.infoByte:(prog.info? 5).map (fun i=>(i.zero,i.size,i.bytes))=some (some (.int .u8 0),1,1):=by kernel_rfl
def ES(b off s c:Nat)(i:Nat):Value:=.slice (some ⟨b,off+i*s,none⟩) s (c-i*s)
def qO(b off s c K:Nat):List Value:=(List.range K).map (ES b off s c)
theorem EU{b off s c K:Nat}(h:k<K):(qO b off s c K)[k]? =some (ES b off s c k):=by simp[qO,h]
theorem eP(b off s c K:Nat):(qO b off s c K).length=K:=by simp[qO]
theorem Ld(b off s c K n:Nat)(hn:Hid (n=K*s))(hs:1<=s)(kq:n<=65536)(hK:K<=65536)(hc:n<=c)(ef:c<=9223372036854775807)(w:World):
  Calls prog 115 #[.slice (some ⟨b,off,none⟩) n c,.int .i64 s] w fun e w'=>
   ∃v,e= .returned v/\bK w' 28 v (qO b off s c K)/\(∀k,v.ownBlock=some k->w.heap.size<=k)/\Below w.heap.size w w':=by
 obtain⟨i0,hi,ep,cJ,cW⟩:=info_parts Tryz.infoBytes;go_enter func115,ntmps115;go_wp2;go_loopw [5,6] (fun v x wr=>∃k a:Nat,k<=K/\Hid (a=k*s)/\a<=n/\x= .int .i64 a/\bK wr 28 v ((qO b off s c K).take k)/\(∀k,v.ownBlock=some k->w.heap.size<=k)/\Below w.heap.size w wr)
  (fun _ x _=>leftOf n (intOf x).toNat)
 case atStart=>exact⟨0,0,by omega,(show Hid _ from by show 0=0*s;omega),by omega,rfl,by simpa using h_ _ _,by intro k hk;simp[Value.ownBlock]at hk,Below.refl _ _⟩
 case round=>
  obtain⟨k,a,hk,ha,Bm,rfl,br,fh,hb⟩:=hrel;by_cases ai:a<n
  .have hkK:k<K:=by
    have h1:=ha.out;have h2:=hn.out
    rcases Nat.lt_or_ge k K with h|h
    .exact h
    .have:=Nat.mul_le_mul_right s h;omega
   have has:a+s<=n:=by
    have h1:=ha.out;have h2:=hn.out
    have:=Nat.mul_le_mul_right s hkK;rw[Nat.succ_mul]at this;omega
   have hO:=hide br;have Fq:=hide fh;have hB:=hide hb
   have hlen:Hid ((qO b off s c K).length=K):=eP _ _ _ _ _;have hV:Hid ((qO b off s c K)[k]? =some (.slice (some ⟨b,off+a,none⟩) s (c-a))):=by
    show _=_;rw[EU hkK];unfold ES;rw[ha.out]
   clear br fh hb;have h0a:(0:Int)<=(a:Int):=by omega
   have h0b:(a:Int)+(s:Int)<=(c:Int):=by omega
   go_wp2_with (at_builtin;refine dG _ rfl _ _ 25 rfl 28 i0 (.slice none 0 0) 24 underlying25 hi ep cJ cW rfl _ _ rfl (hO.out.alloc _) ⟨wr.heap.size,0,none⟩ 1 1 [.slice (some ⟨b,off+a,none⟩) s (c-a)] rfl rfl (cell_one_new _ _ _) (by intro u hu;simp at hu;subst hu;rfl) (by simp[maxLen];omega) (by simp;omega) ?_)
   intro v' w1 bt;have hA:=hide bt;clear bt;go_wp2;go_roundw
   case rel=>
    have cC:=hB.out.size;have mo:w.heap.size<=(wr.alloc (.cells #[.slice (some ⟨b,off+a,none⟩) s (c-a)] 28)).heap.size:=by simp;omega
    refine⟨k+1,a+s,by omega,?_,by omega,by go_num,?_,hA.out.from mo Fq.out,hA.out.below (hB.out.alloc cC _) mo Fq.out⟩
    .show a+s=(k+1)*s;rw[Nat.succ_mul,<-ha.out]
    .have:=hA.out.own;rwa [vC hV.out]at this
   case measure=>refine aW ?_ ?_<;>simp only[intOf]<;>omega
  .have e:k=K:=by
    have h1:=ha.out;have h2:=hn.out
    have:a=n:=by omega
    rcases Nat.lt_or_ge k K with h|h
    .have h3:=Nat.mul_le_mul_right s h;rw[Nat.succ_mul]at h3;omega
    .omega
   subst e;have hO:Hid (bK wr 28 u5 (qO b off s c k)):=by
    show bK _ _ _ _;rw[<-List.take_length (l:=qO b off s c k),eP];exact br
   have Fq:=hide fh;have hB:=hide hb
   clear br fh hb;go_wp2;go_ret;exact⟨_,rfl,hO.out,Fq.out,hB.out⟩
theorem Lh(b off s c K j gO dN:Nat)(cur:List Value)(blk:List Nat)(hl:Hid (blk.length=K*s))(hb:∀x∈blk,x<256)(hK:K<=32)(hj:j<32)(hs:1<=s)(eM:s<=65536)(w:World)
  (hO:aB w gO 28 cur)(sC:Hid (cur.take K=qO b off s c K))(cN:b<w.heap.size)
  (hc:∀q,q<K*s->w.cell? ⟨b,off+q,none⟩=some (.int .u8 ((blk[q]?.getD 0:Nat):Int))):
  Calls prog 116 #[.slice (some ⟨gO,0,none⟩) K dN,.int .i64 j,.int .i64 s] w fun e w'=>
   e= .returned (.slice (some ⟨w.heap.size,0,none⟩) s s)/\Below w.heap.size w w'/\aB w' w.heap.size 5 (bO (Pk.sumTo blk s j K)):=by
 obtain⟨i0,hi,ep,cJ,cW⟩:=info_parts Tryz.infoByte;have Yl:=hO.lt;have HO:=hide hO;have HC:=hide hc
 clear hO hc;go_enter func116,ntmps116;go_wp2_with (at_make;refine wpList_make_row _ rfl _ _ 28 rfl 5 i0 (.int .u8 0) underlying28 hi ep cJ rfl .i64 .i64 s rfl rfl (by rw[cW];omega) (by omega) ?_)
 have du:Below w.heap.size w (w.alloc (.cells (madeCells #[.int .u8 0] s) 5)):=(Below.refl _ _).alloc (Nat.le_refl _) _;have ff:aB (w.alloc (.cells (madeCells #[.int .u8 0] s) 5)) w.heap.size 5 (bO (Pk.sumTo blk s j 0)):=by
  have:=jA w (.int .u8 0) s 5;simpa[bO,Pk.sumTo]using this
 have oY:=hide du;have qq:=hide ff
 clear du ff;go_loopw [14] (fun x wr=>∃k:Nat,k<=K/\x= .int .i64 k/\Below w.heap.size w wr/\aB wr w.heap.size 5 (bO (Pk.sumTo blk s j k)))
  (fun x _=>leftOf K (intOf x).toNat)
 case atStart=>exact⟨0,by omega,rfl,oY.out,qq.out⟩
 case round=>
  obtain⟨k,hk,rfl,cX,hr⟩:=hrel;by_cases ai:k<K
  .have AW:wr.cell? ⟨gO,k,none⟩=some (.slice (some ⟨b,off+k*s,none⟩) s (c-k*s)):=by
    apply (HO.out.below cX Yl).cell;have:(cur.take K)[k]? =some (ES b off s c k):=by rw[sC.out];exact EU ai
    rw[List.getElem?_take,if_pos ai]at this;exact this
   have Vd:=hide (fun w=>oQ j k hj (by omega) w);have hA:Hid (Calls prog 170 #[.slice (some ⟨w.heap.size,0,none⟩) s s,.slice (some ⟨b,off+k*s,none⟩) s (c-k*s),.int .i64 (Pk.weight j k:Nat)] wr fun e w'=>
     e= .returned (.tuple #[])/\wr.grownBy w' (some w.heap.size)/\aB w' w.heap.size 5 (bO (Pk.sumTo blk s j (k+1)))):=by
    refine CK w.heap.size b (off+k*s) (c-k*s) (Pk.weight j k) s (Pk.sumTo blk s j k) (Pk.piece blk s k) (Pk.sumTo_length hl.out k hk) (Pk.piece_length hl.out ai) eM (Pk.m_ hb s k) (Pk.Ho hb hj k (by omega)) (Pk.iJ hj (by omega)) wr (by omega) hr ?_;intro q hq;have h3:=Nat.mul_le_mul_right s ai;rw[Nat.succ_mul]at h3;have:=HC.out (k*s+q) (by omega);rw[Pk.piece_at hq,Nat.add_assoc,cX.cell (by exact cN)];exact this
   have hB:=hide cX;clear cX hr;revert Vd hA;generalize Pk.weight j k=wt;intro Vd hA;revert AW hA;generalize off+k*s=o1;generalize c-k*s=c1;intro AW hA;go_wp2_with first|(go_at_call 171;refine(Vd.out _).mono ?_;rintro _ _ ⟨rfl,rfl⟩)|(go_at_call 170;refine hA.out.mono ?_;rintro _ w1 ⟨rfl,c_,dg⟩;replace c_:=hide c_;replace dg:=hide dg)
   go_roundw
   case rel=>exact⟨k+1,by omega,by go_num,hB.out.grown c_.out hB.out.size (by intro q hq;simp at hq;omega),dg.out⟩
   case measure=>refine aW ?_ ?_<;>simp only[intOf]<;>omega
  .have e:k=K:=by omega
   subst e;have hB:=hide cX;have hR:=hide hr
   clear cX hr;go_wp2;go_ret;exact⟨rfl,hB.out,hR.out⟩
def iw(R:List Nat)(o:Nat)(bs:List Nat)(t k:Nat):List Nat:=R.mapIdx fun i x=>if o<=i/\i<o+k then x ^^^ Gf.mul (bs[i-o]?.getD 0) t else x
theorem jk(R:List Nat)(o:Nat)(bs:List Nat)(t k:Nat):(iw R o bs t k).length=R.length:=by simp[iw]
theorem Nl(R:List Nat)(o:Nat)(bs:List Nat)(t:Nat):iw R o bs t 0=R:=by
 apply List.ext_getElem?;intro i;have:¬(o<=i/\i<o+0):=by omega
 simp only[iw,List.getElem?_mapIdx,if_neg this];simp
theorem qA(hi:i<R.length):(iw R o bs t k)[i]?.getD 0=if o<=i/\i<o+k then(R[i]?.getD 0) ^^^ Gf.mul (bs[i-o]?.getD 0) t else R[i]?.getD 0:=by
 simp[iw,hi]
theorem RP(h:o+k<R.length):(iw R o bs t k).set (o+k) ((R[o+k]?.getD 0) ^^^ Gf.mul (bs[k]?.getD 0) t)=iw R o bs t (k+1):=by
 apply List.ext_getElem?;intro i;by_cases e:o+k=i
 .subst e;have h1:o<=o+k/\o+k<o+(k+1):=by omega
  rw[List.getElem?_set_self (by rw[jk];exact h)];simp only[iw,List.getElem?_mapIdx,if_pos h1];simp[h,show o+k-o=k by omega]
 .rw[List.getElem?_set_ne e];simp only[iw,List.getElem?_mapIdx];have:(o<=i/\i<o+k)↔(o<=i/\i<o+(k+1)):=by omega
  simp[this]
theorem V6(hR:∀x∈R,x<256)(hb:∀x∈bs,x<256)(ht:t<256):∀x∈iw R o bs t k,x<256:=by
 intro x hx;obtain⟨i,hi,rfl⟩:=List.mem_iff_getElem.1 hx;have bh:i<R.length:=by rw[jk]at hi;exact hi
 have h1:(iw R o bs t k)[i]=(iw R o bs t k)[i]?.getD 0:=by simp[hi]
 have xC:R[i]?.getD 0<256:=getD_lt hR bh;rw[h1,qA bh];split
 .refine Gf.xor_lt xC (Gf.mul_lt ?_ ht);rcases Nat.lt_or_ge (i-o) bs.length with h|h
  .exact getD_lt hb h
  .rw[List.getElem?_eq_none (by omega)];decide
 .exact xC
theorem Nz(l:List Nat)(i x:Nat):(bO l).set i (.int .u8 (x:Int))=bO (l.set i x):=by simp[bO,List.map_set]
theorem oH(g o n2 cap2 b off cap t n:Nat)(R bs:List Nat)(fS:Hid (bs.length=n))(hlen:n<=65536)(kq:n<=n2)(hon:o+n<=R.length)(oB:∀x∈bs,x<256)(Tw:∀x∈R,x<256)(ht:t<256)(w:World)
  (SD:b≠g)(hg:aB w g 5 (bO R))(hc:∀j,j<n->w.cell? ⟨b,off+j,none⟩=some (.int .u8 ((bs[j]?.getD 0:Nat):Int))):
  Calls prog 170 #[.slice (some ⟨g,o,none⟩) n2 cap2,.slice (some ⟨b,off,none⟩) n cap,.int .i64 t] w fun e w'=>
   e= .returned (.tuple #[])/\w.grownBy w' (some g)/\aB w' g 5 (bO (iw R o bs t n)):=by
 have T6:=hide hg;have hC:=hide hc;have hRL:=hide hon
 clear hg hc hon;go_enter func170,ntmps170;go_wp2;go_loopw [10] (fun x wr=>∃k:Nat,k<=n/\x= .int .i64 k/\w.grownBy wr (some g)/\aB wr g 5 (bO (iw R o bs t k)))
  (fun x _=>leftOf n (intOf x).toNat)
 case atStart=>exact⟨0,by omega,rfl,World.grownBy.refl _ _,by rw[Nl];exact T6.out⟩
 case round=>
  obtain⟨k,hk,rfl,lz,hr⟩:=hrel;by_cases se:k<n
  .have U0:o+k<R.length:=by have:=hRL.out;omega
   have vA:k<bs.length:=by rw[fS.out];exact se
   have Fu:wr.cell? ⟨b,off+k,none⟩=some (.int .u8 ((bs[k]?.getD 0:Nat):Int)):=lz.cell (hC.out k se) (by simpa using SD);have tk:wr.cell? ⟨g,o+k,none⟩=some (.int .u8 ((R[o+k]?.getD 0:Nat):Int)):=by
    apply hr.cell;have:=gX (l:=iw R o bs t k) (i:=o+k) (by rw[jk];exact U0);rw[qA U0,if_neg (by omega)]at this;exact this
   have hf:=hr.frozen (o+k);have hx:=getD_lt oB vA;have hy:=getD_lt Tw U0;have hS:Hid ((bO (iw R o bs t k)).set (o+k) (.int .u8 (((R[o+k]?.getD 0 ^^^ Gf.mul (bs[k]?.getD 0) t:Nat)):Int))=bO (iw R o bs t (k+1))):=by
    show _=_;rw[Nz,RP U0]
   have hR:=hide hr;have hG:=hide lz
   clear hr lz U0 vA;revert Fu tk hx hy hS;generalize bs[k]?.getD 0=x;generalize R[o+k]?.getD 0=y;intro Fu tk hx hy hS;have hm:=Gf.mul_lt hx ht;have M:=hide (fun w=>pR x t hx ht w);revert hm M hS;generalize Gf.mul x t=m;intro hS hm M;have hxm:=Gf.xor_lt hy hm;have sg:(0:Int)<=(k:Int):=by omega
   have qi:(k:Int)<(n:Int):=by omega
   have ME:(k:Int)<(n2:Int):=by omega
   have hwx:IntKind.i64.wrap (x:Int)=(x:Int):=aH _ (by omega) (by omega);have hwy:IntKind.i64.wrap (y:Int)=(y:Int):=aH _ (by omega) (by omega);have PQ:IntKind.u8.wrap ((y ^^^ m:Nat):Int)=((y ^^^ m:Nat):Int):=dw _ (by omega) (by omega);go_wp2_with fail
   go_region_with (first|(go_at_call 112;refine(M.out _).mono ?_;rintro _ _ ⟨rfl,rfl⟩)|(go_at_call 168;refine(uP _ _ (by omega) (by omega) _).mono ?_;rintro _ _ ⟨rfl,rfl⟩))
   all_goals
    go_wp2;go_roundw
    case rel=>
     refine⟨k+1,by omega,by go_num,grownBy_drew (grownBy_setCell hG.out _ _),?_⟩;have:=hR.out.set (o+k) (.int .u8 ((y ^^^ m:Nat):Int));rw[hS.out]at this;exact this.drew
    case measure=>refine aW ?_ ?_<;>simp only[intOf]<;>omega
  .have e:k=n:=by omega
   subst e;have hR:=hide hr;have hG:=hide lz
   clear hr lz;go_wp2;go_end0;exact⟨rfl,hG.out,hR.out⟩
theorem FV(v:Value)(t:Nat)(w:World):Calls prog 170 #[v,.slice none 0 0,.int .i64 t] w fun e w'=>e= .returned (.tuple #[])/\w'=w:=by
 go_enter func170,ntmps170;go_wp2;go_loopw [10] (fun x wr=>x= .int .i64 0/\wr=w) (fun _ _=>0)
 case atStart=>exact⟨rfl,rfl⟩
 case round=>
  obtain⟨rfl,rfl⟩:=hrel;go_wp2;go_end0;exact⟨rfl,rfl⟩
def dZ(R:List Nat)(t k:Nat):List Nat:=R.mapIdx fun i x=>if i<k then Gf.mul x t else x
theorem kY(R:List Nat)(t k:Nat):(dZ R t k).length=R.length:=by simp[dZ]
theorem EM(R:List Nat)(t:Nat):dZ R t 0=R:=by
 apply List.ext_getElem?;intro i;simp[dZ]
theorem zk(hi:i<R.length):(dZ R t k)[i]?.getD 0=if i<k then Gf.mul (R[i]?.getD 0) t else R[i]?.getD 0:=by
 simp[dZ,hi]
theorem Ij(h:k<R.length):(dZ R t k).set k (Gf.mul (R[k]?.getD 0) t)=dZ R t (k+1):=by
 apply List.ext_getElem?;intro i;by_cases e:k=i
 .subst e;rw[List.getElem?_set_self (by rw[kY];exact h)];simp[dZ,h]
 .rw[List.getElem?_set_ne e];simp only[dZ,List.getElem?_mapIdx];have:(i<k)↔(i<k+1):=by omega
  simp[this]
theorem Lu(g cap t n:Nat)(R:List Nat)(hlR:Hid (R.length=n))(hlen:n<=65536)(Tw:∀x∈R,x<256)(ht:t<256)(w:World)(hg:aB w g 5 (bO R)):
  Calls prog 188 #[.slice (some ⟨g,0,none⟩) n cap,.int .i64 t] w fun e w'=>
   e= .returned (.tuple #[])/\w.grownBy w' (some g)/\aB w' g 5 (bO (dZ R t n)):=by
 have T6:=hide hg;clear hg;go_enter func188,ntmps188;go_wp2;go_loopw [8] (fun x wr=>∃k:Nat,k<=n/\x= .int .i64 k/\w.grownBy wr (some g)/\aB wr g 5 (bO (dZ R t k)))
  (fun x _=>leftOf n (intOf x).toNat)
 case atStart=>exact⟨0,by omega,rfl,World.grownBy.refl _ _,by rw[EM];exact T6.out⟩
 case round=>
  obtain⟨k,hk,rfl,lz,hr⟩:=hrel;by_cases se:k<n
  .have U0:k<R.length:=by rw[hlR.out];exact se
   have tk:wr.cell? ⟨g,k,none⟩=some (.int .u8 ((R[k]?.getD 0:Nat):Int)):=by
    apply hr.cell;have:=gX (l:=dZ R t k) (i:=k) (by rw[kY];exact U0);rw[zk U0,if_neg (by omega)]at this;exact this
   have hf:=hr.frozen k;have hy:=getD_lt Tw U0;have hS:Hid ((bO (dZ R t k)).set k (.int .u8 ((Gf.mul (R[k]?.getD 0) t:Nat):Int))=bO (dZ R t (k+1))):=by
    show _=_;rw[Nz,Ij U0]
   have hR:=hide hr;have hG:=hide lz
   clear hr lz U0;revert tk hy hS;generalize R[k]?.getD 0=y;intro tk hy hS;have hm:=Gf.mul_lt hy ht;have M:=hide (fun w=>pR y t hy ht w);revert hm M hS;generalize Gf.mul y t=m;intro hS hm M;have sg:(0:Int)<=(k:Int):=by omega
   have qi:(k:Int)<(n:Int):=by omega
   have hwy:IntKind.i64.wrap (y:Int)=(y:Int):=aH _ (by omega) (by omega);have PQ:IntKind.u8.wrap (m:Int)=(m:Int):=dw _ (by omega) (by omega);go_wp2_with (go_at_call 112;refine(M.out _).mono ?_;rintro _ _ ⟨rfl,rfl⟩)
   go_roundw
   case rel=>
    refine⟨k+1,by omega,by go_num,grownBy_setCell hG.out _ _,?_⟩;have:=hR.out.set k (.int .u8 (m:Int));rw[hS.out]at this;exact this
   case measure=>refine aW ?_ ?_<;>simp only[intOf]<;>omega
  .have e:k=n:=by omega
   subst e;have hR:=hide hr;have hG:=hide lz
   clear hr lz;go_wp2;go_end0;exact⟨rfl,hG.out,hR.out⟩
end Go.Proofs.YtmfpiodlecapiaaGreatDoor
namespace Go.Proofs.YtmfpiodlecapiaaGreatDoor.Gf
open Go.Proofs.Tryz
variable{a b c x:Nat}{p:List Nat}{q:Nat×Nat}{l:List (Nat×Nat)}
theorem xor_eq_zero(h:a ^^^ b=0):a=b:=by
 have:(a ^^^ b) ^^^ b=0 ^^^ b:=by rw[h]
 rwa [Nat.xor_assoc,Nat.xor_self,Nat.xor_zero,Nat.zero_xor]at this
theorem oM(ha:a<256)(hb:b<256)(h:mul a b=0)(h0:a≠0):b=0:=by
 rcases Nat.eq_zero_or_pos b with h1|h1
 .exact h1
 .exact absurd h (nN ha hb h0 (by omega))
def ev:List Nat->Nat->Nat
 | [],_=>0
 |a::p,x=>a ^^^ mul x (ev p x)
def Ok(p:List Nat):Prop:=∀a∈p,a<256
theorem Ok.cons{a:Nat}{p:List Nat}(ha:a<256)(h:Ok p):Ok (a::p):=fun b hb=>by
 rcases List.mem_cons.1 hb with rfl|hb
 .exact ha
 .exact h b hb
theorem Ok.head(h:Ok (a::p)):a<256:=h a (List.mem_cons_self ..)
theorem Ok.tail(h:Ok (a::p)):Ok p:=fun b hb=>h b (List.mem_cons_of_mem _ hb)
theorem ku:∀{p:List Nat} {x:Nat},Ok p->x<256->ev p x<256
 | [],_,_,_=>by simp[ev]
 |_::_,_,h,hx=>xor_lt h.head (mul_lt hx (ku h.tail hx))
def quo(r:Nat):List Nat->List Nat
 | []=> []
 | [_]=> []
 |_::b::p=>ev (b::p) r::quo r (b::p)
theorem zq(r:Nat):∀p:List Nat,(quo r p).length=p.length-1
 | []=>rfl
 | [_]=>rfl
 |_::b::p=>by rw[quo,List.length_cons,zq r (b::p)];simp
theorem ER{r:Nat}(hr:r<256):∀{p:List Nat},Ok p->Ok (quo r p)
 | [],_=>fun _ h=>by cases h
 | [_],_=>fun _ h=>by cases h
 |_::_::_,h=>Ok.cons (ku h.tail hr) (ER hr h.tail)
theorem LD{r x:Nat}(hr:r<256)(hx:x<256):∀{p:List Nat},Ok p->ev p x=mul (x ^^^ r) (ev (quo r p) x) ^^^ ev p r
 | [],_=>by simp[ev,quo,mul_zero (xor_lt hx hr)]
 | [a],h=>by simp[ev,quo,mul_zero (xor_lt hx hr),mul_zero hx,mul_zero hr]
 |a::b::p,h=>by
  have ih:=LD hr hx h.tail;have hq:=ku (ER hr h.tail) hx;have hc:=ku h.tail hr;have PF:=xor_lt hx hr;show a ^^^ mul x (ev (b::p) x)=mul (x ^^^ r) (ev (b::p) r ^^^ mul x (ev (quo r (b::p)) x)) ^^^ (a ^^^ mul r (ev (b::p) r));rw[ih];generalize ev (quo r (b::p)) x=q at*;generalize ev (b::p) r=c at*;rw[mul_add,mul_add,add_mul hx hr hc];have e:mul x (mul (x ^^^ r) q)=mul (x ^^^ r) (mul x q):=by
   rw[<-mul_assoc hx PF hq,mul_comm hx PF,mul_assoc PF hx hq]
  rw[e];generalize mul (x ^^^ r) (mul x q)=u;generalize mul x c=v;generalize mul r c=t;apply Nat.eq_of_testBit_eq;intro i;simp only[Nat.testBit_xor];cases a.testBit i<;>cases u.testBit i<;>cases v.testBit i<;>cases t.testBit i<;>rfl
theorem Oz:∀(rs:List Nat) (p:List Nat),rs.Nodup->(∀r∈rs,r<256)->Ok p->p.length<=rs.length->(∀r∈rs,ev p r=0)->∀x,x<256->ev p x=0
 |[],p,_,_,_,hl,_,x,_=>by
  have:p= []:=List.eq_nil_of_length_eq_zero (by simpa using hl);subst this;rfl
 |r::rs,p,hn,hr,hp,hl,h0,x,hx=>by
  have ff:=hr r (List.mem_cons_self ..);have hq:=Oz rs (quo r p) (List.nodup_cons.1 hn).2 (fun s hs=>hr s (List.mem_cons_of_mem _ hs)) (ER ff hp) (by rw[zq];simp at hl;omega) (fun s hs=>by
   have eM:=hr s (List.mem_cons_of_mem _ hs);have e:=LD ff eM hp;rw[h0 s (List.mem_cons_of_mem _ hs),h0 r (List.mem_cons_self ..),Nat.xor_zero]at e;refine oM (xor_lt eM ff) (ku (ER ff hp) eM) e.symm (fun e2=>?_);have:=xor_eq_zero e2;subst this;exact(List.nodup_cons.1 hn).1 hs) x hx
  have e:=LD ff hx hp;rw[hq,h0 r (List.mem_cons_self ..),mul_zero (xor_lt hx ff)]at e;simpa using e
def uQ:List Nat->List Nat->List Nat
 | [],q=>q
 |p,[]=>p
 |a::p,b::q=>(a ^^^ b)::uQ p q
theorem qB:∀(p q:List Nat),(uQ p q).length=max p.length q.length
 | [],q=>by simp[uQ]
 |a::p,[]=>by simp[uQ]
 |a::p,b::q=>by simp[uQ,qB p q]
theorem FW:∀{p q:List Nat},Ok p->Ok q->Ok (uQ p q)
 | [],_,_,hq=>by simpa[uQ]using hq
 |_::_,[],hp,_=>by simpa[uQ]using hp
 |_::_,_::_,hp,hq=>Ok.cons (xor_lt hp.head hq.head) (FW hp.tail hq.tail)
theorem FX{x:Nat}:∀{p q:List Nat},ev (uQ p q) x=ev p x ^^^ ev q x
 | [],q=>by simp[uQ,ev]
 |a::p,[]=>by simp[uQ,ev]
 |a::p,b::q=>by
  show(a ^^^ b) ^^^ mul x (ev (uQ p q) x)=_;rw[FX,mul_add];show _=(a ^^^ mul x (ev p x)) ^^^ (b ^^^ mul x (ev q x));rw[yG]
def scale(c:Nat)(p:List Nat):List Nat:=p.map (fun a=>mul c a)
theorem tQ(c:Nat)(p:List Nat):(scale c p).length=p.length:=by simp[scale]
theorem Ii(hc:c<256)(hp:Ok p):Ok (scale c p):=fun b hb=>by
 obtain⟨a,ha,rfl⟩:=List.mem_map.1 hb;exact mul_lt hc (hp a ha)
theorem zi{c x:Nat}(hc:c<256)(hx:x<256):∀{p:List Nat},Ok p->ev (scale c p) x=mul c (ev p x)
 | [],_=>by simp[scale,ev,mul_zero hc]
 |a::p,h=>by
  show mul c a ^^^ mul x (ev (scale c p) x)=mul c (a ^^^ mul x (ev p x));rw[zi hc hx h.tail,mul_add];have hq:=ku h.tail hx;rw[<-mul_assoc hx hc hq,mul_comm hx hc,mul_assoc hc hx hq]
def byX(b:Nat)(p:List Nat):List Nat:=uQ (scale b p) (0::p)
theorem AP(b:Nat)(p:List Nat):(byX b p).length=p.length+1:=by
 unfold byX;rw[qB,tQ];simp
theorem VO(hb:b<256)(hp:Ok p):Ok (byX b p):=FW (Ii hb hp) (Ok.cons (by decide) hp)
theorem VP(hb:b<256)(hx:x<256)(hp:Ok p):ev (byX b p) x=mul (x ^^^ b) (ev p x):=by
 unfold byX;rw[FX,zi hb hx hp,add_mul hx hb (ku hp hx)];show mul b (ev p x) ^^^ (0 ^^^ mul x (ev p x))=_;rw[Nat.zero_xor,Nat.xor_comm]
def R5(l:List (Nat×Nat)):Prop:=∀q∈l,q.1<256/\q.2<256
theorem R5.tail(h:R5 (q::l)):R5 l:=fun r hr=>h r (List.mem_cons_of_mem _ hr)
def rA:List (Nat×Nat)->List Nat
 | []=> [1]
 |q::l=>byX q.1 (rA l)
def xV:List (Nat×Nat)->List Nat
 | []=> []
 |q::l=>uQ (scale q.2 (rA l)) (byX q.1 (xV l))
def frac(a:Nat):List (Nat×Nat)->Nat
 | []=>0
 |q::l=>mul q.2 (inv (a ^^^ q.1)) ^^^ frac a l
theorem t_:∀l:List (Nat×Nat),(rA l).length=l.length+1
 | []=>rfl
 |q::l=>by rw[rA,AP,t_ l];simp
theorem xk:∀l:List (Nat×Nat),(xV l).length=l.length
 | []=>rfl
 |q::l=>by rw[xV,qB,tQ,AP,t_ l,xk l];simp
theorem fV:∀{l:List (Nat×Nat)},R5 l->Ok (rA l)
 | [],_=>Ok.cons (by decide) (fun _ h=>by cases h)
 |q::_,h=>VO (h q (List.mem_cons_self ..)).1 (fV h.tail)
theorem uq:∀{l:List (Nat×Nat)},R5 l->Ok (xV l)
 | [],_=>fun _ h=>by cases h
 |q::_,h=>FW (Ii (h q (List.mem_cons_self ..)).2 (fV h.tail)) (VO (h q (List.mem_cons_self ..)).1 (uq h.tail))
theorem Iu(h:R5 (q::l))(hx:x<256):ev (rA (q::l)) x=mul (x ^^^ q.1) (ev (rA l) x):=
 VP (h q (List.mem_cons_self ..)).1 hx (fV h.tail)
theorem E_(h:R5 (q::l))(hx:x<256):ev (xV (q::l)) x=mul q.2 (ev (rA l) x) ^^^ mul (x ^^^ q.1) (ev (xV l) x):=by
 rw[xV,FX,zi (h q (List.mem_cons_self ..)).2 hx (fV h.tail),VP (h q (List.mem_cons_self ..)).1 hx (uq h.tail)]
theorem Ox{a:Nat}(ha:a<256):∀{l:List (Nat×Nat)},R5 l->(∀q∈l,a≠q.1)->frac a l<256
 | [],_,_=>by simp[frac]
 |q::l,h,bd=>by
  have hq:=h q (List.mem_cons_self ..);have h0:a ^^^ q.1≠0:=fun e=>bd q (List.mem_cons_self ..) (xor_eq_zero e);exact xor_lt (mul_lt hq.2 (inv_lt (xor_lt ha hq.1) h0)) (Ox ha h.tail (fun r hr=>bd r (List.mem_cons_of_mem _ hr)))
theorem frac_cons(a:Nat)(q:Nat×Nat)(l:List (Nat×Nat)):frac a (q::l)=mul q.2 (inv (a ^^^ q.1)) ^^^ frac a l:=by rw[frac]
theorem alg{P D d F:Nat}(hc:c<256)(hP:P<256)(hD:D<256)(hd:d<256)(hF:F<256)(hm:mul d D=1):mul c P ^^^ mul d (mul P F)=mul (mul d P) (mul c D ^^^ F):=by
 have e1:mul (mul d P) (mul c D)=mul (mul d D) (mul P c):=by
  rw[mul_comm hc hD,<-mul_assoc (mul_lt hd hP) hD hc,mul_assoc hd hP hD,mul_comm hP hD,<-mul_assoc hd hD hP,mul_assoc (mul_lt hd hD) hP hc]
 rw[mul_add,mul_assoc hd hP hF,e1,hm,one_mul (mul_lt hP hc),mul_comm hc hP]
theorem IV{a:Nat}(ha:a<256):∀{l:List (Nat×Nat)},R5 l->(∀q∈l,a≠q.1)->ev (xV l) a=mul (ev (rA l) a) (frac a l)
 |[],h,_=>by
  have e1:ev (xV []) a=0:=by simp[xV,ev]
  have e2:frac a []=0:=by simp[frac]
  rw[e1,e2,mul_zero (ku (fV h) ha)]
 |q::l,h,bd=>by
  have hq:=h q (List.mem_cons_self ..);have h0:a ^^^ q.1≠0:=fun e=>bd q (List.mem_cons_self ..) (xor_eq_zero e);have hd:=xor_lt ha hq.1;have hi:=inv_lt hd h0;have hP:=ku (fV h.tail) ha;have hF:=Ox ha h.tail (fun r hr=>bd r (List.mem_cons_of_mem _ hr));rw[E_ h ha,Iu h ha,IV ha h.tail (fun r hr=>bd r (List.mem_cons_of_mem _ hr)),frac_cons];exact alg hq.2 hP hi hd hF (Fb hd h0)
theorem Ir{b:Nat}(hb:b<256):∀{l:List (Nat×Nat)},R5 l->(∀q∈l,b≠q.1)->ev (rA l) b≠0
 |[],_,_=>by
  show 1 ^^^ mul b 0≠0;rw[mul_zero hb];decide
 |q::l,h,bd=>by
  have hq:=h q (List.mem_cons_self ..);rw[Iu h hb];exact nN (xor_lt hb hq.1) (ku (fV h.tail) hb) (fun e=>bd q (List.mem_cons_self ..) (xor_eq_zero e)) (Ir hb h.tail (fun r hr=>bd r (List.mem_cons_of_mem _ hr)))
theorem Uc:∀{l:List (Nat×Nat)},R5 l->(l.map Prod.fst).Nodup->(∀q∈l,ev (xV l) q.1=0)->∀q∈l,q.2=0
 |r::l,h,hn,h0,q,hq=>by
  have hr:=h r (List.mem_cons_self ..);have kv:=List.nodup_cons.1 hn;have bd:∀q∈l,r.1≠q.1:=fun q hq e=>kv.1 (by rw[e];exact List.mem_map_of_mem hq);have e:=h0 r (List.mem_cons_self ..);rw[E_ h hr.1,Nat.xor_self,zero_mul (ku (uq h.tail) hr.1),Nat.xor_zero]at e;have hc:r.2=0:=by
   rw[mul_comm hr.2 (ku (fV h.tail) hr.1)]at e;exact oM (ku (fV h.tail) hr.1) hr.2 e (Ir hr.1 h.tail bd)
  rcases List.mem_cons.1 hq with rfl|hq
  .exact hc
  .refine Uc h.tail kv.2 (fun s hs=>?_) q hq;have dC:=h s (List.mem_cons_of_mem _ hs);have e2:=h0 s (List.mem_cons_of_mem _ hs);rw[E_ h dC.1,hc,zero_mul (ku (fV h.tail) dC.1),Nat.zero_xor]at e2;exact oM (xor_lt dC.1 hr.1) (ku (uq h.tail) dC.1) e2 (fun e3=>bd s hs (xor_eq_zero e3).symm)
theorem cauchy{az:List Nat}(h:R5 l)(hn:(l.map Prod.fst).Nodup)(ha:∀a∈az,a<256)(Bm:az.Nodup)(hap:∀a∈az,∀q∈l,a≠q.1)(hl:l.length<=az.length)(h0:∀a∈az,frac a l=0):∀q∈l,q.2=0:=by
 refine Uc h hn (fun q hq=>?_);refine Oz az (xV l) Bm ha (uq h) (by rw[xk];exact hl) (fun a hm=>?_) q.1 (h q hq).1;rw[IV (ha a hm) h (hap a hm),h0 a hm,mul_zero (ku (fV h) (ha a hm))]
