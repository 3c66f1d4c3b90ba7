import Derived.Conc.CompanyDraw
import Derived.RowKit3
import Derived.Test.YtmfpiodlecapiaaGreatDoorJ19
import Derived.Laws.CopyOwn
set_option maxHeartbeats 8000000
set_option maxRecDepth 100000
namespace Go.fE
open Go.Ren Go.bn Go.Conc
variable {P:Program} {Sh:Nat->Prop} {Post:(Nat->Prop)->Goroutine->World->Prop} {b:Frame} {a:Act} {k:List Item} {cs:List Frame} {p:World} {ops:Array Oper}
def Zl(P:Program)(b:Frame)(ops:Array Oper)(k:List Item)(cs:List Frame)(Post:(Nat->Prop)->Goroutine->World->Prop)(Inv:Nat->Array Bool->Act->(Nat->Prop)->World->Prop):Prop:=
 ∀(n:Nat) (listed:Array Bool) (a:Act) (Sh:Nat->Prop) (p:World),Inv n listed a Sh p->
  ((n=0\/Region.ready .any ops listed= [])->aj P Sh (G (b.at a (.inRegion ops []::k)) cs) p Post)/\
  ∀m,n=m+1->∀i∈Region.ready .any ops listed,∀rest,(∀a' Sh' p',Inv m (listed.setIfInBounds i true) a' Sh' p'->aj P Sh' (G (b.at a' (.inRegion ops rest::k)) cs) p' Post)->aj P Sh (G (b.at a (.inRegion ops (i::rest)::k)) cs) p Post
theorem AA{Inv:Nat->Array Bool->Act->(Nat->Prop)->World->Prop}(hN:Zl P b ops k cs Post Inv):∀(fuel t:Nat) (listed:Array Bool) (a:Act) (Sh:Nat->Prop) (p:World),Inv fuel listed a Sh p->aj P Sh (G (b.at a (.inRegion ops (Region.linearise.go .any ops fuel t listed [])::k)) cs) p Post
 |0,t,listed,a,Sh,p,h=>by
  simp only[Region.linearise.go,List.reverse_nil];exact(hN 0 listed a Sh p h).1 (.inl rfl)
 |fuel+1,t,listed,a,Sh,p,h=>by
  simp only[Region.linearise.go];change aj P Sh (G (b.at a (.inRegion ops (match(Region.ready .any ops listed)[t%(Region.ready .any ops listed).length]? with
   |some i=>Region.linearise.go .any ops fuel (t/(Region.ready .any ops listed).length) (listed.setIfInBounds i true) [i]
   |none=> [].reverse)::k)) cs) p Post
  cases hi:(Region.ready .any ops listed)[t%(Region.ready .any ops listed).length]? with
  |none=>
   have hnil:Region.ready .any ops listed= []:=by
    cases hr:Region.ready .any ops listed with
    |nil=>rfl
    |cons x xs=>
     rw[hr]at hi;have ai:t%(x::xs).length<(x::xs).length:=Nat.mod_lt _ (by simp);simp at hi;simp at ai;omega
   exact(hN _ listed a Sh p h).1 (.inr hnil)
  |some i=>
   simp only[];rw[linearise_go_acc,List.reverse_singleton,List.singleton_append];exact(hN _ listed a Sh p h).2 fuel rfl i (List.mem_of_getElem? hi) _ fun a' Sh' p' h'=>AA hN fuel _ _ a' Sh' p' h'
theorem aj.draw{id:Nat}(hm:P.follows .mixedOrders=true){Inv:Nat->Array Bool->Act->(Nat->Prop)->World->Prop}(h0:Inv ops.size (Array.replicate ops.size false) a Sh p)(hN:Zl P b ops k cs Post Inv):aj P Sh (G (b.at a (.code (.region id ops true)::k)) cs) p Post:=by
 refine .step rfl fun u cL=>⟨_,p,_,#[],stepG_region_draw,⟨cL.size,cL.same,cL.rows,cL.views,rfl,rfl,cL.os,cL.output⟩,Nat.le_refl _,fun e he=>by simp at he,?_⟩;simp only[Region.schedule,hm,Bool.true_or,if_true];exact AA hN ops.size _ _ a Sh p h0
end Go.fE
namespace Go.Proofs.YtmfpiodlecapiaaGreatDoor
open Go.Proofs.Tryz
open Go.RowKit
variable{r:Nat}{l:List (Nat×Nat)}
def kD(es:List MapEntry)(l:List (Nat×Nat)):Prop:=es.map (fun e=>(e.key,e.val))=l.map fun x=>((Value.int .i64 (x.1:Int)),(Value.pointer (some ⟨x.2,0,none⟩)))
def getM(l:List (Nat×Nat))(id:Nat):Option Nat:=(l.find? fun x=>x.1==id).map (·.2)
def TJ(o:Option Nat):Value:=.pointer (o.map fun b=>⟨b,0,none⟩)
theorem sM:∀(es:List MapEntry) (l:List (Nat×Nat)) (id k:Nat),kD es l->∃r,Instr.findNow (.int .i64) (.int .i64 (id:Int)) es k=some r/\r.map (·.2)=(getM l id).map (fun b=>Value.pointer (some ⟨b,0,none⟩))
 | [],[],id,k,_=>⟨none,rfl,rfl⟩
 | [],x::l,id,k,h=>by simp[kD]at h
 |e::es,[],id,k,h=>by simp[kD]at h
 |e::es,x::l,id,k,h=>by
  simp only[kD,List.map_cons,List.cons.injEq,Prod.mk.injEq]at h;obtain⟨⟨h1,h2⟩,h3⟩:=h;have ih:=sM es l id (k+1) h3;simp only[Instr.findNow,h1,Instr.sameNow,if_true];by_cases he:(id:Int)=(x.1:Int)
  .have e1:((id:Int)==(x.1:Int))=true:=by simpa using he
   have e2:(x.1==id)=true:=by simp;omega
   refine⟨some (k,e.val),by rw[e1],?_⟩;simp[getM,e2,h2]
  .have e1:((id:Int)==(x.1:Int))=false:=by simpa using he
   have e2:(x.1==id)=false:=by simp;omega
   rw[e1];obtain⟨r,h4,h5⟩:=ih;refine⟨r,h4,?_⟩;rw[h5];simp[getM,e2]
theorem Ea(n:Nat)(b:Bool)(v:Int)(w:World):(Instr.checkKey b (n+1) 3 (.int .i64 v)).run prog w= .ok () w:=by
 simp[Instr.checkKey,run_underlying underlying3]
theorem tT(w:World){es:Array MapEntry}{clock id:Nat}(hr:w.heap[r]? =some (.map es clock))(hm:kD es.toList l):
  (Instr.lookup 80 (.map (some r)) (.int .i64 (id:Int)) false).run prog w= .ok (TJ (getM l id)) w:=by
 obtain⟨x,h1,h2⟩:=sM es.toList l id 0 hm;have hk:∀b,(Instr.checkKey b 10000 3 (.int .i64 (id:Int))).run prog w= .ok () w:=fun b=>Ea 9999 b _ w;have hg:(getObj r).run prog w= .ok (.map es clock) w:=by simp[getObj,Sem.run,hr]
 have hf:(Instr.findKey 3 (.int .i64 (id:Int)) es.toList).run prog w= .ok x w:=by
  simp[Instr.findKey,run_underlying underlying3,h1]
 unfold Instr.lookup;simp only[Sem.run_bind,run_underlying underlying80,Result.andThen_ok,hg,Sem.run_pure,hk,hf];cases x with
 |none=>
  have:getM l id=none:=by simpa using h2.symm
  simp[this,TJ,zeroValue97]
 |some y=>
  obtain⟨i,v⟩:=y;cases v_:getM l id with
  |none=>rw[v_]at h2;simp at h2
  |some b=>
   rw[v_]at h2;simp only[Option.map_some,Option.some.injEq]at h2;simp[TJ,h2]
theorem Xq(w:World){es:Array MapEntry}{clock id:Nat}(v:Value)(hr:w.heap[r]? =some (.map es clock))(hm:kD es.toList l)(hn:getM l id=none):
  (Instr.mapUpdate 80 (.map (some r)) (.int .i64 (id:Int)) v).run prog w= .ok () {w with heap:=w.heap.setIfInBounds r (.map (es.push ⟨.int .i64 (id:Int),v,clock⟩) (clock+1))}:=by
 obtain⟨x,h1,h2⟩:=sM es.toList l id 0 hm;have hk:(Instr.checkKey false 10000 3 (.int .i64 (id:Int))).run prog w= .ok () w:=Ea 9999 false _ w;have hg:(getObj r).run prog w= .ok (.map es clock) w:=by simp[getObj,Sem.run,hr]
 have hx:x=none:=by
  rw[hn]at h2;simpa using h2
 subst hx;have hf:(Instr.findKey 3 (.int .i64 (id:Int)) es.toList).run prog w= .ok none w:=by
  simp[Instr.findKey,run_underlying underlying3,h1]
 unfold Instr.mapUpdate;simp only[Sem.run_bind,run_underlying underlying80,Result.andThen_ok,hg,hk,hf];simp[setObj,Sem.run,hr]
theorem Me{es:Array MapEntry}(h:kD es.toList l)(id b born:Nat):kD (es.push ⟨.int .i64 (id:Int),.pointer (some ⟨b,0,none⟩),born⟩).toList (l++ [(id,b)]):=by
 unfold kD at*;simp[h]
end Go.Proofs.YtmfpiodlecapiaaGreatDoor
namespace Go.fE
section
open Go.Ren Go.bn Go.Conc
variable{l:Array Bool}{i:Nat}{d:Bool}
def ql(ops:Array Oper)(i:Nat):List Nat:=((ops[i]?).map fun o=>(o.after.toList.filter fun e=>Region.binds .any e).map (·.on)).getD []
theorem Dk{ops:Array Oper}:i∈Region.ready .any ops l↔i<ops.size/\l.getD i true=false/\∀j∈ql ops i,l.getD j false=true:=by
 unfold Region.ready ql;rw[List.mem_filter,List.mem_range];constructor
 .rintro⟨h1,h2⟩;simp only[Bool.and_eq_true,Bool.not_eq_eq_eq_not,Bool.not_true]at h2;refine⟨h1,h2.1,fun j hj=>?_⟩;have h3:=h2.2;rw[Array.getElem?_eq_getElem h1]at h3 hj;simp only[Option.map_some,Option.getD_some,List.mem_map,List.mem_filter]at h3 hj;obtain⟨e,⟨Nx,he2⟩,rfl⟩:=hj;rw[Array.all_eq_true]at h3;obtain⟨k,hk,rfl⟩:=Array.mem_iff_getElem.1 (show e∈ops[i].after by simpa using Nx);have:=h3 k hk;rw[he2]at this;simpa using this
 .rintro⟨h1,h2,h3⟩;refine⟨h1,?_⟩;rw[Array.getElem?_eq_getElem h1]at h3⊢;simp only[Option.map_some,Option.getD_some,List.mem_map,List.mem_filter]at h3⊢;simp only[h2,Bool.not_false,Bool.true_and];rw[Array.all_eq_true];intro k hk;cases hb:Region.binds .any ops[i].after[k]with
  |false=>rfl
  |true=>
   have:=h3 _ ⟨ops[i].after[k],⟨by simp,hb⟩,rfl⟩;rw[this];rfl
def kG(dst:Nat->Nat)(val:Nat->Value)(T0:Array Value)(l:Nat->Bool):Nat->Array Value
 |0=>T0
 |m+1=>if l m then(kG dst val T0 l m).setIfInBounds (dst m) (val m)else kG dst val T0 l m
variable {dst:Nat->Nat} {val:Nat->Value} {T0:Array Value}
theorem pU(l:Nat->Bool):∀m,(kG dst val T0 l m).size=T0.size
 |0=>rfl
 |m+1=>by
  simp only[kG];split
  .simp[pU l m]
  .exact pU l m
theorem qL(l:Nat->Bool){k:Nat}:∀m,(∀i,i<m->l i=true->dst i≠k)->(kG dst val T0 l m)[k]? =T0[k]?
 |0,_=>rfl
 |m+1,h=>by
  have ih:=qL l m (fun i hi=>h i (by omega));simp only[kG];split
  .rename_i hl;rw[Array.getElem?_setIfInBounds_ne (h m (by omega) hl)];exact ih
  .exact ih
theorem su(l:Nat->Bool){i:Nat}:∀m,(∀i j,i<m->j<m->dst i=dst j->i=j)->i<m->l i=true->dst i<T0.size->(kG dst val T0 l m)[dst i]? =some (val i)
 |0,_,h,_,_=>by omega
 |m+1,pg,h,hl,hs=>by
  simp only[kG];by_cases e:i=m
  .subst e;rw[if_pos hl,Array.getElem?_setIfInBounds_self_of_lt (by rw[pU];exact hs)]
  .have ih:=su l m (fun i j h1 h2=>pg i j (by omega) (by omega)) (by omega:i<m) hl hs;split
   .rw[Array.getElem?_setIfInBounds_ne (fun e2=>e (pg m i (by omega) (by omega) e2).symm)];exact ih
   .exact ih
theorem Fg{l l':Nat->Bool}{m:Nat}(pg:∀i j,i<m->j<m->dst i=dst j->i=j)(hi:i<m)(ju:l' i=true)(bd:∀j,j≠i->l' j=l j)(hs:∀i,i<m->dst i<T0.size):(kG dst val T0 l m).setIfInBounds (dst i) (val i)=kG dst val T0 l' m:=by
 apply Array.ext_getElem?;intro k;by_cases e:dst i=k
 .subst e;rw[Array.getElem?_setIfInBounds_self_of_lt (by rw[pU];exact hs i hi),su l' m pg hi ju (hs i hi)]
 .rw[Array.getElem?_setIfInBounds_ne e];by_cases h:∃j,j<m/\l j=true/\dst j=k
  .obtain⟨j,h1,h2,rfl⟩:=h;have kx:j≠i:=fun e2=>e (by rw[e2]);rw[su l m pg h1 h2 (hs j h1),su l' m pg h1 (by rw[bd j kx];exact h2) (hs j h1)]
  .rw[qL l m (fun j h1 h2 h3=>h ⟨j,h1,h2,h3⟩),qL l' m (fun j h1 h2 h3=>?_)];by_cases kx:j=i
   .subst kx;exact e h3
   .exact h ⟨j,h1,by rw[<-bd j kx];exact h2,h3⟩
theorem Dt{l l':Nat->Bool}:∀m,(∀i,i<m->l i=l' i)->kG dst val T0 l m=kG dst val T0 l' m
 |0,_=>rfl
 |m+1,h=>by simp only[kG,h m (by omega),Dt m (fun i hi=>h i (by omega))]
theorem Uu{p:Nat->Prop}(h:∃i,p i):∃i,p i/\∀j,j<i->¬p j:=by
 obtain⟨i,hi⟩:=h;induction i using Nat.strongRecOn with
 |ind i ih=>
  by_cases hx:∃j,j<i/\p j
  .obtain⟨j,h1,h2⟩:=hx;exact ih j h1 h2
  .exact⟨i,hi,fun j hj hp=>hx ⟨j,hj,hp⟩⟩
def cnt(l:Nat->Bool):Nat->Nat
 |0=>0
 |m+1=>cnt l m+if l m then 0 else 1
theorem JH{l l':Nat->Bool}:∀m,(∀i,i<m->l i=l' i)->cnt l m=cnt l' m
 |0,_=>rfl
 |m+1,h=>by simp only[cnt,h m (by omega),JH m (fun i hi=>h i (by omega))]
theorem OB{l l':Nat->Bool}{i:Nat}(hl:l i=false)(ju:l' i=true)(bd:∀j,j≠i->l' j=l j):∀m,i<m->cnt l m=cnt l' m+1
 |0,h=>by omega
 |m+1,h=>by
  simp only[cnt];by_cases e:i=m
  .subst e;rw[hl,ju,JH i (fun j hj=>(bd j (by omega)).symm)];simp
  .rw[OB hl ju bd m (by omega),bd m (Ne.symm e)];omega
variable {P:Program} {Sh:Nat->Prop} {Post:(Nat->Prop)->Goroutine->World->Prop} {b:Frame} {k:List Item} {cs:List Frame} {p:World} {ops:Array Oper}
theorem jL(h:i<l.size):(l.setIfInBounds i true).getD i d=true:=by
 simp[Array.getD_eq_getD_getElem?,h]
theorem getD_set_ne{j:Nat}(h:j≠i):(l.setIfInBounds i true).getD j d=l.getD j d:=by
 simp[Array.getD_eq_getD_getElem?,Array.getElem?_setIfInBounds_ne (Ne.symm h)]
end
section
open Go.Ren Go.bn Go.Conc
theorem Oe{dst:Nat->Nat}{v v':Nat->Value}{T0:Array Value}{l:Nat->Bool}:∀m,(∀i,i<m->l i=true->v i=v' i)->kG dst v T0 l m=kG dst v' T0 l m
 |0,_=>rfl
 |m+1,h=>by
  have ih:=Oe (dst:=dst) (T0:=T0) m (fun i hi hl=>h i (by omega) hl);simp only[kG,ih];cases hl:l m with
  |false=>rfl
  |true=>rw[h m (by omega) hl]
theorem JG{l:Nat->Bool}:∀m,cnt l m=0->∀i,i<m->l i=true
 |0,_,i,h=>by omega
 |m+1,hc,i,h=>by
  simp only[cnt]at hc;by_cases e:i=m
  .subst e;cases hl:l i with
   |true=>rfl
   |false=>rw[hl]at hc;simp at hc
  .exact JG m (by omega) i (by omega)
variable {P:Program} {Sh:Nat->Prop} {Post:(Nat->Prop)->Goroutine->World->Prop} {b:FuncId} {k:List Item} {cs:List Frame} {p:World} {ops:Array Oper}
def DrSt{X:Type}(ops:Array Oper)(M c m:Nat)(dst:Nat->Nat)(val:X->Nat->Value)(T0:Array Value)(Wd:Bool->Bool->X->World->Prop)(SX:X->Nat->Prop)(n:Nat)(l:Array Bool)(a:Act)(S:Nat->Prop)(w:World):Prop:=
 ∃x,a=⟨kG dst (val x) T0 (fun i=>l.getD i false) M,[]⟩/\S=SX x/\l.size=M/\n=cnt (fun i=>l.getD i false) M/\Wd (l.getD c false) (l.getD m false) x w/\∀i,i<M->l.getD i false=true->∀j∈ql ops i,l.getD j false=true
theorem aj.drawnS{X:Type}{SX:X->Nat->Prop}{id M c m:Nat}{dst:Nat->Nat}{val:X->Nat->Value}{T0:Array Value}{Wd:Bool->Bool->X->World->Prop}(DO:P.follows .mixedOrders=true)(hM:ops.size=M)(Y4:c<M)(MA:m<M)
  (ml:∀i j,i<M->j<M->dst i=dst j->i=j)(ub:∀i,i<M->dst i<T0.size)(rq:∀i,i<M->∀j∈ql ops i,j<i)(x0:X)(kh:SX x0=Sh)(h0:Wd false false x0 p)
  (aq:∀i,i<M->∀(l:Nat->Bool) (x:X) (w:World),l i=false->(∀i,i<M->l i=true->∀j∈ql ops i,l j=true)->(∀j∈ql ops i,l j=true)->Wd (l c) (l m) x w->∀T:Array Value,T.size=T0.size->(∀j∈ql ops i,T[dst j]? =some (val x j))->(∀k,(∀j,j<M->dst j≠k)->T[k]? =T0[k]?)->
   ∀rest,(∀x' w',(∀j,j<M->l j=true->val x' j=val x j)->Wd (l c||i==c) (l m||i==m) x' w'->aj P (SX x') (G ((base b).at ⟨T.setIfInBounds (dst i) (val x' i),[]⟩ (.inRegion ops rest::k)) cs) w' Post)->aj P (SX x) (G ((base b).at ⟨T,[]⟩ (.inRegion ops (i::rest)::k)) cs) w Post)
  (bc:∀x w,Wd true true x w->aj P (SX x) (G ((base b).at ⟨kG dst (val x) T0 (fun _=>true) M,[]⟩ k) cs) w Post):
  aj P Sh (G ((base b).at ⟨T0,[]⟩ (.code (.region id ops true)::k)) cs) p Post:=by
 have cg:DrSt ops M c m dst val T0 Wd SX ops.size (Array.replicate ops.size false) ⟨T0,[]⟩ Sh p:=by
  have hl:∀i,(Array.replicate ops.size false).getD i false=false:=fun i=>by
   rw[Array.getD_eq_getD_getElem?];by_cases h:i<ops.size<;>simp[h]
  have hf:(fun i=>(Array.replicate ops.size false).getD i false)=fun _=>false:=funext hl;have hc:∀n,cnt (fun _=>false) n=n:=fun n=>by
   induction n with
   |zero=>rfl
   |succ n ih=>simp[cnt,ih]
  have ht:∀n,kG dst (val x0) T0 (fun _=>false) n=T0:=fun n=>by
   induction n with
   |zero=>rfl
   |succ n ih=>simp[kG,ih]
  refine⟨x0,by rw[hf,ht],kh.symm,by simp[hM],by rw[hf,hc,hM],?_,fun i _ h=>by rw[hl]at h;cases h⟩;rw[hl,hl];exact h0
 refine aj.draw DO cg ?_;rintro n l a S w ⟨x,rfl,rfl,h1,h2,h3,h4⟩;have gt:∀i,i<M->l.getD i true=l.getD i false:=fun i hi=>by
  rw[Array.getD_eq_getD_getElem?,Array.getD_eq_getD_getElem?,Array.getElem?_eq_getElem (by omega)];rfl
 refine⟨fun h=>?_,fun n' hn i hi rest hr=>?_⟩
 .have cG:∀i,i<M->l.getD i false=true:=by
   rcases h with h|h
   .exact JG M (by omega)
   .intro i hi;cases hb:l.getD i false with
    |true=>rfl
    |false=>
     obtain⟨i',⟨k1,k2⟩,k3'⟩:=Uu (p:=fun i=>i<M/\l.getD i false=false) ⟨i,hi,hb⟩;have:i'∈Region.ready .any ops l:=Dk.2 ⟨by omega,by rw[gt i' k1];exact k2,fun j hj=>by
      have kx:=rq i' k1 j hj;cases hbj:l.getD j false with
      |true=>rfl
      |false=>exact absurd ⟨by omega,hbj⟩ (k3' j kx)⟩
     rw[h]at this;cases this
  rw[cG c Y4,cG m MA]at h3;have e:kG dst (val x) T0 (fun i=>l.getD i false) M=kG dst (val x) T0 (fun _=>true) M:=Dt M (fun i hi=>cG i hi);rw[e];exact aj.aJ (bc x w h3)
 .obtain⟨r1,r2,r3⟩:=Dk.1 hi;rw[hM]at r1;rw[gt i r1]at r2;refine aq i r1 (fun j=>l.getD j false) x w r2 h4 r3 h3 _ (pU _ M) (fun j hj=>?_) (fun k' dq=>qL _ M (fun j hj _=>dq j hj)) rest (fun x' w' hv lp=>?_)
  .have kx:=rq i r1 j hj;exact su _ M ml (by omega) (r3 j hj) (ub j (by omega))
  .rw[Oe M (fun j hj hl=>(hv j hj hl).symm),Fg (l':=fun j=>(l.setIfInBounds i true).getD j false) ml r1 (jL (by omega)) (fun j hj=>getD_set_ne hj) ub];refine hr _ _ _ ⟨x',rfl,rfl,by simpa using h1,?_,?_,fun i' bh ju j hj=>?_⟩
   .have:=OB (l:=fun j=>l.getD j false) (l':=fun j=>(l.setIfInBounds i true).getD j false) r2 (jL (by omega)) (fun j hj=>getD_set_ne hj) M r1;omega
   .have key:∀j,j<M->(l.setIfInBounds i true).getD j false=(l.getD j false||i==j):=fun j hj=>by
     by_cases e:j=i
     .subst e;rw[jL (by omega)];simp
     .rw[getD_set_ne e];have:(i==j)=false:=by simpa using Ne.symm e
      rw[this,Bool.or_false]
    rw[key c Y4,key m MA];exact lp
   .by_cases e:i'=i
    .subst e;have:=rq i' r1 j hj;rw[getD_set_ne (by omega)];exact r3 j hj
    .rw[getD_set_ne e]at ju;have:=h4 i' bh ju j hj;by_cases ej:j=i
     .subst ej;exact jL (by omega)
     .rw[getD_set_ne ej];exact this
end
end Go.fE
namespace Go.Proofs.YtmfpiodlecapiaaGreatDoor
open Go.Proofs.Tryz
open Go.Conc Go.ConcN Go.RowKit Go.bn Go.Ren Go.fE Go.Deep Go.kg
attribute [local go_sem↓] Go.wp_at_zero Go.wp_at_succ
theorem jY{T:Array Value}{i:Nat}{v:Value}(h:T[i]? =some v)(hi:i<T.size):T[i]'hi=v:=(Array.getElem?_eq_some_iff.1 h).2
def Gh:Nat->Nat
 |0=>18
 |1=>19
 |2=>20
 |3=>21
 |4=>22
 |5=>23
 |6=>24
 |7=>25
 |8=>26
 |9=>27
 |10=>17
 |11=>28
 |12=>29
 |13=>7
 |14=>8
 |_=>0
def Ny(ob bb N cap V:Nat)(x:(Nat->Prop)×Value×Bool):Nat->Value
 |0=>.pointer (some ⟨ob,0,none⟩)
 |1=>.pointer (some ⟨ob,0,none⟩)
 |2=>.pointer (some ⟨ob,4,none⟩)
 |3=>.slice (some ⟨bb,0,none⟩) N cap
 |4=>.pointer (some ⟨ob,0,none⟩)
 |5=>.pointer (some ⟨ob,0,none⟩)
 |6=>.pointer (some ⟨ob,1,none⟩)
 |7=>.pointer (some ⟨ob,3,none⟩)
 |8=>.int .i64 V
 |9=>.tuple #[x.2.1,.bool x.2.2]
 |10=>.tuple #[x.2.1,.bool x.2.2]
 |11=>x.2.1
 |12=>.bool x.2.2
 |13=>x.2.1
 |14=>.bool x.2.2
 |_=>undef
theorem ZI{Sh:Nat->Prop}{Post:(Nat->Prop)->Goroutine->World->Prop}{p:World}{k:List Item}{cs:List Frame}{ob bb N cap V:Nat}{F:(Nat->Prop)->World->Value->Bool->Prop}{T0:Array Value}(hT:T0.size=38)(t6:T0[6]? =some (.pointer (some ⟨ob,0,none⟩)))(wi:p.cell? ⟨ob,3,none⟩=some (.int .i64 V))(ue:p.cell? ⟨ob,4,none⟩=some (.slice (some ⟨bb,0,none⟩) N cap)){ops:Array Oper}(tz:ops=(aX (eO [1,1,1,0] (f24.body.getD .skip))))
  (lk:∀(T:Array Value) rest,T.size=38->T[21]? =some (.slice (some ⟨bb,0,none⟩) N cap)->T[26]? =some (.int .i64 V)->(∀S q v ok,F S q v ok->aj prog S (G ((base 24).at ⟨T.setIfInBounds 27 (.tuple #[v,.bool ok]),[]⟩ (.inRegion ops rest::k)) cs) q Post)->aj prog Sh (G ((base 24).at ⟨T,[]⟩ (.inRegion ops (9::rest)::k)) cs) p Post)
  (bc:∀S q v ok,F S q v ok->aj prog S (G ((base 24).at ⟨kG Gh (Ny ob bb N cap V (S,v,ok)) T0 (fun _=>true) 15,[]⟩ k) cs) q Post):
  aj prog Sh (G ((base 24).at ⟨T0,[]⟩ (.code (.region 4 ops true)::k)) cs) p Post:=by
 subst tz;have hd:∀i:Fin 15,∀j:Fin 15,Gh i=Gh j->i=j:=by decide
 have hb:(List.range 15).all (fun i=>(ql (aX (eO [1,1,1,0] (f24.body.getD .skip))) i).all fun j=>decide (j<i))=true:=by kernel_rfl
 have hl:∀i:Fin 15,Gh i<38:=by decide
 refine aj.drawnS (SX:=fun x=>x.1) (c:=9) (m:=9) (M:=15) (dst:=Gh) (val:=Ny ob bb N cap V) (Wd:=fun cd _ x w=>(cd=false->w=p/\x.1=Sh)/\(cd=true->F x.1 w x.2.1 x.2.2)) (by kernel_rfl) (by kernel_rfl) (by decide) (by decide) (fun i j hi hj h=>by have:=hd ⟨i,hi⟩ ⟨j,hj⟩ h;exact congrArg Fin.val this) (fun i hi=>by rw[hT];exact hl ⟨i,hi⟩) (fun i hi j hj=>?_) (Sh,undef,false) rfl ⟨fun _=>⟨rfl,rfl⟩,fun h=>by cases h⟩ (fun i hi l x w UU cF vM hW T hTs fi Bu rest hr=>?_) (fun x w hW=>bc x.1 w x.2.1 x.2.2 (hW.2 rfl))
 .have h1:=List.all_eq_true.1 hb i (List.mem_range.2 hi);have h2:=List.all_eq_true.1 h1 j hj;simpa using h2
 .have f6:T[6]? =some (.pointer (some ⟨ob,0,none⟩)):=(Bu 6 (fun j hj=>by have:=(by decide:∀j:Fin 15,Gh j≠6);exact this ⟨j,hj⟩)).trans t6;have hs:T.size=38:=hTs.trans hT;have e6:=jY f6 (by omega:6<T.size);have i15:i=0\/i=1\/i=2\/i=3\/i=4\/i=5\/i=6\/i=7\/i=8\/i=9\/i=10\/i=11\/i=12\/i=13\/i=14:=by omega
  clear Bu;rcases i15 with rfl|rfl|rfl|rfl|rfl|rfl|rfl|rfl|rfl|rfl|rfl|rfl|rfl|rfl|rfl
  .refine aj.ow ak fun τ d K hK=>?_;simp only[f24,Option.getD_some,eO,aX]at hr⊢;clear fi vM hb cF;go_simp;refine hK _ _ (aj.re ?_ τ d);exact hr x _ (fun _ _ _=>rfl) (by simpa using hW)
  .refine aj.ow ak fun τ d K hK=>?_;have g:=fi 0 (of_decide_eq_true (by kernel_rfl));simp only[Gh,Ny]at g;have eg:=jY g (by omega:18<T.size);simp only[f24,Option.getD_some,eO,aX]at hr⊢;clear fi vM hb cF;go_simp;refine hK _ _ (aj.re ?_ τ d);exact hr x _ (fun _ _ _=>rfl) (by simpa using hW)
  .refine aj.ow ak fun τ d K hK=>?_;have g:=fi 1 (of_decide_eq_true (by kernel_rfl));simp only[Gh,Ny]at g;have eg:=jY g (by omega:19<T.size);simp only[f24,Option.getD_some,eO,aX]at hr⊢;clear fi vM hb cF;go_simp;refine hK _ _ (aj.re ?_ τ d);exact hr x _ (fun _ _ _=>rfl) (by simpa using hW)
  .refine aj.ow ak fun τ d K hK=>?_;have g:=fi 2 (of_decide_eq_true (by kernel_rfl));simp only[Gh,Ny]at g;have eg:=jY g (by omega:20<T.size);have h9:l 9=false\/l 9=true:=by cases l 9<;>simp
   have RE:l 9=false:=by
    rcases h9 with h|h
    .exact h
    .have:=cF 9 (by decide) h 3 (of_decide_eq_true (by kernel_rfl));rw[UU]at this;cases this
   obtain⟨rfl,_⟩:=hW.1 RE;have cc:(w.re τ d).cell? ⟨ob,4,none⟩=some (.slice (some ⟨bb,0,none⟩) N cap):=ue;simp only[f24,Option.getD_some,eO,aX]at hr⊢;clear fi vM hb cF;go_simp;refine hK _ _ (aj.re ?_ τ d);exact hr x _ (fun _ _ _=>rfl) (by simpa using hW)
  .refine aj.ow ak fun τ d K hK=>?_;simp only[f24,Option.getD_some,eO,aX]at hr⊢;clear fi vM hb cF;go_simp;refine hK _ _ (aj.re ?_ τ d);exact hr x _ (fun _ _ _=>rfl) (by simpa using hW)
  .refine aj.ow ak fun τ d K hK=>?_;have g:=fi 4 (of_decide_eq_true (by kernel_rfl));simp only[Gh,Ny]at g;have eg:=jY g (by omega:22<T.size);simp only[f24,Option.getD_some,eO,aX]at hr⊢;clear fi vM hb cF;go_simp;refine hK _ _ (aj.re ?_ τ d);exact hr x _ (fun _ _ _=>rfl) (by simpa using hW)
  .refine aj.ow ak fun τ d K hK=>?_;have g:=fi 5 (of_decide_eq_true (by kernel_rfl));simp only[Gh,Ny]at g;have eg:=jY g (by omega:23<T.size);simp only[f24,Option.getD_some,eO,aX]at hr⊢;clear fi vM hb cF;go_simp;refine hK _ _ (aj.re ?_ τ d);exact hr x _ (fun _ _ _=>rfl) (by simpa using hW)
  .refine aj.ow ak fun τ d K hK=>?_;have g:=fi 6 (of_decide_eq_true (by kernel_rfl));simp only[Gh,Ny]at g;have eg:=jY g (by omega:24<T.size);simp only[f24,Option.getD_some,eO,aX]at hr⊢;clear fi vM hb cF;go_simp;refine hK _ _ (aj.re ?_ τ d);exact hr x _ (fun _ _ _=>rfl) (by simpa using hW)
  .refine aj.ow ak fun τ d K hK=>?_;have g:=fi 7 (of_decide_eq_true (by kernel_rfl));simp only[Gh,Ny]at g;have eg:=jY g (by omega:25<T.size);have h9:l 9=false\/l 9=true:=by cases l 9<;>simp
   have RE:l 9=false:=by
    rcases h9 with h|h
    .exact h
    .have:=cF 9 (by decide) h 8 (of_decide_eq_true (by kernel_rfl));rw[UU]at this;cases this
   obtain⟨rfl,_⟩:=hW.1 RE;have cc:(w.re τ d).cell? ⟨ob,3,none⟩=some (.int .i64 V):=wi;simp only[f24,Option.getD_some,eO,aX]at hr⊢;clear fi vM hb cF;go_simp;refine hK _ _ (aj.re ?_ τ d);exact hr x _ (fun _ _ _=>rfl) (by simpa using hW)
  .have g3:=fi 3 (of_decide_eq_true (by kernel_rfl));have g8:=fi 8 (of_decide_eq_true (by kernel_rfl));obtain⟨rfl,hx⟩:=hW.1 UU;show aj prog x.1 _ _ _;rw[hx];refine lk T rest hs g3 g8 (fun S q v ok hF=>?_);refine hr (S,v,ok) q (fun j hj Rv=>?_) ⟨fun h=>by simp at h,fun _=>hF⟩;have hn:∀j,10<=j->j<15->l j=true->l 9=true:=fun j h1 h2 h3=>by
    have:j=10\/j=11\/j=12\/j=13\/j=14:=by omega
    rcases this with rfl|rfl|rfl|rfl|rfl
    .exact cF 10 (by decide) h3 9 (of_decide_eq_true (by kernel_rfl))
    .exact cF 10 (by decide) (cF 11 (by decide) h3 10 (of_decide_eq_true (by kernel_rfl))) 9 (of_decide_eq_true (by kernel_rfl))
    .exact cF 10 (by decide) (cF 12 (by decide) h3 10 (of_decide_eq_true (by kernel_rfl))) 9 (of_decide_eq_true (by kernel_rfl))
    .exact cF 10 (by decide) (cF 11 (by decide) (cF 13 (by decide) h3 11 (of_decide_eq_true (by kernel_rfl))) 10 (of_decide_eq_true (by kernel_rfl))) 9 (of_decide_eq_true (by kernel_rfl))
    .exact cF 10 (by decide) (cF 12 (by decide) (cF 14 (by decide) h3 12 (of_decide_eq_true (by kernel_rfl))) 10 (of_decide_eq_true (by kernel_rfl))) 9 (of_decide_eq_true (by kernel_rfl))
   have hj9:j<9:=by
    by_cases h:j<9
    .exact h
    .by_cases h':j=9
     .subst h';rw[UU]at Rv;cases Rv
     .have:=hn j (by omega) hj Rv;rw[UU]at this;cases this
   have:j=0\/j=1\/j=2\/j=3\/j=4\/j=5\/j=6\/j=7\/j=8:=by omega
   rcases this with rfl|rfl|rfl|rfl|rfl|rfl|rfl|rfl|rfl<;>rfl
  .refine aj.ow ak fun τ d K hK=>?_;have g:=fi 9 (of_decide_eq_true (by kernel_rfl));simp only[Gh,Ny]at g;have eg:=jY g (by omega:27<T.size);simp only[f24,Option.getD_some,eO,aX]at hr⊢;clear fi vM hb cF;go_simp;refine hK _ _ (aj.re ?_ τ d);exact hr x _ (fun _ _ _=>rfl) (by simpa using hW)
  iterate 2 (·refine aj.ow ak fun τ d K hK=>?_;have g:=fi 10 (of_decide_eq_true (by kernel_rfl));simp only[Gh,Ny]at g;have eg:=jY g (by omega:17<T.size);simp only[f24,Option.getD_some,eO,aX]at hr⊢;clear fi vM hb cF;go_simp;refine hK _ _ (aj.re ?_ τ d);exact hr x _ (fun _ _ _=>rfl) (by simpa using hW))
  .refine aj.ow ak fun τ d K hK=>?_;have g:=fi 11 (of_decide_eq_true (by kernel_rfl));simp only[Gh,Ny]at g;have eg:=jY g (by omega:28<T.size);simp only[f24,Option.getD_some,eO,aX]at hr⊢;clear fi vM hb cF;go_simp;refine hK _ _ (aj.re ?_ τ d);exact hr x _ (fun _ _ _=>rfl) (by simpa using hW)
  .refine aj.ow ak fun τ d K hK=>?_;have g:=fi 12 (of_decide_eq_true (by kernel_rfl));simp only[Gh,Ny]at g;have eg:=jY g (by omega:29<T.size);simp only[f24,Option.getD_some,eO,aX]at hr⊢;clear fi vM hb cF;go_simp;refine hK _ _ (aj.re ?_ τ d);exact hr x _ (fun _ _ _=>rfl) (by simpa using hW)
end Go.Proofs.YtmfpiodlecapiaaGreatDoor
namespace Go.fE
open Go.Ren Go.bn Go.Conc
theorem aj.fB{P:Program}{Sh:Nat->Prop}{Post:(Nat->Prop)->Goroutine->World->Prop}{b:Frame}{a:Act}{k:List Item}{cs:List Frame}{ops:Array Oper}{i:Nat}{rest:List Nat}{o:Oper}{p:World}{f:FuncId}{fn:Func}{args:Array Operand}{ats:Array TypeId}{T':Array Value}(ho:ops[i]? =some o)(hw:Region.wanted o (yielded ops a.tmps)=true)(hk:b.kind≠.early)(a_:o.op= .call {callee:=.value (.func f),args,argTypes:=ats})
  (hf:P.funcs[f]? =some fn)(de:(fn.name== "runtime.NumGoroutine")=false)(hb:fn.body.isSome=true)(hT:args.map a.eval++Array.replicate (fn.ntmps-(args.map a.eval).size) undef=T')
  (hn:aj P Sh (G ((base f).at ⟨T',[]⟩ [.code (fn.body.getD .skip)]) (b.at a (.inRegion ops (i::rest)::k)::cs)) p Post):
  aj P Sh (G (b.at a (.inRegion ops (i::rest)::k)) cs) p Post:=by
 obtain⟨c,hc⟩:=Option.isSome_iff_exists.1 hb;rw[hc,Option.getD_some]at hn;exact aj.call ho hw hk a_ hf de hc (by rw[hT];exact hn)
end Go.fE
namespace Go.Proofs.YtmfpiodlecapiaaGreatDoor
open Go.Proofs.Tryz
open Go.Conc Go.ConcN Go.RowKit Go.bn Go.Ren Go.fE Go.Deep Go.kg
attribute [local go_sem↓] Go.wp_at_zero Go.wp_at_succ
variable{s n B c g:Nat}{w w':World}{sv v:Value}{bs:List Nat}{ps:List (List Nat)}
theorem L8{Sh:Nat->Prop}{Post:(Nat->Prop)->Goroutine->World->Prop}{p:World}{cfn:FuncId}{ca:Act}{bA:Array Oper}{ci:Nat}{aT:List Nat}{ck:List Item}{cs:List Frame}{o:Oper}(ho:bA[ci]? =some o){lb mr ob id len sz ms bb N V cap clock:Nat}{es:Array MapEntry}{l:List (Nat×Nat)}{Kz:Nat->Nat}{pb:Nat->Nat}{pa:Nat->Nat->Option Addr}{pl pc:Nat->Nat->Nat}{blk:Nat->List Nat}
  (Ji:p.heap[lb]? =some (.cells #[.map (some mr)] 82))(cA:p.heap[mr]? =some (.map es clock))(hm:kD es.toList l)(hg:getM l id=some ob)(gI:p.heap[ob]? =some (.cells #[.int .i64 len,.int .i64 sz,.int .i64 ms,.int .i64 V,.slice (some ⟨bb,0,none⟩) N cap] 101))(hO:ObjB p bb N V s Kz pb pa pl pc blk)(hlen:len<=((List.range N).map blk).flatten.length)
  (bc:∀(S:Nat->Prop) (q:World) (v v2:Value) (ok:Bool) (e:Int),FY Sh S p q N V Kz pa blk v ok->(ok=false->v2= .slice none 0 0/\e=7)->(ok=true->e=0/\∃g c,v2= .slice (some ⟨g,0,none⟩) len c/\len<=c/\∀j,j<len->q.cell? ⟨g,j,none⟩=some (.int .u8 ((((List.range N).map blk).flatten[j]?.getD 0:Nat):Int)))->
   aj prog S (G ((base cfn).at (ca.put o.dst (.tuple #[v2,.int .i64 e])) (.inRegion bA aT::ck)) cs) q Post):
  aj prog Sh (G ((base 24).at ⟨#[.pointer (some ⟨lb,0,none⟩),.int .i64 id,undef,undef,undef,undef,undef,undef,undef,undef,undef,undef,undef,undef,undef,undef,undef,undef,undef,undef,undef,undef,undef,undef,undef,undef,undef,undef,undef,undef,undef,undef,undef,undef,undef,undef,undef,undef],[]⟩ [.code (f24.body.getD .skip)]) ((base cfn).at ca (.inRegion bA (ci::aT)::ck)::cs)) p Post:=by
 have HO:=hide hO;have yc:=hide bc
 clear hO bc;have cF:p.cell? ⟨lb,0,none⟩=some (.map (some mr)):=by simp[World.cell?,Ji]
 have ey:p.cell? ⟨ob,0,none⟩=some (.int .i64 len):=by simp[World.cell?,gI]
 have wi:p.cell? ⟨ob,3,none⟩=some (.int .i64 V):=by simp[World.cell?,gI]
 have ue:p.cell? ⟨ob,4,none⟩=some (.slice (some ⟨bb,0,none⟩) N cap):=by simp[World.cell?,gI]
 conv=>arg 3;simp only[f24,Option.getD_some]
 refine aj.seq (aj.bW ak fun τ d=>?_);go_wp2;refine aj.re ?_ _ _;refine aj.seq (aj.bW ak fun τ d=>?_);have q1:(p.re τ d).cell? ⟨lb,0,none⟩=some (.map (some mr)):=cF;have q2:(Instr.lookup 80 (.map (some mr)) (.int .i64 (id:Int)) false).run prog (p.re τ d)= .ok (.pointer (some ⟨ob,0,none⟩)) (p.re τ d):=by
  have:=tT (p.re τ d) (r:=mr) (es:=es) (clock:=clock) (id:=id) (l:=l) cA hm;rw[hg]at this;exact this
 go_wp2;refine aj.re ?_ _ _;clear q1 q2;refine aj.seq (aj.bW ak fun τ d=>?_);go_wp2;refine aj.re ?_ _ _;refine aj.seq ?_;refine ZI (F:=fun S q v ok=>FY Sh S p q N V Kz pa blk v ok) (ob:=ob) (bb:=bb) (N:=N) (cap:=cap) (V:=V) rfl rfl wi ue (by kernel_rfl) (fun T rest QR g3 g8 hr=>?_) (fun S q v ok hA=>?_)
 .refine aj.fB rfl rfl (by decide) rfl func46 rfl rfl (T':=#[.slice (some ⟨bb,0,none⟩) N cap,.int .i64 V,undef,undef,undef,undef,undef,undef,undef,undef,undef,undef,undef,undef,undef,undef,undef,undef,undef,undef,undef,undef,undef,undef,undef,undef,undef,undef,undef,undef,undef,undef,undef,undef,undef,undef,undef]) (by simp[Act.eval,f46,g3,g8]) ?_;refine Nh (o:=?o) ?ho HO.out (fun S q v ok hA=>?bc)
  case ho=>rfl
  case bc=>exact hr S q v ok hA
 .have p_:q.cell? ⟨ob,0,none⟩=some (.int .i64 len):=by
   have:=hA.keep ob _ gI (fun e fz h=>by simp at h);simp[World.cell?,this]
  simp only[kG,Gh,Ny,if_true,List.setIfInBounds_toArray,List.set_cons_zero,List.set_cons_succ];refine aj.seq ?_;cases ok with
  |false=>
   refine aj.bW ak fun τ d=>?_;go_wp2;intro todo;refine aj.re ?_ _ _;exact aj.back ho func24 (v:=.tuple #[.slice none 0 0,.int .i64 7]) (by simp[results,f24,go_sem]) (by simp[results,f24]) (yc.out S q v _ false 7 hA (fun _=>⟨rfl,rfl⟩) (fun h=>by cases h))
  |true=>
   obtain⟨g,c,rfl,k1,k2,k3,k4⟩:=hA.bytes rfl;generalize hL:((List.range N).map blk).flatten.length=LL at hlen k2 k4;replace hL:=hide hL;have Cf:FY Sh S p q N V Kz pa blk (.slice (some ⟨g,0,none⟩) LL c) true:=by rw[<-hL.out];exact hA
   have HA:=hide Cf;clear hA Cf;simp only[maxLen]at k3;refine aj.bW ak fun τ d=>?_;go_wp2;refine aj.re ?_ _ _;refine aj.bW ak fun τ d=>?_;have q1:(q.re τ d).cell? ⟨ob,0,none⟩=some (.int .i64 len):=p_;have hl0:(0:Int)<=(len:Int):=by omega
   have lr:(len:Int)<=(c:Int):=by omega
   go_wp2;intro todo;refine aj.re ?_ _ _;exact aj.back ho func24 (v:=.tuple #[.slice (some ⟨g,0,none⟩) len c,.int .i64 0]) (by simp[results,f24,go_sem]) (by simp[results,f24]) (yc.out S q _ _ true 0 HA.out (fun h=>by cases h) (fun _=>⟨rfl,g,c,rfl,by omega,fun j hj=>k4 j (by omega)⟩))
open Go.RowKit Go.Deep
def fO(w:World)(sv:Value)(s:Nat)(bs:List Nat):Prop:=
 ∃b off cap L,sv= .slice (some ⟨b,off,none⟩) s cap/\s<=cap/\cap<=9223372036854775807/\aB w b 5 L/\∀j,j<s->L[off+j]? =some (.int .u8 ((bs[j]?.getD 0:Nat):Int))
theorem fO.later(h:fO w sv s bs)(hb:Below w.heap.size w w'):fO w' sv s bs:=by
 obtain⟨b,off,cap,L,rfl,h1,h2,h3,h4⟩:=h;exact⟨b,off,cap,L,rfl,h1,h2,h3.later hb,h4⟩
theorem fO.app{e:TypeId}{v':Value}{xs news:List Value}(h:fO w sv s bs)(ha:gD w w' e v v' xs news)(ho:bK w e v xs)(he:(5:Nat)≠e):fO w' sv s bs:=by
 obtain⟨b,off,cap,L,rfl,h1,h2,h3,h4⟩:=h;exact⟨b,off,cap,L,rfl,h1,h2,ha.other h3 (ho.lU h3 he),h4⟩
theorem fO.alloc(h:fO w sv s bs)(o:Obj):fO (w.alloc o) sv s bs:=
 h.later ((Below.refl _ _).alloc (Nat.le_refl _) _)
theorem TW(b off s c K:Nat):∀u∈qO b off s c K,u.oneCell'=true:=by
 intro u hu;obtain⟨i,_,rfl⟩:=List.mem_map.1 hu;rfl
theorem Le(b off s c K n:Nat)(hn:Hid (n=K*s))(hs:1<=s)(kq:n<=65536)(gi:1<=K)(hK:K<=65536)(hc:n<=c)(ef:c<=9223372036854775807)(w:World):
  Calls prog 115 #[.slice (some ⟨b,off,none⟩) n c,.int .i64 s] w fun e w'=>
   ∃gO dN cur,e= .returned (.slice (some ⟨gO,0,none⟩) K dN)/\aB w' gO 28 cur/\cur.take K=qO b off s c K/\w.heap.size<=gO/\Below w.heap.size w w':=by
 refine(Ld b off s c K n hn hs kq hK hc ef w).mono ?_;rintro e w' ⟨v,rfl,ho,hf,hb⟩;obtain⟨g,cap,cur,rfl,hr,h1,h2,h3,h4⟩:=ho.open' (by rw[eP];omega);rw[eP]at h4;exact⟨g,cap,cur,by rw[eP],hr,h4,hf g rfl,hb⟩
theorem Iw(b off s c K n m p T:Nat)(D blk:List Nat)(hl:Hid (blk.length=K*s))(hn:Hid (n=K*s))(hx:∀x∈blk,x<256)(hs:1<=s)(eM:s<=16)(gi:1<=K)(hK:K<=20)(hp:p<=20)(kq:n<=65536)(py:n<=c)(ef:c<=9223372036854775807)
  (hT:(K:Int)+(p:Int)=(T:Int))(w:World)(hb:aB w b 5 (bO D))(hD:Hid (∀q,q<n->D[off+q]? =blk[q]?)):
  Calls prog 66 #[.slice (some ⟨b,off,none⟩) n c,.agg #[.int .i64 s,.int .i64 m,.int .i64 p]] w fun e w'=>
   ∃g cap cur,e= .returned (.slice (some ⟨g,0,none⟩) T cap)/\aB w' g 28 cur/\w.heap.size<=g/\Below w.heap.size w w'/\
    ∀q,q<T->∃sv,cur[q]? =some sv/\fO w' sv s (Pk.pieceN blk s K q):=by
 obtain⟨i0,hi,ep,cJ,cW⟩:=info_parts Tryz.infoBytes;have du:=hide ((Below.refl w.heap.size w).alloc (Nat.le_refl _) (.cells #[.int .i64 s,.int .i64 m,.int .i64 p] 35));have HB:=hide hb;have tA:=hb.lt;clear hb;have TZ:Hid (∀i,i<K->i*s+s<=n):=by
  intro i hi;have:=Nat.mul_le_mul_right s hi;rw[Nat.succ_mul]at this;have:=hn.out;omega
 go_enter func66,ntmps66;go_wp2_with first|(at_make;refine qF _ rfl _ _ 25 rfl 28 i0 (.slice none 0 0) underlying25 hi ep cJ rfl .i64 .i64 0 T rfl rfl (by omega) (by rw[cW];omega) (by omega) ?_)|(at_builtin;refine dG _ rfl _ _ 25 rfl 28 i0 (.slice none 0 0) 24 underlying25 hi ep cJ cW rfl _ [] rfl (Qh w1 28 (.slice none 0 0) T (by unfold maxLen;omega)) ⟨gO,0,none⟩ K dN (qO b off s c K) rfl (eP b off s c K) (TU (hO.out.alloc _) sC.out (eP b off s c K)) (TW b off s c K) (by simp[maxLen];omega) (by simp;omega) ?_)|(go_at_call 115;refine(Le b off s c K n hn hs kq gi (by omega) py ef _).mono ?_;rintro _ w1 ⟨gO,dN,cur,rfl,hO,sC,Yl,bp⟩;have c0:=cell_later bp (uM w _ _ _ _);have c2:=cell_later bp (OC w _ _ _ _);replace bp:=hide bp;replace hO:=hide hO;replace sC:=hide sC)
 intro v6 w2 bt;have dm:w.heap.size<w1.heap.size:=by have:=bp.out.size;simp at this;omega
 have cq:Below w1.heap.size w1 w2:=bt.below ((Below.refl _ _).alloc (Nat.le_refl _) _) (by simp) (by intro k hk;simp[Value.ownBlock]at hk;omega);have Ng:∀k,v6.ownBlock=some k->w1.heap.size<=k:=bt.from (by simp) (by intro k hk;simp[Value.ownBlock]at hk;omega);have fa:aB w1 b 5 (bO D):=(HB.out.later du.out).later bp.out;have oa:∀q,q<K+0->∃sv,(qO b off s c K)[q]? =some sv/\fO w2 sv s (Pk.pieceN blk s K q):=by
  intro q hq;refine⟨_,EU (by omega),b,off+q*s,c-q*s,bO D,rfl,?_,by omega,fa.later cq,?_⟩
  .have:=TZ.out q (by omega);omega
  .intro j hj;have h1:=TZ.out q (by omega);have h2:=hD.out (q*s+j) (by omega);have h3:q*s+j<blk.length:=by have:=hl.out;have:=hn.out;omega
   unfold Pk.pieceN;rw[if_pos (by omega),Pk.piece_at hj];rw[Nat.add_assoc];have h4:D[off+(q*s+j)]? =some (blk[q*s+j]?.getD 0):=by rw[h2];exact getD_some h3
   simp[bO,h4]
 have pP:=bt.own;rw[List.nil_append]at pP;have HO2:=hide pP;have Cr:=hide cq;have HF2:=hide Ng;have HP2:=hide oa
 have hlV:Hid ((qO b off s c K).length=K+0):=eP _ _ _ _ _;have US:Hid (w1.cell? ⟨w.heap.size,0,none⟩=some (.int .i64 s)):=c0;have hC2:Hid (w1.cell? ⟨w.heap.size,2,none⟩=some (.int .i64 p)):=c2;have d2:w2.cell? ⟨w.heap.size,2,none⟩=some (.int .i64 p):=(cq.cell (by exact dm)).trans c2;clear bt pP cq Ng oa c0 c2;go_wp2;go_loopw [6,23] (fun v x wr=>∃(j:Nat) (vs:List Value),j<=p/\x= .int .i64 j/\bK wr 28 v vs/\Hid (vs.length=K+j)/\(∀k,v.ownBlock=some k->w1.heap.size<=k)/\Below w1.heap.size w1 wr/\
   ∀q,q<K+j->∃sv,vs[q]? =some sv/\fO wr sv s (Pk.pieceN blk s K q))
  (fun _ x _=>leftOf p (intOf x).toNat)
 case atStart=>exact⟨0,_,by omega,rfl,HO2.out,hlV,HF2.out,Cr.out,HP2.out⟩
 case round=>
  obtain⟨j,vs,hj,rfl,br,hlen,fh,cX,cL⟩:=hrel;clear d2;by_cases ai:j<p
  .have d0:wr.cell? ⟨w.heap.size,0,none⟩=some (.int .i64 s):=(cX.cell (by exact dm)).trans US.out;have mo:=cX.size;have hSp:Hid (Calls prog 116 #[.slice (some ⟨gO,0,none⟩) K dN,.int .i64 j,.int .i64 s] wr fun e w'=>
     e= .returned (.slice (some ⟨wr.heap.size,0,none⟩) s s)/\Below wr.heap.size wr w'/\aB w' wr.heap.size 5 (bO (Pk.sumTo blk s j K))):=by
    refine Lh b off s c K j gO dN cur blk hl hx (by omega) (by omega) hs (by omega) wr (hO.out.below cX hO.out.lt) sC ?_ ?_
    .have:=du.out.size;have:=bp.out.size;simp at this;omega
    .intro q hq;have sT:q<n:=by have:=hn.out;omega
     apply (fa.below cX fa.lt).cell;have h2:=hD.out q sT;have h4:D[off+q]? =some (blk[q]?.getD 0):=by rw[h2];exact getD_some (by have:=hl.out;omega)
     simp[bO,h4]
   have Cn:=hide br;have HBk:=hide fh;have Cq:=hide cX;have Wa:=hide cL
   clear br fh cX cL;go_wp2_with first|(go_at_call 116;refine hSp.out.mono ?_;rintro _ w3 ⟨rfl,cQ,ib⟩;replace cQ:=hide cQ;replace ib:=hide ib)|(at_builtin;refine dG _ rfl _ _ 25 rfl 28 i0 (.slice none 0 0) 24 underlying25 hi ep cJ cW rfl _ vs rfl ((Cn.out.later cQ.out).alloc _) ⟨w3.heap.size,0,none⟩ 1 1 [.slice (some ⟨wr.heap.size,0,none⟩) s s] rfl rfl (cell_one_new _ _ _) (by intro u hu;simp at hu;subst hu;rfl) (by rw[hlen.out];unfold maxLen;omega) (by rw[hlen.out];omega) ?_)
   intro v' w4 bt;have HA:=hide bt;clear bt;go_wp2;go_roundw
   case rel=>
    have ij:=cQ.out.size;have jj:w1.heap.size<=(w3.alloc (.cells #[.slice (some ⟨wr.heap.size,0,none⟩) s s] 28)).heap.size:=by simp;omega
    have hbw3:Below w1.heap.size w1 w3:=Cq.out.trans (cQ.out.mono mo);have va:=(Cn.out.later cQ.out).alloc (.cells #[.slice (some ⟨wr.heap.size,0,none⟩) s s] 28);refine⟨j+1,_,by omega,by go_num,HA.out.own,?_,HA.out.from jj HBk.out,HA.out.below (hbw3.alloc (by omega) _) jj HBk.out,?_⟩
    .show(vs++_).length=K+(j+1);rw[List.length_append,hlen.out];rfl
    .intro q hq;by_cases cI:q<K+j
     .obtain⟨sv,h1,h2⟩:=Wa.out q cI;refine⟨sv,?_,((h2.later cQ.out).alloc _).app HA.out va (by decide)⟩;rw[List.getElem?_append_left (by rw[hlen.out];exact cI)];exact h1
     .have hq3:q=K+j:=by omega
      subst hq3;refine⟨.slice (some ⟨wr.heap.size,0,none⟩) s s,?_,?_⟩
      .rw[List.getElem?_append_right (by rw[hlen.out];omega),hlen.out,Nat.sub_self];rfl
      .have sX:fO w3 (.slice (some ⟨wr.heap.size,0,none⟩) s s) s (Pk.pieceN blk s K (K+j)):=by
        refine⟨wr.heap.size,0,s,_,rfl,Nat.le_refl _,by omega,ib.out,?_⟩;intro q hq;unfold Pk.pieceN;rw[if_neg (by omega),Nat.add_sub_cancel_left,Nat.zero_add];exact gX (by rw[Pk.sumTo_length hl.out K (Nat.le_refl _)];exact hq)
       exact(sX.alloc _).app HA.out va (by decide)
   case measure=>refine aW ?_ ?_<;>simp only[intOf]<;>omega
  .have e:j=p:=by omega
   subst e;obtain⟨g,cap,cur2,rfl,hr,h1,h2,h3,h4⟩:=br.open' (by rw[hlen.out];omega);have eT:Hid (vs.length=T):=by show vs.length=T;rw[hlen.out];omega
   have Ye:∀q,q<T->∃sv,cur2[q]? =some sv/\fO wr sv s (Pk.pieceN blk s K q):=by
    intro q hq;obtain⟨sv,k1,k2⟩:=cL q (by omega);exact⟨sv,take_at h4 k1,k2⟩
   have HR:=hide hr;have Cq:=hide cX;have Wa:=hide Ye
   have hg:=fh g rfl;rw[eT.out];clear br hr fh cX cL Ye h1 h2 h3 h4;go_wp2;go_ret;refine⟨g,cap,cur2,rfl,HR.out,by omega,?_,Wa.out⟩;exact(du.out.trans (bp.out.mono (by simp))).trans (Cq.out.mono (by omega))
theorem Gm(x:Nat):IntKind.u8.wrap (x:Int)=((x%256:Nat):Int):=by
 simp[IntKind.wrap,IntKind.bits,IntKind.signed]
theorem oF(g n c x:Nat)(L:List Value)(hx:x<65536)(hL:Hid (L.length=c))(hd:Hid ((L.drop n).take 2= [.int .u8 ((x/256:Nat):Int),.int .u8 ((x%256:Nat):Int)]))(eh:n+2<=c)(w:World)(hr:aB w g 5 (fill L (.int .u8 0) n)):
  Calls prog 117 #[.slice (some ⟨g,0,none⟩) n c,.int .i64 x] w fun e w'=>
   e= .returned (.slice (some ⟨g,0,none⟩) (n+2) c)/\w.grownBy w' (some g)/\aB w' g 5 (fill L (.int .u8 0) (n+2)):=by
 obtain⟨i0,hi,ep,cJ,cW⟩:=info_parts Tryz.infoByte;have dm:IntKind.u8.wrap ((x:Int)/256)=((x/256:Nat):Int):=by
  have e:(x:Int)/256=((x/256:Nat):Int):=by omega
  rw[e,dw _ (by omega) (by omega)]
 have lL:IntKind.u8.wrap (x:Int)=((x%256:Nat):Int):=Gm x;have HR:=hide hr;have hglt:=hr.lt;clear hr;go_enter func117,ntmps117;go_wp2_with (at_builtin;refine fP _ rfl _ _ 28 rfl 5 i0 underlying28 hi cJ g n c L (.int .u8 0) rfl hL.out (HR.out.alloc _) ⟨w.heap.size,0,none⟩ 2 2 [.int .u8 ((x/256:Nat):Int),.int .u8 ((x%256:Nat):Int)] rfl rfl (cell_two_new _ _ _ _) (by intro u hu;simp at hu;rcases hu with rfl|rfl<;>rfl) hd.out eh ?_)
 intro w1 h1 h2;have H1:=hide h1;have H2:=hide h2
 clear h1 h2;go_wp2;go_ret;exact⟨rfl,grownBy_trans (World.grownBy_alloc _ _ _) H2.out,H1.out⟩
structure PSt(w:World)(BX L:List Value)(n:Nat)(wk:World):Prop where
 row:aB wk (w.heap.size+1) 5 (fill L (.int .u8 0) n)
 box:aB wk w.heap.size 76 BX
 below:Below w.heap.size w wk
theorem PSt.alloc{wk:World}{BX L:List Value}(h:PSt w BX L n wk)(o:Obj):PSt w BX L n (wk.alloc o):=
 ⟨h.row.alloc o,h.box.alloc o,h.below.alloc h.below.size o⟩
theorem PSt.step{w wk w':World}{BX L:List Value}{n k:Nat}(h:PSt w BX L n wk)(hg:wk.grownBy w' (some (w.heap.size+1)))(hr:aB w' (w.heap.size+1) 5 (fill L (.int .u8 0) k)):PSt w BX L k w':=
 ⟨hr,h.box.of_block (hg.block _ h.box.lt (by simp)),h.below.grown hg h.below.size (by intro q hq;simp at hq;omega)⟩
theorem Qg(b off cap id len s m p z q c:Nat)(bs:List Nat)(hid:id<65536)(hlen:len<65536)(dC:1<=s)(hs:s<=16)(hm:m<256)(hp:p<256)(hz:z<256)(hq:q<256)(hc:(10:Int)+(s:Int)=(c:Int))
  (hl:Hid (bs.length=s))(w:World)(cF:∀j,j<s->w.cell? ⟨b,off+j,none⟩=some (.int .u8 ((bs[j]?.getD 0:Nat):Int))):
  Calls prog 67 #[.agg #[.int .i64 id,.int .i64 len,.int .i64 s,.int .i64 m,.int .i64 p,.int .i64 z,.int .i64 q],.slice (some ⟨b,off,none⟩) s cap] w fun e w'=>
   ∃g,e= .returned (.slice (some ⟨g,0,none⟩) c c)/\w.heap.size<=g/\Below w.heap.size w w'/\aB w' g 5 (bO (Pk.packet id len s m p z q bs)):=by
 obtain⟨i0,hi,ep,cJ,cW⟩:=info_parts Tryz.infoByte;have hP:Hid ((bO (Pk.packet id len s m p z q bs)).length=c):=by
  show _=_;rw[aP];simp[Pk.packet,Pk.head,hl.out];omega
 have hu:Hid (bO (Pk.packet id len s m p z q bs)= [.int .u8 70,.int .u8 ((id/256:Nat):Int),.int .u8 ((id%256:Nat):Int),.int .u8 ((len/256:Nat):Int),.int .u8 ((len%256:Nat):Int),.int .u8 s,.int .u8 m,.int .u8 p,.int .u8 z,.int .u8 q]++bO bs):=by
  show _=_;simp[bO,Pk.packet,Pk.head]
 revert hP hu;generalize bO (Pk.packet id len s m p z q bs)=L;intro hP hu;have tA:b<w.heap.size:=block_lt_of_cell (cF 0 (by omega));have HC:=hide cF;clear cF;have lA:Hid (c=10+s):=by show c=10+s;omega
 have gv:PSt w [.int .i64 id,.int .i64 len,.int .i64 s,.int .i64 m,.int .i64 p,.int .i64 z,.int .i64 q] L 0
   ((w.alloc (.cells #[.int .i64 id,.int .i64 len,.int .i64 s,.int .i64 m,.int .i64 p,.int .i64 z,.int .i64 q] 76)).alloc (.cells (madeCells #[.int .u8 0] c) 5)):=by
  refine⟨?_,(aK w _ _).alloc _,((Below.refl w.heap.size w).alloc (Nat.le_refl _) _).alloc (by simp) _⟩;have:=jA (w.alloc (.cells #[.int .i64 id,.int .i64 len,.int .i64 s,.int .i64 m,.int .i64 p,.int .i64 z,.int .i64 q] 76)) (.int .u8 0) c 5;rw[vR,hP.out];simpa using this
 have S0:=hide gv;clear gv;have ws:IntKind.u8.wrap (s:Int)=(s:Int):=dw _ (by omega) (by omega);have wm:IntKind.u8.wrap (m:Int)=(m:Int):=dw _ (by omega) (by omega);have wp:IntKind.u8.wrap (p:Int)=(p:Int):=dw _ (by omega) (by omega);have wz:IntKind.u8.wrap (z:Int)=(z:Int):=dw _ (by omega) (by omega);have wq:IntKind.u8.wrap (q:Int)=(q:Int):=dw _ (by omega) (by omega);go_enter func67,ntmps67;go_wp2_with first|(at_make;refine qF _ rfl _ _ 28 rfl 5 i0 (.int .u8 0) underlying28 hi ep cJ rfl .i64 .i64 0 c rfl rfl (by omega) (by rw[cW];omega) (by omega) ?_)|(at_builtin;refine fP _ rfl (.tmp 10) (.tmp 11) 28 rfl 5 i0 underlying28 hi cJ (w.heap.size+1) 0 c L (.int .u8 0) (by simp[Act.eval]) hP.out (S0.out.alloc _).row ⟨_,0,none⟩ 1 1 [.int .u8 70] rfl rfl (nK _ _ _ _ (by simp)) (by intro u hu;simp at hu;subst hu;rfl) (by rw[hu.out];rfl) (by omega) ?_)
 intro w1 dg c_;have Yb:=(S0.out.alloc (.cells #[.int .u8 70] 5)).step c_ dg;have S1:=hide Yb;have e0:=Yb.box.cell 0 _ rfl;have P1:=hide (oF (w.heap.size+1) 1 c id L hid hP (by show _=_;rw[hu.out];rfl) (by omega) w1 Yb.row);clear dg c_ Yb;go_wp2_with fail
 refine P1.out.mono ?_;rintro _ w2 ⟨rfl,eQ,dE⟩;have eM:=S1.out.step eQ dE;have S2:=hide eM;have e1:=eM.box.cell 1 _ rfl;have P2:=hide (oF (w.heap.size+1) 3 c len L hlen hP (by show _=_;rw[hu.out];rfl) (by omega) w2 eM.row);clear eQ dE eM e0 P1;go_wp2_with fail
 refine P2.out.mono ?_;rintro _ w3 ⟨rfl,ky,ib⟩;have ij:=S2.out.step ky ib;have S3:=hide ij;have e2:=ij.box.cell 2 _ rfl;have e3:=ij.box.cell 3 _ rfl;have e4:=ij.box.cell 4 _ rfl;clear ky ib ij e1 P2;go_wp2_with (at_builtin;refine fP _ rfl (.tmp 21) (.tmp 34) 28 rfl 5 i0 underlying28 hi cJ (w.heap.size+1) 5 c L (.int .u8 0) (by simp[Act.eval]) hP.out (S3.out.alloc _).row ⟨_,0,none⟩ 3 3 [.int .u8 s,.int .u8 m,.int .u8 p] rfl rfl (nK _ _ _ _ (by simp)) (by intro u hu;simp at hu;rcases hu with rfl|rfl|rfl<;>rfl) (by rw[hu.out];rfl) (by omega) ?_)
 intro w4 hr4 mC;have tM:=(S3.out.alloc (.cells #[.int .u8 s,.int .u8 m,.int .u8 p] 5)).step mC hr4;have S4:=hide tM;have e5:=tM.box.cell 5 _ rfl;have e6:=tM.box.cell 6 _ rfl;clear mC hr4 tM e2 e3 e4;go_wp2_with (at_builtin;refine fP _ rfl (.tmp 36) (.tmp 43) 28 rfl 5 i0 underlying28 hi cJ (w.heap.size+1) 8 c L (.int .u8 0) (by simp[Act.eval]) hP.out (S4.out.alloc _).row ⟨_,0,none⟩ 2 2 [.int .u8 z,.int .u8 q] rfl rfl (nK _ _ _ _ (by simp)) (by intro u hu;simp at hu;rcases hu with rfl|rfl<;>rfl) (by rw[hu.out];rfl) (by omega) ?_)
 intro w5 hr5 hg5;have mw:=(S4.out.alloc (.cells #[.int .u8 z,.int .u8 q] 5)).step hg5 hr5;have S5:=hide mw;have vu:Hid (∀j u,(bO bs)[j]? =some u->w5.cell? ((⟨b,off,none⟩:Addr).add j)=some u):=by
  intro j u Sa;have hj:j<s:=by
   have:=(List.getElem?_eq_some_iff.1 Sa).1;rw[aP,hl.out]at this;exact this
  rw[gX (by rw[hl.out];exact hj)]at Sa;rw[Addr.add_lit,<-Sa];exact(mw.below.cell (by exact tA)).trans (HC.out j hj)
 clear hg5 hr5 mw e5 e6;go_wp2_with (at_builtin;refine fP _ rfl (.tmp 45) (.tmp 46) 28 rfl 5 i0 underlying28 hi cJ (w.heap.size+1) 10 c L (.int .u8 0) (by simp[Act.eval]) hP.out S5.out.row ⟨b,off,none⟩ s cap (bO bs) rfl (by rw[aP,hl.out]) vu.out (by intro u hu;obtain⟨x,_,rfl⟩:=List.mem_map.1 hu;rfl) (by rw[hu.out];show(bO bs).take s=bO bs;rw[List.take_of_length_le (by rw[aP,hl.out];omega)]) (by omega) ?_)
 intro w6 hr6 hg6;have De:=S5.out.step hg6 hr6;have S6:=hide De;clear hg6 hr6 De;go_wp2;go_ret;refine⟨w.heap.size+1,?_,by omega,S6.out.below,?_⟩
 .show Ending.returned (.slice (some ⟨w.heap.size+1,0,none⟩) (10+s) c)=_;rw[<-lA.out]
 .have h:=S6.out.row;rw[<-lA.out,<-hP.out,Aj]at h;exact h
def mF(w:World)(ao:Option Addr)(n:Nat)(obj:List Nat):Prop:=
 obj.length=n/\(∀x∈obj,x<256)/\(0<n->∃b off,ao=some ⟨b,off,none⟩/\∀j,j<n->w.cell? ⟨b,off+j,none⟩=some (.int .u8 ((obj[j]?.getD 0:Nat):Int)))
theorem mF.later{ao:Option Addr}{obj:List Nat}(h:mF w ao n obj)(hb:Below w.heap.size w w'):mF w' ao n obj:=by
 refine⟨h.1,h.2.1,fun hn=>?_⟩;obtain⟨b,off,e,hc⟩:=h.2.2 hn;exact⟨b,off,e,fun j hj=>cell_later hb (hc j hj)⟩
theorem Pk.B_{obj:List Nat}{M:Nat}(h:obj.length<=M):(Pk.filled obj M).length=M:=by simp[Pk.filled];omega
theorem Pk.Rh{obj:List Nat}{M:Nat}(h:∀x∈obj,x<256):∀x∈Pk.filled obj M,x<256:=by
 intro x hx;simp only[Pk.filled,List.mem_append,List.mem_replicate]at hx;rcases hx with hx|⟨_,rfl⟩
 .exact h x hx
 .decide
theorem jH{l:List Nat}{k x:Nat}(h:l[k]? =some x):(l.take (k+1)).sum=(l.take k).sum+x:=by
 rw[<-vC h,List.sum_append];simp
theorem lM(l:List Nat)(k:Nat):(l.take k).sum<=l.sum:=by
 have:(l.take k).sum+(l.drop k).sum=l.sum:=by rw[<-List.sum_append,List.take_append_drop]
 omega
theorem Jv(ao:Option Addr)(n cap gB Z capB s N M:Nat)(obj L:List Nat)(BE:Hid (L.length=Z))(hN:Hid (L.sum=N))(Aa:N<=4096)(hM:(N:Int)*(s:Int)=(M:Int))(On:M<=65536)(Rm:n<=M)(hZ:Z<=4096)(w:World)
  (gI:mF w ao n obj)(hB:aB w gB 3 (dF L)):
  Calls prog 31 #[.slice ao n cap,.slice (some ⟨gB,0,none⟩) Z capB,.int .i64 s] w fun e w'=>
   e= .returned (.slice (some ⟨w.heap.size,0,none⟩) M M)/\Below w.heap.size w w'/\aB w' w.heap.size 5 (bO (Pk.filled obj M)):=by
 obtain⟨i0,hi,ep,cJ,cW⟩:=info_parts Tryz.infoByte;have HB:=hide hB;have HO:=hide gI
 clear hB gI;go_enter func31,ntmps31;go_wp2;go_loop [7,13] (fun v x=>∃k t:Nat,k<=Z/\x= .int .i64 k/\v= .int .i64 t/\t<=4096/\Hid (t=(L.take k).sum)) (fun _ x=>leftOf Z (intOf x).toNat)
 case atStart=>exact⟨0,0,by omega,rfl,rfl,by omega,show 0=_ by simp⟩
 case round=>
  obtain⟨k,t,hk,rfl,rfl,ht,fc⟩:=hrel;by_cases ai:k<Z
  .have ua:k<L.length:=by rw[BE.out];exact ai
   have hc:w.cell? ⟨gB,k,none⟩=some (.int .i64 ((L[k]?.getD 0:Nat):Int)):=HB.out.cell k _ (qM ua);have hS:Hid (t+L[k]?.getD 0=(L.take (k+1)).sum):=by
    show _=_;rw[jH (getD_some ua),fc.out]
   have hle:t+L[k]?.getD 0<=4096:=by
    rw[hS.out];have:=lM L (k+1);rw[hN.out]at this;omega
   revert hc hS hle;generalize L[k]?.getD 0=x;intro hc hS hle;clear ua;go_wp2;go_round
   case rel=>exact⟨k+1,t+x,by omega,by go_num,by go_num,hle,hS⟩
   case measure=>refine aW ?_ ?_<;>simp only[intOf]<;>omega
  .have e:k=Z:=by omega
   have e2:t=N:=by rw[fc.out,e,<-BE.out,List.take_length];exact hN.out
   subst e2;subst e;have gx:=HO.out.1;have hsrc:Hid (0<(bO obj).length->(some (⟨w.heap.size,0,none⟩:Addr)=some ⟨w.heap.size,0,none⟩)/\∃ad,ao=some ad/\∀j v,(bO obj)[j]? =some v->(w.alloc (.cells (madeCells #[.int .u8 0] M) 5)).cell? (ad.add j)=some v):=by
    intro eL;rw[aP,gx]at eL;obtain⟨b,off,e,hc⟩:=HO.out.2.2 eL;refine⟨rfl,_,e,?_⟩;intro j v RR;have hj:j<n:=by
     have:=(List.getElem?_eq_some_iff.1 RR).1;rw[aP,gx]at this;exact this
    rw[gX (by rw[gx];exact hj)]at RR;rw[Addr.add_lit,<-RR];exact cell_later ((Below.refl _ _).alloc (Nat.le_refl _) _) (hc j hj)
   have hlen:Hid ((bO obj).length=n):=by show _=_;rw[aP,gx]
   have cj:Hid (aB (w.alloc (.cells (madeCells #[.int .u8 0] M) 5)) w.heap.size 5 (List.replicate M (.int .u8 0))):=jA _ _ _ _;clear gx;go_wp2_with first|(at_make;refine qF _ rfl _ _ 28 rfl 5 i0 (.int .u8 0) underlying28 hi ep cJ rfl .i64 .i64 M M rfl rfl (by omega) (by rw[cW];omega) (by omega) ?_)|(refine wpList_copy_splice rfl (.tmp 25) (.tmp 26) 28 28 rfl 5 underlying28 (by kernel_rfl) _ _ M M n cap rfl rfl w.heap.size 0 _ 5 cj.out (bO obj) (by rw[hlen.out];show n=min n M;omega) hsrc.out (by rw[hlen.out];simp;omega) (by intro u hu;obtain⟨x,_,rfl⟩:=List.mem_map.1 hu;rfl) w.heap.size w ((Below.refl _ _).alloc (Nat.le_refl _) _) (Nat.le_refl _) ?_)
   intro w1 dg bp;have hr1':Hid (aB w1 w.heap.size 5 (bO (Pk.filled obj M))):=by
    have h:=dg.out;have e:splice (List.replicate M (Value.int .u8 0)) 0 (bO obj)=bO (Pk.filled obj M):=by
     simp[splice,bO,Pk.filled]
    rw[e]at h;exact h
   have dk:=hide bp;clear dg bp;go_wp2;go_ret;exact⟨rfl,dk.out,hr1'.out⟩
def uj(c g:Nat):Value:=.slice (some ⟨g,0,none⟩) c c
structure Packs(w:World)(B:Nat)(v:Value)(c:Nat)(ps:List (List Nat))(gs:List Nat):Prop where
 own:bK w 28 v (gs.map (uj c))
 len:gs.length=ps.length
 row:∀(i g:Nat) (bs:List Nat),gs[i]? =some g->ps[i]? =some bs->aB w g 5 (bO bs)
 from_:∀g∈gs,B<=g
 nodup:gs.Nodup
 at_:∀k,v.ownBlock=some k->B<=k
theorem Packs.has{gs:List Nat}(h:Packs w B v c ps gs)(hg:g∈gs):∃bs,aB w g 5 (bO bs):=by
 obtain⟨i,hi,rfl⟩:=List.mem_iff_getElem.1 hg;have bh:i<ps.length:=by rw[<-h.len];exact hi
 exact⟨ps[i],h.row i _ _ (by simp[hi]) (by simp[bh])⟩
theorem Packs.lt{gs:List Nat}(h:Packs w B v c ps gs)(hg:g∈gs):g<w.heap.size:=by
 obtain⟨bs,hr⟩:=h.has hg;exact hr.lt
theorem Packs.of_block{gs:List Nat}(h:Packs w B v c ps gs)(hg:∀g∈gs,w'.heap[g]? =w.heap[g]?)(hv:∀k,v.ownBlock=some k->w'.heap[k]? =w.heap[k]?):Packs w' B v c ps gs:=
 ⟨h.own.of_block hv,h.len,fun i g bs h1 h2=>(h.row i g bs h1 h2).of_block (hg g (List.mem_of_getElem? h1)),h.from_,h.nodup,h.at_⟩
theorem Packs.later{gs:List Nat}(h:Packs w B v c ps gs)(hb:Below w.heap.size w w'):Packs w' B v c ps gs:=
 h.of_block (fun _ hg=>hb.block _ (h.lt hg)) (fun _ hk=>hb.block _ (h.own.lt hk))
theorem Packs.mono{B':Nat}{gs:List Nat}(h:Packs w B v c ps gs)(hB:B'<=B):Packs w B' v c ps gs:=
 ⟨h.own,h.len,h.row,fun g hg=>Nat.le_trans hB (h.from_ g hg),h.nodup,fun k hk=>Nat.le_trans hB (h.at_ k hk)⟩
theorem Packs.nil(w:World)(B c:Nat):Packs w B (.slice none 0 0) c [] []:=
 ⟨h_ _ _,rfl,by intro i g bs h;simp at h,by simp,List.nodup_nil,by intro k hk;simp[Value.ownBlock]at hk⟩
theorem Packs.setCell{gs:List Nat}(h:Packs w B v c ps gs){b i:Nat}{t:TypeId}{L:List Value}(hb:aB w b t L)(h1:t≠(5:Nat))(h2:t≠(28:Nat))(u:Value):Packs (w.setCell ⟨b,i,none⟩ u) B v c ps gs:=by
 refine h.of_block (fun g hg=>?_) (fun k hk=>?_)
 .obtain⟨bs,hr⟩:=h.has hg;exact blk_setCell_other _ _ _ _ (hr.lF hb (fun e=>h1 e.symm))
 .refine blk_setCell_other _ _ _ _ (fun e=>?_);have e':k=b:=e;subst e';exact h.own.lU hb h2 hk
theorem Packs.step{w w3 w4:World}{B:Nat}{v v':Value}{c g:Nat}{ps:List (List Nat)}{gs bs:List Nat}{o:Obj}(h:Packs w B v c ps gs)(hb:Below w.heap.size w w3)(hg:aB w3 g 5 (bO bs))(eJ:w.heap.size<=g)(hB:B<=w.heap.size)
  (ha:gD (w3.alloc o) w4 28 v v' (gs.map (uj c)) [uj c g]):Packs w4 B v' c (ps++ [bs]) (gs++ [g]):=by
 have h3:=(h.later hb).later ((Below.refl _ _).alloc (Nat.le_refl _) o);have UT:B<=(w3.alloc o).heap.size:=by have:=hb.size;simp;omega
 have cj:∀g' bs',aB (w3.alloc o) g' 5 (bO bs')->aB w4 g' 5 (bO bs'):=fun g' bs' hr=>ha.other hr (h3.own.lU hr (by decide));refine⟨by have:=ha.own;simpa using this,by simp[h.len],?_,?_,?_,ha.from UT h.at_⟩
 .intro i g' bs' h1 h2;by_cases hi:i<gs.length
  .rw[List.getElem?_append_left hi]at h1;rw[List.getElem?_append_left (by rw[<-h.len];exact hi)]at h2;exact cj _ _ (h3.row i g' bs' h1 h2)
  .rw[List.getElem?_append_right (by omega)]at h1;rw[List.getElem?_append_right (by rw[<-h.len];omega)]at h2;have ix:i-gs.length=0:=by
    rcases Nat.eq_zero_or_pos (i-gs.length)with h0|h0
    .exact h0
    .rw[List.getElem?_eq_none (by simp;omega)]at h1;simp at h1
   rw[ix]at h1;rw[<-h.len,ix]at h2;simp at h1 h2;subst h1 h2;exact cj _ _ (hg.alloc o)
 .intro g' cE;rcases List.mem_append.1 cE with h1|h1
  .exact h.from_ g' h1
  .simp at h1;subst h1;omega
 .rw[List.nodup_append];refine⟨h.nodup,by simp,?_⟩;intro a sn b' cU e;simp at cU;have:=h.lt sn;omega
theorem sP(b off c0 id len s m p z q0 K n T c B:Nat)(D blk gs:List Nat)(v:Value)(ps:List (List Nat))(hid:id<65536)(hlen:len<65536)(dC:1<=s)(hs:s<=16)(hm:m<=20)(hp:p<=20)(hz:z<256)(gi:1<=K)(hK:K<=20)
  (hl:Hid (blk.length=K*s))(hn:Hid (n=K*s))(hx:∀x∈blk,x<256)(kq:n<=65536)(py:n<=c0)(ef:c0<=9223372036854775807)(hT:(K:Int)+(p:Int)=(T:Int))(hc:(10:Int)+(s:Int)=(c:Int))(w:World)
  (hb:aB w b 5 (bO D))(hD:Hid (∀q,q<n->D[off+q]? =blk[q]?))(cL:Packs w B v c ps gs)(hB:B<=w.heap.size)(eI:ps.length<=65536):
  Calls prog 32 #[v,.agg #[.int .i64 id,.int .i64 len,.int .i64 s,.int .i64 m,.int .i64 p,.int .i64 z,.int .i64 q0],.slice (some ⟨b,off,none⟩) n c0] w fun e w'=>
   ∃v' gs',e= .returned v'/\Packs w' B v' c (ps++Pk.iy id len s m p z K blk) gs'/\Kp (fun k=>v.ownBlock=some k) w w':=by
 obtain⟨i0,hi,ep,cJ,cW⟩:=info_parts Tryz.infoBytes;have du:=hide ((Below.refl w.heap.size w).alloc (Nat.le_refl _) (.cells #[.int .i64 id,.int .i64 len,.int .i64 s,.int .i64 m,.int .i64 p,.int .i64 z,.int .i64 q0] 76));have hP:=hide (Iw b off s c0 K n m p T D blk hl hn hx dC hs gi hK hp kq py ef hT (w.alloc (.cells #[.int .i64 id,.int .i64 len,.int .i64 s,.int .i64 m,.int .i64 p,.int .i64 z,.int .i64 q0] 76)) (hb.alloc _) hD);have oA:=hide (aK w #[.int .i64 id,.int .i64 len,.int .i64 s,.int .i64 m,.int .i64 p,.int .i64 z,.int .i64 q0] 76);have HPS:=hide cL;clear cL hb;have sr:Hid (T=K+p):=by show T=K+p;omega
 have lA:Hid (c=10+s):=by show c=10+s;omega
 go_enter func32,ntmps32;go_wp2_with (go_at_call 66;refine hP.out.mono ?_;rintro _ w2 ⟨gP,capP,cur,rfl,Q2,hgP,cq,Ra⟩;replace Q2:=hide Q2;replace cq:=hide cq;replace Ra:=hide Ra)
 have hw12:w.heap.size<w2.heap.size:=by have:=cq.out.size;simp at this;omega
 have hgP':w.heap.size+1<=gP:=by simp at hgP;omega
 have Km:=hide (oA.out.later cq.out);have K9:=hide ((HPS.out.later du.out).later cq.out);have hXP:Hid (¬(gP=w.heap.size\/v.ownBlock=some gP)):=by
  rintro(h|h)
  .omega
  .have:=HPS.out.own.lt h;omega
 have Tg:Hid (∀g L,aB w2 g 5 L->¬(g=w.heap.size\/v.ownBlock=some g)):=by
  rintro g L hr (h|h)
  .subst h;exact absurd (hr.unique Km.out).1 (by decide)
  .exact K9.out.own.lU hr (by decide) h
 clear hgP;go_loopw [0,14] (fun v' x wr=>∃(k x6:Nat) (gs':List Nat),k<=T/\x= .int .i64 k/\Packs wr B v' c (ps++(Pk.iy id len s m p z K blk).take k) gs'/\Kp (fun k=>k=w.heap.size\/v.ownBlock=some k) w2 wr/\
   aB wr w.heap.size 76 [.int .i64 id,.int .i64 len,.int .i64 s,.int .i64 m,.int .i64 p,.int .i64 z,.int .i64 x6]/\(∀k,v'.ownBlock=some k->v.ownBlock=some k\/w2.heap.size<=k))
  (fun _ x _=>leftOf T (intOf x).toNat)
 case atStart=>exact⟨0,q0,gs,by omega,rfl,by simpa using K9.out,Kp.refl _ _,Km.out,fun k hk=>Or.inl hk⟩
 case round=>
  obtain⟨k,x6,gs',hk,rfl,gr,er,gJ,l_⟩:=hrel;by_cases ai:k<T
  .obtain⟨sv,bw,b',off',cap',L,rfl,q1,q2,q3,q4⟩:=Ra.out k ai;have bm:wr.cell? ⟨gP,k,none⟩=some (.slice (some ⟨b',off',none⟩) s cap'):=(er.row Q2.out hXP.out).cell k _ bw;have WH:=er.row q3 (Tg.out b' L q3);have oE:b'≠w.heap.size:=fun e=>Tg.out b' L q3 (Or.inl e);have e0:=gJ.cell 0 _ rfl;have e1:=gJ.cell 1 _ rfl;have e2:=gJ.cell 2 _ rfl;have e3:=gJ.cell 3 _ rfl;have e4:=gJ.cell 4 _ rfl;have e5:=gJ.cell 5 _ rfl;have e6:=gJ.cell 6 _ rfl;have f6:=gJ.frozen 6;have hPk:=hide (Qg b' off' cap' id len s m p z k c (Pk.pieceN blk s K k) hid hlen dC hs (by omega) (by omega) hz (by omega) hc (Pk.dW hl.out) (wr.setCell ⟨w.heap.size,6,none⟩ (.int .i64 k)) (fun j hj=>(WH.other oE _).cell _ _ (q4 j hj)));have mf:=hide (gr.setCell (i:=6) gJ (by decide) (by decide) (.int .i64 k));have vd:Hid ((gs'.map (uj c)).length<=65576):=by
    show _<=_;rw[List.length_map,gr.len,List.length_append,List.length_take,Pk.lD];omega
   have Yj:=hide (er.setCell (a:=⟨w.heap.size,6,none⟩) (Or.inl (Or.inl rfl)) (.int .i64 k));have Vb:=hide (gJ.set 6 (.int .i64 k));have hBw:B<=wr.heap.size:=by have:=er.size;omega
   have hszs:Hid ((wr.setCell ⟨w.heap.size,6,none⟩ (.int .i64 k)).heap.size=wr.heap.size):=by show _=_;simp[World.setCell]
   have HAT:=hide l_;clear gr er gJ l_ bw q1 q2 q3 q4 WH;go_wp2_with first|(go_at_call 67;refine hPk.out.mono ?_;rintro _ w3 ⟨g3,rfl,ky,cQ,ib⟩;replace cQ:=hide cQ;replace ib:=hide ib)|(at_builtin;refine dG _ rfl _ _ 25 rfl 28 i0 (.slice none 0 0) 24 underlying25 hi ep cJ cW rfl _ (gs'.map (uj c)) rfl ((mf.out.later cQ.out).own.alloc _) ⟨w3.heap.size,0,none⟩ 1 1 [uj c g3] rfl rfl (nK _ _ _ _ rfl) (by intro u hu;simp at hu;subst hu;rfl) (by have:=vd.out;unfold maxLen;omega) (by have:=vd.out;omega) ?_)
   intro v' w4 bt;have HA:=hide bt;clear bt;go_wp2;go_roundw
   case rel=>
    have aq:=mf.out.step cQ.out ib.out ky (by rw[hszs.out];exact hBw) HA.out;refine⟨k+1,k,gs'++ [g3],by omega,by go_num,?_,?_,?_,?_⟩
    .rw[List.append_assoc,vC (Pk.zC (by have:=sr.out;omega))]at aq;exact aq
    .refine((Yj.out.below cQ.out).alloc _).grown HA.out.grown ?_;intro q hq;rcases HAT.out q hq with h|h
     .exact Or.inl (Or.inr h)
     .exact Or.inr h
    .have h1:=(Vb.out.later cQ.out).alloc (.cells #[uj c g3] 28);exact HA.out.other h1 (((mf.out.later cQ.out).own.alloc _).lU h1 (by decide))
    .intro q hq;rcases HA.out.block with h|h
     .exact HAT.out q (h▸hq)
     .rw[h]at hq;simp at hq;have h5:=Yj.out.size;have h6:=cQ.out.size;right;omega
   case measure=>refine aW ?_ ?_<;>simp only[intOf]<;>omega
  .have e:k=T:=by omega
   subst e;have hpk2:Hid (Packs wr B u0 c (ps++Pk.iy id len s m p z K blk) gs'):=by
    have:(Pk.iy id len s m p z K blk).take k=Pk.iy id len s m p z K blk:=List.take_of_length_le (by rw[Pk.lD,sr.out];omega);rw[this]at gr;exact gr
   have xn:=hide er;clear gr er gJ l_;go_wp2;go_ret;refine⟨_,gs',rfl,hpk2.out,?_⟩;have h1:Kp (fun k=>v.ownBlock=some k) w w2:=(Kp.of_below du.out).below cq.out;refine⟨xn.out.os.trans h1.os,xn.out.tape.trans h1.tape,xn.out.output.trans h1.output,Nat.le_trans h1.size xn.out.size,fun q hq hx=>?_⟩;refine(xn.out.block q (by omega) ?_).trans (h1.block q hq hx);rintro(h|h)
   .omega
   .exact hx h
