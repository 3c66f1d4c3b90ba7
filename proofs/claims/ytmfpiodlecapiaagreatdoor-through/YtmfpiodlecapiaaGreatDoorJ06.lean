import Derived.Test.YtmfpiodlecapiaaGreatDoorJ05
import Derived.Conc.Walk
namespace Go.fE
section
open Go.Ren Go.bn Go.Conc
variable{fr:Frame}{i:Nat}{k:List Item}{cs':List Frame}{v:Value}
variable {P:Program} {X A:FuncId->Bool} {D:FuncId->List Nat}
def Lv:List Frame->Prop
 | [b]=>match b.mode with| .run=>b.todo= []|_=>b.defers= []
 |_=>False
def IZ(P:Program)(fr:Frame)(cs:List Frame):Except Value Next->Sem (List Frame)
 | .error v=>pure (fr.raise [{v,recovered:=false}]::cs)
 | .ok (.value v)=>pure (fr.finish v::cs)
 | .ok .skip=>pure (fr.finish undef::cs)
 | .ok (.enter f xs)=>pure (Frame.enter P f xs .normal::fr::cs)
 | .ok (.defer d)=>pure ({fr with defers:=d::fr.defers}.finish undef::cs)
 | .ok .recover=>pure (match tryRecover fr cs with|some (v,cs')=>fr.finish v::cs'|none=>fr.finish .nilIface::cs)
 |_=>stuck ""
theorem Zz(fr:Frame)(cs:List Frame)(r:Except Value Next):Tm P (IZ P fr cs r):=by
 unfold IZ;split<;>first|exact ay _|exact aA
theorem qQ.same{fr':Frame}(h:qQ P X A D fr)(h1:fr'.todo=fr.todo)(h2:fr'.fn=fr.fn)(h3:fr'.tmps=fr.tmps)(h4:fr'.defers=fr.defers)(h5:fr'.kind=fr.kind)(h6:fr'.roundOf=fr.roundOf):qQ P X A D fr':=
 ⟨by rw[h1,h2];exact h.items,by rw[h2,h3];exact h.slots,by rw[h4];exact h.defs,by rw[h5];exact h.kind,by rw[h6];exact h.round,by rw[h2,h4];exact h.nod⟩
theorem qQ.raise(h:qQ P X A D fr)(ch:List PanicEntry):qQ P X A D (fr.raise ch):=by
 refine h.same ?_ ?_ ?_ ?_ ?_ ?_<;>(unfold Frame.raise;split<;>rfl)
theorem tZ(fr:Frame)(ch:List PanicEntry):(fr.raise ch).fn=fr.fn/\(fr.raise ch).kind=fr.kind:=by unfold Frame.raise;split<;>exact⟨rfl,rfl⟩
theorem qQ.finish(h:qQ P X A D fr){ops:Array Oper}{rest:List Nat}(ht:fr.todo= .inRegion ops (i::rest)::k)(v:Value)(hv:(∀o,ops[i]? =some o->uK (D fr.fn) o=true)\/Good A D v):qQ P X A D (fr.finish v):=by
 have hd:fr.finish v= {fr with tmps:=(match(ops[i]?).bind (·.dst)with|some d=>fr.tmps.setIfInBounds d v|none=>fr.tmps),todo:=.inRegion ops rest::k}:=by
  unfold Frame.finish;rw[ht];rfl
 have hi:=h.items;rw[ht]at hi;rw[hd];refine⟨fun x hx=>?_,fun t ba=>?_,h.defs,h.kind,h.round,h.nod⟩
 .rcases List.mem_cons.1 hx with rfl|hx
  .exact hi (.inRegion ops (i::rest)) (by simp)
  .exact hi x (by simp[hx])
 .have h0:=h.slots t ba;cases ho:ops[i]? with
  |none=>simpa[ho]using h0
  |some o=>
   cases th:o.dst with
   |none=>simpa[ho,th]using h0
   |some d=>
    simp only[Option.bind_some,th];rcases hv with hv|hv
    .have:=hv o ho;simp only[uK,th,Bool.not_eq_true',List.contains_eq_mem,decide_eq_false_iff_not]at this;have bd:d≠t:=fun e=>this (e▸ba);simpa[Array.getElem?_setIfInBounds,bd]using h0
    .by_cases e:d=t
     .subst e;by_cases ai:d<fr.tmps.size
      .simpa[ai]using hv
      .simpa[ai]using h0
     .simpa[Array.getElem?_setIfInBounds,e]using h0
theorem bE(fr:Frame)(v:Value):(fr.finish v).fn=fr.fn/\(fr.finish v).kind=fr.kind:=by
 unfold Frame.finish;split<;>exact⟨rfl,rfl⟩
theorem nR:Good A D undef:=⟨by simp[undef],fun fn pre caps e=>by simp[undef]at e⟩
theorem qQ.enter(hC:bX P X A D){f:FuncId}(hA:A f=true){xs:Array Value}(hx:∀t∈D f,xs.size<=t){k:CallKind}(hk:k= .normal\/k= .deferred):qQ P X A D (Frame.enter P f xs k):=by
 obtain⟨fn,c,h1,h2,_,h4⟩:=hC.fn hA;refine⟨fun x hx=>?_,fun t ht=>?_,fun d hd=>by simp[Frame.enter]at hd,hk,rfl,fun _=>rfl⟩
 .simp only[Frame.enter,h1,Option.bind_some,h2,Option.getD_some,List.mem_singleton]at hx;subst hx;exact h4
 .have ai:=hx t ht;simp only[Frame.enter,Array.getD_eq_getD_getElem?,Array.getElem?_append_right ai,Array.getElem?_replicate];split<;>exact nR
theorem ni(C:Ctx)(c:Frame)(cs:List Frame)(fr:Frame):gW C (c::cs) fr=fr:=rfl
theorem Sl{cs:List Frame}(h:sS P X A D (fr::cs))(k:List Item)(hk:∀x∈k,rE P X A D (D fr.fn) x=true)(aq:∀(C:Ctx) (w:World),stepG P true (bG C (fr::cs)) w= .go (bG C ({fr with todo:=k}::cs)) w #[]):Told P X A D (fr::cs):=
 .still aq (h.swap ⟨hk,h.head.slots,h.head.defs,h.head.kind,h.head.round,h.head.nod⟩ rfl rfl)
theorem Qy{C:Ctx}{cs:List Frame}{c:Frame}(m:FrameMode):gW C cs {c with mode:=m}= {gW C cs c with mode:=m}:=by
 rw[bL,bL]
theorem Bq(C:Ctx){cs:List Frame}(h:sS P X A D (fr::cs))(fr':Frame)(hk:fr'.kind=fr.kind):tryRecover fr' (jC C cs)=(tryRecover fr cs).map fun x=>(x.1,jC C x.2):=by
 obtain⟨f,t,td,ds,m,k,r⟩:=fr;obtain⟨f',t',td',ds',m',k',r'⟩:=fr';simp only at hk;subst hk;have ae:=h.head.kind;simp only at ae;rcases ae with rfl|rfl
 .simp[tryRecover]
 .cases h with
  |one _ hk=>cases hk
  |@cons _ c cs h1 h2 h3 h4=>
   simp only[tryRecover,jC];have hm:(gW C cs c).mode=c.mode:=by rw[bL]
   rw[hm];cases hc:c.mode with
   |panicking ch=>
    cases ch with
    |nil=>rfl
    |cons e older=>
     obtain⟨v,rec,ge⟩:=e;cases rec<;>cases ge<;>simp[jC,Qy]
   |_=>rfl
theorem yN{cs:List Frame}(h:sS P X A D (fr::cs))(e:tryRecover fr cs=some (v,cs')):sS P X A D (fr::cs'):=by
 rcases h.head.kind with hk|hk
 .simp[tryRecover,hk]at e
 .cases h with
  |one _ dq=>rw[hk]at dq;cases dq
  |@cons _ c cs h1 h2 h3 h4=>
   simp only[tryRecover,hk]at e;split at e
   .simp only[Option.some.injEq,Prod.mk.injEq]at e;obtain⟨rfl,rfl⟩:=e;exact .cons h1 h2 (fun dq=>by rw[hk]at dq;cases dq) (h4.swap (h4.head.same rfl rfl rfl rfl rfl rfl) rfl rfl)
   .cases e
theorem xO{cs:List Frame}(h:sS P X A D (fr::cs))(e:tryRecover fr cs=some (v,cs')):∃c c' cs0,cs=c::cs0/\cs'=c'::cs0:=by
 rcases h.head.kind with hk|hk
 .simp[tryRecover,hk]at e
 .cases cs with
  |nil=>simp[tryRecover,hk]at e
  |cons c cs=>
   simp only[tryRecover,hk]at e;split at e
   .simp only[Option.some.injEq,Prod.mk.injEq]at e;exact⟨_,_,_,rfl,e.2.symm⟩
   .cases e
theorem W_(hC:bX P X A D){cs:List Frame}(h:sS P X A D (fr::cs))(hm:fr.mode= .run){ops:Array Oper}{rest:List Nat}(ht:fr.todo= .inRegion ops (i::rest)::k){o:Oper}(ho:ops[i]? =some o)(hw:Region.wanted o (yielded ops fr.tmps)=true):Told P X A D (fr::cs):=by
 have a_:WE P X A D (D fr.fn) o=true:=by
  have:=h.head.items (.inRegion ops (i::rest)) (by rw[ht];simp);exact Array.all_eq_true'.1 this o (Array.mem_of_getElem? ho)
 have htm:=Z4 hC a_ fr;have e5:∀C,(gW C cs fr).tmps=fr.tmps:=fun C=>by rw[bL]
 have e3:∀C,(gW C cs fr).roundOf=none:=fun C=>by rw[bL];exact h.head.round
 have e4:∀C,(gW C cs fr).mode= .run:=fun C=>by rw[bL];exact hm
 have e6:∀C,(gW C cs fr).fn=fr.fn:=fun C=>by rw[bL]
 have e1:∀C,(gW C cs fr).todo= .inRegion ops (i::rest)::(k++wV C cs):=fun C=>by rw[bL,ht];rfl
 have e2:∀C,(gW C cs fr).oper? =some o:=fun C=>by simp[Frame.oper?,e1,ho]
 have hk:∀C,((gW C cs fr).kind==CallKind.early)=false:=fun C=>by
  rw[bL];rcases h.head.kind with hk|hk<;>simp[hk]
 have bt:∀C w,stepG P true (bG C (fr::cs)) w=stepG.apply P true (gW C cs fr) (jC C cs) none (execOp fr.eval o) w:=fun C w=>by
  rw[<-IE C cs fr];simp[bG,G,stepG,stepG.exec,stepG.oper,e4,e1,e2,e3,e5,ho,hw]
 have cY:∀C v,(gW C cs fr).finish v=gW C cs (fr.finish v):=fun C v=>lC C cs fr v ht;have ml:uK (D fr.fn) o=true->∀o',ops[i]? =some o'->uK (D fr.fn) o'=true:=fun h o' e=>by rw[ho]at e;cases e;exact h
 refine⟨(kR (execOp fr.eval o)).bind (IZ P fr cs),(Xd htm).bind (Zz fr cs),⟨fun C w s' w' es e=>?_,fun w x w' es hx e=>?_⟩,fun w s' w' e=>?_⟩
 .rw[Sem.runT_bind',uY,Sem.runT_eq]at e;refine⟨fr.fn,?_⟩;rw[bt];generalize mL:(execOp fr.eval o).events P w #[]=ev at e;cases ag:(execOp fr.eval o).run P w with
  |halt y w1=>
   rw[ag]at e;cases y with
   |panic v=>
    have e:((Result.ok (fr.raise [{v,recovered:=false}]::cs) w1,ev):Result (List Frame)×Array Event)=(.ok s' w',es):=e;simp only[Prod.mk.injEq,Result.ok.injEq]at e;obtain⟨⟨rfl,rfl⟩,rfl⟩:=e;simp[stepG.apply,ag,mL,hk,e6,GStep.after,bG,G,Dq]
   |_=>simp[caught]at e
  |ok n w1=>
   have hn:=zB hC a_ h.head.slots ag;rw[ag]at e;cases hn with
   |@val v hv=>
    have e:((Result.ok (fr.finish v::cs) w1,ev):Result (List Frame)×Array Event)=(.ok s' w',es):=e;simp only[Prod.mk.injEq,Result.ok.injEq]at e;obtain⟨⟨rfl,rfl⟩,rfl⟩:=e;simp[stepG.apply,ag,mL,hk,e6,GStep.after,bG,G,cY]
   |skip=>
    have e:((Result.ok (fr.finish undef::cs) w1,ev):Result (List Frame)×Array Event)=(.ok s' w',es):=e;simp only[Prod.mk.injEq,Result.ok.injEq]at e;obtain⟨⟨rfl,rfl⟩,rfl⟩:=e;simp[stepG.apply,ag,mL,hk,e6,GStep.after,bG,G,cY]
   |@enter f xs h1 h2 h3=>
    have e:((Result.ok (Frame.enter P f xs .normal::fr::cs) w1,ev):Result (List Frame)×Array Event)=(.ok s' w',es):=e;simp only[Prod.mk.injEq,Result.ok.injEq]at e;obtain⟨⟨rfl,rfl⟩,rfl⟩:=e;simp[stepG.apply,ag,mL,hk,e6,e1,GStep.after,bG,G,jC,ni]
   |@defer d hd bd=>
    have e:((Result.ok ({fr with defers:=d::fr.defers}.finish undef::cs) w1,ev):Result (List Frame)×Array Event)=(.ok s' w',es):=e;simp only[Prod.mk.injEq,Result.ok.injEq]at e;obtain⟨⟨rfl,rfl⟩,rfl⟩:=e;have:({gW C cs fr with defers:=d::(gW C cs fr).defers}:Frame).finish undef=gW C cs ({fr with defers:=d::fr.defers}.finish undef):=by
     rw[<-lC C cs {fr with defers:=d::fr.defers} undef ht,bL,bL];rfl
    simp[stepG.apply,ag,mL,hk,e6,GStep.after,bG,G];rw[<-this];simp only[e6]
   |recover h1=>
    have e:((Result.ok (match tryRecover fr cs with|some (v,cs')=>fr.finish v::cs'|none=>fr.finish .nilIface::cs) w1,ev):Result (List Frame)×Array Event)=(.ok s' w',es):=e;simp only[Prod.mk.injEq,Result.ok.injEq]at e;obtain⟨⟨rfl,rfl⟩,rfl⟩:=e;have ht:=Bq C h (gW C cs fr) (by rw[bL]);cases hr:tryRecover fr cs with
    |none=>simp[stepG.apply,ag,mL,hk,e3,e6,GStep.after,bG,G,cY,ht,hr]
    |some x=>
     obtain⟨v,cs'⟩:=x;obtain⟨c,c',cs0,rfl,rfl⟩:=xO h hr;have ja:gW C (c'::cs0) (fr.finish v)=gW C (c::cs0) (fr.finish v):=rfl;simp[stepG.apply,ag,mL,hk,e3,e6,GStep.after,bG,G,cY,ht,hr,ja]
 .rw[Sem.runT_bind',uY,Sem.runT_eq]at e;rw[bt];cases ag:(execOp fr.eval o).run P w with
  |ok n w1=>
   have hn:=zB hC a_ h.head.slots ag;rw[ag]at e;cases hn<;>simp[caught,IZ]at e
  |halt y w1=>
   rw[ag]at e;cases y with
   |panic v=>simp[caught,IZ]at e
   |stuck why=>exact⟨.stuck why ((gW (C0 P) cs fr).pos P),w1,by simp[stepG.apply,ag]⟩
   |unsupported y=>
    simp only[caught,Prod.mk.injEq,Result.halt.injEq]at e;obtain⟨⟨rfl,rfl⟩,rfl⟩:=e;refine⟨.unsupported y ((gW (C0 P) cs fr).pos P),w1,?_⟩;cases y with
    |initOrder g=>
     have hl:=hC.late g (hx.elim id fun⟨_,e⟩=>by cases e);simp[stepG.apply,ag,early,hC.ahead,hl]
    |_=>simp[stepG.apply,ag]
   |_=>
    simp only[caught,Prod.mk.injEq,Result.halt.injEq]at e;obtain⟨⟨rfl,rfl⟩,rfl⟩:=e;exact hx.elim False.elim fun⟨_,e⟩=>by cases e
 .rw[run_bind,GI,Sem.runT_eq]at e;cases ag:(execOp fr.eval o).run P w with
  |halt y w1=>
   rw[ag]at e;cases y with
   |panic v=>
    have e:(Result.ok (fr.raise [{v,recovered:=false}]::cs) w1:Result (List Frame))= .ok s' w':=e;cases e;exact h.swap (h.head.raise _) (tZ _ _).1 (tZ _ _).2
   |_=>simp[caught]at e
  |ok n w1=>
   have hn:=zB hC a_ h.head.slots ag;rw[ag]at e;cases hn with
   |@val v hv=>
    have e:(Result.ok (fr.finish v::cs) w1:Result (List Frame))= .ok s' w':=e;cases e;exact h.swap (h.head.finish ht v (hv.imp ml id)) (bE _ _).1 (bE _ _).2
   |skip=>
    have e:(Result.ok (fr.finish undef::cs) w1:Result (List Frame))= .ok s' w':=e;cases e;exact h.swap (h.head.finish ht _ (.inr nR)) (bE _ _).1 (bE _ _).2
   |@enter f xs h1 h2 h3=>
    have e:(Result.ok (Frame.enter P f xs .normal::fr::cs) w1:Result (List Frame))= .ok s' w':=e;cases e;exact .cons (.enter hC h1 h2 (.inl rfl)) h1 (fun _=>⟨ops,i,rest,k,ht,ml h3⟩) h
   |@defer d hd bd=>
    have e:(Result.ok ({fr with defers:=d::fr.defers}.finish undef::cs) w1:Result (List Frame))= .ok s' w':=e;cases e;have h1:qQ P X A D {fr with defers:=d::fr.defers}:=⟨h.head.items,h.head.slots,fun x hx=>(List.mem_cons.1 hx).elim (fun e=>e▸hd) (h.head.defs x),h.head.kind,h.head.round,fun e=>absurd e bd⟩;exact h.swap (h1.finish ht _ (.inr nR)) (bE _ _).1 (bE _ _).2
   |recover h1=>
    have e:(Result.ok (match tryRecover fr cs with|some (v,cs')=>fr.finish v::cs'|none=>fr.finish .nilIface::cs) w1:Result (List Frame))= .ok s' w':=e;simp only[Result.ok.injEq]at e;obtain⟨rfl,rfl⟩:=e;cases hr:tryRecover fr cs with
    |none=>exact h.swap (h.head.finish ht _ (.inl (ml h1))) (bE _ _).1 (bE _ _).2
    |some x=>exact(yN h hr).swap (h.head.finish ht _ (.inl (ml h1))) (bE _ _).1 (bE _ _).2
theorem all_cons{p:Item->Prop}{x:Item}(h1:p x)(h2:∀y∈k,p y):∀y∈x::k,p y:=fun y hy=>(List.mem_cons.1 hy).elim (fun e=>e▸h1) (h2 y)
theorem Zf{id:Nat}:∀{k k':List Item},exitTo id k=some k'->∀{p:Item->Prop},(∀x∈k,p x)->∀x∈k',p x
 | [],_,h,_,_=>by cases h
 |x::k,k',h,p,hp=>by
  have ih:=fun(h:exitTo id k=some k')=>Zf h (p:=p) (fun y hy=>hp y (by simp[hy]));cases x<;>simp only[exitTo]at h<;>first
   |exact ih h
   |(split at h
     .cases h;exact fun y hy=>hp y (by simp[hy])
     .exact ih h)
theorem Aq{id:Nat}:∀(l r:List Item),exitTo id l=none->exitTo id r=none->exitTo id (l++r)=none
 | [],_,_,h=>h
 |x::l,r,h1,h2=>by
  cases x<;>simp only[exitTo,List.cons_append]at h1⊢<;>first
   |exact Aq l r h1 h2
   |(split at h1
     .cases h1
     .rename_i hc;simp only[hc];exact Aq l r h1 h2)
theorem sN{ds:List Nat}{l:Nat}:∀{c r:Code},findLabel c l=some r->jq P X A D ds c=true->jq P X A D ds r=true
 |.seq a b,r,h,hc=>by
  simp only[jq,Bool.and_eq_true]at hc;simp only[findLabel]at h;cases ha:findLabel a l with
  |some r'=>
   rw[ha]at h;cases h;simp only[jq,Bool.and_eq_true];exact⟨sN ha hc.1,hc.2⟩
  |none=>rw[ha]at h;exact sN h hc.2
 |.label l',r,h,_=>by
  simp only[findLabel]at h;split at h
  .cases h;rfl
  .cases h
 | .skip,_,h,_| .region ..,_,h,_| .cond ..,_,h,_| .block ..,_,h,_| .loop _,_,h,_| .rangeFunc ..,_,h,_| .exit _,_,h,_| .scope _,_,h,_| .goto _,_,h,_| .ret,_,h,_| .refuse _,_,h,_=>by cases h
theorem Vj{ds:List Nat}{l:Nat}:∀{k k':List Item},gotoIn l k=some k'->(∀x∈k,rE P X A D ds x=true)->∀x∈k',rE P X A D ds x=true
 | [],_,h,_=>by cases h
 |x::k,k',h,hp=>by
  have h0:=hp x (by simp);have hk:∀y∈k,rE P X A D ds y=true:=fun y hy=>hp y (by simp[hy]);cases x<;>simp only[gotoIn]at h<;>first
   |exact Vj h hk
   |(split at h
     .rename_i r hr;cases h;exact all_cons (show jq P X A D ds r=true from sN hr h0) (all_cons h0 hk)
     .exact Vj h hk)
theorem sH{l:Nat}:∀{k k':List Item} (r:List Item),gotoIn l k=some k'->gotoIn l (k++r)=some (k'++r)
 | [],_,_,h=>by cases h
 |x::k,k',r,h=>by
  cases x<;>simp only[gotoIn,List.cons_append]at h⊢<;>first
   |exact sH r h
   |(split at h
     .cases h;simp
     .exact sH r h)
theorem Ac{l:Nat}:∀(k r:List Item),gotoIn l k=none->gotoIn l r=none->gotoIn l (k++r)=none
 | [],_,_,h=>h
 |x::k,r,h1,h2=>by
  cases x<;>simp only[gotoIn,List.cons_append]at h1⊢<;>first
   |exact Ac k r h1 h2
   |(split at h1
     .cases h1
     .exact Ac k r h1 h2)
def BQ(fr:Frame)(v:Value)(c:Frame):Frame:=match fr.kind with
 | .normal=>c.finish v
 |_=>match c.mode with
  | .panicking ({recovered:=true,..}::older)=>(match older.dropWhile (!·.goexit)with| []=> {c with mode:=.returning}|rest=> {c with mode:=.panicking rest})
  |_=>c
theorem sS.GJ(hC:bX P X A D){cs:List Frame}(h:sS P X A D (fr::cs))(hn:¬Lv (fr::cs))(hm:fr.mode≠.run):Told P X A D (fr::cs):=by
 have e4:∀C,(gW C cs fr).mode=fr.mode:=fun C=>by rw[bL]
 have e2:∀C,(gW C cs fr).defers=fr.defers++Vz C cs:=fun C=>by rw[bL]
 cases hd:fr.defers with
 |cons d ds=>
  obtain⟨f,caps,h1,h2,h3⟩:=h.head.defs d (by rw[hd];simp);obtain⟨fn,c,k1,k2,k3,_⟩:=hC.fn h2;have k3':¬fn.name= "runtime.NumGoroutine" :=by simpa using k3
  refine .still (s':=Frame.enter P f (d.args++caps) .deferred:: {fr with defers:=ds}::cs) (fun C w=>?_) (.cons (.enter hC h2 (by rw[h3];simp) (.inr rfl)) h2 (fun e=>by cases e) (h.swap ⟨h.head.items,h.head.slots,fun x hx=>h.head.defs x (by rw[hd];simp[hx]),h.head.kind,h.head.round,fun e=>by have:=h.head.nod e;rw[hd]at this;cases this⟩ rfl rfl));obtain⟨tg,as⟩:=d;simp only at h1;subst h1;cases fg:fr.mode with
  |run=>exact absurd fg hm
  |_=>
   simp[bG,jC,ni,G,stepG,e4,fg,unwind,e2,hd,callDeferred,invoke,callFunc,k1,k2,k3',GStep.after,seen_none];simp only[bL]
 |nil=>
  cases cs with
  |nil=>exact absurd (by unfold Lv;split<;>simp_all) hn
  |cons c cs=>
   cases h with
   |cons hf hA hw ht=>
    obtain⟨fn,cc,k1,k2,k3,_⟩:=hC.fn hA;cases fg:fr.mode with
    |run=>exact absurd fg hm
    |panicking ch=>
     refine .still (s':=c.raise ch::cs) (fun C w=>?_) (ht.swap (ht.head.raise _) (tZ _ _).1 (tZ _ _).2);simp[bG,jC,ni,G,stepG,fg,unwind,hd,Frame.catches,k1,Dq]
    |returning=>
     have cY:∀C v,BQ fr v (gW C cs c)=gW C cs (BQ fr v c):=fun C v=>by
      unfold BQ;cases hk:fr.kind with
      |normal=>
       obtain⟨ops,i,rest,k,h1,_⟩:=hw hk;exact lC C cs c v h1
      |_=>
       simp only;have hm:(gW C cs c).mode=c.mode:=by rw[bL]
       rw[hm];split
       .split<;>simp only[bL]
       .rfl
     have cg:∀v,sS P X A D (BQ fr v c::cs):=fun v=>by
      unfold BQ;cases hk:fr.kind with
      |normal=>
       obtain⟨ops,i,rest,k,h1,h2⟩:=hw hk;exact ht.swap (ht.head.finish h1 v (.inl h2)) (bE _ _).1 (bE _ _).2
      |_=>
       simp only;split
       .split<;>exact ht.swap (ht.head.same rfl rfl rfl rfl rfl rfl) rfl rfl
       .exact ht
     have hdo:∀C v w,doReturn P true fr (jC C (c::cs)) none v w= .go (bG C (BQ fr v c::cs)) w #[]:=fun C v w=>by
      rw[bG,<-cY];unfold BQ doReturn;rcases hf.kind with hk|hk<;>simp only[hk,jC,G]<;>rfl
     refine⟨(results fn fr.tmps).bind fun v=>pure (BQ fr v c::cs),(wK fn fr.tmps).bind fun _=>ay _,⟨fun C w s' w' es e=>?_,fun w x w' es _ e=>?_⟩,fun w s' w' e=>?_⟩
     .rw[Sem.runT_bind',Sem.runT_eq]at e;refine⟨fr.fn,?_⟩;cases hr:(results fn fr.tmps).run P w with
      |halt x w1=>rw[hr]at e;simp at e
      |ok v w1=>
       rw[hr]at e;have e:((Result.ok (BQ fr v c::cs) w1,(results fn fr.tmps).events P w #[]):Result (List Frame)×Array Event)=(.ok s' w',es):=e;simp only[Prod.mk.injEq,Result.ok.injEq]at e;obtain⟨⟨rfl,rfl⟩,rfl⟩:=e;have:=hdo C v w1;rw[bG]at this⊢;simp only[ni,G,stepG,fg,unwind,hd,k1,Sem.runT_eq,hr,this,GStep.after,Array.append_empty,bG]
     .rw[Sem.runT_bind',Sem.runT_eq]at e;cases hr:(results fn fr.tmps).run P w with
      |ok v w1=>rw[hr]at e;simp at e
      |halt y w1=>
       cases y with
       |stuck s=>exact⟨.stuck s (fr.pos P),w1,by simp[bG,ni,G,stepG,fg,unwind,hd,k1,hr]⟩
       |_=>exact⟨.stuck "return: the result variables cannot be read" (fr.pos P),w1,by simp[bG,ni,G,stepG,fg,unwind,hd,k1,hr]⟩
     .rw[run_bind]at e;cases hr:(results fn fr.tmps).run P w with
      |halt x w1=>rw[hr]at e;cases e
      |ok v w1=>
       rw[hr]at e;have e:(Result.ok (BQ fr v c::cs) w1:Result (List Frame))= .ok s' w':=e;cases e;exact cg v
theorem sS.told(hC:bX P X A D){cs:List Frame}(h:sS P X A D (fr::cs))(hn:¬Lv (fr::cs)):Told P X A D (fr::cs):=by
 have e3:∀C,(gW C cs fr).roundOf=none:=fun C=>by rw[bL];exact h.head.round
 have BR:∀{x:Item} {k:List Item},fr.todo=x::k->rE P X A D (D fr.fn) x=true/\∀y∈k,rE P X A D (D fr.fn) y=true:=fun ba=>⟨h.head.items _ (by rw[ba];simp),fun y hy=>h.head.items y (by rw[ba];simp[hy])⟩;cases hm:fr.mode with
 |run=>
  have e4:∀C,(gW C cs fr).mode= .run:=fun C=>by rw[bL];exact hm
  have e1:∀C,(gW C cs fr).todo=fr.todo++wV C cs:=fun C=>by rw[bL]
  have ctl:∀(k:List Item),(∀x∈k,rE P X A D (D fr.fn) x=true)->(∀(C:Ctx) (w:World),stepG P true (G (gW C cs fr) (jC C cs)) w= .go (G {gW C cs fr with todo:=k++wV C cs} (jC C cs)) w #[])->Told P X A D (fr::cs):=fun k hk hs=>Sl h k hk fun C w=>by
   rw[bG,hs,bG,bL,bL]
  have ret:(∀(C:Ctx) (w:World),stepG P true (G (gW C cs fr) (jC C cs)) w= .go (G {gW C cs fr with mode:=.returning} (jC C cs)) w #[])->Told P X A D (fr::cs):=fun hs=>.still (s':= {fr with mode:=.returning}::cs) (fun C w=>by rw[bG,hs,bG,bL,bL]) (h.swap (h.head.same rfl rfl rfl rfl rfl rfl) rfl rfl);cases ba:fr.todo with
  |nil=>
   cases cs with
   |nil=>exact absurd (by simp[Lv,hm,ba]) hn
   |cons c cs=>exact ret fun C w=>by simp[G,stepG,stepG.exec,e4,e1,e3,ba,wV]
  |cons x k=>
   obtain⟨hx,hk⟩:=BR ba;cases x with
   |code c=>
    cases c with
    |ret=>exact ret fun C w=>by simp[G,stepG,stepG.exec,e4,e1,e3,ba]
    |skip=>exact ctl k hk fun C w=>by simp[G,stepG,stepG.exec,e4,e1,ba]
    |label l=>exact ctl k hk fun C w=>by simp[G,stepG,stepG.exec,e4,e1,ba]
    |seq a b=>
     simp only[rE,jq,Bool.and_eq_true]at hx;exact ctl (.code a:: .code b::k) (all_cons hx.1 (all_cons hx.2 hk)) fun C w=>by simp[G,stepG,stepG.exec,e4,e1,ba]
    |cond c a b=>
     simp only[rE,jq,Bool.and_eq_true]at hx;have dt:∀C,(gW C cs fr).eval c=fr.eval c:=fun C=>by rw[IE]
     cases hc:fr.eval c with
     |bool v=>exact ctl (.code (if v then a else b)::k) (all_cons (by cases v;exact hx.2;exact hx.1) hk) fun C w=>by simp[G,stepG,stepG.exec,e4,e1,ba,dt,hc]
     |_=>exact .bad fun w=>⟨_,_,by simp[bG,G,stepG,stepG.exec,e4,e1,ba,dt,hc];exact⟨rfl,rfl⟩⟩
    |block id a=>exact ctl (.code a:: .inBlock id::k) (all_cons hx (all_cons rfl hk)) fun C w=>by simp[G,stepG,stepG.exec,e4,e1,ba]
    |loop a=>exact ctl (.code a:: .inLoop a::k) (all_cons hx (all_cons hx hk)) fun C w=>by simp[G,stepG,stepG.exec,e4,e1,ba]
    |scope a=>exact ctl (.code a:: .inScope a::k) (all_cons hx (all_cons hx hk)) fun C w=>by simp[G,stepG,stepG.exec,e4,e1,ba]
    |goto l=>
     cases he:gotoIn l k with
     |some k'=>exact ctl k' (Vj he hk) fun C w=>by simp[G,stepG,stepG.exec,e4,e1,ba,sH _ he]
     |none=>
      have ud:gotoIn l (k++wV (C0 P) cs)=none:=Ac _ _ he (by cases cs<;>rfl);exact .bad fun w=>⟨_,_,by simp[bG,G,stepG,stepG.exec,e4,e1,e3,ba,ud];exact⟨rfl,rfl⟩⟩
    |exit id=>
     cases he:exitTo id k with
     |some k'=>exact ctl k' (Zf he hk) fun C w=>by simp[G,stepG,stepG.exec,e4,e1,ba,lH _ he]
     |none=>
      have ud:exitTo id (k++wV (C0 P) cs)=none:=Aq _ _ he (by cases cs<;>rfl);exact .bad fun w=>⟨_,_,by simp[bG,G,stepG,stepG.exec,e4,e1,e3,ba,ud];exact⟨rfl,rfl⟩⟩
    |region id ops draw=>
     cases draw with
     |false=>exact ctl (.inRegion ops (List.range ops.size)::k) (all_cons hx hk) fun C w=>by simp[G,stepG,stepG.exec,e4,e1,ba]
     |true=>
      refine⟨(choose (.order fr.fn id)).bind fun t=>pure ({fr with todo:=.inRegion ops (Region.schedule (P.follows .mixedOrders) ops t)::k}::cs),(bZ _).bind fun _=>ay _,⟨fun C w s' w' es e=>?_,fun w x w' es _ e=>?_⟩,fun w s' w' e=>?_⟩
      .have e:((Result.ok ({fr with todo:=.inRegion ops (Region.schedule (P.follows .mixedOrders) ops (w.tape w.drawn (.order fr.fn id)))::k}::cs) {w with drawn:=w.drawn+1},#[]):Result (List Frame)×Array Event)=(.ok s' w',es):=e;simp only[Prod.mk.injEq,Result.ok.injEq]at e;obtain⟨⟨rfl,rfl⟩,rfl⟩:=e;refine⟨0,?_⟩;have e6:(gW C cs fr).fn=fr.fn:=by rw[bL]
       have hch:(choose (.order fr.fn id)).run P w= .ok (w.tape w.drawn (.order fr.fn id)) {w with drawn:=w.drawn+1}:=rfl;rw[bG,bG];simp[G,stepG,stepG.exec,e4,e1,e6,ba,hch,seen_none];simp only[bL,hm,List.cons_append]
      .have e:((Result.ok ({fr with todo:=.inRegion ops (Region.schedule (P.follows .mixedOrders) ops (w.tape w.drawn (.order fr.fn id)))::k}::cs) {w with drawn:=w.drawn+1},#[]):Result (List Frame)×Array Event)=(.halt x w',es):=e;simp at e
      .have e:(Result.ok ({fr with todo:=.inRegion ops (Region.schedule (P.follows .mixedOrders) ops (w.tape w.drawn (.order fr.fn id)))::k}::cs) {w with drawn:=w.drawn+1}:Result (List Frame))= .ok s' w':=e;cases e;exact h.swap ⟨all_cons hx hk,h.head.slots,h.head.defs,h.head.kind,h.head.round,h.head.nod⟩ rfl rfl
    |_=>cases hx
   |inBlock id=>exact ctl k hk fun C w=>by simp[G,stepG,stepG.exec,e4,e1,ba]
   |inScope a=>exact ctl k hk fun C w=>by simp[G,stepG,stepG.exec,e4,e1,ba]
   |inLoop a=>exact ctl (.code a:: .inLoop a::k) (all_cons hx (all_cons hx hk)) fun C w=>by simp[G,stepG,stepG.exec,e4,e1,ba]
   |inRegion ops l=>
    cases l with
    |nil=>exact ctl k hk fun C w=>by simp[G,stepG,stepG.exec,e4,e1,ba]
    |cons i rest=>
     have skip:(∀(C:Ctx),((ops[i]?).map (Region.wanted · (yielded ops (gW C cs fr).tmps))).getD false=false)->Told P X A D (fr::cs):=fun hw=>.still (s':=fr.finish undef::cs) (fun C w=>by
      have:=hw C;rw[bG,bG,<-lC C cs fr undef ba];simp only[G,stepG,stepG.exec,e4,e1,ba,List.cons_append,this,Bool.false_eq_true,if_false]) (h.swap (h.head.finish ba _ (.inr nR)) (bE _ _).1 (bE _ _).2)
     have e5:∀C,(gW C cs fr).tmps=fr.tmps:=fun C=>by rw[bL]
     cases ho:ops[i]? with
     |none=>exact skip fun C=>by simp[ho]
     |some o=>
      cases hw:Region.wanted o (yielded ops fr.tmps)with
      |true=>exact W_ hC h hm ba ho hw
      |false=>exact skip fun C=>by simp[ho,e5,hw]
   |_=>cases hx
 |returning=>exact h.GJ hC hn (by rw[hm];simp)
 |panicking ch=>exact h.GJ hC hn (by rw[hm];simp)
end
section
open Go.Ren Go.bn Go.Conc
open Go.ConcN (sumTo upd sumTo_upd upd_ne upd_same)
variable{p u:World}
variable {P:Program} {X A:FuncId->Bool} {Sh:Nat->Prop}
theorem PS.self(h:PS Sh p u):PS (fun _=>False) p p:=⟨rfl,fun _ _=>rfl,fun _ x=>x.elim,h.views,rfl,rfl,rfl,rfl⟩
theorem PS.at(h:PS Sh p u)(d:Nat):PS Sh (p.re u.tape d) (u.at d):=⟨h.size,h.same,h.rows,h.views,rfl,rfl,h.os,h.output⟩
theorem PS.yw(h:PS Sh p u):p.re u.tape u.drawn=p:=by rw[h.tape,h.drawn];exact lS _
def Wj(Sh:Nat->Prop):Loc->Prop
 | .cell a=>Sh a.block
 |_=>False
theorem FE{B:Nat}{e:Event}(h1:Off Sh e)(h2:EvB B e):EvL (Wj Sh) B e:=by
 obtain⟨loc,wr,s⟩:=e;cases loc with
 |cell a=>exact⟨fun x hx hs=>by
   obtain rfl:=Option.some.inj hx;exact absurd hs (h1.1 a rfl),(fun e=>by cases e),(fun e=>by cases e),h2.1⟩
 |obj r=>
  refine⟨fun x hx hs=>?_,(fun e=>by cases e),(fun e=>by cases e),?_⟩
  .cases wr<;>cases s<;>first|(obtain rfl:=Option.some.inj hx;exact hs.elim)|(cases hx;done)
  .cases wr<;>cases s<;>exact h2.1
 |mark m=>
  have:=h2.2 m rfl;cases m<;>first|exact this.elim|exact⟨fun x hx=>(by cases hx),(fun e=>by cases e),(fun e=>by cases e),trivial⟩
 |_=>exact⟨fun x hx hs=>by
   first|(cases hx;done)|(obtain rfl:=Option.some.inj hx;exact hs.elim),(fun e=>by cases e),(fun e=>by cases e),trivial⟩
end
section
open Go.Ren Go.bn Go.Conc
open Go.ConcN (sumTo)
variable {P:Program} {X A:FuncId->Bool}
structure Zn(P:Program)(Sh:Nat->Prop)(g:Goroutine)(p:World)(gs:Array Goroutine)(u:World)(t:Trace)(q:Nat->Nat):Prop where
 zero:gs[0]? =some g
 ps:PS Sh (p.re u.tape u.drawn) u
 leave:Leavers P t gs q
 past:Past (Wj Sh) u.heap.size t
def aj(P:Program)(Sh:Nat->Prop)(g:Goroutine)(p:World)(Post:(Nat->Prop)->Goroutine->World->Prop):Prop:=
 ∀(gs:Array Goroutine) (u:World) (sl:Option (Nat×Nat)) (t:Trace) (q:Nat->Nat),Zn P Sh g p gs u t q->
  ∃(N:Nat) (Sh':Nat->Prop) (g':Goroutine) (p':World) (gs':Array Goroutine) (u':World) (sl':Option (Nat×Nat)) (t':Trace) (q':Nat->Nat),
   runNT P N (crowd gs u sl) t=(.next (crowd gs' u' sl'),t')/\Zn P Sh' g' p' gs' u' t' q'/\Post Sh' g' p'
theorem aj.here{Sh:Nat->Prop}{g:Goroutine}{p:World}{Post:(Nat->Prop)->Goroutine->World->Prop}(h:Post Sh g p):aj P Sh g p Post:=
 fun gs u sl t q hb=>⟨0,Sh,g,p,gs,u,sl,t,q,rfl,hb,h⟩
end
section
open Go.Ren Go.bn Go.Conc
open Go.ConcN (sumTo upd sumTo_upd upd_ne upd_same)
variable{g:Goroutine}{p:World}{b:Frame}{a:Act}{k:List Item}{i:Nat}{o:Oper}{f:FuncId}
variable {P:Program} {X A:FuncId->Bool} {Sh:Nat->Prop} {Post:(Nat->Prop)->Goroutine->World->Prop}
theorem aj.YM(ag:g.status= .running)
  (h:∀u:World,PS Sh (p.re u.tape u.drawn) u->∃g' p' u' es,stepG P true g u= .go g' u' es/\PS Sh (p'.re u'.tape u'.drawn) u'/\u.heap.size<=u'.heap.size/\(∀e∈es,EvL (Wj Sh) u'.heap.size e)/\
   ∀gs1 sl1 t1 q1,Zn P Sh g' p' gs1 u' t1 q1->(es=#[]->Past (Wj Sh) u.heap.size t1)->∃(N:Nat) (Sh2:Nat->Prop) (g2:Goroutine) (p2:World) (gs2:Array Goroutine) (u2:World) (sl2:Option (Nat×Nat)) (t2:Trace) (q2:Nat->Nat),
    runNT P N (crowd gs1 u' sl1) t1=(.next (crowd gs2 u2 sl2),t2)/\Zn P Sh2 g2 p2 gs2 u2 t2 q2/\Post Sh2 g2 p2):aj P Sh g p Post:=by
 have main:∀(M:Nat) (gs:Array Goroutine) (u:World) (sl:Option (Nat×Nat)) (t:Trace) (q:Nat->Nat),sumTo gs.size q<=M->Zn P Sh g p gs u t q->
   ∃(N:Nat) (Sh':Nat->Prop) (g':Goroutine) (p':World) (gs':Array Goroutine) (u':World) (sl':Option (Nat×Nat)) (t':Trace) (q':Nat->Nat),
    runNT P N (crowd gs u sl) t=(.next (crowd gs' u' sl'),t')/\Zn P Sh' g' p' gs' u' t' q'/\Post Sh' g' p':=by
  intro M;induction M using Nat.strongRecOn with
  |ind M ihM=>
   intro gs u sl t q hM hb;obtain⟨h0,cL,hL,hP⟩:=hb;have SZ:∀g∈gs,awake g:=by
    intro x hg;obtain⟨i,hi,rfl⟩:=Array.mem_iff_getElem.1 hg;rcases Nat.eq_zero_or_pos i with rfl|eL
    .have:gs[0]=g:=by simpa[Array.getElem?_eq_getElem hi]using h0
     rw[this];exact awake_of (.inl ag)
    .exact awake_of ((hL.old i _ eL (Array.getElem?_eq_getElem hi)).status.elim .inl fun x=>.inr (.inr x))
   obtain⟨i,x,d,sl',hi,hg,cg⟩:=crowd_pick (P:=P) (w:=u) (sl:=sl) SZ ⟨0,_,h0,ag⟩;rcases Nat.eq_zero_or_pos i with rfl|eL
   .obtain rfl:x=g:=by rw[h0]at hi;exact(Option.some.inj hi).symm
    have Ye:PS Sh (p.re u.tape d) (u.at d):=by
     have:=cL.at d;exact this
    obtain⟨g',p',u',es,hgo,uG,hsu,dt,hn⟩:=h (u.at d) Ye;have eN:=runT_crowd_go (P:=P) (sl:=sl') (i:=0) hi (show stepG P (0==0) x (u.at d)=_ from hgo);have cC:((gs.map (woken P x g' u')).setIfInBounds 0 g').size=gs.size:=by simp
    have ai:0<gs.size:=(Array.getElem?_eq_some_iff.1 h0).1;obtain⟨N,Sh2,g2,p2,gs2,u2,sl2,t2,q2,hr,r⟩:=hn ((gs.map (woken P x g' u')).setIfInBounds 0 g') sl' (t++MemOp.ofEvents 0 x.frame.fn x.frame.place es) q
     ⟨by simp[ai],uG,⟨fun j y hj hx=>by
      have bd:0≠j:=by omega
      rw[Array.getElem?_setIfInBounds_ne bd,Array.getElem?_map]at hx;obtain⟨z,hz,rfl⟩:=Option.map_eq_some_iff.1 hx;have hq:=hL.old j z hj hz;rw[woken_quitsD hq,Deaf_other t (by omega) _ (fun op a_=>by obtain⟨e,_,rfl⟩:=Go.Conc.mem_ofEvents a_;rfl)];exact hq,fun j hj=>by
      rw[Deaf_other t (g':=0) (by simp at hj;omega) _ (fun op a_=>by obtain⟨e,_,rfl⟩:=Go.Conc.mem_ofEvents a_;rfl)];exact hL.above j (by simpa using hj)⟩,(hP.mono hsu).own dt⟩ (fun e=>by subst e;have e0:(u.at d).heap.size=u.heap.size:=rfl;rw[e0];simpa[MemOp.ofEvents]using hP)
    exact⟨N+1,Sh2,g2,p2,gs2,u2,sl2,t2,q2,by simp only[runNT,cg,eN];exact hr,r⟩
   .have hq:=hL.old i x eL hi;have ix:(i==0)=false:=by simp;omega
    have ai:i<gs.size:=(Array.getElem?_eq_some_iff.1 hi).1;cases vq:q i with
    |zero=>rw[vq]at hq;rw[hq.1]at hg;cases hg
    |succ k=>
     rw[vq]at hq;rcases hq with⟨hf,_⟩|⟨_,g',es,hm,xx,sT⟩
     .rw[hf]at hg;cases hg
     have eN:=runT_crowd_go (P:=P) (sl:=sl') (i:=i) hi (by rw[ix];exact xx (u.at d));have cC:((gs.map (woken P x g' (u.at d))).setIfInBounds i g').size=gs.size:=by simp
     have fc:sumTo gs.size (upd q i k)+(k+1)=sumTo gs.size q+k:=by
      have:=sumTo_upd q k id ai;simpa[vq]using this
     obtain⟨N,Sh2,g2,p2,gs2,u2,sl2,t2,q2,hr,r⟩:=ihM (sumTo gs.size (upd q i k)) (by omega) ((gs.map (woken P x g' (u.at d))).setIfInBounds i g') (u.at d) sl' (t++MemOp.ofEvents i x.frame.fn x.frame.place es) (upd q i k) (by rw[cC];exact Nat.le_refl _)
      ⟨by
       have bd:i≠0:=by omega
       rw[Array.getElem?_setIfInBounds_ne bd,Array.getElem?_map,h0];simp[woken_run ag],by have:=cL.at d;exact this,
      ⟨fun j y hj hx=>by
       by_cases kx:i=j
       .subst kx;rw[Array.getElem?_setIfInBounds_self_of_lt (by simpa using ai)]at hx;obtain rfl:=Option.some.inj hx;rw[upd_same,Deaf_own];exact sT
       .rw[Array.getElem?_setIfInBounds_ne kx,Array.getElem?_map]at hx;obtain⟨z,hz,rfl⟩:=Option.map_eq_some_iff.1 hx;have hqj:=hL.old j z hj hz;rw[woken_quitsD hqj,upd_ne q k (Ne.symm kx),Deaf_other t kx _ (fun op a_=>by obtain⟨e,_,rfl⟩:=Go.Conc.mem_ofEvents a_;rfl)];exact hqj,fun j hj=>by
       rw[Deaf_other t (g':=i) (by simp at hj;omega) _ (fun op a_=>by obtain⟨e,_,rfl⟩:=Go.Conc.mem_ofEvents a_;rfl)];exact hL.above j (by simpa using hj)⟩,
      (hP.mute (by omega) hm)⟩
     exact⟨N+1,Sh2,g2,p2,gs2,u2,sl2,t2,q2,by simp only[runNT,cg,eN];exact hr,r⟩
 exact fun gs u sl t q hb=>main _ gs u sl t q (Nat.le_refl _) hb
theorem aj.step{g:Goroutine}{p:World}(ag:g.status= .running)
  (h:∀u:World,PS Sh (p.re u.tape u.drawn) u->∃g' p' u' es,stepG P true g u= .go g' u' es/\PS Sh (p'.re u'.tape u'.drawn) u'/\u.heap.size<=u'.heap.size/\(∀e∈es,EvL (Wj Sh) u'.heap.size e)/\aj P Sh g' p' Post):aj P Sh g p Post:=
 .YM ag fun u cL=>by
  obtain⟨g',p',u',es,h1,h2,h3,h4,h5⟩:=h u cL;exact⟨g',p',u',es,h1,h2,h3,h4,fun gs1 sl1 t1 q1 hb _=>h5 gs1 u' sl1 t1 q1 hb⟩
theorem aj.ctl{g':Goroutine}(ag:g.status= .running)(h:∀u,stepG P true g u= .go g' u #[])(hn:aj P Sh g' p Post):aj P Sh g p Post:=
 .step ag fun u cL=>⟨g',p,u,#[],h u,cL,Nat.le_refl _,fun e he=>by simp at he,hn⟩
theorem aj.op{cs:List Frame}{ops:Array Oper}{rest:List Nat}(hT:Tm P (execOp a.eval o))(ho:ops[i]? =some o)(hw:Region.wanted o (yielded ops a.tmps)=true)(hk:b.kind≠.early)
  (h:∀τ d,∀K':Act->World->Prop,(∀a' p',aj P Sh (G (b.at a' (.inRegion ops rest::k)) cs) p' Post->K' a' p')->uponK o a K' ((execOp a.eval o).run P (p.re τ d))):
  aj P Sh (G (b.at a (.inRegion ops (i::rest)::k)) cs) p Post:=by
 refine .step rfl fun u cL=>?_;have h1:=h u.tape u.drawn (fun a' p'=>aj P Sh (G (b.at a' (.inRegion ops rest::k)) cs) p' Post) (fun _ _ x=>x);have eW:=hT.run _ u #[] cL;have ee:=hT.low _ #[] cL.self;rw[Sem.runT_eq]at eW ee;have key:∀(n:Next) (p':World),(execOp a.eval o).run P (p.re u.tape u.drawn)= .ok n p'->∃u',(execOp a.eval o).run P u= .ok n u'/\PS Sh p' u'/\u.heap.size<=u'.heap.size/\∀e∈listed P b.fn a o u,EvL (Wj Sh) u'.heap.size e:=by
  intro n p' e;rw[e]at eW ee;obtain⟨u',es2,e1,e2,e3,e4⟩:=eW;obtain⟨l1,es3,l2,l3⟩:=ee;rw[Sem.runT_eq]at e2;simp only[Prod.mk.injEq]at e2;have hs:=e3.size;have gv:=cL.size;refine⟨u',e2.1,e3,by omega,fun x hx=>?_⟩;have hx:=mem_listed hx;rw[e2.2]at hx;refine FE (e4 x ?_) ?_
  .rw[e1]at hx;simpa using hx
  .rw[hs];exact l3 x (by rw[l2]at hx;simpa using hx)
 cases hr:(execOp a.eval o).run P (p.re u.tape u.drawn)with
 |halt x p'=>rw[hr]at h1;exact h1.elim
 |ok n p'=>
  obtain⟨u',k1,k2,k3,k4⟩:=key n p' hr;rw[hr]at h1;have hsr:PS Sh (p'.re u'.tape u'.drawn) u':=by rw[k2.yw];exact k2
  cases n with
  |value v=>exact⟨_,p',u',_,stepG_value ho hw hk k1,hsr,k3,k4,h1⟩
  |skip=>exact⟨_,p',u',_,stepG_none ho hw hk k1,hsr,k3,k4,h1⟩
  |_=>exact h1.elim
theorem aj.call{cs:List Frame}{ops:Array Oper}{rest:List Nat}{fn:Func}{c:Code}{args:Array Operand}{ats:Array TypeId}(ho:ops[i]? =some o)(hw:Region.wanted o (yielded ops a.tmps)=true)(hk:b.kind≠.early)(a_:o.op= .call {callee:=.value (.func f),args,argTypes:=ats})
  (hf:P.funcs[f]? =some fn)(de:(fn.name== "runtime.NumGoroutine")=false)(hb:fn.body=some c)
  (hn:aj P Sh (G ((base f).at {tmps:=args.map a.eval++Array.replicate (fn.ntmps-(args.map a.eval).size) undef,defers:= []} [.code c]) (b.at a (.inRegion ops (i::rest)::k)::cs)) p Post):
  aj P Sh (G (b.at a (.inRegion ops (i::rest)::k)) cs) p Post:=by
 refine .ctl rfl (fun u=>?_) hn;have:=goes_call (P:=P) (main:=true) (w:=u) (K:=fun g' w' es=>g'=G ((base f).at {tmps:=args.map a.eval++Array.replicate (fn.ntmps-(args.map a.eval).size) undef,defers:= []} [.code c]) (b.at a (.inRegion ops (i::rest)::k)::cs)/\w'=u/\es=#[]) (k:=k) (cs:=cs) (b:=b) (a:=a) ho hw hk a_ hf de hb ⟨rfl,rfl,rfl⟩;revert this;cases stepG P true (G (b.at a (.inRegion ops (i::rest)::k)) cs) u with
 |go g' w' es=>rintro⟨rfl,rfl,rfl⟩;rfl
 |_=>exact fun h=>h.elim
def Gr(fn:FuncId)(T:Array Value)(todo:List Item)(cs:List Frame):Goroutine:=G {(base fn).at ⟨T,[]⟩ todo with mode:=.returning} cs
theorem aj.ret{fn:FuncId}{T:Array Value}{cs:List Frame}(hn:aj P Sh (Gr fn T (.code .ret::k) cs) p Post):aj P Sh (G ((base fn).at ⟨T,[]⟩ (.code .ret::k)) cs) p Post:=
 .ctl rfl (fun _=>stepG_ret') hn
theorem aj.done{fn:FuncId}{T:Array Value}{cs:List Frame}(hn:aj P Sh (Gr fn T [] cs) p Post):aj P Sh (G ((base fn).at ⟨T,[]⟩ []) cs) p Post:=
 .ctl rfl (fun u=>by simp[G,stepG,stepG.exec,Frame.at,Gr]) hn
theorem aj.back{fn:Func}{T:Array Value}{todo:List Item}{b:FuncId}{ops:Array Oper}{rest:List Nat}{cs:List Frame}{v:Value}(ho:ops[i]? =some o)
  (hf:P.funcs[f]? =some fn)(hv:∀w,(results fn T).run P w= .ok v w)(he:∀w,(results fn T).events P w #[]=#[])
  (hn:aj P Sh (G ((base b).at (a.put o.dst v) (.inRegion ops rest::k)) cs) p Post):aj P Sh (Gr f T todo ((base b).at a (.inRegion ops (i::rest)::k)::cs)) p Post:=by
 refine .ctl rfl (fun u=>?_) hn;have e:aR P ⟨f,T,todo,true⟩ [⟨b,a.tmps,.inRegion ops (i::rest)::k,false⟩] u= .go ((⟨b,a.tmps,.inRegion ops (i::rest)::k,false⟩:Fr).finish v) [] u #[]:=by
  simp only[aR,if_true,sI,hf,hv,he];simp[seen_none]
 have:=yt (P:=P) (main:=true) (C:=⟨[],a.defers,.normal,cs⟩) (by simp) (fun c hc=>by rw[List.mem_singleton.1 hc];exact⟨⟨ops,i,rest,k,rfl⟩,rfl⟩) e;have e1:gZ ⟨[],a.defers,.normal,cs⟩ ⟨f,T,todo,true⟩ [⟨b,a.tmps,.inRegion ops (i::rest)::k,false⟩]=Gr f T todo ((base b).at a (.inRegion ops (i::rest)::k)::cs):=by
  simp[gZ,Gr,Fr.top,below,Fr.base,Fr.mode,Frame.at,base]
 have e2:gZ ⟨[],a.defers,.normal,cs⟩ ((⟨b,a.tmps,.inRegion ops (i::rest)::k,false⟩:Fr).finish v) []=G ((base b).at (a.put o.dst v) (.inRegion ops rest::k)) cs:=by
  cases hd:o.dst<;>simp[gZ,Fr.base,Fr.mode,Frame.at,base,Fr.finish,ho,Act.put,hd]
 rw[e1,e2]at this;exact this
theorem aj.re(h:aj P Sh g p Post)(τ:Nat->Question->Nat)(d:Nat):aj P Sh g (p.re τ d) Post:=fun gs u sl t q hb=>h gs u sl t q ⟨hb.zero,hb.ps,hb.leave,hb.past⟩
theorem aj.with(h:(∀b,Sh b->b<p.heap.size)->(∀(b:Nat) o,p.heap[b]? =some o->IL b o)->(∀b o,p.heap[b]? =some o->(∀e fz,o≠.cells #[] e fz)->¬Sh b)->aj P Sh g p Post):aj P Sh g p Post:=fun gs u sl t q hb=>
 h (fun b hs=>by
   obtain⟨e,fz,_,_,h1,_⟩:=hb.ps.rows b hs;exact(Array.getElem?_eq_some_iff.1 h1).1)
  (fun b o h=>hb.ps.views b o h) (fun b o h1 h2 hs=>by
   obtain⟨e,fz,_,_,h3,_⟩:=hb.ps.rows b hs;have h3:p.heap[b]? =some (.cells #[] e fz):=h3;rw[h3]at h1;exact h2 e fz (Option.some.inj h1).symm) gs u sl t q hb
theorem aj.world{p0:World}(F:World->Prop)(hF:F p0)(h:∀p1,F p1->aj P Sh g p1 Post):aj P Sh g p0 Post:=h p0 hF
end
section
open Go.Ren Go.bn Go.Conc
variable{s s':List Frame}{w w' p:World}{k:List Item}
variable {P:Program} {X A:FuncId->Bool} {D:FuncId->List Nat} {Sh:Nat->Prop} {Post:(Nat->Prop)->Goroutine->World->Prop}
def iM(P:Program)(s:List Frame)(w:World):Machine:=match s with
 | []=>lone default [] w
 |fr::cs=>lone (gW (C0 P) cs fr) (jC (C0 P) cs) w
def XK(P:Program)(s:List Frame)(w:World)(s':List Frame)(w':World):Prop:=¬Lv s/\Go.step P (iM P s w)= .next (iM P s' w')/\s'≠ []
def Wn(P:Program)(X A:FuncId->Bool)(D:FuncId->List Nat)(s:List Frame)(w:World):Prop:=sS P X A D s/\PS (fun _=>False) w w
theorem N8{C:Ctx}{cs:List Frame}{a b:Frame}(h:gW C cs a=gW C cs b):a=b:=by
 rw[bL,bL]at h;obtain⟨a1,a2,a3,a4,a5,a6,a7⟩:=a;obtain⟨b1,b2,b3,b4,b5,b6,b7⟩:=b;simp only[Frame.mk.injEq,List.append_cancel_right_eq]at h⊢;exact h
theorem pV(C:Ctx):∀cs:List Frame,(jC C cs).length=cs.length+C.callers.length
 | []=>by simp[jC]
 |c::cs=>by simp[jC,pV C cs];omega
theorem zL{C:Ctx}:∀{cs cs':List Frame},jC C cs=jC C cs'->cs=cs'
 | [],[],_=>rfl
 | [],c::cs,h=>by have:=congrArg List.length h;simp[pV]at this
 |c::cs,[],h=>by have:=congrArg List.length h;simp[pV]at this
 |c::cs,c'::cs',h=>by
  simp only[jC,List.cons.injEq]at h;obtain rfl:=zL h.2;rw[N8 h.1]
theorem vJ(hs:s≠ [])(nB:s'≠ [])(h:iM P s w=iM P s' w'):s=s'/\w=w':=by
 cases s with
 |nil=>exact absurd rfl hs
 |cons a cs=>
  cases s' with
  |nil=>exact absurd rfl nB
  |cons b cs'=>
   obtain⟨h1,h2,h3⟩:=jR h;obtain rfl:=zL h2;rw[N8 h1];exact⟨rfl,h3⟩
theorem uo(s:List Frame)(w:World)(s1:List Frame)(w1:World)(s2:List Frame)(w2:World)(h1:XK P s w s1 w1)(h2:XK P s w s2 w2):s1=s2/\w1=w2:=by
 have e:=h1.2.1;rw[h2.2.1]at e;have:=vJ h2.2.2 h1.2.2 (Stepped.next.inj e);exact⟨this.1.symm,this.2.symm⟩
theorem sS.ne(h:sS P X A D s):s≠ []:=by cases h<;>simp
theorem yB(hC:bX P X A D)(h:Wn P X A D s w)(hn:¬Lv s):∃T,Tm P T/\Does P s T/\(∀w s' w',T.run P w= .ok s' w'->sS P X A D s')/\
  (∀w s' w',PS (fun _=>False) w w->T.run P w= .ok s' w'->XK P s w s' w'/\PS (fun _=>False) w' w')/\(∀w x w',PS (fun _=>False) w w->T.run P w= .halt x w'->∃o w2,Go.step P (iM P s w)= .ended o w2):=by
 obtain⟨hs,_⟩:=h;cases s with
 |nil=>cases hs
 |cons fr cs=>
  obtain⟨T,h1,h2,h3⟩:=hs.told hC hn;refine⟨T,h1,h2,h3,fun w s' w' hw e=>?_,fun w x w' hw e=>?_⟩
  .have bd:=(h3 w s' w' e).ne;obtain⟨fn,hgo⟩:=h2.go (C0 P) w s' w' _ (by rw[Sem.runT_eq,e]);refine⟨⟨hn,?_,bd⟩,?_⟩
   .cases s' with
    |nil=>exact absurd rfl bd
    |cons a cs'=>
     refine step_lone_go ?_;rw[bG,bG]at hgo;show(stepG P true (G _ _) w).bare=_;rw[hgo];rfl
   .have:=h1.run w w #[] hw;rw[Sem.runT_eq,e]at this;obtain⟨u',es2,_,hu,cL,_⟩:=this;rw[Sem.runT_eq,e]at hu;obtain rfl:w'=u':=(Result.ok.inj (congrArg Prod.fst hu)).2;exact cL
  .have hd:=h1.run w w #[] hw;rw[Sem.runT_eq,e]at hd;have hx:Dead x\/∃v,x= .panic v:=by cases x<;>first|exact .inr ⟨_,rfl⟩|exact .inl hd
   obtain⟨o,w2,h4⟩:=h2.no w x w' _ hx (by rw[Sem.runT_eq,e]);exact⟨o,w2,step_lone_ended h4⟩
theorem Oh(hC:bX P X A D)(h:Wn P X A D s w):LocN (XK P) s w:=by
 intro s' w' hx;obtain⟨T,h1,h2,h3,h4,h5⟩:=yB hC h hx.1;cases hr:T.run P w with
 |halt x w1=>
  obtain⟨o,w2,e⟩:=h5 w x w1 h.2 hr;have:=hx.2.1;rw[e]at this;cases this
 |ok s1 w1=>
  obtain⟨rfl,rfl⟩:=uo _ _ _ _ _ _ (h4 w s1 w1 h.2 hr).1 hx;obtain⟨k1,m,k2,k3⟩:=h1.pl.again w #[] s1 w1 _ (by rw[Sem.runT_eq,hr]);refine⟨k1,m,k2,fun τ d hd=>?_⟩;have e:=congrArg Prod.fst (k3 τ d hd);rw[Sem.runT_fst]at e;exact(h4 (w.re τ d) s1 _ ⟨h.2.size,h.2.same,h.2.rows,h.2.views,rfl,rfl,h.2.os,h.2.output⟩ e).1
theorem zV(hC:bX P X A D)(h:Wn P X A D s w)(hx:XK P s w s' w'):Wn P X A D s' w':=by
 obtain⟨T,h1,h2,h3,h4,h5⟩:=yB hC h hx.1;cases hr:T.run P w with
 |halt x w1=>
  obtain⟨o,w2,e⟩:=h5 w x w1 h.2 hr;have:=hx.2.1;rw[e]at this;cases this
 |ok s1 w1=>
  have h6:=h4 w s1 w1 h.2 hr;obtain⟨rfl,rfl⟩:=uo _ _ _ _ _ _ h6.1 hx;exact⟨h3 w s1 w1 hr,h6.2⟩
theorem Wn.re(h:Wn P X A D s w)(τ:Nat->Question->Nat)(d:Nat):Wn P X A D s (w.re τ d):=⟨h.1,⟨h.2.size,h.2.same,h.2.rows,h.2.views,rfl,rfl,h.2.os,h.2.output⟩⟩
theorem TG(hC:bX P X A D){Stop:List Frame->World->Prop}{M:Machine}(hM:∃fr w1,M=lone fr [c0 P] w1/\∀ch,fr.mode≠.panicking ch)(hS:∀s w,sS P X A D s->iM P s w=M->Stop s w):
  ∀(n:Nat) (s:List Frame) (w:World),Wn P X A D s w->runN P n (iM P s w)= .next M->∃m,qD (XK P) Stop m s w:=by
 obtain⟨fM,wM,rfl,MA⟩:=hM;intro n;induction n with
 |zero=>
  intro s w hI h;simp only[runN,Stepped.next.injEq]at h;exact⟨0,hS s w hI.1 h⟩
 |succ n ih=>
  intro s w hI h;by_cases hn:Lv s
  .exfalso;obtain⟨hI,_⟩:=hI;cases hI with
   |cons _ _ _ _=>exact hn
   |@one b hb hk=>
    have e1:gW (C0 P) [] b= {b with todo:=b.todo++(C0 P).k,defers:=b.defers++(C0 P).defers}:=rfl;have tb:iM P [b] w=lone (gW (C0 P) [] b) [c0 P] w:=rfl;simp only[runN]at h;simp only[Lv]at hn;cases hm:b.mode with
    |run=>
     rw[hm]at hn;have e:∃x,Go.step P (iM P [b] w)= .ended x w:=by
      refine Exists.imp (fun _=>step_lone_ended) ?_;rw[e1];simp only at hn;simp[stepG,stepG.exec,hm,hn,C0]
     obtain⟨_,e⟩:=e;rw[e]at h;cases h
    |panicking ch=>
     rw[hm]at hn;simp only at hn;have hp:=pJ (n+1) (gW (C0 P) [] b) [c0 P] w ch (lone fM [c0 P] wM) (by rw[e1];simp[hn,C0]) (by rw[e1];exact hm) rfl (by rw[<-tb];simp only[runN];exact h);obtain⟨fr',cs',w2,ch',e2,oc⟩:=hp;obtain⟨rfl,_,_⟩:=jR e2;exact MA _ oc
    |returning=>
     rw[hm]at hn;simp only at hn;have fin:∀v w1,Go.step P (iM P [b] w)= .next (lone ((c0 P).finish v) [] w1)->False:=by
      intro v w1 e;rw[e]at h;cases n with
      |zero=>
       simp only[runN,Stepped.next.injEq]at h;exact absurd (jR h).2.1 (by simp)
      |succ n=>
       obtain⟨o,w2,e2⟩:=Eh (P:=P) v w1;simp only[runN,e2]at h;cases h
     cases hf:P.funcs[b.fn]? with
     |none=>
      refine fin (b.tmps.getD 0 undef) w (step_lone_go ?_);rw[e1];simp[stepG,unwind,doReturn,hm,hf,hn,hk,C0,jC]
     |some fn'=>
      cases dp:(results fn' b.tmps).run P w with
      |ok v w1=>
       refine fin v w1 (step_lone_go ?_);rw[e1];simp[stepG,unwind,doReturn,hm,hf,dp,hn,hk,C0,jC]
      |halt x w1=>
       have e:∃o,Go.step P (iM P [b] w)= .ended o w1:=by
        cases x with
        |stuck why=>
         refine⟨.stuck why ((gW (C0 P) [] b).pos P),step_lone_ended ?_⟩;rw[e1];simp[stepG,unwind,hm,hf,dp,hn,C0]
        |_=>
         refine⟨.stuck "return: the result variables cannot be read" ((gW (C0 P) [] b).pos P),step_lone_ended ?_⟩;rw[e1];simp[stepG,unwind,hm,hf,dp,hn,C0]
       obtain⟨o,e⟩:=e;rw[e]at h;cases h
  .obtain⟨T,h1,h2,h3,h4,h5⟩:=yB hC hI hn;simp only[runN]at h;cases hr:T.run P w with
   |halt x w1=>
    obtain⟨o,w2,e⟩:=h5 w x w1 hI.2 hr;rw[e]at h;cases h
   |ok s1 w1=>
    have h6:=h4 w s1 w1 hI.2 hr;rw[h6.1.2.1]at h;obtain⟨m,hm⟩:=ih s1 w1 (zV hC hI h6.1) h;exact⟨m+1,.inr ⟨s1,w1,h6.1,hm⟩⟩
theorem aj.YJ(hC:bX P X A D)(C:Ctx){Stop:List Frame->World->Prop}(ht:V9 (XK P) Stop s p)(hI:sS P X A D s)(bc:∀s' p',sS P X A D s'->Stop s' p'->aj P Sh (bG C s') p' Post):aj P Sh (bG C s) p Post:=by
 induction ht with
 |stop h=>exact bc _ _ hI h
 |@step s p h1 _ ih=>
  have ag:(bG C s).status= .running:=by cases s<;>rfl
  refine .step ag fun u cL=>?_;obtain⟨s',p',hx⟩:=h1 u.tape u.drawn;have hi:Wn P X A D s (p.re u.tape u.drawn):=⟨hI,cL.self⟩;obtain⟨T,k1,k2,k3,k4,k5⟩:=yB hC hi hx.1;cases hr:T.run P (p.re u.tape u.drawn)with
  |halt x w1=>
   obtain⟨o,w2,e⟩:=k5 _ x w1 cL.self hr;have:=hx.2.1;rw[e]at this;cases this
  |ok s1 w1=>
   have h6:=k4 _ s1 w1 cL.self hr;obtain⟨rfl,rfl⟩:=uo _ _ _ _ _ _ h6.1 hx;have eW:=k1.run _ u #[] cL;have ee:=k1.low _ #[] cL.self;rw[Sem.runT_eq,hr]at eW ee;obtain⟨u',es2,e1,e2,e3,e4⟩:=eW;obtain⟨l1,es3,l2,l3⟩:=ee;obtain⟨fn,hgo⟩:=k2.go C u s1 u' _ e2;have hs:=e3.size;have gv:=cL.size;refine⟨bG C s1,w1,u',_,hgo,by rw[e3.yw];exact e3,by omega,fun x hx=>?_,ih u.tape u.drawn s1 w1 hx (k3 _ _ _ hr)⟩;have hx:=Go.bn.mem_seen hx;refine FE (e4 x ?_) ?_
   .rw[e1]at hx;simpa using hx
   .rw[hs];exact l3 x (by rw[l2]at hx;simpa using hx)
theorem aj.ZX(hC:bX P X A D){fn:FuncId}(hD:D fn= []){c:Code}(hc:jq P X A D [] c=true){Q:Exit->Act->World->Prop}{T:Array Value}{ds:List Deferred}{cs:List Frame}
  (hQ:∀e a w,Q e a w->e= .normal\/e= .ret)(sL:∀e a w τ d,Q e a w->Q e a (w.re τ d))(nh:∀τ d,c.wp P Q ⟨T,[]⟩ (p.re τ d))
  (hn:∀T' p',Q .normal ⟨T',[]⟩ p'->aj P Sh (G ((base fn).at ⟨T',ds⟩ k) cs) p' Post)(hr:∀T' p' todo,Q .ret ⟨T',[]⟩ p'->aj P Sh (G {(base fn).at ⟨T',ds⟩ todo with mode:=.returning} cs) p' Post):
  aj P Sh (G ((base fn).at ⟨T,ds⟩ (.code c::k)) cs) p Post:=by
 intro gs u sl t q MO;let b:Frame:=(base fn).at ⟨T,[]⟩ [.code c]
 have cg:sS P X A D [b]:=.one ⟨fun x hx=>by
  rw[List.mem_singleton.1 hx];show jq P X A D (D fn) c=true;rw[hD];exact hc,fun t ht=>(by have ht:t∈D fn:=ht;rw[hD]at ht;cases ht),fun d hd=>(by cases hd),.inl rfl,rfl,fun _=>rfl⟩ rfl
 have hI:Wn P X A D [b] p:=⟨cg,⟨rfl,fun _ _=>rfl,fun _ x=>x.elim,MO.ps.views,rfl,rfl,rfl,rfl⟩⟩;let Stop:List Frame->World->Prop:=fun s w=>∃T',(s= [(base fn).at ⟨T',[]⟩ []]/\Q .normal ⟨T',[]⟩ w)\/∃todo,s= [{(base fn).at ⟨T',[]⟩ todo with mode:=.returning}]/\Q .ret ⟨T',[]⟩ w
 have hS:∀s w τ d,Stop s w->Stop s (w.re τ d):=fun s w τ d ⟨T',h⟩=>⟨T',h.imp (fun x=>⟨x.1,sL _ _ _ _ _ x.2⟩) fun⟨todo,x⟩=>⟨todo,x.1,sL _ _ _ _ _ x.2⟩⟩;have ht:V9 (XK P) Stop [b] p:=by
  refine barN uo (fun s w τ d h=>h.re τ d) (fun s w s' w' h hx=>zV hC h hx) (fun s w h=>Oh hC h) hS hI (fun τ d=>?_);obtain⟨e,a',w',hq,mn⟩:=nh τ d (base fn) (C0 P).k [c0 P];obtain⟨T',ds'⟩:=a';have hm:lone ((base fn).at ⟨T,[]⟩ (.code c::(C0 P).k)) [c0 P] (p.re τ d)=iM P [b] (p.re τ d):=rfl;rw[hm]at mn;rcases hQ e _ w' hq with rfl|rfl
  .obtain⟨n,hn⟩:=mn;refine TG hC (M:=lone ((base fn).at ⟨T',ds'⟩ (C0 P).k) [c0 P] w') ⟨_,_,rfl,fun ch h=>by cases h⟩ (fun s w hs h=>?_) n _ _ (hI.re τ d) hn;have e0:lone ((base fn).at ⟨T',ds'⟩ (C0 P).k) [c0 P] w'=iM P [(base fn).at ⟨T',ds'⟩ []] w':=by simp[iM,gW,jC,C0,Frame.at]
   rw[e0]at h;obtain⟨rfl,rfl⟩:=vJ hs.ne (by simp) h;obtain rfl:ds'= []:=hs.head.nod hD;exact⟨T',.inl ⟨rfl,hq⟩⟩
  .obtain⟨todo,n,hn⟩:=mn;refine TG hC (M:=lone {(base fn).at ⟨T',ds'⟩ todo with mode:=.returning} [c0 P] w') ⟨_,_,rfl,fun ch h=>by cases h⟩ (fun s w hs h=>?_) n _ _ (hI.re τ d) hn;have bd:=hs.ne;cases s with
   |nil=>exact absurd rfl bd
   |cons fr cs2=>
    obtain⟨h1,h2,h3⟩:=jR h;obtain rfl:cs2= []:=zL (C:=C0 P) h2;subst h3;obtain⟨f1,f2,f3,f4,f5,f6,f7⟩:=fr;simp only[gW,C0,Frame.at,base,Frame.mk.injEq,List.append_nil]at h1;obtain⟨rfl,rfl,e3,rfl,rfl,rfl,rfl⟩:=h1;obtain rfl:f4= []:=hs.head.nod hD;exact⟨f2,.inr ⟨f3,rfl,hq⟩⟩
 have hB:=aj.YJ (Sh:=Sh) (Post:=Post) hC ⟨k,ds,.normal,cs⟩ ht cg (fun s' p' _ ⟨T',h⟩=>?_)
 .have e0:bG ⟨k,ds,.normal,cs⟩ [b]=G ((base fn).at ⟨T,ds⟩ (.code c::k)) cs:=rfl;rw[e0]at hB;exact hB gs u sl t q MO
 .rcases h with⟨rfl,h⟩|⟨todo,rfl,h⟩
  .exact hn T' p' h
  .exact hr T' p' (todo++k) h
theorem aj.callsD(hC:bX P X A D){b:FuncId}(hD:D b= []){T:Array Value}{cs:List Frame}{ops:Array Oper}{i:Nat}{rest:List Nat}{o:Oper}{g:FuncId}{args:Array Operand}{ats:Array TypeId}(gw:ops.all (WE P X A D [])=true)(ho:ops[i]? =some o)(hw:Region.wanted o (yielded ops T)=true)(a_:o.op= .call {callee:=.value (.func g),args,argTypes:=ats})
  {fn:Func}{c:Code}(hf:P.funcs[g]? =some fn)(de:(fn.name== "runtime.NumGoroutine")=false)(hb:fn.body=some c){xs:Array Value}(hx:args.map (Act.eval ⟨T,[]⟩)=xs)
  (lk:∀τ d,Calls P g xs (p.re τ d) fun e w'=>∃v,e= .returned v/\aj P Sh (G ((base b).at (Act.put ⟨T,[]⟩ o.dst v) (.inRegion ops rest::k)) cs) w' Post):
  aj P Sh (G ((base b).at ⟨T,[]⟩ (.inRegion ops (i::rest)::k)) cs) p Post:=by
 subst hx;intro gs u sl t q MO;let f:Frame:=(base b).at ⟨T,[]⟩ [.inRegion ops (i::rest)]
 have cg:sS P X A D [f]:=.one ⟨fun x hx=>by
  rw[List.mem_singleton.1 hx];show ops.all (WE P X A D (D b))=true;rw[hD];exact gw,fun t ht=>(by have ht:t∈D b:=ht;rw[hD]at ht;cases ht),fun d hd=>(by cases hd),.inl rfl,rfl,fun _=>rfl⟩ rfl
 have hI:Wn P X A D [f] p:=⟨cg,⟨rfl,fun _ _=>rfl,fun _ x=>x.elim,MO.ps.views,rfl,rfl,rfl,rfl⟩⟩;let Stop:List Frame->World->Prop:=fun s w'=>∃v,s= [f.finish v]/\aj P Sh (G ((base b).at (Act.put ⟨T,[]⟩ o.dst v) (.inRegion ops rest::k)) cs) w' Post
 have hS:∀s w τ d,Stop s w->Stop s (w.re τ d):=fun s w τ d ⟨v,h2,h3⟩=>⟨v,h2,h3.re τ d⟩;have ht:V9 (XK P) Stop [f] p:=by
  refine barN uo (fun s w τ d h=>h.re τ d) (fun s w s' w' h hx=>zV hC h hx) (fun s w h=>Oh hC h) hS hI (fun τ d=>?_);obtain⟨e,w',fr,⟨v,rfl,hB⟩,me,cH,MD⟩:=lk τ d (gW (C0 P) [] f:: [c0 P]);have jj:gW (C0 P) [] f=(base b).at ⟨T,[]⟩ (.inRegion ops (i::rest)::(C0 P).k):=by simp[f,gW,C0,Frame.at]
  have oe:Go.step P (iM P [f] (p.re τ d))= .next (lone (Frame.enter P g (args.map (Act.eval ⟨T,[]⟩)) .normal) (gW (C0 P) [] f:: [c0 P]) (p.re τ d)):=by
   refine step_lone_go ?_;show(stepG P true (G (gW (C0 P) [] f) [c0 P]) (p.re τ d)).bare=_;rw[jj];have:=goes_call (P:=P) (main:=true) (w:=p.re τ d) (K:=fun g' w' es=>g'=G ((base g).at {tmps:=args.map (Act.eval ⟨T,[]⟩)++Array.replicate (fn.ntmps-(args.map (Act.eval ⟨T,[]⟩)).size) undef,defers:= []} [.code c]) ((base b).at ⟨T,[]⟩ (.inRegion ops (i::rest)::(C0 P).k):: [c0 P])/\w'=p.re τ d/\es=#[]) (k:=(C0 P).k) (cs:= [c0 P]) (b:=base b) (a:=⟨T,[]⟩) ho hw (show CallKind.normal≠CallKind.early by decide) a_ hf de hb ⟨rfl,rfl,rfl⟩;revert this;cases stepG P true (G ((base b).at ⟨T,[]⟩ (.inRegion ops (i::rest)::(C0 P).k)) [c0 P]) (p.re τ d)with
   |go g' w' es=>
    rintro⟨rfl,rfl,rfl⟩;simp[GStep.bare,G,Frame.enter,hf,hb,base,Frame.at]
   |_=>exact fun h=>h.elim
  obtain⟨n,hn⟩:=(show Steps P _ _ from me);have nf:Go.step P (lone fr (gW (C0 P) [] f:: [c0 P]) w')= .next (iM P [f.finish v] w'):=by
   have h1:=step_leave_returned (P:=P) (c:=gW (C0 P) [] f) (cs:= [c0 P]) MD;rw[lC (C0 P) [] f v rfl]at h1;exact h1
  refine TG hC (Stop:=Stop) (M:=iM P [f.finish v] w') ⟨_,_,rfl,fun ch h=>?_⟩ (fun s w1 hs h=>?_) (n+1+1) [f] (p.re τ d) (hI.re τ d) ?_
  .cases hd:o.dst<;>simp[f,gW,Frame.finish,Frame.at,base,ho,hd]at h
  .obtain⟨rfl,rfl⟩:=vJ hs.ne (by simp) h;exact⟨v,rfl,hB⟩
  .have h2:runN P (n+1) (lone (Frame.enter P g (args.map (Act.eval ⟨T,[]⟩)) .normal) (gW (C0 P) [] f:: [c0 P]) (p.re τ d))= .next (iM P [f.finish v] w'):=by
    rw[runN_add,hn];simp only[runN,nf]
   have h3:runN P (n+1+1) (iM P [f] (p.re τ d))=(match Go.step P (iM P [f] (p.re τ d))with| .next m=>runN P (n+1) m|e=>e):=rfl;rw[h3,oe];exact h2
 have hB:=aj.YJ (Sh:=Sh) (Post:=Post) hC ⟨k,[],.normal,cs⟩ ht cg (fun s' p' _ ⟨v,h2,h3⟩=>?_)
 .have e0:bG ⟨k,[],.normal,cs⟩ [f]=G ((base b).at ⟨T,[]⟩ (.inRegion ops (i::rest)::k)) cs:=rfl;rw[e0]at hB;exact hB gs u sl t q MO
 .subst h2;have e1:bG ⟨k,[],.normal,cs⟩ [f.finish v]=G ((base b).at (Act.put ⟨T,[]⟩ o.dst v) (.inRegion ops rest::k)) cs:=by
   cases hd:o.dst<;>simp[f,bG,gW,jC,Frame.at,base,Frame.finish,ho,Act.put,hd]
  rw[e1];exact h3
end
