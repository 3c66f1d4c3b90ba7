import Derived.Test.YtmfpiodlecapiaaGreatDoorJ06
import Derived.Conc.DeferLaws
import Derived.Laws.AppendOwn
import Derived.Conc.CrowdTrace
namespace Go.fE
section
open Go.Ren Go.bn Go.Conc
variable{k:List Item}{p:World}
variable {P:Program} {X A:FuncId->Bool} {D:FuncId->List Nat} {Sh:Nat->Prop} {Post:(Nat->Prop)->Goroutine->World->Prop}
theorem aj.bW(hC:bX P X A D){fn:FuncId}{c:Code}{T:Array Value}{ds:List Deferred}{cs:List Frame}
  (nh:∀τ d,c.wp P (fun e a p'=>(e= .normal/\aj P Sh (G ((base fn).at ⟨a.tmps,ds⟩ k) cs) p' Post)\/(e= .ret/\∀todo,aj P Sh (G {(base fn).at ⟨a.tmps,ds⟩ todo with mode:=.returning} cs) p' Post)) ⟨T,[]⟩ (p.re τ d))(hD:D fn= []:=by rfl)(hc:jq P X A D [] c=true:=by kernel_rfl):
  aj P Sh (G ((base fn).at ⟨T,ds⟩ (.code c::k)) cs) p Post:=by
 refine aj.ZX hC hD hc (Q:=fun e a p'=>(e= .normal/\aj P Sh (G ((base fn).at ⟨a.tmps,ds⟩ k) cs) p' Post)\/(e= .ret/\∀todo,aj P Sh (G {(base fn).at ⟨a.tmps,ds⟩ todo with mode:=.returning} cs) p' Post)) (fun e a w h=>h.imp (·.1) (·.1)) (fun e a w τ d h=>?_) nh (fun T' p' h=>?_) (fun T' p' todo h=>?_)
 .exact h.imp (fun x=>⟨x.1,x.2.re τ d⟩) (fun x=>⟨x.1,fun todo=>(x.2 todo).re τ d⟩)
 .rcases h with h|h
  .exact h.2
  .cases h.1
 .rcases h with h|h
  .cases h.1
  .exact h.2 todo
theorem aj.j_(hC:bX P X A D){b:FuncId}{T:Array Value}{cs:List Frame}{ops:Array Oper}{i:Nat}{rest:List Nat}{o:Oper}{g:FuncId}{args:Array Operand}{ats:Array TypeId}(gw:ops.all (WE P X A D [])=true)(ho:ops[i]? =some o)(hw:Region.wanted o (yielded ops T)=true)(a_:o.op= .call {callee:=.value (.func g),args,argTypes:=ats})
  {fn:Func}{c:Code}(hf:P.funcs[g]? =some fn)(de:(fn.name== "runtime.NumGoroutine")=false)(hb:fn.body=some c){xs:Array Value}(hx:args.map (Act.eval ⟨T,[]⟩)=xs)
  (lk:∀τ d,Calls P g xs (p.re τ d) fun e w'=>∃v,e= .returned v/\aj P Sh (G ((base b).at (Act.put ⟨T,[]⟩ o.dst v) (.inRegion ops rest::k)) cs) w' Post)(hD:D b= []:=by rfl):
  aj P Sh (G ((base b).at ⟨T,[]⟩ (.inRegion ops (i::rest)::k)) cs) p Post:=
 aj.callsD hC hD gw ho hw a_ hf de hb hx lk
end
section
open Go.Ren Go.bn Go.Conc
variable{x y c:Code}{D:FuncId->List Nat}{f:FuncId}{i:Nat}
variable {P:Program}
theorem GL(t:TypeId)(x:Value):Tm P (Instr.makeChan t x):=by
 unfold Instr.makeChan;repeat' first
  |exact ay _
  |exact aA
  |exact aY _
  |exact jw trivial
  |exact dQ _
  |exact aD _
  |exact kT _
  |refine au ?_ fun _=>?_
  |split
theorem yO{ρ:Operand->Value}{o:Oper}{t:TypeId}{x:Operand}(h:o.op= .makeChan t x):Tm P (execOp ρ o):=by
 unfold execOp;rw[h];exact aU (GL t (ρ x))
theorem mH{X A:FuncId->Bool}(hC:bX P X A D){a:Act}{o:Oper}(h:WC P X o=true):Tm P (execOp a.eval o):=YK hC.ext (fun _=>rfl) (fun _=>rfl) h
variable {Sh:Nat->Prop} {Post:(Nat->Prop)->Goroutine->World->Prop} {b:Frame} {a:Act} {k:List Item} {cs:List Frame} {p:World}
theorem aj.o{X A:FuncId->Bool}(hC:bX P X A D){ops:Array Oper}{rest:List Nat}{o:Oper}(hT:WC P X o=true)(ho:ops[i]? =some o)(hw:Region.wanted o (yielded ops a.tmps)=true)
 (h:∀τ d,∀K':Act->World->Prop,(∀a' p',aj P Sh (G ((base f).at a' (.inRegion ops rest::k)) cs) p' Post->K' a' p')->uponK o a K' ((execOp a.eval o).run P (p.re τ d))):
 aj P Sh (G ((base f).at a (.inRegion ops (i::rest)::k)) cs) p Post:=aj.op (mH hC hT) ho hw (by simp[base]) h
theorem aj.pv{X A:FuncId->Bool}(hC:bX P X A D){ops:Array Oper}{rest:List Nat}{o:Oper}
 (h:∀τ d,∀K':Act->World->Prop,(∀a',aj P Sh (G ((base f).at a' (.inRegion ops rest::k)) cs) p Post->K' a' (p.re τ d))->uponK o a K' ((execOp a.eval o).run P (p.re τ d)))
 (ho:ops[i]? =some o:=by exact rfl)(hw:Region.wanted o (yielded ops a.tmps)=true:=by exact rfl)(hT:WC P X o=true:=by kernel_rfl):
 aj P Sh (G ((base f).at a (.inRegion ops (i::rest)::k)) cs) p Post:=aj.o hC hT ho hw fun τ d K' hK=>h τ d K' fun a' hb=>hK a' _ (hb.re τ d)
theorem aj.ow{X A:FuncId->Bool}{D:FuncId->List Nat}(hC:bX P X A D){f:FuncId}{ops:Array Oper}{i:Nat}{rest:List Nat}{o:Oper}
  (h:∀τ d,∀K':Act->World->Prop,(∀a' p',aj P Sh (G ((base f).at a' (.inRegion ops rest::k)) cs) p' Post->K' a' p')->uponK o a K' ((execOp a.eval o).run P (p.re τ d)))
  (ho:ops[i]? =some o:=by exact rfl)(hw:Region.wanted o (yielded ops a.tmps)=true:=by exact rfl)(hT:WC P X o=true:=by kernel_rfl):
  aj P Sh (G ((base f).at a (.inRegion ops (i::rest)::k)) cs) p Post:=aj.o hC hT ho hw h
theorem aj.reg{id:Nat}{ops:Array Oper}{todo:List Nat}(ht:List.range ops.size=todo)(hn:aj P Sh (G (b.at a (.inRegion ops todo::k)) cs) p Post):aj P Sh (G (b.at a (.code (.region id ops false)::k)) cs) p Post:=
 .ctl rfl (fun _=>stepG_region) (ht▸hn)
theorem aj.seq(hn:aj P Sh (G (b.at a (.code x:: .code y::k)) cs) p Post):aj P Sh (G (b.at a (.code (.seq x y)::k)) cs) p Post:=.ctl rfl (fun _=>stepG_seq) hn
theorem aj.aJ{ops:Array Oper}(hn:aj P Sh (G (b.at a k) cs) p Post):aj P Sh (G (b.at a (.inRegion ops []::k)) cs) p Post:=.ctl rfl (fun _=>stepG_region_end) hn
theorem aj.skip(hn:aj P Sh (G (b.at a k) cs) p Post):aj P Sh (G (b.at a (.code .skip::k)) cs) p Post:=.ctl rfl (fun _=>stepG_skip) hn
theorem aj.block{id:Nat}(hn:aj P Sh (G (b.at a (.code c:: .inBlock id::k)) cs) p Post):aj P Sh (G (b.at a (.code (.block id c)::k)) cs) p Post:=.ctl rfl (fun _=>stepG_block) hn
theorem aj.inBlock{id:Nat}(hn:aj P Sh (G (b.at a k) cs) p Post):aj P Sh (G (b.at a (.inBlock id::k)) cs) p Post:=.ctl rfl (fun _=>stepG_inBlock) hn
theorem aj.loop(hn:aj P Sh (G (b.at a (.code c:: .inLoop c::k)) cs) p Post):aj P Sh (G (b.at a (.code (.loop c)::k)) cs) p Post:=.ctl rfl (fun _=>stepG_loop) hn
theorem aj.inLoop(hn:aj P Sh (G (b.at a (.code c:: .inLoop c::k)) cs) p Post):aj P Sh (G (b.at a (.inLoop c::k)) cs) p Post:=.ctl rfl (fun _=>stepG_inLoop) hn
theorem aj.yes{c:Operand}(hc:a.eval c= .bool true)(hn:aj P Sh (G (b.at a (.code x::k)) cs) p Post):aj P Sh (G (b.at a (.code (.cond c x y)::k)) cs) p Post:=.ctl rfl (fun _=>stepG_cond hc) hn
theorem aj.no{c:Operand}(hc:a.eval c= .bool false)(hn:aj P Sh (G (b.at a (.code y::k)) cs) p Post):aj P Sh (G (b.at a (.code (.cond c x y)::k)) cs) p Post:=.ctl rfl (fun _=>stepG_cond hc) hn
theorem aj.exit{id:Nat}{k':List Item}(he:exitTo id k=some k')(hn:aj P Sh (G (b.at a k') cs) p Post):aj P Sh (G (b.at a (.code (.exit id)::k)) cs) p Post:=.ctl rfl (fun _=>stepG_exit he) hn
end
end Go.fE
namespace Go.Conc
variable{i:Nat}{o:Oper}{f:FuncId}{caps:Array Value}{ats:Array TypeId}
variable {P:Program} {main:Bool} {b:Frame} {a:Act} {k:List Item} {cs:List Frame} {w:World}
def AJ(f:FuncId)(caps:Array Value):Deferred:= {target:=.fn (.func f) caps,args:=#[]}
theorem EJ{ops:Array Oper}{rest:List Nat}{x:Operand}(ho:ops[i]? =some o)(hw:Region.wanted o (yielded ops a.tmps)=true)(hk:b.kind≠.early)
  (a_:o.op= .defer {callee:=.value x,args:=#[],argTypes:=ats})(hx:a.eval x= .func (.func f) #[] caps):
  stepG P main (G (b.at a (.inRegion ops (i::rest)::k)) cs) w= .go (G (b.at (Act.put ⟨a.tmps,AJ f caps::a.defers⟩ o.dst undef) (.inRegion ops rest::k)) cs) w #[]:=by
 have hr:(execOp a.eval o).run P w= .ok (.defer (AJ f caps)) w:=by
  unfold execOp;simp[a_,resolve,Deferred.ofValue,hx,AJ]
 have he:(execOp a.eval o).events P w #[]=#[]:=by
  unfold execOp;simp[a_,resolve,Deferred.ofValue,hx]
 have cY:(b.at ⟨a.tmps,AJ f caps::a.defers⟩ (.inRegion ops (i::rest)::k)).finish undef=b.at (Act.put ⟨a.tmps,AJ f caps::a.defers⟩ o.dst undef) (.inRegion ops rest::k):=by rw[Frame.finish_at,ho];rfl
 have dq:(b.kind==CallKind.early)=false:=by simpa using hk
 rw[stepG_oper ho hw,<-cY];simp[stepG.apply,hr,he,G,Frame.at,dq,GStep.after,seen_none]
theorem BG{todo:List Item}{ds:List Deferred}{fn:Func}{c:Code}(hd:a.defers=AJ f caps::ds)(hf:P.funcs[f]? =some fn)(de:(fn.name== "runtime.NumGoroutine")=false)(hb:fn.body=some c):
  stepG P main (G {b.at a todo with mode:=.returning} cs) w=
   .go (G ((baseD f).at {tmps:=caps++Array.replicate (fn.ntmps-caps.size) undef,defers:= []} [.code c]) ({b.at ⟨a.tmps,ds⟩ todo with mode:=.returning}::cs)) w #[]:=by
 have h1:¬fn.name= "runtime.NumGoroutine" :=by simpa using de
 rw[<-enter_atD caps hf hb];simp[G,stepG,unwind,callDeferred,Frame.at,hd,AJ,invoke,callFunc,hf,h1,hb,GStep.after,seen_none]
theorem yX{ops:Array Oper}{rest:List Nat}{c:Frame}(ho:ops[i]? =some o)(hw:Region.wanted o (yielded ops a.tmps)=true)
  (a_:o.op= .call {callee:=.builtin .recover,args:=#[],argTypes:=ats})(hc:c.mode= .returning):
  stepG P main (G ((baseD f).at a (.inRegion ops (i::rest)::k)) (c::cs)) w= .go (G ((baseD f).at (a.put o.dst .nilIface) (.inRegion ops rest::k)) (c::cs)) w #[]:=by
 have hr:(execOp a.eval o).run P w= .ok .recover w:=by
  unfold execOp;simp[a_,resolve,invoke,builtin]
 have he:(execOp a.eval o).events P w #[]=#[]:=by
  unfold execOp;simp[a_,resolve,invoke,builtin]
 have cY:((baseD f).at a (.inRegion ops (i::rest)::k)).finish .nilIface=(baseD f).at (a.put o.dst .nilIface) (.inRegion ops rest::k):=by rw[Frame.finish_at,ho];rfl
 rw[stepG_oper ho hw,<-cY];simp[stepG.apply,hr,he,G,Frame.at,baseD,GStep.after,seen_none,tryRecover,hc]
end Go.Conc
namespace Go.fE
section
open Go.Ren Go.bn Go.Conc
variable{a:Act}{p:World}
variable {P:Program} {Sh:Nat->Prop} {Post:(Nat->Prop)->Goroutine->World->Prop}
theorem aj.backR{f:FuncId}{fn:Func}{T:Array Value}{todo:List Item}{b:FuncId}{ops:Array Oper}{i:Nat}{rest:List Nat}{k:List Item}{cs:List Frame}{v:Value}{o:Oper}(ho:ops[i]? =some o)
  (hf:P.funcs[f]? =some fn)(hv:∀τ d,(results fn T).run P (p.re τ d)= .ok v (p.re τ d))
  (hn:aj P Sh (G ((base b).at (a.put o.dst v) (.inRegion ops rest::k)) cs) p Post):aj P Sh (Gr f T todo ((base b).at a (.inRegion ops (i::rest)::k)::cs)) p Post:=by
 refine .step rfl fun u cL=>?_;have hT:Tm P (results fn T):=wK fn T;have eW:=hT.run _ u #[] cL;have ee:=hT.low _ #[] cL.self;rw[Sem.runT_eq]at eW ee;have hr:=hv u.tape u.drawn;rw[hr]at eW ee;obtain⟨u',es2,e1,e2,e3,e4⟩:=eW;obtain⟨l1,es3,l2,l3⟩:=ee;rw[Sem.runT_eq]at e2;simp only[Prod.mk.injEq]at e2;have e:aR P ⟨f,T,todo,true⟩ [⟨b,a.tmps,.inRegion ops (i::rest)::k,false⟩] u= .go ((⟨b,a.tmps,.inRegion ops (i::rest)::k,false⟩:Fr).finish v) [] u' (seen P f ((results fn T).events P u #[])):=by
  simp only[aR,if_true,sI,hf,e2.1]
 have:=yt (P:=P) (main:=true) (C:=⟨[],a.defers,.normal,cs⟩) (by simp) (fun c hc=>by rw[List.mem_singleton.1 hc];exact⟨⟨ops,i,rest,k,rfl⟩,rfl⟩) e;have k1:gZ ⟨[],a.defers,.normal,cs⟩ ⟨f,T,todo,true⟩ [⟨b,a.tmps,.inRegion ops (i::rest)::k,false⟩]=Gr f T todo ((base b).at a (.inRegion ops (i::rest)::k)::cs):=by
  simp[gZ,Gr,Fr.top,below,Fr.base,Fr.mode,Frame.at,base]
 have k2:gZ ⟨[],a.defers,.normal,cs⟩ ((⟨b,a.tmps,.inRegion ops (i::rest)::k,false⟩:Fr).finish v) []=G ((base b).at (a.put o.dst v) (.inRegion ops rest::k)) cs:=by
  cases hd:o.dst<;>simp[gZ,Fr.base,Fr.mode,Frame.at,base,Fr.finish,ho,Act.put,hd]
 rw[k1,k2]at this;have hs:=e3.size;have gv:=cL.size;refine⟨_,p,u',_,this,?_,?_,fun x hx=>?_,hn⟩
 .have h3:=e3;refine⟨h3.size,h3.same,h3.rows,h3.views,rfl,rfl,h3.os,h3.output⟩
 .have:(p.re u.tape u.drawn).heap.size=p.heap.size:=rfl;omega
 .have hx:=Go.bn.mem_seen hx;rw[e2.2]at hx;refine FE (e4 x ?_) ?_
  .rw[e1]at hx;simpa using hx
  .rw[hs];exact l3 x (by rw[l2]at hx;simpa using hx)
theorem aj.finish{b:Frame}{cs:List Frame}(hn:aj P Sh (G {b.at a []with mode:=.returning} cs) p Post):aj P Sh (G (b.at a []) cs) p Post:=.ctl rfl (fun _=>stepG_end) hn
end
section
open Go.Ren Go.bn Go.Conc
variable{w:World}{c:Code}{i:Nat}{o:Oper}
variable {P:Program} {Sh:Nat->Prop} {Post:(Nat->Prop)->Goroutine->World->Prop}
def setRow(p:World)(l:Nat)(o:Obj):World:= {p with heap:=p.heap.setIfInBounds l o}
theorem aj.sem{α:Type}{s:Sem α}(hT:Tm P s){g:Goroutine}{fn:FuncId}{p:World}(ag:g.status= .running)
  (h:∀τ d,∃v p' g',s.run P (p.re τ d)= .ok v p'/\(∀u u':World,s.run P u= .ok v u'->stepG P true g u= .go g' u' (seen P fn (s.events P u #[])))/\aj P Sh g' p' Post):aj P Sh g p Post:=by
 refine .step ag fun u cL=>?_;have eW:=hT.run _ u #[] cL;have ee:=hT.low _ #[] cL.self;rw[Sem.runT_eq]at eW ee;obtain⟨v,p',g',hr,aq,hn⟩:=h u.tape u.drawn;rw[hr]at eW ee;obtain⟨u',es2,e1,e2,e3,e4⟩:=eW;obtain⟨l1,es3,l2,l3⟩:=ee;rw[Sem.runT_eq]at e2;simp only[Prod.mk.injEq]at e2;have hs:=e3.size;have gv:=cL.size;refine⟨g',p',u',_,aq u u' e2.1,by rw[e3.yw];exact e3,?_,fun x hx=>?_,hn⟩
 .have:(p.re u.tape u.drawn).heap.size=p.heap.size:=rfl;omega
 .have hx:=Go.bn.mem_seen hx;rw[e2.2]at hx;refine FE (e4 x ?_) ?_
  .rw[e1]at hx;simpa using hx
  .rw[hs];exact l3 x (by rw[l2]at hx;simpa using hx)
theorem nG(l:Nat):Tm P (Instr.getLoop l):=by
 unfold Instr.getLoop;refine au (dD _) fun o=>?_;split
 .exact ay _
 .exact aA
theorem run_getLoop{l:Nat}{r:Loop}(h:w.heap[l]? =some (.loop r)):(Instr.getLoop l).run P w= .ok r w:=by
 simp[Instr.getLoop,getObj,Sem.run,h]
theorem pG{l:Nat}{r:Loop}(h:w.heap[l]? =some (.loop r))(o:Obj):(setObj l o).run P w= .ok () (setRow w l o):=by
 simp[setObj,Sem.run,h,setRow]
theorem aj.rangeFunc{f0:FuncId}{a:Act}{k:List Item}{cs:List Frame}{p:World}{fo:Operand}{params:Array Tmp}{asg body:Code}{f:FuncId}{fn:Func}{caps:Array Value}
  (hx:a.eval fo= .func (.func f) #[] caps)(hf:P.funcs[f]? =some fn)(de:(fn.name== "runtime.NumGoroutine")=false)(hb:fn.body=some c)
  (hn:aj P Sh (G ((base f).at ⟨(#[.func (.yield (p.heap.size+1)) #[] #[]]++caps)++Array.replicate (fn.ntmps-(#[Value.func (.yield (p.heap.size+1)) #[] #[]]++caps).size) undef,[]⟩ [.code c]) ((base f0).at ⟨a.tmps,{target:=.collected p.heap.size,args:=#[]}::a.defers⟩ (.inRangeFunc (p.heap.size+1)::k)::cs))
   ((p.alloc (.deferred (some []))).alloc (.loop {state:=.ready,pending:=none,fn:=f0,tmps:=a.tmps,params,assign:=asg,body,defers:=p.heap.size})) Post):
  aj P Sh (G ((base f0).at a (.code (.rangeFunc fo params asg body)::k)) cs) p Post:=by
 refine .step rfl fun u cL=>?_;have cC:u.heap.size=p.heap.size:=cL.size;have h1:¬fn.name= "runtime.NumGoroutine" :=by simpa using de
 have hl:∀b,Sh b->b<(p.re u.tape u.drawn).heap.size:=fun b hb=>cL.lt hb;have xT:=cL.new hl (o:=.deferred (some [])) trivial;have uG:=xT.new (fun b hb=>by have:=hl b hb;simp;omega) (o:=.loop {state:=.ready,pending:=none,fn:=f0,tmps:=a.tmps,params,assign:=asg,body,defers:=p.heap.size}) trivial;refine⟨_,((p.alloc (.deferred (some []))).alloc (.loop {state:=.ready,pending:=none,fn:=f0,tmps:=a.tmps,params,assign:=asg,body,defers:=p.heap.size})),{u with heap:=(u.heap.push (.deferred (some []))).push (.loop {state:=.ready,pending:=none,fn:=f0,tmps:=a.tmps,params,assign:=asg,body,defers:=p.heap.size})},#[],?_,uG,by simp;omega,fun e he=>by simp at he,hn⟩;have lE:((base f0).at ⟨a.tmps,{target:=.collected p.heap.size,args:=#[]}::a.defers⟩ (.inRangeFunc (p.heap.size+1)::k)).eval fo= .func (.func f) #[] caps:=hx;simp only[Frame.at,base]at lE;rw[<-enter_at (#[Value.func (.yield (p.heap.size+1)) #[] #[]]++caps) hf hb];simp[G,stepG,stepG.exec,Frame.at,base,Instr.enterLoop,resolve,Deferred.ofValue,invoke,callFunc,hf,h1,hb,GStep.after,seen_none,stepG.apply,cC,lE,go_sem];exact⟨rfl,rfl⟩
def oI(f l:Nat)(a:Act)(todo:List Item):Frame:= {(base f).at a todo with roundOf:=some l}
theorem aj.Zp{b0:FuncId}{a:Act}{ops:Array Oper}{rest:List Nat}{k:List Item}{cs:List Frame}{p:World}{x y:Operand}{l t:Nat}{r:Loop}{ats:Array TypeId}(ho:ops[i]? =some o)(hw:Region.wanted o (yielded ops a.tmps)=true)
  (a_:o.op= .call {callee:=.value x,args:=#[y],argTypes:=ats})(hx:a.eval x= .func (.yield l) #[] #[])(hr:p.heap[l]? =some (.loop r))(hp:r.params=#[t])
  (hn:aj P Sh (G (oI r.fn l ⟨r.tmps.setIfInBounds t (a.eval y),[]⟩ [.code r.assign,.beginRound,.code r.body]) ((base b0).at a (.inRegion ops (i::rest)::k)::cs)) p Post):
  aj P Sh (G ((base b0).at a (.inRegion ops (i::rest)::k)) cs) p Post:=by
 have hex:execOp a.eval o=Instr.yield l #[a.eval y]:=by
  unfold execOp;simp only[a_,resolve,Deferred.ofValue,hx];simp[invoke]
 refine aj.sem (s:=Instr.yield l #[a.eval y]) (fn:=b0) ?_ rfl (fun τ d=>⟨.round l r.fn (r.tmps.setIfInBounds t (a.eval y)) r.assign r.body,p.re τ d,_,?_,fun u u' hv=>?_,hn.re τ d⟩)
 .unfold Instr.yield;refine au (nG l) fun r=>?_;split
  .exact aA
  .exact ay _
 .have fR:(p.re τ d).heap[l]? =some (.loop r):=hr;unfold Instr.yield;rw[Sem.run_bind,run_getLoop fR,Result.andThen_ok];simp[hp]
 .rw[stepG_oper ho hw,hex];simp[stepG.apply,hv,G,Frame.at,base,oI,GStep.after,Frame.round]
section
variable {f l:Nat} {a:Act} {k:List Item} {cs:List Frame} {p:World}
theorem aj.beginRound{r:Loop}(hr:p.heap[l]? =some (.loop r))(hs:r.state= .ready)
  (hn:aj P Sh (G (oI f l a k) cs) (setRow p l (.loop {r with state:=.busy})) Post):aj P Sh (G (oI f l a (.beginRound::k)) cs) p Post:=by
 refine aj.sem (s:=(do Instr.beginRound l;pure .skip:Sem Next)) (fn:=f) ?_ rfl (fun τ d=>⟨.skip,setRow (p.re τ d) l (.loop {r with state:=.busy}),_,?_,fun u u' hv=>?_,hn.re τ d⟩)
 .refine au ?_ fun _=>ay _;unfold Instr.beginRound;refine au (nG l) fun r=>au (gG trivial) fun _=>?_;split
  .exact ay _
  all_goals exact aY _
 .have fR:(p.re τ d).heap[l]? =some (.loop r):=hr;have:(Instr.beginRound l).run P (p.re τ d)= .ok () (setRow (p.re τ d) l (.loop {r with state:=.busy})):=by
   unfold Instr.beginRound;rw[Sem.run_bind,run_getLoop fR,Result.andThen_ok,Sem.run_bind,pG fR,Result.andThen_ok,hs];rfl
  rw[Sem.run_bind,this];rfl
 .have e:stepG P true (G (oI f l a (.beginRound::k)) cs) u=stepG.apply P true (oI f l a (.beginRound::k)) cs none (do Instr.beginRound l;pure .skip:Sem Next) u:=rfl;rw[e];generalize (do Instr.beginRound l;pure .skip:Sem Next)=s at hv⊢;simp[stepG.apply,hv,G,Frame.at,base,oI,GStep.after,Frame.finish]
theorem aj.endRound{b0:Nat}{a':Act}{ops:Array Oper}{rest:List Nat}{r:Loop}(ho:ops[i]? =some o)(hr:p.heap[l]? =some (.loop r))
  (hn:aj P Sh (G ((base b0).at (a'.put o.dst (.bool true)) (.inRegion ops rest::k)) cs) (setRow p l (.loop {r with state:=.ready,pending:=none})) Post):aj P Sh (G (oI f l a []) ((base b0).at a' (.inRegion ops (i::rest)::k)::cs)) p Post:=by
 have cY:((base b0).at a' (.inRegion ops (i::rest)::k)).finish (.bool true)=(base b0).at (a'.put o.dst (.bool true)) (.inRegion ops rest::k):=by rw[Frame.finish_at,ho];rfl
 refine aj.sem (s:=Instr.endRound l none) (fn:=f) ?_ rfl (fun τ d=>⟨.bool true,setRow (p.re τ d) l (.loop {r with state:=.ready,pending:=none}),_,?_,fun u u' hv=>?_,hn.re τ d⟩)
 .unfold Instr.endRound;exact au (nG l) fun r=>au (gG trivial) fun _=>ay _
 .have fR:(p.re τ d).heap[l]? =some (.loop r):=hr;unfold Instr.endRound;rw[Sem.run_bind,run_getLoop fR,Result.andThen_ok,Sem.run_bind,pG fR,Result.andThen_ok];rfl
 .rw[<-cY];simp[G,stepG,stepG.exec,Frame.at,base,oI,hv,GStep.after,doReturn]
theorem aj.endLoop{r:Loop}(hr:p.heap[l]? =some (.loop r))(hs:r.state= .ready)(hp:r.pending=none)
  (hn:aj P Sh (G ((base f).at a k) cs) (setRow p l (.loop {r with state:=.exhausted})) Post):aj P Sh (G ((base f).at a (.endRangeFunc l::k)) cs) p Post:=by
 refine aj.sem (s:=Instr.endLoop l) (fn:=f) ?_ rfl (fun τ d=>⟨none,setRow (p.re τ d) l (.loop {r with state:=.exhausted}),_,?_,fun u u' hv=>?_,hn.re τ d⟩)
 .unfold Instr.endLoop;refine au (nG l) fun r=>?_;split
  .exact au (aY _) fun _=>au (gG trivial) fun _=>ay _
  .exact au (gG trivial) fun _=>ay _
 .have fR:(p.re τ d).heap[l]? =some (.loop r):=hr;unfold Instr.endLoop;rw[Sem.run_bind,run_getLoop fR,Result.andThen_ok];rw[if_neg (by rw[hs];decide)];rw[Sem.run_bind,pG fR,Result.andThen_ok,hp];rfl
 .simp[G,stepG,stepG.exec,Frame.at,base,hv,GStep.after]
theorem aj.taken{n:Nat}{T:Array Value}{ds:List Deferred}{todo:List Item}(hr:p.heap[n]? =some (.deferred (some [])))
  (hn:aj P Sh (G {(base f).at ⟨T,ds⟩ todo with mode:=.returning} cs) (setRow p n (.deferred none)) Post):aj P Sh (G {(base f).at ⟨T,{target:=.collected n,args:=#[]}::ds⟩ todo with mode:=.returning} cs) p Post:=by
 refine aj.sem (s:=Instr.takeDeferred n) (fn:=f) ?_ rfl (fun τ d=>⟨[],setRow (p.re τ d) n (.deferred none),_,?_,fun u u' hv=>?_,hn.re τ d⟩)
 .unfold Instr.takeDeferred;refine au (dD _) fun o=>?_;split
  .exact au (gG trivial) fun _=>ay _
  .exact aA
 .have fR:(p.re τ d).heap[n]? =some (.deferred (some [])):=hr;simp[Instr.takeDeferred,getObj,setObj,Sem.run,fR,setRow]
 .simp[G,stepG,unwind,Frame.at,base,hv,GStep.after]
theorem aj.Yu{g':Goroutine}{todo:List Item}(h:∀u,stepG P true (G (oI f l a todo) cs) u= .go g' u #[])(hn:aj P Sh g' p Post):aj P Sh (G (oI f l a todo) cs) p Post:=aj.ctl rfl h hn
theorem aj.blockR{id:Nat}(hn:aj P Sh (G (oI f l a (.code c:: .inBlock id::k)) cs) p Post):aj P Sh (G (oI f l a (.code (.block id c)::k)) cs) p Post:=aj.Yu (fun _=>rfl) hn
theorem aj.outR{id:Nat}(hn:aj P Sh (G (oI f l a k) cs) p Post):aj P Sh (G (oI f l a (.inBlock id::k)) cs) p Post:=aj.Yu (fun _=>rfl) hn
theorem aj.regR{id:Nat}{ops:Array Oper}{todo:List Nat}(ht:List.range ops.size=todo)(hn:aj P Sh (G (oI f l a (.inRegion ops todo::k)) cs) p Post):aj P Sh (G (oI f l a (.code (.region id ops false)::k)) cs) p Post:=aj.Yu (fun _=>by subst ht;rfl) hn
theorem aj.NU{ops:Array Oper}(hn:aj P Sh (G (oI f l a k) cs) p Post):aj P Sh (G (oI f l a (.inRegion ops []::k)) cs) p Post:=aj.Yu (fun _=>rfl) hn
theorem LC{ops:Array Oper}{rest:List Nat}(ho:ops[i]? =some o)(v:Value):(oI f l a (.inRegion ops (i::rest)::k)).finish v=oI f l (a.put o.dst v) (.inRegion ops rest::k):=by
 have h:=Frame.finish_at (b:=base f) (a:=a) (k:=k) (ops:=ops) (i:=i) (rest:=rest) v;rw[ho]at h;simp only[Frame.finish,Frame.at,oI,ho]at h⊢;cases hd:o.dst<;>simp[hd,Act.put]at h⊢
theorem aj.opR{ops:Array Oper}{rest:List Nat}(hT:Tm P (execOp a.eval o))(ho:ops[i]? =some o)(hg:o.guard=none)(hd:∀c,o.op≠.defer c)
  (h:∀τ d,∃n p',(execOp a.eval o).run P (p.re τ d)= .ok n p'/\((∃v,n= .value v/\aj P Sh (G (oI f l (a.put o.dst v) (.inRegion ops rest::k)) cs) p' Post)\/(n= .skip/\aj P Sh (G (oI f l (a.put o.dst undef) (.inRegion ops rest::k)) cs) p' Post))):
  aj P Sh (G (oI f l a (.inRegion ops (i::rest)::k)) cs) p Post:=by
 have aq:∀u,stepG P true (G (oI f l a (.inRegion ops (i::rest)::k)) cs) u=stepG.apply P true (oI f l a (.inRegion ops (i::rest)::k)) cs none (execOp a.eval o) u:=fun u=>by
  have he:(oI f l a (.inRegion ops (i::rest)::k)).eval=a.eval:=by
   funext x;cases x<;>rfl
  have hw:Region.wanted o (yielded ops a.tmps)=true:=by simp[Region.wanted,hg]
  simp only[oI,Frame.at,base]at he;cases a_:o.op<;>first|(exact absurd a_ (hd _))|simp[G,stepG,stepG.exec,stepG.oper,Frame.oper?,Frame.at,base,oI,ho,hw,he,a_]
 refine aj.sem (s:=execOp a.eval o) (fn:=f) hT rfl fun τ d=>?_;obtain⟨n,p',h1,h2⟩:=h τ d;rcases h2 with⟨v,rfl,h2⟩|⟨rfl,h2⟩
 iterate 2 (·refine⟨_,p',_,h1,fun u u' hv=>?_,h2⟩;rw[aq,<-LC ho];simp[stepG.apply,hv,G,oI,Frame.at,base,GStep.after])
end
theorem aj.backI{f:FuncId}{fn:Func}{T:Array Value}{todo:List Item}{b:FuncId}{a:Act}{l:Nat}{k:List Item}{cs:List Frame}{p:World}{v:Value}
  (hf:P.funcs[f]? =some fn)(hv:∀w,(results fn T).run P w= .ok v w)(he:∀w,(results fn T).events P w #[]=#[])
  (hn:aj P Sh (G ((base b).at a (.endRangeFunc l::k)) cs) p Post):aj P Sh (Gr f T todo ((base b).at a (.inRangeFunc l::k)::cs)) p Post:=by
 refine .ctl rfl (fun u=>?_) hn;simp[G,Gr,stepG,unwind,Frame.at,base,hf,hv,he,GStep.after,seen_none,doReturn,Frame.finish,Sem.runT_eq]
end
section
open Go.Ren Go.bn Go.Conc Go.RowKit
variable {P:Program} {Sh:Nat->Prop} {Post:(Nat->Prop)->Goroutine->World->Prop} {b:Frame} {a:Act} {k:List Item} {cs:List Frame} {p:World} {ops:Array Oper}
theorem aj.bB{c:Code}(h:∀kk,kk=k->aj P Sh (G (b.at a (.code c::kk)) cs) p Post):aj P Sh (G (b.at a (.code c::k)) cs) p Post:=h k rfl
theorem aj.YI{c c1:Code}(e:c=c1)(h:aj P Sh (G (b.at a (.code c1::k)) cs) p Post):aj P Sh (G (b.at a (.code c::k)) cs) p Post:=by
 rw[e];exact h
structure Grb(row:Option Nat)(p q:World):Prop where
 size:p.heap.size<=q.heap.size
 block:∀k,k<p.heap.size->some k≠row->q.heap[k]? =p.heap[k]?
 os:q.os=p.os
 output:q.output=p.output
end
end Go.fE
namespace Go.bn
section
variable {P:Program}
structure nA(γ:Type) where
 m:γ
 f:Fr
 fs:List Fr
 w:World
inductive Rk where
 |zero
 |mk (F:nA Nat->Rk)
def Rk.Lt(r s:Rk):Prop:=∃F i,s= .mk F/\r=F i
theorem Rk.acc(r:Rk):Acc Rk.Lt r:=by
 induction r with
 |zero=>exact⟨_,fun y ⟨F,i,e,_⟩=>by cases e⟩
 |mk F ih=>exact⟨_,fun y ⟨F',i,e,h⟩=>by cases e;subst h;exact ih i⟩
def Rk.ofNat:Nat->Rk
 |0=>.zero
 |n+1=>.mk fun _=>Rk.ofNat n
theorem Rk.ofNat_lt(n:Nat):Rk.Lt (Rk.ofNat n) (Rk.ofNat (n+1)):=⟨fun _=>Rk.ofNat n,⟨0,⟨0,#[],[],false⟩,[],default⟩,rfl,rfl⟩
inductive GA:List Rk->List Rk->Prop
 |here {r r':Rk} {l:List Rk}:Rk.Lt r' r->GA (r'::l) (r::l)
 |there {r:Rk} {l l':List Rk}:GA l' l->GA (r::l') (r::l)
theorem Yq{r:Rk}(hr:Acc Rk.Lt r):∀{l:List Rk},Acc GA l->Acc GA (r::l):=by
 induction hr with
 |intro r _ ihr=>
  intro l hl;induction hl with
  |intro l hl ihl=>
   refine⟨_,fun y hy=>?_⟩;cases hy with
   |here h=>exact ihr _ h ⟨_,hl⟩
   |there h=>exact ihl _ h
theorem Vn:∀l:List Rk,Acc GA l
 | []=>⟨_,fun y hy=>by cases hy⟩
 |r::l=>Yq r.acc (Vn l)
def GF(n:Nat)(r' r:Nat->Rk):Prop:=∃i,i<n/\Rk.Lt (r' i) (r i)/\∀j,j≠i->r' j=r j
theorem Zc:∀(l:List Nat) (r' r:Nat->Rk) (i:Nat),l.Nodup->i∈l->Rk.Lt (r' i) (r i)->(∀j,j≠i->r' j=r j)->GA (l.map r') (l.map r)
 | [],_,_,_,_,h,_,_=>by cases h
 |a::l,r',r,i,hn,hi,hl,ho=>by
  simp only[List.map_cons];obtain⟨h1,h2⟩:=List.nodup_cons.1 hn;by_cases e:a=i
  .subst e;have:l.map r'=l.map r:=List.map_congr_left fun j hj=>ho j (fun e=>h1 (e▸hj));rw[this];exact .here hl
  .rw[ho a e];exact .there (Zc l r' r i h2 (by rcases List.mem_cons.1 hi with h|h;exact absurd h.symm e;exact h) hl ho)
theorem gf_acc(n:Nat)(r:Nat->Rk):Acc (GF n) r:=by
 have:∀l,Acc GA l->∀r:Nat->Rk,(List.range n).map r=l->Acc (GF n) r:=by
  intro l hl;induction hl with
  |intro l _ ih=>
   intro r e;refine⟨_,fun r' ⟨i,hi,h1,h2⟩=>ih _ ?_ r' rfl⟩;rw[<-e];exact Zc _ _ _ i List.nodup_range (List.mem_range.2 hi) h1 h2
 exact this _ (Vn _) r rfl
def LT(n:Nat)(a b:Nat×(Nat->Rk)):Prop:=a.1<b.1\/(a.1=b.1/\GF n a.2 b.2)
theorem lt_wf(n:Nat):WellFounded (LT n):=by
 refine⟨fun⟨s,r⟩=>?_⟩;induction s using Nat.strongRecOn generalizing r with
 |_ s ih=>
  have h:=gf_acc n r;induction h with
  |intro r _ ihr=>
   refine⟨_,fun⟨s',r'⟩ h=>?_⟩;rcases h with h|⟨h1,h2⟩
   .exact ih s' h r'
   .simp only at h1 h2;subst h1;exact ihr _ h2
section
variable (P:Program) (Node:nA Nat->(nA Nat->Prop)->Prop) (Stop:nA Nat->Prop)
inductive WT:nA Nat->Prop
 |stop {s:nA Nat}:Stop s->WT s
 |step {s:nA Nat}:(∀τ d,∃f' fs' w' es,aR P s.f s.fs (s.w.re τ d)= .go f' fs' w' es)->(∀τ d f' fs' w' es,aR P s.f s.fs (s.w.re τ d)= .go f' fs' w' es->WT ⟨s.m,f',fs',w'⟩)->WT s
 |node {s:nA Nat} {Next:nA Nat->Prop}:Node s Next->(∀s',Next s'->WT s')->WT s
def WTR:Rk->nA Nat->Prop
 | .zero,s=>Stop s
 | .mk F,s=>Stop s\/(∀τ d,∃f' fs' w' es,aR P s.f s.fs (s.w.re τ d)= .go f' fs' w' es/\WTR (F ⟨s.m,f',fs',w'⟩) ⟨s.m,f',fs',w'⟩)\/
  ∃Next,Node s Next/\∀s',Next s'->WTR (F s') s'
end
section
variable {Node:nA Nat->(nA Nat->Prop)->Prop} {Stop Stop':nA Nat->Prop} {s:nA Nat}
theorem WT.ZT(h:WT P Node Stop s):∃r,WTR P Node Stop r s:=by
 classical
 induction h with
 |stop h=>exact⟨.zero,h⟩
 |@step s h1 _ ih=>
  have hc:∀x:nA Nat,∃r,(∃τ d es,aR P s.f s.fs (s.w.re τ d)= .go x.f x.fs x.w es)->WTR P Node Stop r ⟨s.m,x.f,x.fs,x.w⟩:=by
   intro x;by_cases hx:∃τ d es,aR P s.f s.fs (s.w.re τ d)= .go x.f x.fs x.w es
   .obtain⟨τ,d,es,e⟩:=hx;obtain⟨r,hr⟩:=ih τ d _ _ _ _ e;exact⟨r,fun _=>hr⟩
   .exact⟨.zero,fun h=>absurd h hx⟩
  refine⟨.mk fun x=>Classical.choose (hc x),.inr (.inl fun τ d=>?_)⟩;obtain⟨f',fs',w',es,e⟩:=h1 τ d;exact⟨f',fs',w',es,e,Classical.choose_spec (hc ⟨s.m,f',fs',w'⟩) ⟨τ,d,es,e⟩⟩
 |@node s Next h _ ih=>
  have hc:∀x:nA Nat,∃r,Next x->WTR P Node Stop r x:=by
   intro x;by_cases hx:Next x
   .obtain⟨r,hr⟩:=ih x hx;exact⟨r,fun _=>hr⟩
   .exact⟨.zero,fun h=>absurd h hx⟩
  exact⟨.mk fun x=>Classical.choose (hc x),.inr (.inr ⟨Next,h,fun s' hs=>Classical.choose_spec (hc s') hs⟩)⟩
end
end
section
open Go.Ren Go.Conc
variable{ρ:Array Nat}{p u u':World}{c:Nat}
variable {P:Program} {X A:FuncId->Bool} {K:FuncId->Nat->Nat}
def CO(ρ:Array Nat)(p:World)(c:Nat):Prop:=∃b i,ρ[b]? =some c/\(p.cell? ⟨b,i,none⟩).isSome=true
def Own(ρ:Array Nat)(p:World)(c:Nat):Prop:=∃b,ρ[b]? =some c/\Wr p b
theorem Own.vis(h:Own ρ p c):CO ρ p c:=let⟨b,h1,i,h2,_⟩:=h;⟨b,i,h1,h2⟩
theorem R7(h:WR ρ p u)(hs:u.heap.size<=u'.heap.size)(hv:∀c,CO ρ p c->u'.heap[c]? =u.heap[c]?):WR ρ (p.re u'.tape u'.drawn) u':=by
 have hc:∀b i c,ρ[b]? =some c->(p.cell? ⟨b,i,none⟩).isSome=true->u'.cell? ⟨c,i,none⟩=u.cell? ⟨c,i,none⟩/\u'.frozen? ⟨c,i,none⟩=u.frozen? ⟨c,i,none⟩:=by
  intro b i c h1 h2;have e:=hv c ⟨b,i,h1,h2⟩;exact⟨by simp only[World.cell?,e],by simp only[World.frozen?,e]⟩
 refine⟨h.size,h.rows,h.inj,fun b c x=>Nat.lt_of_lt_of_le (h.low b c x) hs,fun b i v hb=>?_,fun b i c h1 h2 h3=>?_,rfl,rfl⟩
 .obtain⟨c,v',h1,h2,h3⟩:=h.cell b i v hb;exact⟨c,v',h1,by rw[(hc b i c h1 (by rw[show p.cell? ⟨b,i,none⟩=some v from hb];rfl)).1];exact h2,h3⟩
 .rw[(hc b i c h3 h1).2];exact h.free b i c h1 h2 h3
theorem Vh{ρ ρ':Array Nat}{p u p' u':World}(h:WR ρ p u)(g:Grow ρ p u ρ' p' u'){c:Nat}(hv:CO ρ' p' c):CO ρ p c\/u.heap.size<=c:=by
 obtain⟨b,i,h1,h2⟩:=hv;rcases Nat.lt_or_ge b p.heap.size with ai|eJ
 .have hx:b<ρ.size:=by rw[h.size];exact ai
  have e:ρ[b]? =some ρ[b]:=Array.getElem?_eq_getElem hx;have:=g.ext _ _ e;rw[h1]at this;obtain rfl:=Option.some.inj this;exact .inl ⟨b,i,e,(g.xS b i ai).1▸h2⟩
 .exact .inr (g.fresh b c eJ h1)
theorem Vi{ρ ρ':Array Nat}{p u p' u':World}(h:WR ρ p u)(g:Grow ρ p u ρ' p' u'){c:Nat}(hv:Own ρ' p' c):Own ρ p c\/u.heap.size<=c:=by
 obtain⟨b,h1,h2⟩:=hv;rcases Nat.lt_or_ge b p.heap.size with ai|eJ
 .have hx:b<ρ.size:=by rw[h.size];exact ai
  have e:ρ[b]? =some ρ[b]:=Array.getElem?_eq_getElem hx;have:=g.ext _ _ e;rw[h1]at this;obtain rfl:=Option.some.inj this;exact .inl ⟨b,e,(g.wr ai).1 h2⟩
 .exact .inr (g.fresh b c eJ h1)
theorem Q5{ρ ρ':Array Nat}{p u p' u':World}(h:WR ρ p u)(g:Grow ρ p u ρ' p' u'){c:Nat}(hv:CO ρ p c):CO ρ' p' c:=by
 obtain⟨b,i,h1,h2⟩:=hv;have ai:b<p.heap.size:=h.size▸lt_of_some h1;exact⟨b,i,g.ext _ _ h1,(g.xS b i ai).1.symm▸h2⟩
theorem Q7{ρ ρ':Array Nat}{p u p' u':World}(h:WR ρ p u)(g:Grow ρ p u ρ' p' u'){c:Nat}(hv:Own ρ p c):Own ρ' p' c:=by
 obtain⟨b,h1,h2⟩:=hv;have ai:b<p.heap.size:=h.size▸lt_of_some h1;exact⟨b,g.ext _ _ h1,(g.wr ai).2 h2⟩
theorem Jm{ρ':Array Nat}{p':World}(g:Grow ρ p u ρ' p' u')(hc:c<u.heap.size)(hn:¬Own ρ p c):u'.heap[c]? =u.heap[c]? :=g.keep c hc fun b hb hw=>hn ⟨b,hb,hw⟩
def EvF(ρ:Array Nat)(p:World)(e:Event):Prop:=
 (∃c i wr,e=⟨.cell ⟨c,i,none⟩,wr,false⟩/\CO ρ p c/\(wr=true->Own ρ p c))\/e=⟨.mark .noRoom,false,true⟩\/∃f,e=⟨.mark (.extern f),false,true⟩
theorem Vw{e:Event}(h:YF ρ p e):EvF ρ p e:=by
 rcases h with⟨b,c,i,wr,h1,h2,h3,h4⟩|h|h
 .exact .inl ⟨c,i,wr,h1,⟨b,i,h2,h3⟩,fun hw=>⟨b,h2,i,h3,h4 hw⟩⟩
 .exact .inr (.inl h)
 .exact .inr (.inr h)
structure n_(P:Program)(X A:FuncId->Bool)(K:FuncId->Nat->Nat)(ρ:Array Nat)(p:World)(f:Fr)(fs:List Fr)(f':Fr)(fs':List Fr)(u:World):Prop where
 st:Bc P X A K ρ f fs f' fs'
 wr:WR ρ (p.re u.tape u.drawn) u
theorem n_.other{f f':Fr}{fs fs':List Fr}(h:n_ P X A K ρ p f fs f' fs' u)(hs:u.heap.size<=u'.heap.size)(hv:∀c,CO ρ p c->u'.heap[c]? =u.heap[c]?):n_ P X A K ρ p f fs f' fs' u':=
 ⟨h.st,(R7 h.wr hs hv:WR ρ ((p.re u.tape u.drawn).re u'.tape u'.drawn) u')⟩
theorem n_.step(hC:Closed P X A K){main:Bool}{C:Ctx}(hk:C.kind≠.early){ρ:Array Nat}{p u:World}{f f' f1:Fr}{fs fs' fs1:List Fr}{p1:World}{es:Array Event}(h:n_ P X A K ρ p f fs f' fs' u)
  (e:aR P f fs (p.re u.tape u.drawn)= .go f1 fs1 p1 es):
  ∃jo JA FB u1 es',stepG P main (gZ C f' fs') u= .go (gZ C JA FB) u1 es'/\n_ P X A K jo p1 f1 fs1 JA FB u1/\
   u.heap.size<=u1.heap.size/\(∀c,c<u.heap.size->¬Own ρ p c->u1.heap[c]? =u.heap[c]?)/\u1.os=u.os/\u1.output=u.output/\u1.tape=u.tape/\
   (∀c,CO jo p1 c->CO ρ p c\/u.heap.size<=c)/\(∀c,Own jo p1 c->Own ρ p c\/u.heap.size<=c)/\(∀c,CO ρ p c->CO jo p1 c)/\(∀c,Own ρ p c->Own jo p1 c)/\Ext ρ jo/\
   (∀c,CO jo p1 c->c<u1.heap.size)/\(NV u->NV u1)/\∀e∈es',EvF jo p1 e:=by
 have:=DT hC h.st h.wr;rw[e]at this;obtain⟨jo,JA,FB,u1,es',e1,h1,h2,h3,h4⟩:=this;have ht:u1.tape=p1.tape:=h2.tape;have hd:u1.drawn=p1.drawn:=h2.drawn;refine⟨jo,JA,FB,u1,es',yt hk h.st.wf' e1,⟨h1,?_⟩,h3.JN,fun c hc hn=>Jm h3 hc hn,h3.os,h3.output,h3.tape,fun c hc=>Vh h.wr h3 hc,fun c hc=>Vi h.wr h3 hc,fun c hc=>Q5 h.wr h3 hc,fun c hc=>Q7 h.wr h3 hc,h3.ext,?_,h3.nv,fun x hx=>Vw (h4 x hx)⟩
 .rw[ht,hd];exact h2
 .rintro c ⟨b,i,hb,_⟩;exact h2.low b c hb
end
end Go.bn
namespace Go.kg
open Go.Conc Go.ConcN
def V7(Wg:Nat)(l:Loc):Prop:=∃a,l= .cell a/\a.block=Wg
structure Sep(Shun:Loc->Prop)(Wk:Nat->Prop)(Ow Vs:Nat->Nat->Prop)(Wg B:Nat):Prop where
 sees:∀k c,Ow k c->Vs k c
 apart:∀k k' c,Wk k->Wk k'->k≠k'->Ow k c->¬Vs k' c
 low:∀k c,Wk k->Vs k c->c<B
 grp:∀k c,Wk k->Vs k c->c≠Wg
 shun:∀k c i,Wk k->Vs k c->¬Shun (.cell ⟨c,i,none⟩)
 pos:∀k,Wk k->k≠0
structure TI(Shun:Loc->Prop)(Wk:Nat->Prop)(Ow Vs:Nat->Nat->Prop)(Wg B:Nat)(t:Trace):Prop where
 nr:∀said,¬Race said t
 own:∀k c i,Wk k->Ow k c->Perm t k (.cell ⟨c,i,none⟩)
 rd:∀k c i,Wk k->Vs k c->PermW t k (.cell ⟨c,i,none⟩)
 zero:∀i a,touchAt t i=some a->a.loc.isMemory=true->Knows t 0 i\/((Shun a.loc\/V7 Wg a.loc)/\a.kind= .atomic)\/
  ∃k c j,Wk k/\t.g? i=some k/\a.loc= .cell ⟨c,j,none⟩/\a.kind= .plain/\Vs k c/\(a.write=true->Ow k c)
 calm:∀i a,touchAt t i=some a->V7 Wg a.loc->a.kind≠.plain
 low:∀op∈t,op.act.low B
section
variable {Shun:Loc->Prop} {Wk:Nat->Prop} {Ow Vs Ow' Vs':Nat->Nat->Prop} {Wg B B':Nat} {t u:Trace}
theorem Ae(h:∀op∈t,op.act.low B){c i:Nat}(hc:B<=c){j:Nat}{a:Touch}(ha:touchAt t j=some a):a.loc≠.cell ⟨c,i,none⟩:=by
 intro e;obtain⟨op,ho,mA⟩:=touch_of ha;have hl:=h op (Array.mem_of_getElem? ho);have key:∀(x:MemAct),x.touch? =some a->x.low B->False:=by
  intro x hx ll;cases x with
  |access ev=>
   simp only[MemAct.touch?,Option.some.injEq]at hx;subst hx;simp only at e;simp only[MemAct.low,e,Loc.low]at ll;omega
  |mark m=>
   cases m<;>simp only[MemAct.touch?,Option.some.injEq]at hx<;>first
    |cases hx;done
    |(subst hx
      simp only[Loc.cell.injEq]at e;subst e;simp only[MemAct.low]at ll;omega)
  |_=>cases hx
 exact key _ mA hl
theorem TI.grow(h:TI Shun Wk Ow Vs Wg B t)(ho:∀k c,Wk k->Ow' k c->Ow k c\/B<=c)(hv:∀k c,Wk k->Vs' k c->Vs k c\/B<=c)(gz:∀k c,Ow k c->Ow' k c)(rN:∀k c,Vs k c->Vs' k c)(hB:B<=B'):TI Shun Wk Ow' Vs' Wg B' t:=by
 refine⟨h.nr,fun k c i hk hc=>?_,fun k c i hk hc=>?_,fun i a ha hm=>?_,h.calm,fun op a_=>MemAct.low_mono hB (h.low op a_)⟩
 .rcases ho k c hk hc with hc|hc
  .exact h.own k c i hk hc
  .exact fun j a ha e=>absurd e (Ae h.low hc ha)
 .rcases hv k c hk hc with hc|hc
  .exact h.rd k c i hk hc
  .exact fun j a ha e=>absurd e (Ae h.low hc ha)
 .rcases h.zero i a ha hm with h1|h1|⟨k,c,j,h1,h2,h3,h4,h5,h6⟩
  .exact .inl h1
  .exact .inr (.inl h1)
  .exact .inr (.inr ⟨k,c,j,h1,h2,h3,h4,rN k c h5,fun w=>gz k c (h6 w)⟩)
theorem oN{Wk:Nat->Prop}{Ow Vs:Nat->Nat->Prop}(h:TI Shun Wk Ow Vs Wg B t)
  (hu:∀op∈u,∀a,op.act.touch? =some a->a.loc.isMemory=true->op.g=0\/((Shun a.loc\/V7 Wg a.loc)/\a.kind= .atomic)\/∃c j,Wk op.g/\a.loc= .cell ⟨c,j,none⟩/\a.kind= .plain/\Vs op.g c/\(a.write=true->Ow op.g c)):
  ∀i a,touchAt (t++u) i=some a->a.loc.isMemory=true->Knows (t++u) 0 i\/((Shun a.loc\/V7 Wg a.loc)/\a.kind= .atomic)\/
  ∃k c j,Wk k/\(t++u).g? i=some k/\a.loc= .cell ⟨c,j,none⟩/\a.kind= .plain/\Vs k c/\(a.write=true->Ow k c):=by
 intro i a ha hm;obtain⟨x,hx,vi⟩:=touch_of ha;rcases getElem?_append_cases hx with⟨hi,lE⟩|⟨_,PC⟩
 .rcases h.zero i a (by rw[touchAt_of lE];exact vi) hm with h1|h1|⟨k,c,j,h1,h2,h3⟩
  .exact .inl (h1.app u)
  .exact .inr (.inl h1)
  .exact .inr (.inr ⟨k,c,j,h1,by rw[Go.Conc.g?_old hi];exact h2,h3⟩)
 .rcases hu x PC a vi hm with h1|h1|⟨c,j,h1,h2⟩
  .have:=knows_own hx;rw[h1]at this;exact .inl this
  .exact .inr (.inl h1)
  .exact .inr (.inr ⟨x.g,c,j,h1,by simp[Trace.g?,hx],h2⟩)
theorem qp(h:TI Shun Wk Ow Vs Wg B t)(hu:∀op∈u,∀a,op.act.touch? =some a->V7 Wg a.loc->a.kind≠.plain):∀i a,touchAt (t++u) i=some a->V7 Wg a.loc->a.kind≠.plain:=by
 intro i a ha hw;obtain⟨x,hx,vi⟩:=touch_of ha;rcases getElem?_append_cases hx with⟨hi,lE⟩|⟨_,PC⟩
 .exact h.calm i a (by rw[touchAt_of lE];exact vi) hw
 .exact hu x PC a vi hw
theorem TI.work(S:Sep Shun Wk Ow Vs Wg B)(h:TI Shun Wk Ow Vs Wg B t){k:Nat}(hk:Wk k)(hg:∀op∈u,op.g=k)(hl:∀op∈u,op.act.low B)
  (hu:∀op∈u,∀a,op.act.touch? =some a->∃c j,a.loc= .cell ⟨c,j,none⟩/\a.kind= .plain/\Vs k c/\(a.write=true->Ow k c)):TI Shun Wk Ow Vs Wg B (t++u):=by
 refine⟨fun said=>noRace_append (h.nr said) hg fun i a ha op a_ b hb hc=>?_,fun k' c i dq hc=>(h.own k' c i dq hc).app fun op a_ b hb e=>?_,fun k' c i dq hc=>(h.rd k' c i dq hc).app fun op a_ b hb e hw=>?_,
  oN h fun op a_ a ha _=>?_,qp h fun op a_ a ha hw=>?_,seen_app h.low hl⟩
 .obtain⟨c,j,h1,h2,h3,h4⟩:=hu op a_ b hb;cases cX:b.write with
  |true=>exact h.own k c j hk (h4 cX) i a ha (hc.1.trans h1)
  |false=>exact h.rd k c j hk h3 i a ha (hc.1.trans h1) (hc.2.2.1.resolve_right (by simp[cX]))
 .obtain⟨c1,j,h1,h2,h3,h4⟩:=hu op a_ b hb;rw[h1]at e;simp only[Loc.cell.injEq,Addr.mk.injEq,and_true]at e;obtain⟨rfl,rfl⟩:=e;rw[hg op a_];exact Classical.byContradiction fun bd=>S.apart k' k _ dq hk (Ne.symm bd) hc h3
 .obtain⟨c1,j,h1,h2,h3,h4⟩:=hu op a_ b hb;rw[h1]at e;simp only[Loc.cell.injEq,Addr.mk.injEq,and_true]at e;obtain⟨rfl,rfl⟩:=e;rw[hg op a_];exact Classical.byContradiction fun bd=>S.apart k k' _ hk dq bd (h4 hw) hc
 .obtain⟨c1,j,h1,h2,h3,h4⟩:=hu op a_ a ha;rw[hg op a_];exact .inr (.inr ⟨c1,j,hk,h1,h2,h3,h4⟩)
 .obtain⟨c1,j,h1,h2,h3,h4⟩:=hu op a_ a ha;obtain⟨x,hx,sB⟩:=hw;rw[h1]at hx;simp only[Loc.cell.injEq]at hx;subst hx;exact absurd sB (S.grp k c1 hk h3)
theorem TI.lead(h:TI Shun Wk Ow Vs Wg B t)(hg:∀op∈u,op.g=0)(hl:∀op∈u,op.act.low B)
  (hu:∀op∈u,∀a,op.act.touch? =some a->∃c j,a.loc= .cell ⟨c,j,none⟩/\a.kind= .plain/\c≠Wg/\¬Shun a.loc/\(∀k,Wk k->¬Ow k c)/\(a.write=true->∀k,Wk k->¬Vs k c)):TI Shun Wk Ow Vs Wg B (t++u):=by
 refine⟨fun said=>noRace_append (h.nr said) hg fun i a ha op a_ b hb hc=>?_,fun k' c i dq hc=>(h.own k' c i dq hc).app fun op a_ b hb e=>?_,fun k' c i dq hc=>(h.rd k' c i dq hc).app fun op a_ b hb e hw=>?_,
  oN h fun op a_ a ha _=>.inl (hg op a_),qp h fun op a_ a ha hw=>?_,seen_app h.low hl⟩
 .obtain⟨c,j,h1,h2,h3,h4,h5,h6⟩:=hu op a_ b hb;rcases h.zero i a ha hc.2.1 with hz|⟨hz|⟨x,hx,sB⟩,_⟩|⟨k,c1,j1,z1,z2,z3,z4,z5,z6⟩
  .exact hz
  .exact absurd (hc.1▸hz) h4
  .rw[hc.1,h1]at hx;simp only[Loc.cell.injEq]at hx;subst hx;exact absurd sB h3
  .rw[hc.1,h1]at z3;simp only[Loc.cell.injEq,Addr.mk.injEq,and_true]at z3;obtain⟨rfl,rfl⟩:=z3;rcases hc.2.2.1 with hw|hw
   .exact absurd (z6 hw) (h5 k z1)
   .exact absurd z5 (h6 hw k z1)
 .obtain⟨c1,j,h1,h2,h3,h4,h5,h6⟩:=hu op a_ b hb;rw[h1]at e;simp only[Loc.cell.injEq,Addr.mk.injEq,and_true]at e;obtain⟨rfl,rfl⟩:=e;exact absurd hc (h5 k' dq)
 .obtain⟨c1,j,h1,h2,h3,h4,h5,h6⟩:=hu op a_ b hb;rw[h1]at e;simp only[Loc.cell.injEq,Addr.mk.injEq,and_true]at e;obtain⟨rfl,rfl⟩:=e;exact absurd hc (h6 hw k' dq)
 .obtain⟨c1,j,h1,h2,h3,h4,h5,h6⟩:=hu op a_ a ha;obtain⟨x,hx,sB⟩:=hw;rw[h1]at hx;simp only[Loc.cell.injEq]at hx;subst hx;exact absurd sB h3
theorem TI.group(S:Sep Shun Wk Ow Vs Wg B)(h:TI Shun Wk Ow Vs Wg B t){g:Nat}(hg:∀op∈u,op.g=g)(hl:∀op∈u,op.act.low B)
  (hu:∀op∈u,∀a,op.act.touch? =some a->V7 Wg a.loc/\(a.kind= .atomic\/(a.kind= .said/\g=0))):TI Shun Wk Ow Vs Wg B (t++u):=by
 have off:∀k c i,Wk k->Vs k c->∀op∈u,∀b,op.act.touch? =some b->b.loc≠.cell ⟨c,i,none⟩:=by
  intro k c i hk hc op a_ b hb e;obtain⟨⟨x,hx,sB⟩,_⟩:=hu op a_ b hb;rw[e]at hx;simp only[Loc.cell.injEq]at hx;subst hx;exact S.grp k c hk hc sB
 refine⟨fun said=>noRace_append (h.nr said) hg fun i a ha op a_ b hb hc=>?_,fun k' c i dq hc=>(h.own k' c i dq hc).app fun op a_ b hb e=>absurd e (off k' c i dq (S.sees k' c hc) op a_ b hb),
  fun k' c i dq hc=>(h.rd k' c i dq hc).app fun op a_ b hb e _=>absurd e (off k' c i dq hc op a_ b hb),
  oN h fun op a_ a ha _=>?_,qp h fun op a_ a ha _=>?_,seen_app h.low hl⟩
 .obtain⟨h1,h2⟩:=hu op a_ b hb;have vf:=h.calm i a ha (hc.1▸h1);rcases h2 with h2|⟨h2,rfl⟩
  .rcases hc.2.2.2 with x|x|⟨_,_,x⟩
   .exact absurd x vf
   iterate 2 (·rw[h2]at x;cases x)
  .rcases hc.2.2.2 with x|x|⟨_,x,_⟩
   .exact absurd x vf
   .rw[h2]at x;cases x
   .rcases h.zero i a ha hc.2.1 with hz|⟨_,hz⟩|⟨k,c1,j1,z1,z2,z3,z4,z5,z6⟩
    .exact hz
    .rw[x]at hz;cases hz
    .rw[x]at z4;cases z4
 .obtain⟨h1,h2⟩:=hu op a_ a ha;rcases h2 with h2|⟨_,h2⟩
  .exact .inr (.inl ⟨.inr h1,h2⟩)
  .exact .inl ((hg op a_).trans h2)
 .rcases(hu op a_ a ha).2 with h2|⟨h2,_⟩<;>rw[h2]<;>simp
theorem TI.mute(h:TI Shun Wk Ow Vs Wg B t)(hn:∀op∈u,op.act.touch? =none)(hl:∀op∈u,op.act.low B):TI Shun Wk Ow Vs Wg B (t++u):=by
 have off:∀op∈u,∀b,op.act.touch? =some b->False:=fun op a_ b hb=>by rw[hn op a_]at hb;cases hb
 have nr:∀said,¬Race said (t++u):=by
  rintro said ⟨i,j,pB,⟨a,b,ha,hb,hc⟩,n1,n2⟩;obtain⟨x,hx,vi⟩:=touch_of ha;obtain⟨y,hy,Pu⟩:=touch_of hb;rcases getElem?_append_cases hy with⟨hj,Pw⟩|⟨_,Pt⟩
  .have hi:i<t.size:=Nat.lt_trans pB hj;have lE:t[i]? =some x:=by rw[<-getElem?_append_old (u:=u) hi];exact hx
   exact h.nr said ⟨i,j,pB,⟨a,b,by simp[Trace.act?,lE,vi],by simp[Trace.act?,Pw,Pu],hc⟩,fun e=>n1 (hb_app u e),fun e=>n2 (hb_app u e)⟩
  .exact off y Pt b Pu
 exact⟨nr,fun k' c i dq hc=>(h.own k' c i dq hc).app fun op a_ b hb e=>(off op a_ b hb).elim,fun k' c i dq hc=>(h.rd k' c i dq hc).app fun op a_ b hb e _=>(off op a_ b hb).elim,
  oN h fun op a_ a ha _=>(off op a_ a ha).elim,qp h fun op a_ a ha _=>(off op a_ a ha).elim,seen_app h.low hl⟩
theorem TI.objs(h:TI Shun Wk Ow Vs Wg B t)(hg:∀op∈u,op.g=0)(hl:∀op∈u,op.act.low B)(hu:∀op∈u,∀a,op.act.touch? =some a->(∃r,a.loc= .obj r)/\a.kind= .atomic):TI Shun Wk Ow Vs Wg B (t++u):=by
 have Ud:∀op∈u,∀a,op.act.touch? =some a->∀x,a.loc≠.cell x:=fun op a_ a ha x e=>by obtain⟨⟨r,hr⟩,_⟩:=hu op a_ a ha;rw[hr]at e;cases e
 refine⟨fun said=>noRace_append (h.nr said) hg fun i a ha op a_ b hb hc=>?_,fun k' c i dq hc=>(h.own k' c i dq hc).app fun op a_ b hb e=>absurd e (Ud op a_ b hb _),fun k' c i dq hc=>(h.rd k' c i dq hc).app fun op a_ b hb e _=>absurd e (Ud op a_ b hb _),
  oN h fun op a_ a ha _=>.inl (hg op a_),qp h fun op a_ a ha _=>by rw[(hu op a_ a ha).2];simp,seen_app h.low hl⟩
 obtain⟨⟨r,hr⟩,hk⟩:=hu op a_ b hb;rcases h.zero i a ha hc.2.1 with hz|⟨_,hz⟩|⟨k,c1,j1,z1,z2,z3,z4,z5,z6⟩
 .exact hz
 .rcases hc.2.2.2 with x|x|⟨_,x,_⟩
  .rw[hz]at x;cases x
  .rw[hk]at x;cases x
  .rw[hz]at x;cases x
 .rw[hc.1,hr]at z3;cases z3
theorem TI.fork(h:TI Shun Wk Ow Vs Wg B t){n:Nat}{Sees:Nat->Prop}{x y:MemOp}(hx:x.g=0/\x.act= .go n)(hy:y.g=n/\y.act= .start)(h0:Deaf t 0=0)(hn:Deaf t n=0)(vu:¬Wk n)
  (hs:∀c i,Sees c->¬Shun (.cell ⟨c,i,none⟩)/\c≠Wg/\∀k,Wk k->¬Ow k c):
  TI Shun (fun k=>Wk k\/k=n) (fun k c=>k≠n/\Ow k c) (fun k c=>(k≠n/\Vs k c)\/(k=n/\Sees c)) Wg B (t++ #[x,y]):=by
 have qe:∀op∈#[x,y],op.act.touch? =none:=by
  intro op a_;simp only[List.mem_toArray,List.mem_cons,List.not_mem_nil,or_false]at a_;rcases a_ with rfl|rfl
  .rw[hx.2];rfl
  .rw[hy.2];rfl
 have hl:∀op∈#[x,y],op.act.low B:=by
  intro op a_;simp only[List.mem_toArray,List.mem_cons,List.not_mem_nil,or_false]at a_;rcases a_ with rfl|rfl
  .rw[hx.2];trivial
  .rw[hy.2];trivial
 have hm:=h.mute qe hl;have old:∀{i:Nat} {a:Touch},touchAt (t++ #[x,y]) i=some a->touchAt t i=some a:=by
  intro i a ha;obtain⟨z,hz,Ps⟩:=touch_of ha;rcases getElem?_append_cases hz with⟨_,js⟩|⟨_,hzu⟩
  .rw[touchAt_of js];exact Ps
  .rw[qe z hzu]at Ps;cases Ps
 refine⟨hm.nr,fun k c i hk hc=>hm.own k c i (hk.resolve_right hc.1) hc.2,fun k c i hk hc=>?_,fun i a ha yd=>?_,hm.calm,hm.low⟩
 .rcases hc with⟨h1,h2⟩|⟨rfl,h2⟩
  .exact hm.rd k c i (hk.resolve_right h1) h2
  .intro j a ha e hw;have sn:=old ha;obtain⟨s1,s2,s3⟩:=hs c i h2;refine fork_knows hx hy h0 hn ?_;rcases h.zero j a sn (by rw[e];rfl)with hz|⟨hz|⟨z,hz,hzb⟩,_⟩|⟨k',c1,j1,z1,z2,z3,z4,z5,z6⟩
   .exact hz
   .exact absurd (e▸hz) s1
   .rw[e]at hz;simp only[Loc.cell.injEq]at hz;subst hz;exact absurd hzb s2
   .rw[e]at z3;simp only[Loc.cell.injEq,Addr.mk.injEq,and_true]at z3;obtain⟨rfl,rfl⟩:=z3;exact absurd (z6 hw) (s3 k' z1)
 .rcases hm.zero i a ha yd with h1|h1|⟨k,c,j,h1,h2,h3,h4,h5,h6⟩
  .exact .inl h1
  .exact .inr (.inl h1)
  .have mB:k≠n:=fun e=>vu (e▸h1);exact .inr (.inr ⟨k,c,j,.inl h1,h2,h3,h4,.inl ⟨mB,h5⟩,fun w=>⟨mB,h6 w⟩⟩)
theorem TI.past(h:TI Shun Wk Ow Vs Wg B t){a:Addr}{q:Nat}(all:∀k,Wk k->∃r,RelBy a t k r/\r<q)(hn:NoRelease a t)
  (hq:t.act? q=some (.mark (.acquire a)))(hg:t.g? q=some 0)(hh:t.heard q)(h0:Deaf t 0=0)(over:∀i g,t.g? i=some g->g≠0->t.counts i->Wk g\/∃j,t.g? j=some 0/\HappensBefore t i j):Past (fun l=>Shun l\/V7 Wg l) B t:=by
 have edge:∀k i,Wk k->t.g? i=some k->t.counts i->HappensBefore t i q:=by
  intro k i hk EV hc;obtain⟨r,hr,hrq⟩:=all k hk;have edge:HappensBefore t r q:=.single (.inr ⟨.marked hrq (.inr hr.act) hq (fun k _ _=>hn k),hr.heard,hh⟩);have hle:i<=r:=Nat.le_of_not_lt fun ai=>hr.after i ai EV hc;rcases Nat.lt_or_ge i r with ai|eJ
  .exact .trans (.single (.inl ⟨ai,k,EV,hr.g⟩)) edge
  .obtain rfl:i=r:=by omega
   exact edge
 refine⟨h.nr,fun i x hx hm=>?_,fun i g EV bd hc=>?_,h0,h.low⟩
 .rcases h.zero i x hx hm with h1|h1|⟨k,c,j,h1,h2,h3,h4,h5,h6⟩
  .exact .inl h1
  .exact .inr h1
  .have hc:t.counts i:=⟨x,hx,hm,.inl (by rw[h4];simp)⟩;obtain⟨z,hz,hzg⟩:=Option.map_eq_some_iff.1 hg;exact .inl ⟨q,z,hz,hzg,.inr (edge k i h1 h2 hc)⟩
 .rcases over i g EV bd hc with hk|hk
  .exact⟨q,hg,edge g i hk EV hc⟩
  .exact hk
end
