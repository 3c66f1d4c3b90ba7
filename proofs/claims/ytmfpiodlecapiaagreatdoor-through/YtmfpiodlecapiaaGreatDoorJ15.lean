import Derived.Test.YtmfpiodlecapiaaGreatDoorJ07
import Derived.Laws.BitsAllLaws
import Derived.Test.YtmfpiodlecapiaaGreatDoorRows
import Derived.WalkKit
import Derived.WalkSpells
import Derived.WalkLawsBesides
import Derived.Deep.OwnRows
namespace Go.bn
section
variable {P:Program}
def bD(k:List Item)(f:Fr):List Fr->Fr
 | []=> {f with todo:=f.todo++k}
 |_::_=>f
def lW(k:List Item)(gs:List Fr):List Fr->List Fr
 | []=>gs
 |c::r=>bD k c r::lW k gs r
theorem I8(k:List Item)(f:Fr)(fs:List Fr):(bD k f fs).fn=f.fn:=by cases fs<;>rfl
theorem QD(k:List Item)(f:Fr)(fs:List Fr):(bD k f fs).ret=f.ret:=by cases fs<;>rfl
theorem sF(k:List Item)(f:Fr)(fs:List Fr):(bD k f fs).tmps=f.tmps:=by cases fs<;>rfl
theorem Dx(k:List Item)(f:Fr)(fs:List Fr):(bD k f fs).act=f.act:=by simp[Fr.act,sF]
theorem MG(k:List Item)(f:Fr)(fs:List Fr):∃r,(bD k f fs).todo=f.todo++r/\∀g:Fr,(bD k g fs).todo=g.todo++r:=by
 cases fs with
 |nil=>exact⟨k,rfl,fun _=>rfl⟩
 |cons c r=>exact⟨[],by simp[bD],fun g=>by simp[bD]⟩
theorem MF(k:List Item)(f:Fr)(fs:List Fr)(r:List Item)(hr:(bD k f fs).todo=f.todo++r)(fR:∀g:Fr,(bD k g fs).todo=g.todo++r)(td:List Item)(b:Bool):({bD k f fs with todo:=td++r,ret:=b}:Fr)=bD k {f with todo:=td,ret:=b} fs:=by
 have h:=fR {f with todo:=td,ret:=b};cases fs with
 |nil=>
  simp only[bD]at h⊢;simp only[Fr.mk.injEq,true_and,and_true];exact h.symm
 |cons c rs=>
  simp only[bD]at h⊢;simp only[Fr.mk.injEq,true_and,and_true];exact h.symm
theorem jd(k:List Item)(f:Fr)(fs:List Fr)(v:Value)(h:Wx f):(bD k f fs).finish v=bD k (f.finish v) fs:=by
 obtain⟨ops,i,rest,t,ht⟩:=h;cases fs with
 |nil=>simp[bD,Fr.finish,ht]
 |cons c r=>rfl
theorem MX(k:List Item)(gs:List Fr){f f':Fr}{fs fs':List Fr}{w w':World}{es:Array Event}(gg:Wf fs)(h:aR P f fs w= .go f' fs' w' es):
  aR P (bD k f fs) (lW k gs fs) w= .go (bD k f' fs') (lW k gs fs') w' es:=by
 unfold aR at h;cases hr:f.ret with
 |true=>
  simp only[hr,if_true]at h;unfold sI at h;cases fs with
  |nil=>cases h
  |cons c rest=>
   simp only at h;cases hf:P.funcs[f.fn]? with
   |none=>rw[hf]at h;cases h
   |some fn=>
    rw[hf]at h;simp only at h;cases dp:(results fn f.tmps).run P w with
    |halt x w1=>rw[dp]at h;cases h
    |ok v w1=>
     rw[dp]at h;simp only[FO.go.injEq]at h;obtain⟨rfl,rfl,rfl,rfl⟩:=h;rw[<-jd k c rest v (gg c (by simp)).1];simp[aR,bD,hr,sI,lW,hf,dp]
 |false=>
  simp only[hr,Bool.false_eq_true,if_false]at h;obtain⟨r,dg,dE⟩:=MG k f fs;have il:(bD k f fs).ret=false:=(QD k f fs).trans hr;have e0:aR P (bD k f fs) (lW k gs fs) w=bg P (bD k f fs) (lW k gs fs) w:=by simp[aR,il]
  rw[e0];have wt:∀(td:List Item) (b:Bool),({bD k f fs with todo:=td++r,ret:=b}:Fr)=bD k {f with todo:=td,ret:=b} fs:=MF k f fs r dg dE;have RY:∀(td:List Item),({bD k f fs with todo:=td++r}:Fr)=bD k {f with todo:=td} fs:=by
   intro td;have:=wt td f.ret;rw[hr]at this;have e1:({bD k f fs with todo:=td++r}:Fr)= {bD k f fs with todo:=td++r,ret:=false}:=by simp[il]
   have e2:({f with todo:=td}:Fr)= {f with todo:=td,ret:=false}:=by simp[hr]
   rw[e1,e2];exact this
  unfold bg at h;split at h
  .rename_i ba;cases fs with
   |nil=>cases h
   |cons c rest=>
    simp only[FO.go.injEq]at h;obtain⟨rfl,rfl,rfl,rfl⟩:=h;simp[bg,bD,ba,lW]
  .rename_i tl ba;simp only[FO.go.injEq]at h;obtain⟨rfl,rfl,rfl,rfl⟩:=h;have e1:(bD k f fs).todo= .code .ret::(tl++r):=by rw[dg,ba];rfl
   have:=wt f.todo true;rw[<-dg]at this;simp only[bg,e1];rw[<-this];simp[e1]
  .rename_i tl ba;simp only[FO.go.injEq]at h;obtain⟨rfl,rfl,rfl,rfl⟩:=h;have e1:(bD k f fs).todo= .code .skip::(tl++r):=by rw[dg,ba];rfl
   simp only[bg,e1,RY tl]
  .rename_i l tl ba;simp only[FO.go.injEq]at h;obtain⟨rfl,rfl,rfl,rfl⟩:=h;have e1:(bD k f fs).todo= .code (.label l)::(tl++r):=by rw[dg,ba];rfl
   simp only[bg,e1,RY tl]
  .rename_i id tl ba;simp only[FO.go.injEq]at h;obtain⟨rfl,rfl,rfl,rfl⟩:=h;have e1:(bD k f fs).todo= .inBlock id::(tl++r):=by rw[dg,ba];rfl
   simp only[bg,e1,RY tl]
  .rename_i a b tl ba;simp only[FO.go.injEq]at h;obtain⟨rfl,rfl,rfl,rfl⟩:=h;have e1:(bD k f fs).todo= .code (.seq a b)::(tl++r):=by rw[dg,ba];rfl
   have:=RY (.code a:: .code b::tl);simp only[List.cons_append]at this;simp only[bg,e1,this]
  .rename_i c thn els tl ba;split at h
   .rename_i b hb;simp only[FO.go.injEq]at h;obtain⟨rfl,rfl,rfl,rfl⟩:=h;have e1:(bD k f fs).todo= .code (.cond c thn els)::(tl++r):=by rw[dg,ba];rfl
    have:=RY (.code (if b then thn else els)::tl);simp only[List.cons_append]at this;simp only[bg,e1,Dx,hb,this]
   .cases h
  .rename_i id body tl ba;simp only[FO.go.injEq]at h;obtain⟨rfl,rfl,rfl,rfl⟩:=h;have e1:(bD k f fs).todo= .code (.block id body)::(tl++r):=by rw[dg,ba];rfl
   have:=RY (.code body:: .inBlock id::tl);simp only[List.cons_append]at this;simp only[bg,e1,this]
  .rename_i body tl ba;simp only[FO.go.injEq]at h;obtain⟨rfl,rfl,rfl,rfl⟩:=h;have e1:(bD k f fs).todo= .code (.loop body)::(tl++r):=by rw[dg,ba];rfl
   have:=RY (.code body:: .inLoop body::tl);simp only[List.cons_append]at this;simp only[bg,e1,this]
  .rename_i body tl ba;simp only[FO.go.injEq]at h;obtain⟨rfl,rfl,rfl,rfl⟩:=h;have e1:(bD k f fs).todo= .inLoop body::(tl++r):=by rw[dg,ba];rfl
   have:=RY (.code body:: .inLoop body::tl);simp only[List.cons_append]at this;simp only[bg,e1,this]
  .rename_i id tl ba;split at h
   .rename_i k' dq;simp only[FO.go.injEq]at h;obtain⟨rfl,rfl,rfl,rfl⟩:=h;have e1:(bD k f fs).todo= .code (.exit id)::(tl++r):=by rw[dg,ba];rfl
    simp only[bg,e1,lH r dq,RY k']
   .cases h
  .rename_i id ops draw tl ba;have e1:(bD k f fs).todo= .code (.region id ops draw)::(tl++r):=by rw[dg,ba];rfl
   cases draw with
   |true=>
    simp only[if_true,FO.go.injEq]at h;obtain⟨rfl,rfl,rfl,rfl⟩:=h;have:=RY (.inRegion ops (Region.schedule (P.follows .mixedOrders) ops (w.tape w.drawn (.order f.fn id)))::tl);simp only[List.cons_append]at this;simp only[bg,e1,if_true];rw[I8]at this⊢;rw[this]
   |false=>
    simp only[Bool.false_eq_true,if_false,FO.go.injEq]at h;obtain⟨rfl,rfl,rfl,rfl⟩:=h;have:=RY (.inRegion ops (List.range ops.size)::tl);simp only[List.cons_append]at this;simp only[bg,e1,Bool.false_eq_true,if_false,this]
  .rename_i ops tl ba;simp only[FO.go.injEq]at h;obtain⟨rfl,rfl,rfl,rfl⟩:=h;have e1:(bD k f fs).todo= .inRegion ops []::(tl++r):=by rw[dg,ba];rfl
   simp only[bg,e1,RY tl]
  .rename_i ops i rest tl ba;have e1:(bD k f fs).todo= .inRegion ops (i::rest)::(tl++r):=by rw[dg,ba];rfl
   have l_:Wx f:=⟨ops,i,rest,tl,ba⟩;split at h
   .rename_i ho;simp only[FO.go.injEq]at h;obtain⟨rfl,rfl,rfl,rfl⟩:=h;simp only[bg,e1,ho,jd k f fs undef l_]
   .rename_i o ho;by_cases fN:Region.wanted o (yielded ops f.tmps)=true
    .simp only[fN,if_true]at h;simp only[bg,e1,ho,sF,fN,if_true];unfold fK at h⊢;rw[Dx,I8];cases ag:(execOp f.act.eval o).run P w with
     |halt x w1=>rw[ag]at h;cases x<;>cases h
     |ok n w1=>
      rw[ag]at h;cases n with
      |value v=>
       simp only[FO.go.injEq]at h;obtain⟨rfl,rfl,rfl,rfl⟩:=h;simp only[jd k f fs v l_]
      |skip=>
       simp only[FO.go.injEq]at h;obtain⟨rfl,rfl,rfl,rfl⟩:=h;simp only[jd k f fs undef l_]
      |enter g args=>
       simp only[FO.go.injEq]at h;obtain⟨rfl,rfl,rfl,rfl⟩:=h;simp only[lW];rfl
      |_=>cases h
    .simp only[fN]at h;simp only[Bool.false_eq_true,if_false,FO.go.injEq]at h;obtain⟨rfl,rfl,rfl,rfl⟩:=h;simp only[bg,e1,ho,sF,fN,jd k f fs undef l_];rfl
  .cases h
theorem Tr.lift(k:List Item)(gs:List Fr){Stop:Fr->List Fr->World->Prop}{f:Fr}{fs:List Fr}{w:World}(h:Tr P Stop f fs w)(gg:Wf fs):
  Tr P (fun f' fs' w'=>∃g,∃gs',Stop g gs' w'/\f'=bD k g gs'/\fs'=lW k gs gs') (bD k f fs) (lW k gs fs) w:=by
 induction h with
 |stop h=>exact .stop ⟨_,_,h,rfl,rfl⟩
 |@step f fs w h1 h2 ih=>
  have key:∀τ d,∃f' fs' w' es,aR P f fs (w.re τ d)= .go f' fs' w' es/\aR P (bD k f fs) (lW k gs fs) (w.re τ d)= .go (bD k f' fs') (lW k gs fs') w' es:=by
   intro τ d;obtain⟨f',fs',w',es,e⟩:=h1 τ d;exact⟨f',fs',w',es,e,MX k gs gg e⟩
  refine .step (fun τ d=>?_) (fun τ d f2 fs2 w2 es2 e2=>?_)
  .obtain⟨f',fs',w',es,_,e⟩:=key τ d;exact⟨_,_,_,_,e⟩
  .obtain⟨f',fs',w',es,e,e'⟩:=key τ d;rw[e']at e2;simp only[FO.go.injEq]at e2;obtain⟨rfl,rfl,rfl,rfl⟩:=e2;exact ih τ d f' fs' w' es e (Vp gg e)
end
section
open Go.Ren Go.Conc
variable{c x y:Code}{i:Nat}{o:Oper}{g:FuncId}{ats:Array TypeId}{T':Array Value}
section
variable {P:Program} {X A X1 A1:FuncId->Bool} {K:FuncId->Nat->Nat} {Node:nA Nat->(nA Nat->Prop)->Prop} {Stop:nA Nat->Prop} {m:Nat} {f:Fr} {fs:List Fr} {w:World}
def nA.re(s:nA Nat)(τ:Nat->Question->Nat)(d:Nat):nA Nat:=⟨s.m,s.f,s.fs,s.w.re τ d⟩
structure jT(Node:nA Nat->(nA Nat->Prop)->Prop)(Stop:nA Nat->Prop):Prop where
 stop:∀s τ d,Stop s->Stop (s.re τ d)
 node:∀s Next τ d,Node s Next->Node (s.re τ d) (fun s'=>∃s0,Next s0/\s'=s0.re τ d)
theorem WT.re(hR:jT Node Stop){s:nA Nat}(h:WT P Node Stop s):∀(τ:Nat->Question->Nat) (d:Nat),WT P Node Stop (s.re τ d):=by
 induction h with
 |stop h=>exact fun τ d=>.stop (hR.stop _ _ _ h)
 |step h1 h2 _=>exact fun τ d=>.step (fun uT d'=>h1 uT d') (fun uT d' f' fs' w' es e=>h2 uT d' f' fs' w' es e)
 |node h _ ih=>exact fun τ d=>.node (hR.node _ _ τ d h) (fun s' ⟨s0,h0,e⟩=>e▸ih s0 h0 τ d)
def aN(P:Program)(X A:FuncId->Bool)(K:FuncId->Nat->Nat)(Node:nA Nat->(nA Nat->Prop)->Prop)(Stop:nA Nat->Prop)(m:Nat)(f:Fr)(fs:List Fr)(w:World):Prop:=JV P X A K f fs w->WT P Node Stop ⟨m,f,fs,w⟩
theorem aN.step(hC:Closed P X A K)(h:∀τ d,∃f' fs' w' es,aR P f fs (w.re τ d)= .go f' fs' w' es/\aN P X A K Node Stop m f' fs' w'):aN P X A K Node Stop m f fs w:=fun hI=>
 .step (fun τ d=>by
   obtain⟨f',fs',w',es,e,_⟩:=h τ d;exact⟨f',fs',w',es,e⟩)
  (fun τ d f' fs' w' es e=>by
   obtain⟨f2,fs2,w2,es2,e2,hn⟩:=h τ d;have e:aR P f fs (w.re τ d)= .go f' fs' w' es:=e;rw[e2]at e;simp only[FO.go.injEq]at e;obtain⟨rfl,rfl,rfl,rfl⟩:=e;exact hn ((hI.re τ d).step hC e2))
theorem aN.re(hR:jT Node Stop)(h:aN P X A K Node Stop m f fs w)(τ:Nat->Question->Nat)(d:Nat):aN P X A K Node Stop m f fs (w.re τ d):=fun hI=>by
 have:=hI.re w.tape w.drawn;rw[NW,lS]at this;exact(h this).re hR τ d
theorem aN.ctl(hC:Closed P X A K)(hR:jT Node Stop){f':Fr}{fs':List Fr}(h:∀w,aR P f fs w= .go f' fs' w #[])(hn:aN P X A K Node Stop m f' fs' w):aN P X A K Node Stop m f fs w:=
 .step hC fun τ d=>⟨f',fs',w.re τ d,#[],h _,hn.re hR τ d⟩
theorem aN.stop(h:Stop ⟨m,f,fs,w⟩):aN P X A K Node Stop m f fs w:=fun _=>.stop h
variable {fn:FuncId} {T:Array Value} {k:List Item}
theorem aN.seq(hC:Closed P X A K)(hR:jT Node Stop){a b:Code}(hn:aN P X A K Node Stop m ⟨fn,T,.code a:: .code b::k,false⟩ fs w):aN P X A K Node Stop m ⟨fn,T,.code (.seq a b)::k,false⟩ fs w:=.ctl hC hR (fun _=>rfl) hn
theorem aN.aJ(hC:Closed P X A K)(hR:jT Node Stop){ops:Array Oper}(hn:aN P X A K Node Stop m ⟨fn,T,k,false⟩ fs w):aN P X A K Node Stop m ⟨fn,T,.inRegion ops []::k,false⟩ fs w:=.ctl hC hR (fun _=>rfl) hn
theorem aN.reg(hC:Closed P X A K)(hR:jT Node Stop){id:Nat}{ops:Array Oper}{l:List Nat}(hl:List.range ops.size=l)(hn:aN P X A K Node Stop m ⟨fn,T,.inRegion ops l::k,false⟩ fs w):aN P X A K Node Stop m ⟨fn,T,.code (.region id ops false)::k,false⟩ fs w:=
 .ctl hC hR (fun _=>by rw[<-hl];rfl) hn
theorem aN.yes(hC:Closed P X A K)(hR:jT Node Stop){c:Operand}(hc:(⟨T,[]⟩:Act).eval c= .bool true)(hn:aN P X A K Node Stop m ⟨fn,T,.code x::k,false⟩ fs w):aN P X A K Node Stop m ⟨fn,T,.code (.cond c x y)::k,false⟩ fs w:=
 .ctl hC hR (fun _=>by simp[aR,bg,Fr.act,hc]) hn
theorem aN.no(hC:Closed P X A K)(hR:jT Node Stop){c:Operand}(hc:(⟨T,[]⟩:Act).eval c= .bool false)(hn:aN P X A K Node Stop m ⟨fn,T,.code y::k,false⟩ fs w):aN P X A K Node Stop m ⟨fn,T,.code (.cond c x y)::k,false⟩ fs w:=
 .ctl hC hR (fun _=>by simp[aR,bg,Fr.act,hc]) hn
theorem aN.block(hC:Closed P X A K)(hR:jT Node Stop){id:Nat}(hn:aN P X A K Node Stop m ⟨fn,T,.code c:: .inBlock id::k,false⟩ fs w):aN P X A K Node Stop m ⟨fn,T,.code (.block id c)::k,false⟩ fs w:=.ctl hC hR (fun _=>rfl) hn
theorem aN.inBlock(hC:Closed P X A K)(hR:jT Node Stop){id:Nat}(hn:aN P X A K Node Stop m ⟨fn,T,k,false⟩ fs w):aN P X A K Node Stop m ⟨fn,T,.inBlock id::k,false⟩ fs w:=.ctl hC hR (fun _=>rfl) hn
theorem aN.loop(hC:Closed P X A K)(hR:jT Node Stop)(hn:aN P X A K Node Stop m ⟨fn,T,.code c:: .inLoop c::k,false⟩ fs w):aN P X A K Node Stop m ⟨fn,T,.code (.loop c)::k,false⟩ fs w:=.ctl hC hR (fun _=>rfl) hn
theorem aN.inLoop(hC:Closed P X A K)(hR:jT Node Stop)(hn:aN P X A K Node Stop m ⟨fn,T,.code c:: .inLoop c::k,false⟩ fs w):aN P X A K Node Stop m ⟨fn,T,.inLoop c::k,false⟩ fs w:=.ctl hC hR (fun _=>rfl) hn
theorem aN.skip(hC:Closed P X A K)(hR:jT Node Stop)(hn:aN P X A K Node Stop m ⟨fn,T,k,false⟩ fs w):aN P X A K Node Stop m ⟨fn,T,.code .skip::k,false⟩ fs w:=.ctl hC hR (fun _=>rfl) hn
theorem aN.exit(hC:Closed P X A K)(hR:jT Node Stop){id:Nat}{k':List Item}(he:exitTo id k=some k')(hn:aN P X A K Node Stop m ⟨fn,T,k',false⟩ fs w):aN P X A K Node Stop m ⟨fn,T,.code (.exit id)::k,false⟩ fs w:=.ctl hC hR (fun _=>by simp[aR,bg,he]) hn
theorem sK{ops:Array Oper}{rest:List Nat}(ho:ops[i]? =some o)(v:Value):(⟨fn,T,.inRegion ops (i::rest)::k,false⟩:Fr).finish v=⟨fn,((⟨T,[]⟩:Act).put o.dst v).tmps,.inRegion ops rest::k,false⟩:=by
 cases hd:o.dst<;>simp[Fr.finish,ho,Act.put,hd]
theorem aN.op(hC:Closed P X A K){ops:Array Oper}{rest:List Nat}(ho:ops[i]? =some o)(hw:Region.wanted o (yielded ops T)=true)
  (h:∀τ d,∀K':Act->World->Prop,(∀a' w',aN P X A K Node Stop m ⟨fn,a'.tmps,.inRegion ops rest::k,false⟩ fs w'->K' a' w')->uponK o ⟨T,[]⟩ K' ((execOp (⟨T,[]⟩:Act).eval o).run P (w.re τ d))):
  aN P X A K Node Stop m ⟨fn,T,.inRegion ops (i::rest)::k,false⟩ fs w:=by
 refine .step hC fun τ d=>?_;have h1:=h τ d (fun a' w'=>aN P X A K Node Stop m ⟨fn,a'.tmps,.inRegion ops rest::k,false⟩ fs w') (fun _ _ x=>x);have e:aR P ⟨fn,T,.inRegion ops (i::rest)::k,false⟩ fs (w.re τ d)=fK P ⟨fn,T,.inRegion ops (i::rest)::k,false⟩ fs o (w.re τ d):=by
  simp[aR,bg,ho,hw]
 rw[e];unfold fK;revert h1;show uponK o ⟨T,[]⟩ _ ((execOp (⟨T,[]⟩:Act).eval o).run P (w.re τ d))->_;have ea:(⟨fn,T,.inRegion ops (i::rest)::k,false⟩:Fr).act=⟨T,[]⟩:=rfl;rw[ea];cases hr:(execOp (⟨T,[]⟩:Act).eval o).run P (w.re τ d)with
 |halt x w'=>exact fun h=>h.elim
 |ok n w'=>
  cases n with
  |value v=>exact fun h=>⟨_,_,_,_,rfl,by rw[sK ho];exact h⟩
  |skip=>exact fun h=>⟨_,_,_,_,rfl,by rw[sK ho];exact h⟩
  |_=>exact fun h=>h.elim
theorem aN.call(hC:Closed P X A K)(hR:jT Node Stop){ops:Array Oper}{rest:List Nat}{gn:Func}{args:Array Operand}(ho:ops[i]? =some o)(hw:Region.wanted o (yielded ops T)=true)(a_:o.op= .call {callee:=.value (.func g),args,argTypes:=ats})
  (hf:P.funcs[g]? =some gn)(de:(gn.name== "runtime.NumGoroutine")=false)(hb:gn.body=some c)
  (hn:aN P X A K Node Stop m ⟨g,args.map (⟨T,[]⟩:Act).eval++Array.replicate (gn.ntmps-(args.map (⟨T,[]⟩:Act).eval).size) undef,[.code c],false⟩ (⟨fn,T,.inRegion ops (i::rest)::k,false⟩::fs) w):
  aN P X A K Node Stop m ⟨fn,T,.inRegion ops (i::rest)::k,false⟩ fs w:=by
 refine .ctl hC hR (fun w=>?_) hn;have cU:gn.body.isNone=false:=by rw[hb];rfl
 have e:aR P ⟨fn,T,.inRegion ops (i::rest)::k,false⟩ fs w=fK P ⟨fn,T,.inRegion ops (i::rest)::k,false⟩ fs o w:=by
  simp[aR,bg,ho,hw]
 rw[e];unfold fK;have ea:(⟨fn,T,.inRegion ops (i::rest)::k,false⟩:Fr).act=⟨T,[]⟩:=rfl;rw[ea,run_call_body a_ hf de cU,events_call_body a_ hf de cU];simp[qj,hf,hb,seen_none]
theorem aN.fB(hC:Closed P X A K)(hR:jT Node Stop){ops:Array Oper}{rest:List Nat}{gn:Func}{args:Array Operand}(ho:ops[i]? =some o)(hw:Region.wanted o (yielded ops T)=true)(a_:o.op= .call {callee:=.value (.func g),args,argTypes:=ats})
  (hf:P.funcs[g]? =some gn)(de:(gn.name== "runtime.NumGoroutine")=false)(hb:gn.body.isSome=true)(hT:args.map (⟨T,[]⟩:Act).eval++Array.replicate (gn.ntmps-(args.map (⟨T,[]⟩:Act).eval).size) undef=T')
  (hn:aN P X A K Node Stop m ⟨g,T',[.code (gn.body.getD .skip)],false⟩ (⟨fn,T,.inRegion ops (i::rest)::k,false⟩::fs) w):
  aN P X A K Node Stop m ⟨fn,T,.inRegion ops (i::rest)::k,false⟩ fs w:=by
 obtain⟨c,hc⟩:=Option.isSome_iff_exists.1 hb;rw[hc,Option.getD_some]at hn;exact aN.call hC hR ho hw a_ hf de hc (by rw[hT];exact hn)
theorem aN.back(hC:Closed P X A K)(hR:jT Node Stop){gn:Func}{todo:List Item}{ops:Array Oper}{rest:List Nat}{v:Value}(ho:ops[i]? =some o)(hf:P.funcs[g]? =some gn)
  (hv:∀w,(results gn T').run P w= .ok v w)(he:∀w,(results gn T').events P w #[]=#[])(hn:aN P X A K Node Stop m ⟨fn,((⟨T,[]⟩:Act).put o.dst v).tmps,.inRegion ops rest::k,false⟩ fs w):
  aN P X A K Node Stop m ⟨g,T',todo,true⟩ (⟨fn,T,.inRegion ops (i::rest)::k,false⟩::fs) w:=by
 refine .ctl hC hR (fun w=>?_) hn;simp only[aR,if_true,sI,hf,hv,he,sK ho];simp[seen_none]
theorem aN.code(hC:Closed P X A K)(ui:X1 far=false)(Ge:Closed P X1 A1 K)(hc:nu P X1 A1 (K fn) c=true){Q:Exit->Act->World->Prop}
  (hQ:∀e a w,Q e a w->e= .normal\/e= .ret)(sL:∀e a w τ d,Q e a w->Q e a (w.re τ d))(nh:∀τ d,c.wp P Q ⟨T,[]⟩ (w.re τ d))
  (hn:∀T' w',Q .normal ⟨T',[]⟩ w'->aN P X A K Node Stop m ⟨fn,T',k,false⟩ fs w')(hr:∀T' todo w',Q .ret ⟨T',[]⟩ w'->aN P X A K Node Stop m ⟨fn,T',todo,true⟩ fs w'):
  aN P X A K Node Stop m ⟨fn,T,.code c::k,false⟩ fs w:=by
 intro hI;have OK:=hI;obtain⟨ρ,h1,h2⟩:=hI;have hh:=h1.head;have hI1:JV P X1 A1 K ⟨fn,T,[.code c],false⟩ [] w:=⟨ρ,.one ⟨rfl,rfl,rfl,hh.tmps,fun x hx=>by rw[List.mem_singleton.1 hx];exact hc⟩,h2⟩;have ht:=(Ku ui Ge hI1 hQ sL nh).lift k fs (fun c hc=>by cases hc);have key:∀(f:Fr) (fs:List Fr) (w:World),Tr P (fun f' fs' w'=>∃g,∃gs',Left fn Q g gs' w'/\f'=bD k g gs'/\fs'=lW k fs gs') f fs w->True:=fun _ _ _ _=>trivial;clear key;have hgo:∀{f:Fr} {fs0:List Fr} {w:World},Tr P (fun f' fs' w'=>∃g,∃gs',Left fn Q g gs' w'/\f'=bD k g gs'/\fs'=lW k fs gs') f fs0 w->JV P X A K f fs0 w->WT P Node Stop ⟨m,f,fs0,w⟩:=by
  intro f fs0 w h;induction h with
  |@stop f fs0 w h=>
   intro hI;obtain⟨g,gs',⟨rfl,h3,h4⟩,rfl,rfl⟩:=h;obtain⟨gf,gT,gtodo,gret⟩:=g;obtain rfl:gf=fn:=h3;rcases h4 with⟨h5,h6,h7⟩|⟨h5,h6⟩
   .obtain rfl:gtodo= []:=h5;obtain rfl:gret=false:=h6;exact hn gT w h7 hI
   .obtain rfl:gret=true:=h5;exact hr gT _ w h6 hI
  |@step f fs0 w h1 _ ih=>
   intro hI;exact .step h1 fun τ d f' fs' w' es e=>ih τ d f' fs' w' es e ((hI.re τ d).step hC e)
 exact hgo ht OK
theorem aN.run(hC:Closed P X A K)(hR:jT Node Stop)(ui:X1 far=false)(Ge:Closed P X1 A1 K)(hc:nu P X1 A1 (K fn) c=true)
  (nh:∀τ d,c.wp P (fun e a w'=>(e= .normal/\aN P X A K Node Stop m ⟨fn,a.tmps,k,false⟩ fs w')\/(e= .ret/\∀todo,aN P X A K Node Stop m ⟨fn,a.tmps,todo,true⟩ fs w')) ⟨T,[]⟩ (w.re τ d)):
  aN P X A K Node Stop m ⟨fn,T,.code c::k,false⟩ fs w:=by
 refine aN.code hC ui Ge hc (Q:=fun e a w'=>(e= .normal/\aN P X A K Node Stop m ⟨fn,a.tmps,k,false⟩ fs w')\/(e= .ret/\∀todo,aN P X A K Node Stop m ⟨fn,a.tmps,todo,true⟩ fs w')) (fun e a w h=>h.imp (·.1) (·.1)) (fun e a w τ d h=>?_) nh (fun T' w' h=>?_) (fun T' todo w' h=>?_)
 .exact h.imp (fun x=>⟨x.1,x.2.re hR τ d⟩) (fun x=>⟨x.1,fun todo=>(x.2 todo).re hR τ d⟩)
 .rcases h with h|h
  .exact h.2
  .cases h.1
 .rcases h with h|h
  .cases h.1
  .exact h.2 todo
def zF(Kn Kr:Act->World->Prop):Exit->Act->World->Prop
 | .normal,a,w=>Kn a w
 | .ret,a,w=>Kr a w
 |_,_,_=>False
theorem aN.TA(hC:Closed P X A K)(hR:jT Node Stop)(ui:X1 far=false)(Ge:Closed P X1 A1 K)(hc:nu P X1 A1 (K fn) c=true)
  (nh:∀τ d,c.wp P (zF (fun a w'=>aN P X A K Node Stop m ⟨fn,a.tmps,k,false⟩ fs w') (fun a w'=>∀todo,aN P X A K Node Stop m ⟨fn,a.tmps,todo,true⟩ fs w')) ⟨T,[]⟩ (w.re τ d)):
  aN P X A K Node Stop m ⟨fn,T,.code c::k,false⟩ fs w:=by
 refine aN.code hC ui Ge hc (Q:=zF (fun a w'=>aN P X A K Node Stop m ⟨fn,a.tmps,k,false⟩ fs w') (fun a w'=>∀todo,aN P X A K Node Stop m ⟨fn,a.tmps,todo,true⟩ fs w')) (fun e a w h=>?_) (fun e a w τ d h=>?_) nh (fun T' w' h=>h) (fun T' todo w' h=>h todo)
 .cases e<;>first|exact .inl rfl|exact .inr rfl|exact h.elim
 .cases e<;>first|exact h.re hR τ d|exact fun todo=>(h todo).re hR τ d|exact h.elim
end
end
end Go.bn
namespace Go.Proofs.YtmfpiodlecapiaaGreatDoor.Gf
open Go.Proofs.Tryz
variable{a b i c:Nat}
def FH(a:Nat):Nat:=bif Nat.ble 256 (2*a)then Nat.xor (2*a) 285 else 2*a
def gY:Nat->Nat->Nat->Nat->Nat
 |0,_,_,p=>p
 |n+1,a,b,p=>gY n (FH a) (b/2) (bif Nat.beq (b%2) 1 then Nat.xor p a else p)
def mul(a b:Nat):Nat:=gY 8 a b 0
def E:Nat:=0x8e47add86c361b83cfe9fa7db0582c160b8bcbebfbf3f7f5f47a3d90482412098a45ac562b9bc3eff9f279b259a251a653a7dde070381c0e078dc86432198241ae57a5dc6e3795c46231964babdbe3fff1f67bb3d7e5fc7e3f91c663bfd1e673b7d5e472399249aa55a452299a4da8542a158442219e4fa9da6db85c2e1785cc663397c5ec763b93c7edf87c3e1f81ce67bdd068341a0d884422118643afd9e271b65ba3dfe1fe7fb1d66bbbd3e7fdf0783c1e0f89ca65bc5e2f99c261be5fa1de6fb9d269ba5da05028140a058c46239fc1ee77b5d46a35944a259c4e279dc06030180c06038fc9ea75b45a2d984c261387cde8743a1d8040201008040201
def L:Nat:=0xaf5850a8eaf4d674e8ade7e6e9d5ae4fd72c757aeb16f50b51a0a99cb05f59cb5a3eccbbb18660fbaa559d29523ba16cf66f0c7fec4917c476a47bb7d8432d1fa2416d4753393c849e5d2a14abd356f261befcdcb2978790cdcfbc955bd13f372e892023d99244117cb4b8267799a5e318fec531edde4a670d63808cf7c0700757a7f373ace5d44e2b79150a9f9b5eca3dba85fa54283a6b6e7e48c3a3b6421e404638835c13d2f1bddb968fce94d03688229110b32598e2fd30dd66628bbf06a672e44d78099ac9b9f9276a7dc2b51d458212f0da8e9335210f24e12f658a05714c08c8f869c11c81ef8d340ee064044bc7681bee33df03c61a320219010000
def ex(i:Nat):Nat:=(E >>> (8*i))%256
def lg(a:Nat):Nat:=(L >>> (8*a))%256
def FU:Nat->(Nat->Bool)->Bool
 |0,_=>true
 |n+1,f=>bif f n then FU n f else false
theorem gU{n:Nat}{f:Nat->Bool}(h:FU n f=true):∀i,i<n->f i=true:=by
 induction n with
 |zero=>intro i hi;omega
 |succ n ih=>
  intro i hi;simp only[FU]at h;cases hf:f n with
  |false=>rw[hf]at h;simp at h
  |true=>
   rw[hf]at h;by_cases ub:i=n
   .subst ub;exact hf
   .exact ih h i (by omega)
theorem exps:FU 255 (fun i=>Nat.ble 1 (ex i)&&Nat.beq (lg (ex i)) i&&Nat.beq (FH (ex i)) (ex ((i+1)%255)))=true:=by decide+kernel
theorem logs:FU 256 (fun a=>Nat.beq a 0||(Nat.beq (ex (lg a)) a&&Nat.ble (lg a) 254))=true:=by decide+kernel
theorem muls:FU 256 (fun a=>FU 256 (fun b=>Nat.beq (mul a b) (bif Nat.beq a 0||Nat.beq b 0 then 0 else ex ((lg a+lg b)%255))))=true:=by decide+kernel
theorem VY(h:a≠b):Nat.beq a b=false:=by
 cases hb:Nat.beq a b with
 |false=>rfl
 |true=>exact absurd (Nat.beq_eq.mp hb) h
theorem ex_lt(i:Nat):ex i<256:=Nat.mod_lt _ (by decide)
theorem ex_pos(h:i<255):ex i≠0:=by
 have:=gU exps i h;simp only[Bool.and_eq_true,Nat.ble_eq]at this;omega
theorem lg_ex(h:i<255):lg (ex i)=i:=by
 have:=gU exps i h;simp only[Bool.and_eq_true,Nat.ble_eq,Nat.beq_eq]at this;exact this.1.2
theorem Zg(h:a<256)(h0:a≠0):ex (lg a)=a:=by
 have:=gU logs a h;simp only[Bool.and_eq_true,Bool.or_eq_true,Nat.ble_eq,Nat.beq_eq]at this;omega
theorem lg_lt'(h:a<256)(h0:a≠0):lg a<255:=by
 have:=gU logs a h;simp only[Bool.and_eq_true,Bool.or_eq_true,Nat.ble_eq,Nat.beq_eq]at this;omega
theorem nM(ha:a<256)(hb:b<256):mul a b=if a=0\/b=0 then 0 else ex ((lg a+lg b)%255):=by
 have:=gU (gU muls a ha) b hb;simp only[Nat.beq_eq]at this;rw[this];by_cases h0:a=0\/b=0
 .have:(Nat.beq a 0||Nat.beq b 0)=true:=by simp[h0]
  rw[this,if_pos h0];rfl
 .have:(Nat.beq a 0||Nat.beq b 0)=false:=by
   rw[VY (fun x=>h0 (Or.inl x)),VY (fun x=>h0 (Or.inr x))];rfl
  rw[this,if_neg h0];rfl
theorem mul_zero(ha:a<256):mul a 0=0:=by rw[nM ha (by decide)];simp
theorem zero_mul(hb:b<256):mul 0 b=0:=by rw[nM (by decide) hb];simp
theorem mul_lt(ha:a<256)(hb:b<256):mul a b<256:=by
 rw[nM ha hb];split
 .decide
 .exact ex_lt _
theorem mul_comm(ha:a<256)(hb:b<256):mul a b=mul b a:=by
 rw[nM ha hb,nM hb ha,Nat.add_comm];by_cases h:a=0\/b=0
 .rw[if_pos h,if_pos h.symm]
 .rw[if_neg h,if_neg (fun x=>h x.symm)]
theorem nN(ha:a<256)(hb:b<256)(h1:a≠0)(h2:b≠0):mul a b≠0:=by
 rw[nM ha hb,if_neg (by omega)];exact ex_pos (Nat.mod_lt _ (by decide))
theorem zP(ha:a<256)(hb:b<256)(h1:a≠0)(h2:b≠0):lg (mul a b)=(lg a+lg b)%255:=by
 rw[nM ha hb,if_neg (by omega)];exact lg_ex (Nat.mod_lt _ (by decide))
theorem JC(ha:a<256)(hb:b<256)(h1:a≠0)(h2:b≠0)(h:lg a=lg b):a=b:=by
 rw[<-Zg ha h1,<-Zg hb h2,h]
theorem mul_assoc(ha:a<256)(hb:b<256)(hc:c<256):mul (mul a b) c=mul a (mul b c):=by
 by_cases h1:a=0
 .subst h1;rw[zero_mul hb,zero_mul hc,zero_mul (mul_lt hb hc)]
 by_cases h2:b=0
 .subst h2;rw[mul_zero ha,zero_mul hc,mul_zero ha]
 by_cases h3:c=0
 .subst h3;rw[mul_zero (mul_lt ha hb),mul_zero hb,mul_zero ha]
 apply JC (mul_lt (mul_lt ha hb) hc) (mul_lt ha (mul_lt hb hc)) (nN (mul_lt ha hb) hc (nN ha hb h1 h2) h3) (nN ha (mul_lt hb hc) h1 (nN hb hc h2 h3));rw[zP (mul_lt ha hb) hc (nN ha hb h1 h2) h3,zP ha (mul_lt hb hc) h1 (nN hb hc h2 h3),zP ha hb h1 h2,zP hb hc h2 h3];omega
theorem lg_one:lg 1=0:=by decide+kernel
theorem mul_one(ha:a<256):mul a 1=a:=by
 by_cases h:a=0
 .subst h;exact zero_mul (by decide)
 apply JC (mul_lt ha (by decide)) ha (nN ha (by decide) h (by decide)) h;rw[zP ha (by decide) h (by decide),lg_one];have:=lg_lt' ha h;omega
theorem one_mul(ha:a<256):mul 1 a=a:=by rw[mul_comm (by decide) ha,mul_one ha]
def Fh:Nat->Nat->Nat->Nat
 |0,_,r=>r
 |n+1,a,r=>Fh n (mul a a) (mul r (mul a a))
def inv(a:Nat):Nat:=Fh 7 a 1
theorem invs:FU 256 (fun a=>Nat.beq a 0||(Nat.beq (mul a (inv a)) 1&&Nat.ble (inv a) 255&&Nat.ble 1 (inv a)))=true:=by decide+kernel
theorem Fb(ha:a<256)(h:a≠0):mul a (inv a)=1:=by
 have:=gU invs a ha;simp only[Bool.and_eq_true,Bool.or_eq_true,Nat.ble_eq,Nat.beq_eq]at this;omega
theorem inv_lt(ha:a<256)(h:a≠0):inv a<256:=by
 have:=gU invs a ha;simp only[Bool.and_eq_true,Bool.or_eq_true,Nat.ble_eq,Nat.beq_eq]at this;omega
theorem xor_lt(ha:a<256)(hb:b<256):a ^^^ b<256:=Nat.xor_lt_two_pow (n:=8) ha hb
theorem dbl_eq(a:Nat):FH a=if 256<=2*a then(2*a) ^^^ 285 else 2*a:=by
 unfold FH;by_cases h:256<=2*a
 .have:Nat.ble 256 (2*a)=true:=by simp[h]
  rw[this,if_pos h];rfl
 .have:Nat.ble 256 (2*a)=false:=by
   cases hb:Nat.ble 256 (2*a)with
   |false=>rfl
   |true=>exact absurd (Nat.ble_eq.mp hb) h
  rw[this,if_neg h];rfl
theorem dbls:FU 256 (fun a=>Nat.ble (FH a) 255)=true:=by decide+kernel
theorem VA(ha:a<256):FH a<256:=by
 have:=gU dbls a ha;simp only[Nat.ble_eq]at this;omega
theorem dR(n a b p:Nat):gY (n+1) a b p=gY n (FH a) (b/2) (if b%2=1 then p ^^^ a else p):=by
 show gY n (FH a) (b/2) _=_;by_cases h:b%2=1
 .have:Nat.beq (b%2) 1=true:=by simp[h]
  rw[this,if_pos h];rfl
 .have:Nat.beq (b%2) 1=false:=by
   cases hb:Nat.beq (b%2) 1 with
   |false=>rfl
   |true=>exact absurd (Nat.beq_eq.mp hb) h
  rw[this,if_neg h];rfl
theorem xq(n a p:Nat):gY n a 0 p=p:=by
 induction n generalizing a p with
 |zero=>rfl
 |succ n ih=>rw[dR];simpa using ih (FH a) p
theorem I4(n a b p:Nat)(h:b<2^n):gY (n+1) a b p=gY n a b p:=by
 induction n generalizing a b p with
 |zero=>
  have:b=0:=by simpa using h
  subst this;rw[xq];rfl
 |succ n ih=>
  rw[Nat.pow_succ]at h;rw[dR (n+1) a b p,ih _ _ _ (by omega),<-dR]
def rest(a b p:Nat):Nat:=gY 8 a b p
theorem PY(a p:Nat):rest a 0 p=p:=xq 8 a p
theorem rest_step{p:Nat}(hb:b<256):rest a b p=rest (FH a) (b/2) (if b%2=1 then p ^^^ a else p):=by
 unfold rest;rw[<-I4 8 a b p hb,dR]
theorem sj(n a b p:Nat):gY n a b p=p ^^^ gY n a b 0:=by
 induction n generalizing a b p with
 |zero=>simp[gY]
 |succ n ih=>
  rw[dR,dR,ih (FH a) (b/2) (if b%2=1 then p ^^^ a else p),ih (FH a) (b/2) (if b%2=1 then 0 ^^^ a else 0)];split
  .rw[Nat.zero_xor,Nat.xor_assoc]
  .rw[Nat.zero_xor]
theorem yG(a b c d:Nat):(a ^^^ b) ^^^ (c ^^^ d)=(a ^^^ c) ^^^ (b ^^^ d):=by
 rw[Nat.xor_assoc,<-Nat.xor_assoc b,Nat.xor_comm b c,Nat.xor_assoc c,<-Nat.xor_assoc]
theorem Md(n a b c:Nat):gY n a (b ^^^ c) 0=gY n a b 0 ^^^ gY n a c 0:=by
 induction n generalizing a b c with
 |zero=>simp[gY]
 |succ n ih=>
  rw[dR,dR n a b,dR n a c,sj n (FH a) _ (if(b ^^^ c)%2=1 then _ else _),sj n (FH a) (b/2),sj n (FH a) (c/2),Nat.xor_div_two,ih,yG];congr 1
  have hx:(b ^^^ c)%2=(b%2+c%2)%2:=by
   have:=Nat.xor_mod_two_pow (a:=b) (b:=c) (n:=1);rw[Nat.pow_one]at this;rw[this];rcases Nat.mod_two_eq_zero_or_one b with h|h<;>rcases Nat.mod_two_eq_zero_or_one c with h'|h'<;>rw[h,h']<;>rfl
  rw[hx];rcases Nat.mod_two_eq_zero_or_one b with h|h<;>rcases Nat.mod_two_eq_zero_or_one c with h'|h'<;>rw[h,h']<;>simp
theorem mul_add(a b c:Nat):mul a (b ^^^ c)=mul a b ^^^ mul a c:=Md 8 a b c
theorem add_mul(ha:a<256)(hb:b<256)(hc:c<256):mul (a ^^^ b) c=mul a c ^^^ mul b c:=by
 rw[mul_comm (xor_lt ha hb) hc,mul_add,mul_comm hc ha,mul_comm hc hb]
end Go.Proofs.YtmfpiodlecapiaaGreatDoor.Gf
namespace Go.Proofs.YtmfpiodlecapiaaGreatDoor
open Go.Proofs.Tryz
variable{w w':World}{g i b k:Nat}{t t':TypeId}{L':List Value}{l:List Nat}{r:Option Nat}
theorem aH(n:Int)(h0:0<=n)(h1:n<9223372036854775808):IntKind.i64.wrap n=n:=by
 simp[IntKind.wrap,IntKind.bits,IntKind.signed];omega
theorem dw(n:Int)(h0:0<=n)(h1:n<256):IntKind.u8.wrap n=n:=by
 simp[IntKind.wrap,IntKind.bits,IntKind.signed];omega
theorem Oi(a b:Nat)(ha:a<4294967296)(hb:b<4294967296):bits .xor .i64 (a:Int) (b:Int)=((a ^^^ b:Nat):Int):=by
 have hx:a ^^^ b<2^32:=Nat.xor_lt_two_pow (by omega) (by omega);show IntKind.i64.wrap ((BitVec.ofInt 64 (a:Int) ^^^ BitVec.ofInt 64 (b:Int)).toNat:Int)=_;rw[BitVec.toNat_xor,ofInt_u64 a (by omega),ofInt_u64 b (by omega),aH _ (by omega) (by omega)]
theorem Ol(a b:Nat)(ha:a<4294967296)(hb:b<4294967296):bits .and .i64 (a:Int) (b:Int)=((a &&& b:Nat):Int):=by
 have hx:a &&& b<2^32:=Nat.and_lt_two_pow _ (by omega);show IntKind.i64.wrap ((BitVec.ofInt 64 (a:Int) &&& BitVec.ofInt 64 (b:Int)).toNat:Int)=_;rw[BitVec.toNat_and,ofInt_u64 a (by omega),ofInt_u64 b (by omega),aH _ (by omega) (by omega)]
theorem Jb(a:Nat)(ha:a<4294967296):bits .and .i64 (a:Int) 1=((a%2:Nat):Int):=by
 have:=Ol a 1 ha (by omega);rw[nat_mask1]at this;exact this
open Go.RowKit
theorem uP(a b:Nat)(ha:a<4294967296)(hb:b<4294967296)(w:World):
  Calls prog 168 #[.int .i64 a,.int .i64 b] w fun e w'=>e= .returned (.int .i64 ((a ^^^ b:Nat):Int))/\w'=w:=by
 have hx:=Oi a b ha hb;go_enter func168,ntmps168;go_wp2;go_ret;exact⟨rfl,rfl⟩
theorem JF(a:Nat)(ha:a<256)(w:World):
  Calls prog 169 #[.int .i64 a] w fun e w'=>e= .returned (.int .i64 (Gf.FH a:Nat))/\w'=w:=by
 have hd:=Gf.dbl_eq a;by_cases h:256<=2*a
 .have hx:bits .xor .i64 ((a:Int)*2) 285=((Gf.FH a:Nat):Int):=by
   rw[hd,if_pos h];have:=Oi (2*a) 285 (by omega) (by omega);rw[<-this];congr 1;omega
  clear hd;go_enter func169,ntmps169;go_wp2;go_ret;exact⟨rfl,rfl⟩
 .rw[hd,if_neg h];clear hd;have e2:((2*a:Nat):Int)=(a:Int)*2:=by omega
  rw[e2];clear e2;go_enter func169,ntmps169;go_wp2;go_ret;exact⟨rfl,rfl⟩
theorem Jl(n:Int)(w:World):
  Calls prog 111 #[.int .i64 n] w fun e w'=>e= .returned (.bool (decide (0<=n)&&decide (n<=255)))/\w'=w:=by
 by_cases h:0<=n
 .go_enter func111,ntmps111;go_wp2;go_ret;exact⟨by simp[h],rfl⟩
 .go_enter func111,ntmps111;go_wp2;go_ret
  exact⟨by have:¬(0<=n):=by omega
           simp[this],rfl⟩
theorem pR(a b:Nat)(ha:a<256)(hb:b<256)(w:World):
  Calls prog 112 #[.int .i64 a,.int .i64 b] w fun e w'=>e= .returned (.int .i64 (Gf.mul a b:Nat))/\w'=w:=by
 go_enter func112,ntmps112;go_wp2;go_loop [0,1,5] (fun x y z=>∃a' b' p:Nat,a'<256/\b'<256/\p<256/\x= .int .i64 a'/\y= .int .i64 b'/\z= .int .i64 p/\Gf.rest a' b' p=Gf.mul a b)
  (fun _ y _=>(intOf y).toNat)
 case atStart=>exact⟨a,b,0,ha,hb,by decide,rfl,rfl,rfl,rfl⟩
 case round=>
  obtain⟨a',b',p,sn,cU,hp,rfl,rfl,rfl,hr⟩:=hrel;have hand:=Jb b' (by omega);have hR:Hid (Gf.rest a' b' p=Gf.mul a b):=hr;clear hr;go_wp2_with first|(go_at_call 168;refine(uP _ _ (by omega) (by omega) _).mono ?_;rintro _ _ ⟨rfl,rfl⟩)|(go_at_call 169;refine(JF _ (by omega) _).mono ?_;rintro _ _ ⟨rfl,rfl⟩)
  .have eL:0<b':=by assumption
   have h1:((b':Int)%2==1)=true:=by assumption
   have h2:b'%2=1:=by simp at h1;omega
   go_round
   case rel=>
    refine⟨Gf.FH a',b'/2,p ^^^ a',Gf.VA sn,by omega,Gf.xor_lt hp sn,rfl,by go_num,rfl,?_⟩;rw[<-hR.out,Gf.rest_step cU,if_pos h2]
   case measure=>simp[intOf];omega
  .have eL:0<b':=by assumption
   have h1:((b':Int)%2==1)=false:=by assumption
   have h2:¬b'%2=1:=by simp at h1;omega
   go_round
   case rel=>
    refine⟨Gf.FH a',b'/2,p,Gf.VA sn,by omega,hp,rfl,by go_num,rfl,?_⟩;rw[<-hR.out,Gf.rest_step cU,if_neg h2]
   case measure=>simp[intOf];omega
  .have h0:b'=0:=by omega
   subst h0;have e:p=Gf.mul a b:=by rw[<-hR.out,Gf.PY]
   rw[<-e];go_ret;exact⟨rfl,rfl⟩
theorem nP(a:Nat)(ha:a<256)(w:World):
  Calls prog 113 #[.int .i64 a] w fun e w'=>e= .returned (.int .i64 (Gf.inv a:Nat))/\w'=w:=by
 go_enter func113,ntmps113;go_wp2;go_loop [0,3,4] (fun x y z=>∃a' r i:Nat,a'<256/\r<256/\i<=7/\x= .int .i64 a'/\y= .int .i64 r/\z= .int .i64 i/\Gf.Fh (7-i) a' r=Gf.inv a)
  (fun _ _ z=>7-(intOf z).toNat)
 case atStart=>exact⟨a,1,0,ha,by decide,by decide,rfl,rfl,rfl,rfl⟩
 case round=>
  obtain⟨a',r,i,sn,fR,hi,rfl,rfl,rfl,hr⟩:=hrel;have hm:=Gf.mul_lt sn sn;have oc:=Gf.mul_lt fR hm;have hR:Hid (Gf.Fh (7-i) a' r=Gf.inv a):=hr;clear hr;go_wp2_with (go_at_call 112;refine(pR _ _ (by omega) (by omega) _).mono ?_;rintro _ _ ⟨rfl,rfl⟩)
  .have ai:i<7:=by omega
   go_round
   case rel=>
    refine⟨Gf.mul a' a',Gf.mul r (Gf.mul a' a'),i+1,hm,oc,by omega,rfl,rfl,by go_num,?_⟩;rw[<-hR.out];have:7-i=(7-(i+1))+1:=by omega
    rw[this];rfl
   case measure=>simp[intOf];omega
  .have h0:i=7:=by omega
   subst h0;have e:r=Gf.inv a:=by rw[<-hR.out];rfl
   rw[<-e];go_ret;exact⟨rfl,rfl⟩
theorem Ri(a b:Nat)(ha:a<256)(hb:b<256)(w:World):
  Calls prog 60 #[.int .i64 a,.int .i64 b] w fun e w'=>e= .returned (.tuple #[.int .i64 (Gf.mul a b:Nat),.int .i64 0])/\w'=w:=by
 have h1:(decide ((0:Int)<=(a:Int))&&decide ((a:Int)<=255))=true:=by simp;omega
 have h2:(decide ((0:Int)<=(b:Int))&&decide ((b:Int)<=255))=true:=by simp;omega
 go_enter func60,ntmps60;go_wp2_with first|(go_at_call 111;refine(Jl _ _).mono ?_;rintro _ _ ⟨rfl,rfl⟩;simp only[h1,h2])|(go_at_call 112;refine(pR _ _ (by omega) (by omega) _).mono ?_;rintro _ _ ⟨rfl,rfl⟩)
 go_ret2
 exact⟨rfl,rfl⟩
theorem Ci(a:Nat)(ha:a<256)(h0:a≠0)(w:World):
  Calls prog 61 #[.int .i64 a] w fun e w'=>e= .returned (.tuple #[.int .i64 (Gf.inv a:Nat),.int .i64 0])/\w'=w:=by
 have h1:(decide ((0:Int)<=(a:Int))&&decide ((a:Int)<=255))=true:=by simp;omega
 have h2:((a:Int)==0)=false:=by simp;omega
 go_enter func61,ntmps61;go_wp2_with first|(go_at_call 111;refine(Jl _ _).mono ?_;rintro _ _ ⟨rfl,rfl⟩;simp only[h1])|(go_at_call 113;refine(nP _ (by omega) _).mono ?_;rintro _ _ ⟨rfl,rfl⟩)
 go_ret2
 exact⟨rfl,rfl⟩
open Go.RowKit Go.Deep
theorem hide{p:Prop}(h:p):Hid p:=h
def aB(w:World)(g:Nat)(t:TypeId)(L:List Value):Prop:=w.heap[g]? =some (.cells L.toArray t (0,0))
theorem aB.cell{L:List Value}(h:aB w g t L)(i:Nat)(v:Value)(hv:L[i]? =some v):w.cell? ⟨g,i,none⟩=some v:=by
 unfold aB at h;simp[World.cell?,h,hv]
theorem aB.frozen{w:World}{g:Nat}{t:TypeId}{L:List Value}(h:aB w g t L)(i:Nat):w.frozen? ⟨g,i,none⟩=false:=by
 unfold aB at h;simp[World.frozen?,h]
theorem aB.lt{L:List Value}(h:aB w g t L):g<w.heap.size:=
 (Array.getElem?_eq_some_iff.1 h).1
theorem aB.of_block{L:List Value}(h:aB w g t L)(e:w'.heap[g]? =w.heap[g]?):aB w' g t L:=e.trans h
theorem aB.below{B:Nat}{L:List Value}(h:aB w g t L)(hb:Below B w w')(hg:g<B):aB w' g t L:=h.of_block (hb.block g hg)
theorem aB.later{L:List Value}(h:aB w g t L)(hb:Below w.heap.size w w'):aB w' g t L:=h.below hb h.lt
theorem aB.set{L:List Value}(h:aB w g t L)(i:Nat)(v:Value):aB (w.setCell ⟨g,i,none⟩ v) g t (L.set i v):=by
 unfold aB at*;simp[World.setCell,Array.getElem?_modify,h]
theorem aB.other{L:List Value}(h:aB w g t L){a:Addr}(ha:g≠a.block)(v:Value):aB (w.setCell a v) g t L:=
 h.of_block (blk_setCell_other _ _ _ _ ha)
theorem aB.alloc{L:List Value}(h:aB w g t L)(o:Obj):aB (w.alloc o) g t L:=h.of_block (blk_alloc_lt _ _ _ h.lt)
theorem aB.drew{L:List Value}(h:aB w g t L):aB w.drew g t L:=h
theorem aB.drewN{L:List Value}(h:aB w g t L)(n:Nat):aB (w.drewN n) g t L:=h
theorem iG(w:World)(L:List Value)(t:TypeId):aB (w.alloc (.cells L.toArray t)) w.heap.size t L:=blk_alloc_new _ _
theorem aK(w:World)(c:Array Value)(t:TypeId):aB (w.alloc (.cells c t)) w.heap.size t c.toList:=by
 have:=blk_alloc_new w (.cells c t);unfold aB;simpa using this
theorem jA(w:World)(z:Value)(n:Nat)(t:TypeId):aB (w.alloc (.cells (madeCells #[z] n) t)) w.heap.size t (List.replicate n z):=by
 have:=aK w (madeCells #[z] n) t;rwa [toList_madeCells_one]at this
theorem aB.unique{L:List Value}(h:aB w g t L)(h':aB w g t' L'):t=t'/\L=L':=by
 unfold aB at h h';rw[h]at h';simp at h';exact⟨h'.2,h'.1⟩
theorem aB.lF{g':Nat}{L:List Value}(h:aB w g t L)(h':aB w g' t' L')(ht:t≠t'):g≠g':=
 fun e=>ht ((by subst e;exact h.unique h':t=t'/\L=L').1)
def dF(l:List Nat):List Value:=l.map (fun n:Nat=>Value.int .i64 (n:Int))
def bO(l:List Nat):List Value:=l.map (fun n:Nat=>Value.int .u8 (n:Int))
theorem qM(h:i<l.length):(dF l)[i]? =some (.int .i64 ((l[i]?.getD 0:Nat):Int)):=by simp[dF,h]
theorem gX(h:i<l.length):(bO l)[i]? =some (.int .u8 ((l[i]?.getD 0:Nat):Int)):=by simp[bO,h]
theorem dS(l:List Nat):(dF l).length=l.length:=by simp[dF]
theorem aP(l:List Nat):(bO l).length=l.length:=by simp[bO]
def fill{α:Type}(L:List α)(d:α)(k:Nat):List α:=L.take k++List.replicate (L.length-k) d
theorem Ju{α:Type}(L:List α)(d:α)(k:Nat)(h:k<=L.length):(fill L d k).length=L.length:=by simp[fill];omega
theorem vR{α:Type}(L:List α)(d:α):fill L d 0=List.replicate L.length d:=by simp[fill]
theorem Aj{α:Type}(L:List α)(d:α):fill L d L.length=L:=by simp[fill]
theorem Yt{α:Type}(L:List α)(d:α)(k:Nat)(h:k<L.length):(fill L d k)[k]? =some d:=by
 unfold fill;rw[List.getElem?_append_right (by simp;omega),List.getElem?_replicate,if_pos (by simp;omega)]
theorem Jt{α:Type}(L:List α)(d:α)(k:Nat)(v:α)(h:L[k]? =some v):(fill L d k).set k v=fill L d (k+1):=by
 have hk:k<L.length:=(List.getElem?_eq_some_iff.1 h).1;apply List.ext_getElem?;intro i;unfold fill;rw[List.getElem?_set];by_cases e:k=i
 .subst e;rw[if_pos rfl,if_pos (by simp;omega),List.getElem?_append_left (by simp;omega),List.getElem?_take,if_pos (by omega),h]
 .rw[if_neg e];by_cases hi:i<k
  .rw[List.getElem?_append_left (by simp;omega),List.getElem?_append_left (by simp;omega),List.getElem?_take,List.getElem?_take,if_pos hi,if_pos (by omega)]
  .rw[List.getElem?_append_right (by simp;omega),List.getElem?_append_right (by simp;omega)];simp only[List.length_take,List.getElem?_replicate];have e1:min k L.length=k:=by omega
   have e2:min (k+1) L.length=k+1:=by omega
   rw[e1,e2];by_cases hl:i<L.length
   .rw[if_pos (by omega),if_pos (by omega)]
   .rw[if_neg (by omega),if_neg (by omega)]
theorem uM(w:World)(a b c:Value)(t:TypeId):(w.alloc (.cells #[a,b,c] t)).cell? ⟨w.heap.size,0,none⟩=some a:=(aK w #[a,b,c] t).cell 0 _ rfl
theorem yD(w:World)(a b c:Value)(t:TypeId):(w.alloc (.cells #[a,b,c] t)).cell? ⟨w.heap.size,1,none⟩=some b:=(aK w #[a,b,c] t).cell 1 _ rfl
theorem OC(w:World)(a b c:Value)(t:TypeId):(w.alloc (.cells #[a,b,c] t)).cell? ⟨w.heap.size,2,none⟩=some c:=(aK w #[a,b,c] t).cell 2 _ rfl
def leftOf(m n:Nat):Nat:=m-n
theorem aW{x y:Nat}(h:x<y)(hb:x<b):leftOf b y<leftOf b x:=by unfold leftOf;omega
def mix{α:Type}(P S:List α)(k:Nat):List α:=P.take k++S.drop k
theorem Uj{α:Type}(P S:List α):mix P S 0=S:=by simp[mix]
theorem XV{α:Type}(P S:List α)(h:P.length=S.length):mix P S S.length=P:=by simp[mix,<-h]
theorem su{α:Type}(P S:List α)(k:Nat)(h:P.length=S.length)(hk:k<S.length):(mix P S k)[k]? =S[k]? :=by
 unfold mix;rw[List.getElem?_append_right (by simp;omega)];simp;congr 1;omega
theorem Fg{α:Type}(P S:List α)(k:Nat)(v:α)(h:P.length=S.length)(hv:P[k]? =some v):(mix P S k).set k v=mix P S (k+1):=by
 have hk:k<P.length:=(List.getElem?_eq_some_iff.1 hv).1;apply List.ext_getElem?;intro i;unfold mix;rw[List.getElem?_set];by_cases e:k=i
 .subst e;rw[if_pos rfl,if_pos (by simp;omega),List.getElem?_append_left (by simp;omega),List.getElem?_take,if_pos (by omega),hv]
 .rw[if_neg e];by_cases hi:i<k
  .rw[List.getElem?_append_left (by simp;omega),List.getElem?_append_left (by simp;omega),List.getElem?_take,List.getElem?_take,if_pos hi,if_pos (by omega)]
  .rw[List.getElem?_append_right (by simp;omega),List.getElem?_append_right (by simp;omega)];simp only[List.length_take,List.getElem?_drop];congr 1;omega
theorem getD_lt(h:∀x∈l,x<b)(hk:k<l.length):l[k]?.getD 0<b:=by
 have:l[k]? =some l[k]:=by simp[hk]
 rw[this];exact h _ (List.getElem_mem hk)
theorem getD_some(hk:k<l.length):l[k]? =some (l[k]?.getD 0):=by simp[hk]
theorem grownBy_setCell(h:w.grownBy w' (some g))(i:Nat)(v:Value):w.grownBy (w'.setCell ⟨g,i,none⟩ v) (some g):=
 ⟨h.os,h.tape,h.output,by simpa[World.setCell]using h.size,fun k hk bd=>by
  rw[blk_setCell_other _ _ _ _ (fun e=>bd (by rw[e]))];exact h.block k hk bd⟩
theorem grownBy_drew(h:w.grownBy w' r):w.grownBy w'.drew r:=⟨h.os,h.tape,h.output,h.size,h.block⟩
theorem grownBy_trans{w'':World}(h:w.grownBy w' r)(h':w'.grownBy w'' r):w.grownBy w'' r:=
 ⟨h'.os.trans h.os,h'.tape.trans h.tape,h'.output.trans h.output,Nat.le_trans h.size h'.size,fun k hk bd=>(h'.block k (Nat.lt_of_lt_of_le hk h.size) bd).trans (h.block k hk bd)⟩
theorem nK(w:World)(L:List Value)(t:TypeId)(n:Nat)(h:n=w.heap.size):∀j u,L[j]? =some u->(w.alloc (.cells L.toArray t)).cell? ((⟨n,0,none⟩:Addr).add j)=some u:=by
 subst h;intro j u hu;rw[Addr.add_lit];have:=(iG w L t).cell j u hu;simpa using this
end Go.Proofs.YtmfpiodlecapiaaGreatDoor
namespace Go.Proofs.YtmfpiodlecapiaaGreatDoor.Cut
open Go.Proofs.Tryz
variable{s n m z:Nat}
def pieces(len s:Nat):Nat:=max 1 ((len+s-1)/s)
def blocks(n m:Nat):Nat:=(n+m-1)/m
def fT(n z:Nat):List Nat:=(List.range z).map (fun i=>n/z+if i<n%z then 1 else 0)
def sizes(len s m:Nat):List Nat:=fT (pieces len s) (blocks (pieces len s) m)
theorem jK(n z:Nat):(fT n z).length=z:=by simp[fT]
theorem iH(len s:Nat):1<=pieces len s:=by unfold pieces;omega
theorem Dl{len:Nat}(hl:len<=2000)(hs:1<=s):pieces len s<=2000:=by
 unfold pieces;have:(len+s-1)/s<=2000:=by
  rw[Nat.div_le_iff_le_mul (by omega)];have:2000*1<=2000*s:=Nat.mul_le_mul_left _ hs;have h2:1999*1<=1999*s:=Nat.mul_le_mul_left _ hs;omega
 omega
theorem lI(hn:1<=n)(hm:1<=m):1<=blocks n m:=by
 unfold blocks;rw[Nat.le_div_iff_mul_le (by omega)];omega
theorem Ed(hn:1<=n)(hm:1<=m):blocks n m<=n:=by
 unfold blocks;rw[Nat.div_le_iff_le_mul (by omega)];have:n*1<=n*m:=Nat.mul_le_mul_left _ hm;obtain⟨k,rfl⟩:∃k,n=k+1:=⟨n-1,by omega⟩;have:k*1<=k*m:=Nat.mul_le_mul_left _ hm;rw[Nat.succ_mul];omega
theorem PE(q r:Nat):∀k,((List.range k).map (fun i=>q+if i<r then 1 else 0)).sum=k*q+min k r:=by
 intro k;induction k with
 |zero=>simp
 |succ k ih=>
  rw[List.range_succ,List.map_append,List.sum_append,ih,Nat.succ_mul];simp;split<;>omega
theorem Lr(hz:1<=z):(fT n z).sum=n:=by
 unfold fT;rw[PE];have:=Nat.mod_lt n (show 0<z by omega);have h2:=Nat.div_add_mod n z;have e:min z (n%z)=n%z:=by omega
 rw[e];exact h2
theorem BJ(hz:1<=z)(AF:z<=n)(hm:n<=z*m):∀k∈fT n z,1<=k/\k<=m:=by
 intro k hk;simp only[fT,List.mem_map,List.mem_range]at hk;obtain⟨i,hi,rfl⟩:=hk;have h1:1<=n/z:=by rw[Nat.le_div_iff_mul_le (by omega)];omega
 have h2:=Nat.div_add_mod n z;have h3:=Nat.mod_lt n (show 0<z by omega);refine⟨by omega,?_⟩;split
 .rename_i h;rcases Nat.lt_or_ge (n/z) m with h4|h4
  .omega
  .have:=Nat.mul_le_mul_left z h4;omega
 .rcases Nat.lt_or_ge m (n/z)with h4|h4
  .have:=Nat.mul_le_mul_left z h4;rw[Nat.mul_succ]at this;omega
  .omega
theorem uN(hm:1<=m):n<=blocks n m*m:=by
 unfold blocks;have:=Nat.div_add_mod (n+m-1) m;have h2:=Nat.mod_lt (n+m-1) (show 0<m by omega);rw[Nat.mul_comm];omega
theorem nJ{len:Nat}(hs:1<=s):len<=pieces len s*s:=by
 have h:=uN (n:=len) (m:=s) hs;unfold blocks at h;unfold pieces;have:(len+s-1)/s*s<=max 1 ((len+s-1)/s)*s:=Nat.mul_le_mul_right _ (by omega);omega
theorem vG{len:Nat}(hm:1<=m):(sizes len s m).sum=pieces len s:=Lr (lI (iH _ _) hm)
theorem iV(len s m:Nat):(sizes len s m).length=blocks (pieces len s) m:=jK _ _
theorem kE{len:Nat}(hm:1<=m):∀k∈sizes len s m,1<=k/\k<=m:=
 BJ (lI (iH _ _) hm) (Ed (iH _ _) hm) (uN hm)
end Go.Proofs.YtmfpiodlecapiaaGreatDoor.Cut
namespace Go.Proofs.YtmfpiodlecapiaaGreatDoor
open Go.Proofs.Tryz
open Go.RowKit
variable{s m p:Int}
theorem Tryz.infoInt:(prog.info? 3).map (fun i=>(i.zero,i.size,i.bytes))=some (some (.int .i64 0),1,8):=by kernel_rfl
theorem jM(n l m:Int)(w:World):
  Calls prog 114 #[.int .i64 n,.int .i64 l,.int .i64 m] w fun e w'=>e= .returned (.bool (decide (l<=n)&&decide (n<=m)))/\w'=w:=by
 by_cases h:l<=n
 .go_enter func114,ntmps114;go_wp2;go_ret;exact⟨by simp[h],rfl⟩
 .go_enter func114,ntmps114;go_wp2;go_ret
  exact⟨by have:¬(l<=n):=by omega
           simp[this],rfl⟩
theorem ig(n:Int)(w:World):
  Calls prog 62 #[.int .i64 n] w fun e w'=>e= .returned (.bool (decide (0<=n)&&decide (n<=2000)))/\w'=w:=by
 go_enter func62,ntmps62;go_wp2_with (go_at_call 114;refine(jM _ _ _ _).mono ?_;rintro _ _ ⟨rfl,rfl⟩)
 go_ret;exact⟨rfl,rfl⟩
theorem fD(a b:Nat)(ha:a<4294967296)(hb:b<4294967296)(du:0<b)(w:World):
  Calls prog 64 #[.int .i64 a,.int .i64 b] w fun e w'=>e= .returned (.int .i64 (((a+b-1)/b:Nat):Int))/\w'=w:=by
 have e:(((a+b-1)/b:Nat):Int)=((a:Int)+(b:Int)-1)/(b:Int):=by
  rw[Int.natCast_ediv];congr 1;omega
 rw[e];clear e;go_enter func64,ntmps64;go_wp2;go_ret;exact⟨rfl,rfl⟩
def jW(s m p:Int):Prop:=1<=s/\s<=16/\1<=m/\m<=20/\0<=p/\p<=20
def rC(s m p:Int):Bool:=decide (1<=s/\s<=16/\1<=m/\m<=20/\0<=p/\p<=20)
theorem rY(h:jW s m p):rC s m p=true:=decide_eq_true h
theorem lT(h:¬jW s m p):rC s m p=false:=decide_eq_false h
theorem lZ(s m p:Int)(w:World):
  Calls prog 63 #[.agg #[.int .i64 s,.int .i64 m,.int .i64 p]] w fun e w'=>e= .returned (.bool (rC s m p))/\Below w.heap.size w w':=by
 by_cases h1:1<=s/\s<=16
 .by_cases h2:1<=m/\m<=20
  .by_cases h3:0<=p/\p<=20
   .have e1:(decide (1<=s)&&decide (s<=16))=true:=by simp;omega
    have e2:(decide (1<=m)&&decide (m<=20))=true:=by simp;omega
    have e3:(decide (0<=p)&&decide (p<=20))=true:=by simp;omega
    have e:rC s m p=true:=rY (by unfold jW;omega);rw[e];clear e h1 h2 h3;go_enter func63,ntmps63;go_wp2_with (go_at_call 114;refine(jM _ _ _ _).mono ?_;rintro _ _ ⟨rfl,rfl⟩;simp only[e1,e2,e3])
    go_ret;exact⟨rfl,(Below.refl _ _).alloc (Nat.le_refl _) _⟩
   .have e1:(decide (1<=s)&&decide (s<=16))=true:=by simp;omega
    have e2:(decide (1<=m)&&decide (m<=20))=true:=by simp;omega
    have e3:(decide (0<=p)&&decide (p<=20))=false:=by simp;omega
    have e:rC s m p=false:=lT (by unfold jW;omega);rw[e];clear e h1 h2 h3;go_enter func63,ntmps63;go_wp2_with (go_at_call 114;refine(jM _ _ _ _).mono ?_;rintro _ _ ⟨rfl,rfl⟩;simp only[e1,e2,e3])
    go_ret;exact⟨rfl,(Below.refl _ _).alloc (Nat.le_refl _) _⟩
  .have e1:(decide (1<=s)&&decide (s<=16))=true:=by simp;omega
   have e2:(decide (1<=m)&&decide (m<=20))=false:=by simp;omega
   have e:rC s m p=false:=lT (by unfold jW;omega);rw[e];clear e h1 h2;go_enter func63,ntmps63;go_wp2_with (go_at_call 114;refine(jM _ _ _ _).mono ?_;rintro _ _ ⟨rfl,rfl⟩;simp only[e1,e2])
   go_ret;exact⟨rfl,(Below.refl _ _).alloc (Nat.le_refl _) _⟩
 .have e1:(decide (1<=s)&&decide (s<=16))=false:=by simp;omega
  have e:rC s m p=false:=lT (by unfold jW;omega);rw[e];clear e h1;go_enter func63,ntmps63;go_wp2_with (go_at_call 114;refine(jM _ _ _ _).mono ?_;rintro _ _ ⟨rfl,rfl⟩;simp only[e1])
  go_ret;exact⟨rfl,(Below.refl _ _).alloc (Nat.le_refl _) _⟩
theorem zh(n z:Nat)(hn:n<=4096)(hz:z<=4096)(ep:0<z)(w:World):
  Calls prog 65 #[.int .i64 n,.int .i64 z] w fun e w'=>e= .returned (.slice (some ⟨w.heap.size,0,none⟩) z z)/\Below w.heap.size w w'/\aB w' w.heap.size 3 (dF (Cut.fT n z)):=by
 obtain⟨i0,hi,W0,cJ,cW⟩:=info_parts Tryz.infoInt;go_enter func65,ntmps65;go_wp2_with (at_make;refine wpList_make_row _ rfl _ _ 33 rfl 3 i0 (.int .i64 0) underlying33 hi W0 cJ rfl .i64 .i64 z rfl rfl (by rw[cW];omega) (by omega) ?_)
 have du:Below w.heap.size w (w.alloc (.cells (madeCells #[.int .i64 0] z) 3)):=(Below.refl _ _).alloc (Nat.le_refl _) _;have ff:aB (w.alloc (.cells (madeCells #[.int .i64 0] z) 3)) w.heap.size 3 (fill (dF (Cut.fT n z)) (.int .i64 0) 0):=by
  rw[vR,dS,Cut.jK];exact jA _ _ _ _
 go_loopw [11] (fun i wr=>∃k:Nat,k<=z/\i= .int .i64 k/\Below w.heap.size w wr/\aB wr w.heap.size 3 (fill (dF (Cut.fT n z)) (.int .i64 0) k))
  (fun i _=>z-(intOf i).toNat)
 case atStart=>exact⟨0,by omega,rfl,du,ff⟩
 case round=>
  obtain⟨k,hk,rfl,hb,hr⟩:=hrel;clear du ff;by_cases hkz:k<z
  .have hlen:k<(dF (Cut.fT n z)).length:=by rw[dS,Cut.jK];exact hkz
   have hc:=hr.cell k _ (Yt _ _ _ hlen);have hf:=hr.frozen k;have hv:(dF (Cut.fT n z))[k]? =some (.int .i64 ((n/z+if k<n%z then 1 else 0:Nat):Int)):=by
    simp[dF,Cut.fT,hkz]
   have eq0:(n:Int)/(z:Int)=((n/z:Nat):Int):=by simp
   have p_:0<=(n:Int)/(z:Int):=by rw[eq0];exact Int.natCast_nonneg _
   have hq:(n:Int)/(z:Int)<=4096:=by
    have:n/z<=n:=Nat.div_le_self _ _;rw[eq0];omega
   have hE:=hide eq0;clear eq0;by_cases hm:k<n%z
   .have vz:(k:Int)<(n:Int)%(z:Int):=by omega
    have hR:=hide hr;have hB:=hide hb;have hV:=hide hv
    clear hr hb hv;go_wp2;go_roundw
    case rel=>
     refine⟨k+1,by omega,by go_num,(hB.out.setCell (Nat.le_refl _) _).setCell (Nat.le_refl _) _,?_⟩;have:=(hR.out.set k (.int .i64 ((n:Int)/(z:Int)))).set k (.int .i64 ((n:Int)/(z:Int)+1));rw[List.set_set,Jt]at this
     .exact this
     .rw[hV.out,if_pos hm,hE.out];rfl
    case measure=>simp[intOf];omega
   .have vz:¬(k:Int)<(n:Int)%(z:Int):=by omega
    have hR:=hide hr;have hB:=hide hb;have hV:=hide hv
    clear hr hb hv;go_wp2;go_roundw
    case rel=>
     refine⟨k+1,by omega,by go_num,(hB.out.setCell (Nat.le_refl _) _),?_⟩;have:=(hR.out.set k (.int .i64 ((n:Int)/(z:Int))));rw[Jt]at this
     .exact this
     .rw[hV.out,if_neg hm,hE.out];rfl
    case measure=>simp[intOf];omega
  .have e:k=z:=by omega
   subst e;have fR:aB wr w.heap.size 3 (dF (Cut.fT n k)):=by
    have h2:=Aj (dF (Cut.fT n k)) (Value.int .i64 0);rw[dS,Cut.jK]at h2;rw[h2]at hr;exact hr
   have hR:=hide fR;have hB:=hide hb
   clear hr fR hb;go_wp2;go_ret;exact⟨rfl,hB.out,hR.out⟩
theorem uL(len s m p:Int)(h:¬(0<=len/\len<=2000/\jW s m p))(w:World):
  Calls prog 29 #[.int .i64 len,.agg #[.int .i64 s,.int .i64 m,.int .i64 p]] w fun e w'=>e= .returned (.tuple #[.slice none 0 0,.bool false])/\Below w.heap.size w w':=by
 have du:=hide ((Below.refl w.heap.size w).alloc (Nat.le_refl _) (.cells #[.int .i64 s,.int .i64 m,.int .i64 p] 35));by_cases hl:0<=len/\len<=2000
 .have e1:(decide (0<=len)&&decide (len<=2000))=true:=by simp;omega
  have e2:rC s m p=false:=lT (fun hp=>h ⟨hl.1,hl.2,hp⟩);clear h hl;go_enter func29,ntmps29;go_wp2_with first|(go_at_call 62;refine(ig _ _).mono ?_;rintro _ _ ⟨rfl,rfl⟩;simp only[e1])|(go_at_call 63;refine(lZ _ _ _ _).mono ?_;rintro _ w1 ⟨rfl,bp⟩;replace bp:=hide bp;simp only[e2])
  go_ret2
  exact⟨rfl,du.out.trans (bp.out.mono (by simp))⟩
 .have e1:(decide (0<=len)&&decide (len<=2000))=false:=by simp;omega
  clear h hl;go_enter func29,ntmps29;go_wp2_with (go_at_call 62;refine(ig _ _).mono ?_;rintro _ _ ⟨rfl,rfl⟩;simp only[e1])
  go_ret2
  exact⟨rfl,du.out⟩
theorem xX(len s m p q Z:Nat)(hl:len<=2000)(h1:1<=s)(h2:s<=16)(h3:1<=m)(h4:m<=20)(h5:p<=20)
  (hq:1<q)(cI:q<=2000)(Bp:1<=Z)(_hZ2:Z<=q)(d1:(len+s-1)/s=q)(d2:(q+m-1)/m=Z)(w:World):
  (Z<=256->Calls prog 29 #[.int .i64 len,.agg #[.int .i64 s,.int .i64 m,.int .i64 p]] w fun e w'=>
   ∃g,w.heap.size<=g/\e= .returned (.tuple #[.slice (some ⟨g,0,none⟩) Z Z,.bool true])/\Below w.heap.size w w'/\aB w' g 3 (dF (Cut.fT q Z)))/\
  (¬Z<=256->Calls prog 29 #[.int .i64 len,.agg #[.int .i64 s,.int .i64 m,.int .i64 p]] w fun e w'=>
   e= .returned (.tuple #[.slice none 0 0,.bool false])/\Below w.heap.size w w'):=by
 have du:=hide ((Below.refl w.heap.size w).alloc (Nat.le_refl _) (.cells #[.int .i64 s,.int .i64 m,.int .i64 p] 35));have e1:(decide ((0:Int)<=(len:Int))&&decide ((len:Int)<=2000))=true:=by simp;omega
 have e2:rC s m p=true:=rY (by unfold jW;omega);constructor
 .intro hc;go_enter func29,ntmps29;go_wp2_with first|(go_at_call 62;refine(ig _ _).mono ?_;rintro _ _ ⟨rfl,rfl⟩;simp only[e1])|(go_at_call 63;refine(lZ _ _ _ _).mono ?_;rintro _ w1 ⟨rfl,bp⟩;have c0:=cell_later bp (uM w _ _ _ _);have c1:=cell_later bp (yD w _ _ _ _);replace bp:=hide bp;simp only[e2])
  refine(fD _ _ (by omega) (by omega) (by omega) _).mono ?_;rintro _ _ ⟨rfl,rfl⟩;simp only[d1];go_wp2_with first|(go_at_call 64;refine(fD _ _ (by omega) (by omega) (by omega) _).mono ?_;rintro _ _ ⟨rfl,rfl⟩;simp only[d2])|(go_at_call 65;refine(zh _ _ (by omega) (by omega) (by omega) _).mono ?_;rintro _ w2 ⟨rfl,cq,dE⟩;replace cq:=hide cq;replace dE:=hide dE)
  go_ret2
  exact⟨_,Nat.le_trans du.out.size bp.out.size,rfl,(du.out.trans (bp.out.mono (by simp))).trans (cq.out.mono (Nat.le_trans du.out.size bp.out.size)),dE.out⟩
 .intro hc;go_enter func29,ntmps29;go_wp2_with first|(go_at_call 62;refine(ig _ _).mono ?_;rintro _ _ ⟨rfl,rfl⟩;simp only[e1])|(go_at_call 63;refine(lZ _ _ _ _).mono ?_;rintro _ w1 ⟨rfl,bp⟩;have c0:=cell_later bp (uM w _ _ _ _);have c1:=cell_later bp (yD w _ _ _ _);replace bp:=hide bp;simp only[e2])
  refine(fD _ _ (by omega) (by omega) (by omega) _).mono ?_;rintro _ _ ⟨rfl,rfl⟩;simp only[d1];go_wp2_with (go_at_call 64;refine(fD _ _ (by omega) (by omega) (by omega) _).mono ?_;rintro _ _ ⟨rfl,rfl⟩;simp only[d2])
  go_ret2
  exact⟨rfl,du.out.trans (bp.out.mono (by simp))⟩
theorem xW(len s m p q Z:Nat)(hl:len<=2000)(h1:1<=s)(h2:s<=16)(h3:1<=m)(h4:m<=20)(h5:p<=20)
  (hq:q<=1)(Bp:1<=Z)(oT:Z<=1)(d1:(len+s-1)/s=q)(d2:(1+m-1)/m=Z)(w:World):
  (Z<=256->Calls prog 29 #[.int .i64 len,.agg #[.int .i64 s,.int .i64 m,.int .i64 p]] w fun e w'=>
   ∃g,w.heap.size<=g/\e= .returned (.tuple #[.slice (some ⟨g,0,none⟩) Z Z,.bool true])/\Below w.heap.size w w'/\aB w' g 3 (dF (Cut.fT 1 Z)))/\
  (¬Z<=256->Calls prog 29 #[.int .i64 len,.agg #[.int .i64 s,.int .i64 m,.int .i64 p]] w fun e w'=>
   e= .returned (.tuple #[.slice none 0 0,.bool false])/\Below w.heap.size w w'):=by
 have du:=hide ((Below.refl w.heap.size w).alloc (Nat.le_refl _) (.cells #[.int .i64 s,.int .i64 m,.int .i64 p] 35));have e1:(decide ((0:Int)<=(len:Int))&&decide ((len:Int)<=2000))=true:=by simp;omega
 have e2:rC s m p=true:=rY (by unfold jW;omega);have D1:Hid (∀w,Calls prog 64 #[.int .i64 1,.int .i64 m] w fun e w'=>e= .returned (.int .i64 (Z:Int))/\w'=w):=by
  intro w;have:=fD 1 m (by omega) (by omega) (by omega) w;rw[d2]at this;exact this
 constructor
 .intro hc;go_enter func29,ntmps29;go_wp2_with first|(go_at_call 62;refine(ig _ _).mono ?_;rintro _ _ ⟨rfl,rfl⟩;simp only[e1])|(go_at_call 63;refine(lZ _ _ _ _).mono ?_;rintro _ w1 ⟨rfl,bp⟩;have c0:=cell_later bp (uM w _ _ _ _);have c1:=cell_later bp (yD w _ _ _ _);replace bp:=hide bp;simp only[e2])
  refine(fD _ _ (by omega) (by omega) (by omega) _).mono ?_;rintro _ _ ⟨rfl,rfl⟩;simp only[d1];go_wp2_with first|(go_at_call 64;refine(D1.out _).mono ?_;rintro _ _ ⟨rfl,rfl⟩)|(go_at_call 65;refine(zh 1 _ (by omega) (by omega) (by omega) _).mono ?_;rintro _ w2 ⟨rfl,cq,dE⟩;replace cq:=hide cq;replace dE:=hide dE)
  go_ret2
  exact⟨_,Nat.le_trans du.out.size bp.out.size,rfl,(du.out.trans (bp.out.mono (by simp))).trans (cq.out.mono (Nat.le_trans du.out.size bp.out.size)),dE.out⟩
 .intro hc;omega
theorem cO(len s m p:Nat)(hl:len<=2000)(h1:1<=s)(h2:s<=16)(h3:1<=m)(h4:m<=20)(h5:p<=20)(w:World):
  (Cut.blocks (Cut.pieces len s) m<=256->Calls prog 29 #[.int .i64 len,.agg #[.int .i64 s,.int .i64 m,.int .i64 p]] w fun e w'=>
   ∃g,w.heap.size<=g/\e= .returned (.tuple #[.slice (some ⟨g,0,none⟩) (Cut.blocks (Cut.pieces len s) m) (Cut.blocks (Cut.pieces len s) m),.bool true])/\Below w.heap.size w w'/\aB w' g 3 (dF (Cut.sizes len s m)))/\
  (¬Cut.blocks (Cut.pieces len s) m<=256->Calls prog 29 #[.int .i64 len,.agg #[.int .i64 s,.int .i64 m,.int .i64 p]] w fun e w'=>
   e= .returned (.tuple #[.slice none 0 0,.bool false])/\Below w.heap.size w w'):=by
 have TX:=Cut.iH len s;have Aa:=Cut.Dl hl h1;have Bp:=Cut.lI TX h3;have oT:=Cut.Ed TX h3;unfold Cut.sizes;by_cases hq:1<(len+s-1)/s
 .have e:Cut.pieces len s=(len+s-1)/s:=by unfold Cut.pieces;omega
  rw[e]at Aa Bp oT⊢;exact xX len s m p _ _ hl h1 h2 h3 h4 h5 hq Aa Bp oT rfl rfl w
 .have e:Cut.pieces len s=1:=by unfold Cut.pieces;omega
  rw[e]at Aa Bp oT⊢;exact xW len s m p _ _ hl h1 h2 h3 h4 h5 (by omega) Bp oT rfl rfl w
