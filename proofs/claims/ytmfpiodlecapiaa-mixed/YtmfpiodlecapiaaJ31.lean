import Derived.Test.YtmfpiodlecapiaaJ30
namespace Go.Frag
open Go.Ren Go.Conc
section
variable {P:Program} {X A X1 A1:FuncId->Bool} {K:FuncId->Nat->Nat} {Node:Stt Nat->(Stt Nat->Prop)->Prop} {Stop:Stt Nat->Prop} {m:Nat} {f:Fr} {fs:List Fr} {w:World}
def Stt.re(s:Stt Nat)(τ:Nat->Question->Nat)(d:Nat):Stt Nat:=⟨s.m,s.f,s.fs,s.w.re τ d⟩
structure ReOk(Node:Stt Nat->(Stt Nat->Prop)->Prop)(Stop:Stt Nat->Prop):Prop where
 stop:∀s τ d,Stop s->Stop (s.re τ d)
 node:∀s Next τ d,Node s Next->Node (s.re τ d) (fun s'=>∃s0,Next s0/\s'=s0.re τ d)
theorem WT.re(hR:ReOk Node Stop){s:Stt Nat}(h:WT P Node Stop s):∀(τ:Nat->Question->Nat) (d:Nat),WT P Node Stop (s.re τ d):=by
 induction h with
 |stop h=>exact fun τ d=>.stop (hR.stop _ _ _ h)
 |step h1 h2 _=>exact fun τ d=>.step (fun τ' d'=>h1 τ' d') (fun τ' d' f' fs' w' es e=>h2 τ' d' f' fs' w' es e)
 |node h _ ih=>exact fun τ d=>.node (hR.node _ _ τ d h) (fun s' ⟨s0,h0,e⟩=>e▸ih s0 h0 τ d)
def WTI(P:Program)(X A:FuncId->Bool)(K:FuncId->Nat->Nat)(Node:Stt Nat->(Stt Nat->Prop)->Prop)(Stop:Stt Nat->Prop)(m:Nat)(f:Fr)(fs:List Fr)(w:World):Prop:=Inn P X A K f fs w->WT P Node Stop ⟨m,f,fs,w⟩
theorem WTI.step(hC:Closed P X A K)(h:∀τ d,∃f' fs' w' es,fstep P f fs (w.re τ d)= .go f' fs' w' es/\WTI P X A K Node Stop m f' fs' w'):WTI P X A K Node Stop m f fs w:=fun hI=>
 .step (fun τ d=>by
   obtain⟨f',fs',w',es,e,_⟩:=h τ d;exact⟨f',fs',w',es,e⟩)
  (fun τ d f' fs' w' es e=>by
   obtain⟨f2,fs2,w2,es2,e2,hn⟩:=h τ d;have e:fstep P f fs (w.re τ d)= .go f' fs' w' es:=e;rw[e2]at e;simp only[FO.go.injEq]at e;obtain⟨rfl,rfl,rfl,rfl⟩:=e;exact hn ((hI.re τ d).step hC e2))
theorem WTI.re(hR:ReOk Node Stop)(h:WTI P X A K Node Stop m f fs w)(τ:Nat->Question->Nat)(d:Nat):WTI P X A K Node Stop m f fs (w.re τ d):=fun hI=>by
 have:=hI.re w.tape w.drawn;rw[re_re,re_self]at this;exact(h this).re hR τ d
theorem WTI.ctl(hC:Closed P X A K)(hR:ReOk Node Stop){f':Fr}{fs':List Fr}(h:∀w,fstep P f fs w= .go f' fs' w #[])(hn:WTI P X A K Node Stop m f' fs' w):WTI P X A K Node Stop m f fs w:=
 .step hC fun τ d=>⟨f',fs',w.re τ d,#[],h _,hn.re hR τ d⟩
theorem WTI.stop(h:Stop ⟨m,f,fs,w⟩):WTI P X A K Node Stop m f fs w:=fun _=>.stop h
variable {fn:FuncId} {T:Array Value} {k:List Item}
theorem WTI.seq(hC:Closed P X A K)(hR:ReOk Node Stop){a b:Code}(hn:WTI P X A K Node Stop m ⟨fn,T,.code a:: .code b::k,false⟩ fs w):WTI P X A K Node Stop m ⟨fn,T,.code (.seq a b)::k,false⟩ fs w:=.ctl hC hR (fun _=>rfl) hn
theorem WTI.regEnd(hC:Closed P X A K)(hR:ReOk Node Stop){ops:Array Oper}(hn:WTI P X A K Node Stop m ⟨fn,T,k,false⟩ fs w):WTI P X A K Node Stop m ⟨fn,T,.inRegion ops []::k,false⟩ fs w:=.ctl hC hR (fun _=>rfl) hn
theorem WTI.reg(hC:Closed P X A K)(hR:ReOk Node Stop){id:Nat}{ops:Array Oper}{l:List Nat}(hl:List.range ops.size=l)(hn:WTI P X A K Node Stop m ⟨fn,T,.inRegion ops l::k,false⟩ fs w):WTI P X A K Node Stop m ⟨fn,T,.code (.region id ops false)::k,false⟩ fs w:=
 .ctl hC hR (fun _=>by rw[<-hl];rfl) hn
theorem WTI.yes(hC:Closed P X A K)(hR:ReOk Node Stop){c:Operand}{x y:Code}(hc:(⟨T,[]⟩:Act).eval c= .bool true)(hn:WTI P X A K Node Stop m ⟨fn,T,.code x::k,false⟩ fs w):WTI P X A K Node Stop m ⟨fn,T,.code (.cond c x y)::k,false⟩ fs w:=
 .ctl hC hR (fun _=>by simp[fstep,qU,Fr.act,hc]) hn
theorem WTI.no(hC:Closed P X A K)(hR:ReOk Node Stop){c:Operand}{x y:Code}(hc:(⟨T,[]⟩:Act).eval c= .bool false)(hn:WTI P X A K Node Stop m ⟨fn,T,.code y::k,false⟩ fs w):WTI P X A K Node Stop m ⟨fn,T,.code (.cond c x y)::k,false⟩ fs w:=
 .ctl hC hR (fun _=>by simp[fstep,qU,Fr.act,hc]) hn
theorem WTI.block(hC:Closed P X A K)(hR:ReOk Node Stop){id:Nat}{c:Code}(hn:WTI P X A K Node Stop m ⟨fn,T,.code c:: .inBlock id::k,false⟩ fs w):WTI P X A K Node Stop m ⟨fn,T,.code (.block id c)::k,false⟩ fs w:=.ctl hC hR (fun _=>rfl) hn
theorem WTI.inBlock(hC:Closed P X A K)(hR:ReOk Node Stop){id:Nat}(hn:WTI P X A K Node Stop m ⟨fn,T,k,false⟩ fs w):WTI P X A K Node Stop m ⟨fn,T,.inBlock id::k,false⟩ fs w:=.ctl hC hR (fun _=>rfl) hn
theorem WTI.loop(hC:Closed P X A K)(hR:ReOk Node Stop){c:Code}(hn:WTI P X A K Node Stop m ⟨fn,T,.code c:: .inLoop c::k,false⟩ fs w):WTI P X A K Node Stop m ⟨fn,T,.code (.loop c)::k,false⟩ fs w:=.ctl hC hR (fun _=>rfl) hn
theorem WTI.inLoop(hC:Closed P X A K)(hR:ReOk Node Stop){c:Code}(hn:WTI P X A K Node Stop m ⟨fn,T,.code c:: .inLoop c::k,false⟩ fs w):WTI P X A K Node Stop m ⟨fn,T,.inLoop c::k,false⟩ fs w:=.ctl hC hR (fun _=>rfl) hn
theorem WTI.skip(hC:Closed P X A K)(hR:ReOk Node Stop)(hn:WTI P X A K Node Stop m ⟨fn,T,k,false⟩ fs w):WTI P X A K Node Stop m ⟨fn,T,.code .skip::k,false⟩ fs w:=.ctl hC hR (fun _=>rfl) hn
theorem WTI.exit(hC:Closed P X A K)(hR:ReOk Node Stop){id:Nat}{k':List Item}(he:exitTo id k=some k')(hn:WTI P X A K Node Stop m ⟨fn,T,k',false⟩ fs w):WTI P X A K Node Stop m ⟨fn,T,.code (.exit id)::k,false⟩ fs w:=.ctl hC hR (fun _=>by simp[fstep,qU,he]) hn
theorem finish_put{ops:Array Oper}{i:Nat}{rest:List Nat}{o:Oper}(ho:ops[i]? =some o)(v:Value):(⟨fn,T,.inRegion ops (i::rest)::k,false⟩:Fr).finish v=⟨fn,((⟨T,[]⟩:Act).put o.dst v).tmps,.inRegion ops rest::k,false⟩:=by
 cases hd:o.dst<;>simp[Fr.finish,ho,Act.put,hd]
theorem WTI.op(hC:Closed P X A K){ops:Array Oper}{i:Nat}{rest:List Nat}{o:Oper}(ho:ops[i]? =some o)(hw:Region.wanted o (yielded ops T)=true)
  (h:∀τ d,∀K':Act->World->Prop,(∀a' w',WTI P X A K Node Stop m ⟨fn,a'.tmps,.inRegion ops rest::k,false⟩ fs w'->K' a' w')->uponK o ⟨T,[]⟩ K' ((execOp (⟨T,[]⟩:Act).eval o).run P (w.re τ d))):
  WTI P X A K Node Stop m ⟨fn,T,.inRegion ops (i::rest)::k,false⟩ fs w:=by
 refine .step hC fun τ d=>?_;have h1:=h τ d (fun a' w'=>WTI P X A K Node Stop m ⟨fn,a'.tmps,.inRegion ops rest::k,false⟩ fs w') (fun _ _ x=>x);have e:fstep P ⟨fn,T,.inRegion ops (i::rest)::k,false⟩ fs (w.re τ d)=foper P ⟨fn,T,.inRegion ops (i::rest)::k,false⟩ fs o (w.re τ d):=by
  simp[fstep,qU,ho,hw]
 rw[e];unfold foper;revert h1;show uponK o ⟨T,[]⟩ _ ((execOp (⟨T,[]⟩:Act).eval o).run P (w.re τ d))->_;have ea:(⟨fn,T,.inRegion ops (i::rest)::k,false⟩:Fr).act=⟨T,[]⟩:=rfl;rw[ea];cases hr:(execOp (⟨T,[]⟩:Act).eval o).run P (w.re τ d)with
 |halt x w'=>exact fun h=>h.elim
 |ok n w'=>
  cases n with
  |value v=>exact fun h=>⟨_,_,_,_,rfl,by rw[finish_put ho];exact h⟩
  |skip=>exact fun h=>⟨_,_,_,_,rfl,by rw[finish_put ho];exact h⟩
  |_=>exact fun h=>h.elim
theorem WTI.call(hC:Closed P X A K)(hR:ReOk Node Stop){ops:Array Oper}{i:Nat}{rest:List Nat}{o:Oper}{g:FuncId}{gn:Func}{c:Code}{args:Array Operand}{ats:Array TypeId}(ho:ops[i]? =some o)(hw:Region.wanted o (yielded ops T)=true)(hop:o.op= .call {callee:=.value (.func g),args,argTypes:=ats})
  (hf:P.funcs[g]? =some gn)(hname:(gn.name== "runtime.NumGoroutine")=false)(hb:gn.body=some c)
  (hn:WTI P X A K Node Stop m ⟨g,args.map (⟨T,[]⟩:Act).eval++Array.replicate (gn.ntmps-(args.map (⟨T,[]⟩:Act).eval).size) undef,[.code c],false⟩ (⟨fn,T,.inRegion ops (i::rest)::k,false⟩::fs) w):
  WTI P X A K Node Stop m ⟨fn,T,.inRegion ops (i::rest)::k,false⟩ fs w:=by
 refine .ctl hC hR (fun w=>?_) hn;have hb':gn.body.isNone=false:=by rw[hb];rfl
 have e:fstep P ⟨fn,T,.inRegion ops (i::rest)::k,false⟩ fs w=foper P ⟨fn,T,.inRegion ops (i::rest)::k,false⟩ fs o w:=by
  simp[fstep,qU,ho,hw]
 rw[e];unfold foper;have ea:(⟨fn,T,.inRegion ops (i::rest)::k,false⟩:Fr).act=⟨T,[]⟩:=rfl;rw[ea,run_call_body hop hf hname hb',events_call_body hop hf hname hb'];simp[fenter,hf,hb,seen_none]
theorem WTI.callT(hC:Closed P X A K)(hR:ReOk Node Stop){ops:Array Oper}{i:Nat}{rest:List Nat}{o:Oper}{g:FuncId}{gn:Func}{args:Array Operand}{ats:Array TypeId}{T':Array Value}(ho:ops[i]? =some o)(hw:Region.wanted o (yielded ops T)=true)(hop:o.op= .call {callee:=.value (.func g),args,argTypes:=ats})
  (hf:P.funcs[g]? =some gn)(hname:(gn.name== "runtime.NumGoroutine")=false)(hb:gn.body.isSome=true)(hT:args.map (⟨T,[]⟩:Act).eval++Array.replicate (gn.ntmps-(args.map (⟨T,[]⟩:Act).eval).size) undef=T')
  (hn:WTI P X A K Node Stop m ⟨g,T',[.code (gn.body.getD .skip)],false⟩ (⟨fn,T,.inRegion ops (i::rest)::k,false⟩::fs) w):
  WTI P X A K Node Stop m ⟨fn,T,.inRegion ops (i::rest)::k,false⟩ fs w:=by
 obtain⟨c,hc⟩:=Option.isSome_iff_exists.1 hb;rw[hc,Option.getD_some]at hn;exact WTI.call hC hR ho hw hop hf hname hc (by rw[hT];exact hn)
theorem WTI.back(hC:Closed P X A K)(hR:ReOk Node Stop){g:FuncId}{gn:Func}{T':Array Value}{todo:List Item}{ops:Array Oper}{i:Nat}{rest:List Nat}{o:Oper}{v:Value}(ho:ops[i]? =some o)(hf:P.funcs[g]? =some gn)
  (hv:∀w,(results gn T').run P w= .ok v w)(he:∀w,(results gn T').events P w #[]=#[])(hn:WTI P X A K Node Stop m ⟨fn,((⟨T,[]⟩:Act).put o.dst v).tmps,.inRegion ops rest::k,false⟩ fs w):
  WTI P X A K Node Stop m ⟨g,T',todo,true⟩ (⟨fn,T,.inRegion ops (i::rest)::k,false⟩::fs) w:=by
 refine .ctl hC hR (fun w=>?_) hn;simp only[fstep,if_true,fret,hf,hv,he,finish_put ho];simp[seen_none]
theorem WTI.code(hC:Closed P X A K)(hX1:X1 far=false)(hC1:Closed P X1 A1 K){c:Code}(hc:codeB P X1 A1 (K fn) c=true){Q:Exit->Act->World->Prop}
  (hQ:∀e a w,Q e a w->e= .normal\/e= .ret)(hre:∀e a w τ d,Q e a w->Q e a (w.re τ d))(hwp:∀τ d,c.wp P Q ⟨T,[]⟩ (w.re τ d))
  (hn:∀T' w',Q .normal ⟨T',[]⟩ w'->WTI P X A K Node Stop m ⟨fn,T',k,false⟩ fs w')(hr:∀T' todo w',Q .ret ⟨T',[]⟩ w'->WTI P X A K Node Stop m ⟨fn,T',todo,true⟩ fs w'):
  WTI P X A K Node Stop m ⟨fn,T,.code c::k,false⟩ fs w:=by
 intro hI;have hI0:=hI;obtain⟨ρ,h1,h2⟩:=hI;have hh:=h1.head;have hI1:Inn P X1 A1 K ⟨fn,T,[.code c],false⟩ [] w:=⟨ρ,.one ⟨rfl,rfl,rfl,hh.tmps,fun x hx=>by rw[List.mem_singleton.1 hx];exact hc⟩,h2⟩;have ht:=(tree_of_wp hX1 hC1 hI1 hQ hre hwp).lift k fs (fun c hc=>by cases hc);have key:∀(f:Fr) (fs:List Fr) (w:World),Tr P (fun f' fs' w'=>∃g,∃gs',Left fn Q g gs' w'/\f'=liftF k g gs'/\fs'=liftS k fs gs') f fs w->True:=fun _ _ _ _=>trivial;clear key;have hgo:∀{f:Fr} {fs0:List Fr} {w:World},Tr P (fun f' fs' w'=>∃g,∃gs',Left fn Q g gs' w'/\f'=liftF k g gs'/\fs'=liftS k fs gs') f fs0 w->Inn P X A K f fs0 w->WT P Node Stop ⟨m,f,fs0,w⟩:=by
  intro f fs0 w h;induction h with
  |@stop f fs0 w h=>
   intro hI;obtain⟨g,gs',⟨rfl,h3,h4⟩,rfl,rfl⟩:=h;obtain⟨gf,gT,gtodo,gret⟩:=g;obtain rfl:gf=fn:=h3;rcases h4 with⟨h5,h6,h7⟩|⟨h5,h6⟩
   ·obtain rfl:gtodo= []:=h5;obtain rfl:gret=false:=h6;exact hn gT w h7 hI
   ·obtain rfl:gret=true:=h5;exact hr gT _ w h6 hI
  |@step f fs0 w h1 _ ih=>
   intro hI;exact .step h1 fun τ d f' fs' w' es e=>ih τ d f' fs' w' es e ((hI.re τ d).step hC e)
 exact hgo ht hI0
theorem WTI.run(hC:Closed P X A K)(hR:ReOk Node Stop)(hX1:X1 far=false)(hC1:Closed P X1 A1 K){c:Code}(hc:codeB P X1 A1 (K fn) c=true)
  (hwp:∀τ d,c.wp P (fun e a w'=>(e= .normal/\WTI P X A K Node Stop m ⟨fn,a.tmps,k,false⟩ fs w')\/(e= .ret/\∀todo,WTI P X A K Node Stop m ⟨fn,a.tmps,todo,true⟩ fs w')) ⟨T,[]⟩ (w.re τ d)):
  WTI P X A K Node Stop m ⟨fn,T,.code c::k,false⟩ fs w:=by
 refine WTI.code hC hX1 hC1 hc (Q:=fun e a w'=>(e= .normal/\WTI P X A K Node Stop m ⟨fn,a.tmps,k,false⟩ fs w')\/(e= .ret/\∀todo,WTI P X A K Node Stop m ⟨fn,a.tmps,todo,true⟩ fs w')) (fun e a w h=>h.imp (·.1) (·.1)) (fun e a w τ d h=>?_) hwp (fun T' w' h=>?_) (fun T' todo w' h=>?_)
 ·exact h.imp (fun x=>⟨x.1,x.2.re hR τ d⟩) (fun x=>⟨x.1,fun todo=>(x.2 todo).re hR τ d⟩)
 ·rcases h with h|h
  ·exact h.2
  ·cases h.1
 ·rcases h with h|h
  ·cases h.1
  ·exact h.2 todo
def noPan(Kn Kr:Act->World->Prop):Exit->Act->World->Prop
 | .normal,a,w=>Kn a w
 | .ret,a,w=>Kr a w
 |_,_,_=>False
theorem WTI.run2(hC:Closed P X A K)(hR:ReOk Node Stop)(hX1:X1 far=false)(hC1:Closed P X1 A1 K){c:Code}(hc:codeB P X1 A1 (K fn) c=true)
  (hwp:∀τ d,c.wp P (noPan (fun a w'=>WTI P X A K Node Stop m ⟨fn,a.tmps,k,false⟩ fs w') (fun a w'=>∀todo,WTI P X A K Node Stop m ⟨fn,a.tmps,todo,true⟩ fs w')) ⟨T,[]⟩ (w.re τ d)):
  WTI P X A K Node Stop m ⟨fn,T,.code c::k,false⟩ fs w:=by
 refine WTI.code hC hX1 hC1 hc (Q:=noPan (fun a w'=>WTI P X A K Node Stop m ⟨fn,a.tmps,k,false⟩ fs w') (fun a w'=>∀todo,WTI P X A K Node Stop m ⟨fn,a.tmps,todo,true⟩ fs w')) (fun e a w h=>?_) (fun e a w τ d h=>?_) hwp (fun T' w' h=>h) (fun T' todo w' h=>h todo)
 ·cases e<;>first|exact .inl rfl|exact .inr rfl|exact h.elim
 ·cases e<;>first|exact h.re hR τ d|exact fun todo=>(h todo).re hR τ d|exact h.elim
end
end Go.Frag
namespace Go.Proofs.Ytmfpiodlecapiaa
open Go.Conc Go.RowKit Go.Frag Go.Ren Go.Grp Go.Deep
attribute [local go_sem↓] Go.wp_at_zero Go.wp_at_succ
theorem inn_finish{P:Program}{X A:FuncId->Bool}{K:FuncId->Nat->Nat}{f:Fr}{fs:List Fr}{w:World}(h:Inn P X A K f fs w){ops:Array Oper}{i:Nat}{rest:List Nat}{k:List Item}(htd:f.todo= .inRegion ops (i::rest)::k){o:Oper}(ho:ops[i]? =some o){v:Value}(hv:∀(ρ:Array Nat) d,o.dst=some d->CR ρ (K f.fn d) v v):Inn P X A K (f.finish v) fs w:=by
 obtain⟨ρ,h1,h2⟩:=h;have hF:Foll P X A K ρ w f fs f fs w:=⟨h1,by rw[re_self];exact h2⟩;have:=fol_finish hF htd ho (hv ρ);exact⟨ρ,this.st,by have h:=this.wr;rwa [re_self]at h⟩
theorem cr_poll(ρ:Array Nat)(n:Int):CR ρ 4 (.tuple #[.int .i64 n,.bool false,.agg #[]]) (.tuple #[.int .i64 n,.bool false,.agg #[]]):=by
 refine(⟨_,_,rfl,rfl,rfl,fun i x x' h1 h2=>?_,fun i x x' hi h1 h2=>?_⟩:CR ρ 4 _ _)
 ·rw[h1]at h2;obtain rfl:=Option.some.inj h2;match i,h1 with
  |0,h1=>obtain rfl:=Option.some.inj h1;exact .int _ _
  |1,h1=>obtain rfl:=Option.some.inj h1;exact .bool _
  |2,h1=>obtain rfl:=Option.some.inj h1;exact .agg rfl fun i v v' h=>by simp at h
  |i+3,h1=>simp at h1
 ·rw[h1]at h2;obtain rfl:=Option.some.inj h2;match i,h1,hi with
  |0,h1,_=>obtain rfl:=Option.some.inj h1;exact .int _ _
  |1,h1,_=>obtain rfl:=Option.some.inj h1;exact .bool _
theorem poll_re(Dn:Nat)(ops:Array Oper)(s:Stt Nat)(Next:Stt Nat->Prop)(τ:Nat->Question->Nat)(d:Nat)(h:PollAt Dn ops s Next):PollAt Dn ops (s.re τ d) (fun s'=>∃s0,Next s0/\s'=s0.re τ d):=by
 obtain⟨T,rest,k,h1,h2,h3⟩:=h;refine⟨T,rest,k,h1,h2,fun s' hs=>?_⟩;rcases hs with rfl|rfl
 ·exact⟨_,h3 _ (.inl rfl),rfl⟩
 ·exact⟨_,h3 _ (.inr rfl),rfl⟩
section
variable {Dn:Nat} {Stop:Stt Nat->Prop} {fs:List Fr} {w:World}
set_option maxRecDepth 100000 in
theorem WTI.poll{m:Nat}{T:Array Value}{rest:List Nat}{k:List Item}(hT:T[3]? =some (.chan (some Dn)))
  (h1:WTI Try.prog outside2 inside2 kls (PollAt Dn (qV (qT 2 (Try.f122.body.getD .skip)))) Stop m ((⟨122,T,.inRegion (qV (qT 2 (Try.f122.body.getD .skip))) (0::rest)::k,false⟩:Fr).finish (.tuple #[.int .i64 (-1),.bool false,.agg #[]])) fs w)
  (h2:WTI Try.prog outside2 inside2 kls (PollAt Dn (qV (qT 2 (Try.f122.body.getD .skip)))) Stop 1 ((⟨122,T,.inRegion (qV (qT 2 (Try.f122.body.getD .skip))) (0::rest)::k,false⟩:Fr).finish (.tuple #[.int .i64 0,.bool false,.agg #[]])) fs w):
  WTI Try.prog outside2 inside2 kls (PollAt Dn (qV (qT 2 (Try.f122.body.getD .skip)))) Stop m ⟨122,T,.inRegion (qV (qT 2 (Try.f122.body.getD .skip))) (0::rest)::k,false⟩ fs w:=by
 intro hI;refine .node (Next:=fun s'=>s'=⟨m,_,fs,w⟩\/s'=⟨1,_,fs,w⟩) ⟨T,rest,k,rfl,hT,fun s' hs=>hs⟩ (fun s' hs=>?_);have hv:∀(n:Int) (ρ:Array Nat) d,((qV (qT 2 (Try.f122.body.getD .skip)))[0]).dst=some d->CR ρ (kls 122 d) (.tuple #[.int .i64 n,.bool false,.agg #[]]) (.tuple #[.int .i64 n,.bool false,.agg #[]]):=by
  intro n ρ d hd;have hd:some 4=some d:=hd;obtain rfl:=Option.some.inj hd;exact cr_poll ρ n
 rcases hs with rfl|rfl
 ·exact h1 (inn_finish hI rfl rfl (hv (-1)))
 ·exact h2 (inn_finish hI rfl rfl (hv 0))
set_option maxRecDepth 100000 in
set_option maxHeartbeats 2000000 in
theorem given_tree(hR:ReOk (PollAt Dn (qV (qT 2 (Try.f122.body.getD .skip)))) Stop){cfn:FuncId}{cT:Array Value}{cops:Array Oper}{ci:Nat}{crest:List Nat}{ck:List Item}{o:Oper}(ho:cops[ci]? =some o)
  (h1:WTI Try.prog outside2 inside2 kls (PollAt Dn (qV (qT 2 (Try.f122.body.getD .skip)))) Stop 0 ⟨cfn,((⟨cT,[]⟩:Act).put o.dst (.bool false)).tmps,.inRegion cops crest::ck,false⟩ fs w)
  (h2:WTI Try.prog outside2 inside2 kls (PollAt Dn (qV (qT 2 (Try.f122.body.getD .skip)))) Stop 1 ⟨cfn,((⟨cT,[]⟩:Act).put o.dst (.bool true)).tmps,.inRegion cops crest::ck,false⟩ fs w):
  WTI Try.prog outside2 inside2 kls (PollAt Dn (qV (qT 2 (Try.f122.body.getD .skip)))) Stop 0 ⟨122,#[.chan (some Dn),undef,undef,undef,undef,undef,undef],[.code (Try.f122.body.getD .skip)],false⟩ (⟨cfn,cT,.inRegion cops (ci::crest)::ck,false⟩::fs) w:=by
 have hC:=closed2;conv=>arg 8;simp only[Try.f122,Option.getD_some]
 refine WTI.seq hC hR (WTI.run hC hR plain_out closed (by kernel_rfl) fun τ d=>?_);go_wp2;refine WTI.re hR ?_ _ _;refine WTI.seq hC hR (WTI.run hC hR plain_out closed (by kernel_rfl) fun τ d=>?_);go_wp2;refine WTI.re hR ?_ _ _;refine WTI.seq hC hR (WTI.reg hC hR (l:= [0,1,2]) rfl ?_);refine WTI.poll (m:=0) (rest:= [1,2]) rfl ?_ ?_
 ·simp only[Fr.finish,Try.f122,Option.getD_some,qT,qV];refine WTI.op hC rfl rfl (fun τ d K hK=>?_);go_simp;refine hK _ _ (WTI.re hR ?_ _ _);clear hK;try walk_nrm
  refine WTI.op hC rfl rfl (fun τ d K hK=>?_);go_simp;refine hK _ _ (WTI.re hR ?_ _ _);clear hK;try walk_nrm
  refine WTI.regEnd hC hR (WTI.run hC hR plain_out closed (by kernel_rfl) fun τ d=>?_);go_wp2;intro todo;refine WTI.re hR ?_ _ _;exact WTI.back hC hR ho Try.func122 (v:=.bool false) (by simp[results,Try.f122,go_sem]) (by simp[results,Try.f122]) h1
 ·simp only[Fr.finish,Try.f122,Option.getD_some,qT,qV];refine WTI.op hC rfl rfl (fun τ d K hK=>?_);go_simp;refine hK _ _ (WTI.re hR ?_ _ _);clear hK;try walk_nrm
  refine WTI.op hC rfl rfl (fun τ d K hK=>?_);go_simp;refine hK _ _ (WTI.re hR ?_ _ _);clear hK;try walk_nrm
  refine WTI.regEnd hC hR (WTI.run hC hR plain_out closed (by kernel_rfl) fun τ d=>?_);go_wp2;intro todo;refine WTI.re hR ?_ _ _;exact WTI.back hC hR ho Try.func122 (v:=.bool true) (by simp[results,Try.f122,go_sem]) (by simp[results,Try.f122]) h2
structure Kt(X:Nat->Prop)(w w':World):Prop where
 size:w.heap.size<=w'.heap.size
 block:∀k,k<w.heap.size->¬X k->w'.heap[k]? =w.heap[k]?
theorem Kt.refl(X:Nat->Prop)(w:World):Kt X w w:=⟨Nat.le_refl _,fun _ _ _=>rfl⟩
theorem Kt.trans{X:Nat->Prop}{a b c:World}(h:Kt X a b)(h':Kt X b c):Kt X a c:=⟨Nat.le_trans h.size h'.size,fun k hk hx=>(h'.block k (Nat.lt_of_lt_of_le hk h.size) hx).trans (h.block k hk hx)⟩
theorem Kt.of_kp{X:Nat->Prop}{a b:World}(h:Kp X a b):Kt X a b:=⟨h.size,h.block⟩
theorem Kt.join{X Y:Nat->Prop}{a b c:World}(h:Kt X a b)(h':Kt Y b c)(hy:∀k,Y k->X k\/a.heap.size<=k):Kt X a c:=⟨Nat.le_trans h.size h'.size,fun k hk hx=>(h'.block k (Nat.lt_of_lt_of_le hk h.size) fun y=>(hy k y).elim hx fun hl=>by omega).trans (h.block k hk hx)⟩
theorem RvAt.kt{X:Nat->Prop}{a b:World}{rv:Value}{n c:Nat}{rg:Nat->Nat}(h:RvAt a rv n c rg)(hk:Kt X a b)(hx:∀g,0<n->(∀i,i<n->rg i≠g)->g<a.heap.size->¬X g):RvAt b rv n c rg:=by
 obtain⟨ad,cap,rfl,h1⟩:=h;refine⟨ad,cap,rfl,fun hn=>?_⟩;obtain⟨g,rfl,h2,h3⟩:=h1 hn;refine⟨g,rfl,fun i hi=>?_,h3⟩;have h4:=h2 i hi;have hg:g<a.heap.size:=by
  have:=h4;unfold World.cell? at this;cases hb:a.heap[g]? with
  |none=>rw[hb]at this;simp at this
  |some o=>exact(Array.getElem?_eq_some_iff.1 hb).1
 have e:=hk.block g hg (hx g hn h3 hg);unfold World.cell? at h4⊢;rw[e];exact h4
set_option maxRecDepth 100000 in
set_option maxHeartbeats 4000000 in
theorem solve_loop(hR:ReOk (PollAt Dn (qV (qT 2 (Try.f122.body.getD .skip)))) Stop){cfn:FuncId}{cT:Array Value}{cops:Array Oper}{ci:Nat}{crest:List Nat}{ck:List Item}{o:Oper}(ho:cops[ci]? =some o){n c:Nat}{rg:Nat->Nat}{M:Nat->Nat->Nat}{rv:Value}{w0:World}(hnc:n<=c)(hc:c<=65536)(hrv:RvAt w0 rv n c rg)(hpiv:∀k,k<n->Gs.it n M k k k≠0)
  (h1:∀w,Kt (fun b=>∃i,i<n/\b=rg i) w0 w->RowsAt w n c rg (Gs.it n M n)->WTI Try.prog outside2 inside2 kls (PollAt Dn (qV (qT 2 (Try.f122.body.getD .skip)))) Stop 0 ⟨cfn,((⟨cT,[]⟩:Act).put o.dst (.bool true)).tmps,.inRegion cops crest::ck,false⟩ fs w)
  (h2:∀w,Kt (fun b=>∃i,i<n/\b=rg i) w0 w->WTI Try.prog outside2 inside2 kls (PollAt Dn (qV (qT 2 (Try.f122.body.getD .skip)))) Stop 1 ⟨cfn,((⟨cT,[]⟩:Act).put o.dst (.bool false)).tmps,.inRegion cops crest::ck,false⟩ fs w):
  ∀(r k:Nat),k+r=n->∀(j2 j3 j4 j5 j6 j7 j8 j12 j13 j14 j15 j16 j17 j18 j19 j20 j21 j22 j23 j24 j25 j26 j27 j28 j29 j30 j31 j32 j33 j34 j35 j36 j37 j38 j39 j40 j41 j42 j43 j44 j45:Value) (w:World),Kt (fun b=>∃i,i<n/\b=rg i) w0 w->RowsAt w n c rg (Gs.it n M k)->WTI Try.prog outside2 inside2 kls (PollAt Dn (qV (qT 2 (Try.f122.body.getD .skip)))) Stop 0 ⟨111,#[rv,.chan (some Dn),j2,j3,j4,j5,j6,j7,j8,rv,.int .i64 n,.int .i64 k,j12,j13,j14,j15,j16,j17,j18,j19,j20,j21,j22,j23,j24,j25,j26,j27,j28,j29,j30,j31,j32,j33,j34,j35,j36,j37,j38,j39,j40,j41,j42,j43,j44,j45],[.code (pth [1,0,1,0,0] (Try.f111.body.getD .skip)),.inLoop (pth [1,0,1,0,0] (Try.f111.body.getD .skip)),.inBlock 0,.code (pth [1,1] (Try.f111.body.getD .skip))],false⟩ (⟨cfn,cT,.inRegion cops (ci::crest)::ck,false⟩::fs) w:=by
 have hC:=closed2;have hX:∀g,0<n->(∀i,i<n->rg i≠g)->g<w0.heap.size->¬∃i,i<n/\g=rg i:=by
  rintro g _ h _ ⟨i,hi,e⟩;exact h i hi e.symm
 intro r;induction r with
 |zero=>
  intro k hkn j2 j3 j4 j5 j6 j7 j8 j12 j13 j14 j15 j16 j17 j18 j19 j20 j21 j22 j23 j24 j25 j26 j27 j28 j29 j30 j31 j32 j33 j34 j35 j36 j37 j38 j39 j40 j41 j42 j43 j44 j45 w hkt hrows;obtain rfl:k=n:=by omega
  obtain⟨ra,rcap,rfl,_⟩:=hrv;conv=>arg 8;simp only[Try.f111,Option.getD_some,pth]
  refine WTI.seq hC hR (WTI.run hC hR plain_out closed (by kernel_rfl) fun τ d=>?_);go_wp2;refine WTI.re hR ?_ _ _;refine WTI.seq hC hR (WTI.no hC hR (by first|rfl|simp[Act.eval]) (WTI.exit hC hR rfl ?_));refine WTI.run hC hR plain_out closed (by kernel_rfl) fun τ d=>?_;go_wp2;intro todo;refine WTI.re hR ?_ _ _;exact WTI.back hC hR ho Try.func111 (v:=.bool true) (by simp[results,Try.f111,go_sem]) (by simp[results,Try.f111]) (h1 w hkt hrows)
 |succ r ih=>
  intro k hkn j2 j3 j4 j5 j6 j7 j8 j12 j13 j14 j15 j16 j17 j18 j19 j20 j21 j22 j23 j24 j25 j26 j27 j28 j29 j30 j31 j32 j33 j34 j35 j36 j37 j38 j39 j40 j41 j42 j43 j44 j45 w hkt hrows;have hk:k<n:=by omega
  have hrvw:=hrv.kt hkt hX;have hrv2:=hrvw;obtain⟨ra,rcap,rfl,hh⟩:=hrvw;obtain⟨g,rfl,hcell,hng⟩:=hh (by omega);have hcw:=hcell k hk;clear hh hcell hng;have hk0:(0:Int)<=(k:Int):=by omega
  have hk1:(k:Int)<(n:Int):=by omega
  have hkw:IntKind.i64.wrap ((k:Int)+1)=((k+1:Nat):Int):=qB _ (by omega) (by omega);conv=>arg 8;simp only[Try.f111,Option.getD_some,pth]
  refine WTI.seq hC hR (WTI.run hC hR plain_out closed (by kernel_rfl) fun τ d=>?_);go_wp2;refine WTI.re hR ?_ _ _;refine WTI.seq hC hR (WTI.yes hC hR (by first|rfl|simp[Act.eval,hk1]) (WTI.skip hC hR ?_));refine WTI.seq hC hR (WTI.block hC hR (WTI.seq hC hR (WTI.run hC hR plain_out closed (by kernel_rfl) fun τ d=>?_)));have hcw':(w.re τ d).cell? ⟨g,k,none⟩=some (.slice (some ⟨rg k,0,none⟩) c c):=hcw;go_wp2;refine WTI.re hR ?_ _ _;clear hcw';refine WTI.seq hC hR (WTI.seq hC hR (WTI.reg hC hR (l:= [0,1]) rfl ?_));refine WTI.op hC rfl rfl (fun τ d K hK=>?_);go_simp;refine hK _ _ (WTI.re hR ?_ _ _);clear hK;try walk_nrm
  refine WTI.callT hC hR rfl rfl rfl Try.func122 rfl rfl (T':=#[.chan (some Dn),undef,undef,undef,undef,undef,undef]) (by first|rfl|simp[Act.eval,Try.f122]) ?_;refine given_tree hR (o:=?o) ?ho ?g1 ?g2
  case ho=>rfl
  case g1=>
   try walk_nrm
   refine WTI.regEnd hC hR (WTI.no hC hR (by first|rfl|simp[Act.eval]) (WTI.skip hC hR ?_));refine WTI.run hC hR plain_out closed (by kernel_rfl) fun τ d=>?_;refine round_wp (w:=w.re τ d) hk hnc hc hrv2 (show RowsAt (w.re τ d) n c rg (Gs.it n M k)from⟨hrows.row,hrows.inj,hrows.lt⟩) (hpiv k hk) (fun h7 h8 h18 h19 h20 h21 h22 h23 h24 h25 h26 h27 h28 h29 h30 h31 h32 h33 h34 h35 h36 h37 h38 h39 h40 h41 h42 h43 h44 w' hkp hr2=>.inl ⟨rfl,?_⟩);have hkt2:Kt (fun b=>∃i,i<n/\b=rg i) w0 w':=hkt.trans (have q:=Kt.of_kp hkp;⟨q.size,q.block⟩);clear hkp hcw hrv2 hrows hkt;refine WTI.inBlock hC hR (WTI.run hC hR plain_out closed (by kernel_rfl) fun τ d=>?_);go_wp2;refine WTI.re hR ?_ _ _;refine WTI.inLoop hC hR ?_;exact ih (k+1) (by omega) _ _ _ _ _ _ _ _ _ _ _ _ _ _ _ _ _ _ _ _ _ _ _ _ _ _ _ _ _ _ _ _ _ _ _ _ _ _ _ _ _ w' hkt2 hr2
  case g2=>
   try walk_nrm
   refine WTI.regEnd hC hR (WTI.yes hC hR (by first|rfl|simp[Act.eval]) ?_);refine WTI.run hC hR plain_out closed (by kernel_rfl) fun τ d=>?_;go_wp2;intro todo;refine WTI.re hR ?_ _ _;exact WTI.back hC hR ho Try.func111 (v:=.bool false) (by simp[results,Try.f111,go_sem]) (by simp[results,Try.f111]) (h2 w hkt)
set_option maxRecDepth 100000 in
set_option maxHeartbeats 4000000 in
theorem solve_tree(hR:ReOk (PollAt Dn (qV (qT 2 (Try.f122.body.getD .skip)))) Stop){cfn:FuncId}{cT:Array Value}{cops:Array Oper}{ci:Nat}{crest:List Nat}{ck:List Item}{o:Oper}(ho:cops[ci]? =some o){n c:Nat}{rg:Nat->Nat}{M:Nat->Nat->Nat}{rv:Value}{w0:World}(hnc:n<=c)(hc:c<=65536)(hrv:RvAt w0 rv n c rg)(hrows:RowsAt w0 n c rg M)(hpiv:∀k,k<n->Gs.it n M k k k≠0)
  (h1:∀w,Kt (fun b=>∃i,i<n/\b=rg i) w0 w->RowsAt w n c rg (Gs.it n M n)->WTI Try.prog outside2 inside2 kls (PollAt Dn (qV (qT 2 (Try.f122.body.getD .skip)))) Stop 0 ⟨cfn,((⟨cT,[]⟩:Act).put o.dst (.bool true)).tmps,.inRegion cops crest::ck,false⟩ fs w)
  (h2:∀w,Kt (fun b=>∃i,i<n/\b=rg i) w0 w->WTI Try.prog outside2 inside2 kls (PollAt Dn (qV (qT 2 (Try.f122.body.getD .skip)))) Stop 1 ⟨cfn,((⟨cT,[]⟩:Act).put o.dst (.bool false)).tmps,.inRegion cops crest::ck,false⟩ fs w):
  WTI Try.prog outside2 inside2 kls (PollAt Dn (qV (qT 2 (Try.f122.body.getD .skip)))) Stop 0 ⟨111,#[rv,.chan (some Dn),undef,undef,undef,undef,undef,undef,undef,undef,undef,undef,undef,undef,undef,undef,undef,undef,undef,undef,undef,undef,undef,undef,undef,undef,undef,undef,undef,undef,undef,undef,undef,undef,undef,undef,undef,undef,undef,undef,undef,undef,undef,undef,undef,undef],[.code (Try.f111.body.getD .skip)],false⟩ (⟨cfn,cT,.inRegion cops (ci::crest)::ck,false⟩::fs) w0:=by
 have hC:=closed2;have hL:=solve_loop (fs:=fs) hR ho hnc hc hrv hpiv h1 h2;obtain⟨ra,rcap,rfl,_⟩:=hrv;conv=>arg 8;simp only[Try.f111,Option.getD_some]
 conv at hL=>simp only[Try.f111,Option.getD_some,pth]
 refine WTI.seq hC hR (WTI.run hC hR plain_out closed (by kernel_rfl) fun τ d=>?_);go_wp2;refine WTI.re hR ?_ _ _;refine WTI.seq hC hR (WTI.seq hC hR (WTI.run hC hR plain_out closed (by kernel_rfl) fun τ d=>?_));go_wp2;refine WTI.re hR ?_ _ _;refine WTI.block hC hR (WTI.loop hC hR ?_);exact hL n 0 (by omega) _ _ _ _ _ _ _ _ _ _ _ _ _ _ _ _ _ _ _ _ _ _ _ _ _ _ _ _ _ _ _ _ _ _ _ _ _ _ _ _ _ w0 (Kt.refl _ _) hrows
end
end Go.Proofs.Ytmfpiodlecapiaa
namespace Go.Proofs.Ytmfpiodlecapiaa
open Go.RowKit Go.Deep
attribute [local go_sem↓] Go.wp_at_zero Go.wp_at_succ
def eqRow(m s j:Nat)(kn:Nat->Option (List Nat))(R:List Nat):Nat->List Nat
 |0=>R
 |i+1=>match kn i with
  |none=>eqRow m s j kn R i
  |some b=>addUp (eqRow m s j kn R i) m b (Pk.weight j i) s
theorem eqRow_length(m s j:Nat)(kn:Nat->Option (List Nat))(R:List Nat):∀i,(eqRow m s j kn R i).length=R.length
 |0=>rfl
 |i+1=>by
  have ih:=eqRow_length m s j kn R i;simp only[eqRow];split
  ·exact ih
  ·rw[addUp_length];exact ih
theorem eqRow_lt{m s j:Nat}{kn:Nat->Option (List Nat)}{R:List Nat}(hj:j<32)(hR:∀x∈R,x<256)(hk:∀i b,kn i=some b->∀x∈b,x<256):∀i,i<=32->∀x∈eqRow m s j kn R i,x<256
 |0,_=>hR
 |i+1,hi=>by
  have ih:=eqRow_lt (m:=m) (s:=s) hj hR hk i (by omega);simp only[eqRow];split
  ·exact ih
  ·rename_i b hb;exact addUp_lt ih (hk i b hb) (Pk.weight_lt hj (by omega))
def KnownAt(w:World)(v:Value):Option (List Nat)->Prop
 |none=>v= .slice none 0 0
 |some b=>Bytes w v b
set_option maxRecDepth 20000 in
theorem equation_walk(gO capO gL capL pb po pcap j m s K c:Nat)(cur curL:List Value)(L:List Nat)(kn:Nat->Option (List Nat))(bs:List Nat)(hm:Hid (L.length=m))(hs:Hid (bs.length=s))(hK:K<=32)(hj:j<32)(hm1:m<=32)(hs1:s<=65536)(hs0:1<=s)(hc:Hid (m+s=c))(hcc:c<=65568)(hLlt:∀x∈L,x<32)(hbs:∀x∈bs,x<256)(w:World)
  (hO:qS w gO 36 cur)(hkn:∀i,i<K->∃v,cur[i]? =some v/\KnownAt w v (kn i))(hks:∀i b,kn i=some b->b.length=s/\∀x∈b,x<256)
  (hL:qS w gL 3 curL)(htL:Hid (curL.take m=i64s L))(hP:∀q,q<s->w.cell? ⟨pb,po+q,none⟩=some (.int .u8 ((bs[q]?.getD 0:Nat):Int)))(hpb:pb<w.heap.size):
  Calls Try.prog 110 #[.slice (some ⟨gO,0,none⟩) K capO,.slice (some ⟨gL,0,none⟩) m capL,.int .i64 j,.slice (some ⟨pb,po,none⟩) s pcap] w fun e w'=>
   e= .returned (.slice (some ⟨w.heap.size,0,none⟩) c c)/\Below w.heap.size w w'/\qS w' w.heap.size 5 (u8s (eqRow m s j kn (L.map (Pk.weight j ·)++bs) K)):=by
 obtain⟨i0,hi,hz0,hz1,hz2⟩:=info_parts Try.infoByte;have hgO:=hO.lt;have hgL:=hL.lt;have HO:=hide hO;have HL:=hide hL;have HP:=hide hP;have HK:=hide hkn;have HS:=hide hks
 clear hO hL hP hkn hks;obtain⟨U,hU0⟩:∃U,U=u8s (L.map (Pk.weight j ·)++bs):=⟨_,rfl⟩;have hUl:Hid (U.length=c):=by
  show _=_;rw[hU0,u8s_length,List.length_append,List.length_map,hm.out,hs.out,hc.out]
 have hU:=hide hU0;clear hU0;have hcm:Hid ((m:Int)+(s:Int)=(c:Int)):=by
  show _=_;have:=hc.out;omega
 have hadd:(m:Int)+(s:Int)=(c:Int):=hcm.out;clear hcm;go_enter Try.func110,Try.ntmps110;go_wp2_with (at_make;refine wpList_mk _ rfl _ _ 36 rfl 5 i0 (.int .u8 0) Try.underlying36 hi hz0 hz1 rfl .i64 .i64 0 c rfl (by simp[Act.eval]) (by omega) (by rw[hz2];omega) (by omega) ?_)
 have hb0:Hid (Below w.heap.size w (w.alloc (.cells (madeCells #[.int .u8 0] c) 5))):=(Below.refl _ _).alloc (Nat.le_refl _) _;have hr0:Hid (qS (w.alloc (.cells (madeCells #[.int .u8 0] c) 5)) w.heap.size 5 (fill U (.int .u8 0) 0)):=by
  show qS _ _ _ _;rw[fill_zero,hUl.out];exact rowL_made w (.int .u8 0) c 5
 go_loopw [9,22] (fun v x wr=>∃k:Nat,k<=m/\v= .slice (some ⟨w.heap.size,0,none⟩) k c/\x= .int .i64 k/\Below w.heap.size w wr/\w.heap.size<wr.heap.size/\qS wr w.heap.size 5 (fill U (.int .u8 0) k))
  (fun _ x _=>leftOf m (intOf x).toNat)
 case atStart=>exact⟨0,by omega,rfl,rfl,hb0.out,by simp,hr0.out⟩
 case round=>
  obtain⟨k,hk,rfl,rfl,hbw,hsz,hr⟩:=hrel;by_cases hlt:k<m
  ·have hkL:k<L.length:=by rw[hm.out];exact hlt
   have hcL:wr.cell? ⟨gL,k,none⟩=some (.int .i64 ((L[k]?.getD 0:Nat):Int)):=by
    apply (HL.out.below hbw hgL).cell;have:(curL.take m)[k]? =some (.int .i64 ((L[k]?.getD 0:Nat):Int)):=by rw[htL.out];exact i64s_at hkL
    rw[List.getElem?_take,if_pos hlt]at this;exact this
   have hx32:L[k]?.getD 0<32:=getD_lt hLlt hkL;have hd:Hid ((U.drop k).take 1= [.int .u8 ((Pk.weight j (L[k]?.getD 0):Nat):Int)]):=by
    show _=_;rw[hU.out];have hk2:k<(u8s (L.map (Pk.weight j ·)++bs)).length:=by rw[u8s_length,List.length_append,List.length_map];omega
    rw[List.drop_eq_getElem_cons hk2];simp[u8s,hkL]
   have hB:=hide hbw;have hR:=hide hr;have hSz:=hide hsz
   clear hbw hr hkL hsz;revert hcL hx32 hd;generalize L[k]?.getD 0=x;intro hcL hx32 hd;have hw:=Pk.weight_lt hj hx32;have hWt:=hide (fun w=>weight_walk j x hj hx32 w);revert hw hWt hd;generalize Pk.weight j x=wt;intro hd hw hWt;have hw8:IntKind.u8.wrap (wt:Int)=(wt:Int):=wrap_u8_in _ (by omega) (by omega);have hk0:(0:Int)<=(k:Int):=by omega
   have hk1:(k:Int)<(m:Int):=by omega
   have hroom:k+1<=c:=by have:=hc.out;omega
   go_wp2_with first|(go_at_call 94;refine(hWt.out _).mono ?_;rintro _ wq ⟨rfl,hq⟩;have hq2:=hq.symm;clear hq;subst hq2)|(at_builtin;refine wpList_fill _ rfl _ _ 36 rfl 5 i0 Try.underlying36 hi hz1 w.heap.size k c U (.int .u8 0) rfl hUl.out (hR.out.alloc _) ⟨wr.heap.size,0,none⟩ 1 1 [.int .u8 (wt:Int)] rfl rfl (cell_one_new _ _ _) (by intro u hu;simp at hu;subst hu;rfl) hd.out hroom ?_)
   intro w1 hr1 hg1;have hR1:=hide hr1;have hG1:=hide hg1
   clear hr1 hg1;go_wp2;go_roundw
   case rel=>
    have hs1:=hG1.out.size;have hs2:=hSz.out;refine⟨k+1,by omega,rfl,by go_num,(hB.out.alloc hB.out.size _).grown hG1.out (by simp;omega) (by intro q hq;simp at hq;omega),?_,hR1.out⟩;simp at hs1;omega
   case measure=>refine qD ?_ ?_<;>simp only[intOf]<;>omega
  ·have e:k=m:=by omega
   subst e;have hB:=hide hbw;have hR:=hide hr;have hSz:=hide hsz
   clear hbw hr hsz;have hnw:Hid (∀q u,(u8s bs)[q]? =some u->wr.cell? ((⟨pb,po,none⟩:Addr).add q)=some u):=fun q u hu=>by
    have hq:q<bs.length:=by have:=(List.getElem?_eq_some_iff.1 hu).1;rw[u8s_length]at this;exact this
    rw[u8s_at hq]at hu;rw[Addr.add_lit,hB.out.cell (by exact hpb),<-hu];exact HP.out q (by rw[<-hs.out];exact hq)
   have hd:Hid ((U.drop k).take s=u8s bs):=by
    show _=_;have e1:U=u8s (L.map (Pk.weight j ·))++u8s bs:=by rw[hU.out];simp[u8s]
    rw[e1,List.drop_left' (by rw[u8s_length,List.length_map];exact hm.out),List.take_of_length_le (by rw[u8s_length,hs.out];exact Nat.le_refl _)]
   have hcs:k+s=c:=hc.out;have hks2:Hid (k+s=c):=hcs;clear hcs;go_wp2_with (at_builtin;refine wpList_fill _ rfl _ _ 36 rfl 5 i0 Try.underlying36 hi hz1 w.heap.size k c U (.int .u8 0) rfl hUl.out hR.out ⟨pb,po,none⟩ s pcap (u8s bs) rfl (by rw[u8s_length,hs.out]) hnw.out (by intro u hu;obtain⟨x,_,rfl⟩:=List.mem_map.1 hu;rfl) hd.out (by rw[hks2.out];exact Nat.le_refl _) ?_)
   intro w1 hr1 hg1;rw[hks2.out]at hr1⊢;have hR1:Hid (qS w1 w.heap.size 5 (u8s (eqRow k s j kn (L.map (Pk.weight j ·)++bs) 0))):=by
    show qS _ _ _ _;have:=hr1;rw[<-hUl.out,fill_all,hU.out]at this;exact this
   have hB1:Hid (Below w.heap.size w w1):=hB.out.grown hg1 hB.out.size (by intro q hq;simp at hq;omega);clear hr1 hg1 hR hB hnw hd;go_wp2;go_loopw [39] (fun x wr=>∃i:Nat,i<=K/\x= .int .i64 i/\Below w.heap.size w wr/\qS wr w.heap.size 5 (u8s (eqRow k s j kn (L.map (Pk.weight j ·)++bs) i)))
    (fun x _=>leftOf K (intOf x).toNat)
   case atStart=>exact⟨0,by omega,rfl,hB1.out,hR1.out⟩
   case round=>
    obtain⟨i,hi2,rfl,hbw,hr⟩:=hrel;by_cases hlt2:i<K
    ·obtain⟨v,hv1,hv2⟩:=HK.out i hlt2;have hcO:wr.cell? ⟨gO,i,none⟩=some v:=(HO.out.below hbw hgO).cell i v hv1;have hWt:=hide (fun w=>weight_walk j i hj (by omega) w);have hwl:=Pk.weight_lt (j:=j) (i:=i) hj (by omega);have hRl:=eqRow_length k s j kn (L.map (Pk.weight j ·)++bs) i;have hR0:∀x∈L.map (Pk.weight j ·)++bs,x<256:=fun x hx=>by
      rcases List.mem_append.1 hx with h|h
      ·obtain⟨y,hy,rfl⟩:=List.mem_map.1 h;exact Pk.weight_lt hj (hLlt y hy)
      ·exact hbs x h
     have hA:Hid (Calls Try.prog 93 #[.slice (some ⟨w.heap.size,k,none⟩) s s,v,.int .i64 (Pk.weight j i:Nat)] wr.drew fun e w'=>
       e= .returned (.tuple #[])/\wr.drew.grownBy w' (some w.heap.size)/\qS w' w.heap.size 5 (u8s (eqRow k s j kn (L.map (Pk.weight j ·)++bs) (i+1)))):=by
      show Calls ..;cases hki:kn i with
      |none=>
       rw[hki]at hv2;obtain rfl:v= .slice none 0 0:=hv2;refine(addTimes_nil _ _ _).mono ?_;rintro e w' ⟨rfl,rfl⟩;refine⟨rfl,World.grownBy.refl _ _,?_⟩;simp only[eqRow,hki];exact hr.drew
      |some b=>
       rw[hki]at hv2;obtain⟨b0,o0,c0,rfl,hcap,hlt0,hcl⟩:Bytes w v b:=hv2;have hbl:b.length=s:=(HS.out i b hki).1;have hRlt:=eqRow_lt (m:=k) (s:=s) (kn:=kn) hj hR0 (fun i' b' hb'=>(HS.out i' b' hb').2) i (by omega);have e0:eqRow k s j kn (L.map (Pk.weight j ·)++bs) (i+1)=addUp (eqRow k s j kn (L.map (Pk.weight j ·)++bs) i) k b (Pk.weight j i) s:=by simp only[eqRow,hki]
       rw[e0,hbl];refine addTimesAt_walk w.heap.size k s s b0 o0 c0 (Pk.weight j i) s _ b hbl hs1 (Nat.le_refl _) ?_ hlt0 hRlt hwl wr.drew ?_ hr.drew (fun q hq=>?_)
       ·rw[hRl,List.length_append,List.length_map,hm.out,hs.out];exact Nat.le_refl _
       ·have:=cellLt (hcl 0 (by omega));simp only at this;omega
       ·have:=cellLt (hcl 0 (by omega));show wr.cell? _=_;rw[hbw.cell (by exact this)];exact hcl q (by omega)
     have hB:=hide hbw;clear hbw hr hv1 hv2 hRl hR0;revert hWt hA hwl;generalize Pk.weight j i=wt;intro hWt hwl hA;have hi0:(0:Int)<=(i:Int):=by omega
     have hi1:(i:Int)<(K:Int):=by omega
     have hkc:(k:Int)<=(c:Int):=by have:=hc.out;omega
     have hcs1:c-k=s:=by have:=hc.out;omega
     have hcs2:(c:Int)-(k:Int)=(s:Int):=by have:=hc.out;omega
     have hck:¬c=k:=by have:=hc.out;omega
     go_wp2_with fail
     go_region_with (first|(go_at_call 94;refine(hWt.out _).mono ?_;rintro _ _ ⟨rfl,rfl⟩)|(go_at_call 93;refine hA.out.mono ?_;rintro _ w1 ⟨rfl,hg1,hr1⟩;replace hg1:=hide hg1;replace hr1:=hide hr1))
     all_goals
      go_wp2;go_roundw
      case rel=>exact⟨i+1,by omega,by go_num,(hB.out.drew.grown hg1.out hB.out.size (by intro q hq;simp at hq;omega)),hr1.out⟩
      case measure=>refine qD ?_ ?_<;>simp only[intOf]<;>omega
    ·have e:i=K:=by omega
     subst e;have hB:=hide hbw;have hR:=hide hr
     clear hbw hr;go_wp2;go_ret;exact⟨rfl,hB.out,hR.out⟩
end Go.Proofs.Ytmfpiodlecapiaa
