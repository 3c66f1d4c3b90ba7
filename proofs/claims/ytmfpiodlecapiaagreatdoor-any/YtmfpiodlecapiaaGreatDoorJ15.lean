import Derived.Test.YtmfpiodlecapiaaGreatDoorJ14
import Derived.Conc.Walk
namespace Go.eO
open Go.Ren Go.bB Go.Conc
open Go.ConcN (sumTo upd sumTo_upd upd_ne upd_same)
variable {P:Program} {X A:FuncId->Bool} {Sh:Nat->Prop} {Post:(Nat->Prop)->Goroutine->World->Prop}
theorem aj.WB{g:Goroutine}{p:World}(hrun:g.status= .running)
  (h:∀u:World,PS Sh (p.re u.tape u.drawn) u->∃g' p' u' es,stepG P true g u= .go g' u' es/\PS Sh (p'.re u'.tape u'.drawn) u'/\u.heap.size<=u'.heap.size/\(∀e∈es,EvL (O_ Sh) u'.heap.size e)/\
   ∀gs1 sl1 t1 q1,Xm P Sh g' p' gs1 u' t1 q1->(es=#[]->Past (O_ Sh) u.heap.size t1)->∃(N:Nat) (sS:Nat->Prop) (g2:Goroutine) (p2:World) (gs2:Array Goroutine) (u2:World) (sl2:Option (Nat×Nat)) (t2:Trace) (q2:Nat->Nat),
    runNT P N (crowd gs1 u' sl1) t1=(.next (crowd gs2 u2 sl2),t2)/\Xm P sS g2 p2 gs2 u2 t2 q2/\Post sS g2 p2):aj P Sh g p Post:=by
 have main:∀(M:Nat) (gs:Array Goroutine) (u:World) (sl:Option (Nat×Nat)) (t:Trace) (q:Nat->Nat),sumTo gs.size q<=M->Xm P Sh g p gs u t q->
   ∃(N:Nat) (Sh':Nat->Prop) (g':Goroutine) (p':World) (gs':Array Goroutine) (u':World) (sl':Option (Nat×Nat)) (t':Trace) (q':Nat->Nat),
    runNT P N (crowd gs u sl) t=(.next (crowd gs' u' sl'),t')/\Xm P Sh' g' p' gs' u' t' q'/\Post Sh' g' p':=by
  intro M;induction M using Nat.strongRecOn with
  |ind M ihM=>
   intro gs u sl t q hM hb;obtain⟨h0,hps,hL,hP⟩:=hb;have haw:∀g∈gs,awake g:=by
    intro x hg;obtain⟨i,hi,rfl⟩:=Array.mem_iff_getElem.1 hg;rcases Nat.eq_zero_or_pos i with rfl|hpos
    ·have:gs[0]=g:=by simpa[Array.getElem?_eq_getElem hi]using h0
     rw[this];exact awake_of (.inl hrun)
    ·exact awake_of ((hL.old i _ hpos (Array.getElem?_eq_getElem hi)).status.elim .inl fun x=>.inr (.inr x))
   obtain⟨i,x,d,sl',hi,hg,hst⟩:=crowd_pick (P:=P) (w:=u) (sl:=sl) haw ⟨0,_,h0,hrun⟩;rcases Nat.eq_zero_or_pos i with rfl|hpos
   ·obtain rfl:x=g:=by rw[h0]at hi;exact(Option.some.inj hi).symm
    have Da:PS Sh (p.re u.tape d) (u.at d):=by
     have:=hps.at d;exact this
    obtain⟨g',p',u',es,hgo,oG,hsu,hev,hn⟩:=h (u.at d) Da;have hrunT:=runT_crowd_go (P:=P) (sl:=sl') (i:=0) hi (show stepG P (0==0) x (u.at d)=_ from hgo);have hsz:((gs.map (woken P x g' u')).setIfInBounds 0 g').size=gs.size:=by simp
    have hlt:0<gs.size:=(Array.getElem?_eq_some_iff.1 h0).1;obtain⟨N,sS,g2,p2,gs2,u2,sl2,t2,q2,hr,r⟩:=hn ((gs.map (woken P x g' u')).setIfInBounds 0 g') sl' (t++MemOp.ofEvents 0 x.frame.fn x.frame.place es) q
     ⟨by simp[hlt],oG,⟨fun j y hj hx=>by
      have hne:0≠j:=by omega
      rw[Array.getElem?_setIfInBounds_ne hne,Array.getElem?_map]at hx;obtain⟨z,hz,rfl⟩:=Option.map_eq_some_iff.1 hx;have hq:=hL.old j z hj hz;rw[woken_quitsD hq,Deaf_other t (by omega) _ (fun op hop=>by obtain⟨e,_,rfl⟩:=Go.Conc.mem_ofEvents hop;rfl)];exact hq,fun j hj=>by
      rw[Deaf_other t (g':=0) (by simp at hj;omega) _ (fun op hop=>by obtain⟨e,_,rfl⟩:=Go.Conc.mem_ofEvents hop;rfl)];exact hL.above j (by simpa using hj)⟩,(hP.mono hsu).own hev⟩ (fun e=>by subst e;have e0:(u.at d).heap.size=u.heap.size:=rfl;rw[e0];simpa[MemOp.ofEvents]using hP)
    exact⟨N+1,sS,g2,p2,gs2,u2,sl2,t2,q2,by simp only[runNT,hst,hrunT];exact hr,r⟩
   ·have hq:=hL.old i x hpos hi;have hi0:(i==0)=false:=by simp;omega
    have hlt:i<gs.size:=(Array.getElem?_eq_some_iff.1 hi).1;cases hqi:q i with
    |zero=>rw[hqi]at hq;rw[hq.1]at hg;cases hg
    |succ k=>
     rw[hqi]at hq;rcases hq with⟨hf,_⟩|⟨_,g',es,hm,hstp,hq'⟩
     ·rw[hf]at hg;cases hg
     have hrunT:=runT_crowd_go (P:=P) (sl:=sl') (i:=i) hi (by rw[hi0];exact hstp (u.at d));have hsz:((gs.map (woken P x g' (u.at d))).setIfInBounds i g').size=gs.size:=by simp
     have hsum:sumTo gs.size (upd q i k)+(k+1)=sumTo gs.size q+k:=by
      have:=sumTo_upd q k id hlt;simpa[hqi]using this
     obtain⟨N,sS,g2,p2,gs2,u2,sl2,t2,q2,hr,r⟩:=ihM (sumTo gs.size (upd q i k)) (by omega) ((gs.map (woken P x g' (u.at d))).setIfInBounds i g') (u.at d) sl' (t++MemOp.ofEvents i x.frame.fn x.frame.place es) (upd q i k) (by rw[hsz];exact Nat.le_refl _)
      ⟨by
       have hne:i≠0:=by omega
       rw[Array.getElem?_setIfInBounds_ne hne,Array.getElem?_map,h0];simp[woken_run hrun],by have:=hps.at d;exact this,
      ⟨fun j y hj hx=>by
       by_cases hji:i=j
       ·subst hji;rw[Array.getElem?_setIfInBounds_self_of_lt (by simpa using hlt)]at hx;obtain rfl:=Option.some.inj hx;rw[upd_same,Deaf_own];exact hq'
       ·rw[Array.getElem?_setIfInBounds_ne hji,Array.getElem?_map]at hx;obtain⟨z,hz,rfl⟩:=Option.map_eq_some_iff.1 hx;have hqj:=hL.old j z hj hz;rw[woken_quitsD hqj,upd_ne q k (Ne.symm hji),Deaf_other t hji _ (fun op hop=>by obtain⟨e,_,rfl⟩:=Go.Conc.mem_ofEvents hop;rfl)];exact hqj,fun j hj=>by
       rw[Deaf_other t (g':=i) (by simp at hj;omega) _ (fun op hop=>by obtain⟨e,_,rfl⟩:=Go.Conc.mem_ofEvents hop;rfl)];exact hL.above j (by simpa using hj)⟩,
      (hP.mute (by omega) hm)⟩
     exact⟨N+1,sS,g2,p2,gs2,u2,sl2,t2,q2,by simp only[runNT,hst,hrunT];exact hr,r⟩
 exact fun gs u sl t q hb=>main _ gs u sl t q (Nat.le_refl _) hb
theorem aj.step{g:Goroutine}{p:World}(hrun:g.status= .running)
  (h:∀u:World,PS Sh (p.re u.tape u.drawn) u->∃g' p' u' es,stepG P true g u= .go g' u' es/\PS Sh (p'.re u'.tape u'.drawn) u'/\u.heap.size<=u'.heap.size/\(∀e∈es,EvL (O_ Sh) u'.heap.size e)/\aj P Sh g' p' Post):aj P Sh g p Post:=
 .WB hrun fun u hps=>by
  obtain⟨g',p',u',es,h1,h2,h3,h4,h5⟩:=h u hps;exact⟨g',p',u',es,h1,h2,h3,h4,fun gs1 sl1 t1 q1 hb _=>h5 gs1 u' sl1 t1 q1 hb⟩
theorem aj.ctl{g g':Goroutine}{p:World}(hrun:g.status= .running)(h:∀u,stepG P true g u= .go g' u #[])(hn:aj P Sh g' p Post):aj P Sh g p Post:=
 .step hrun fun u hps=>⟨g',p,u,#[],h u,hps,Nat.le_refl _,fun e he=>by simp at he,hn⟩
theorem aj.op{b:Frame}{a:Act}{k:List Item}{cs:List Frame}{ops:Array Oper}{i:Nat}{rest:List Nat}{o:Oper}{p:World}(hT:Tm P (execOp a.eval o))(ho:ops[i]? =some o)(hw:Region.wanted o (yielded ops a.tmps)=true)(hk:b.kind≠.early)
  (h:∀τ d,∀K':Act->World->Prop,(∀a' p',aj P Sh (G (b.at a' (.inRegion ops rest::k)) cs) p' Post->K' a' p')->uponK o a K' ((execOp a.eval o).run P (p.re τ d))):
  aj P Sh (G (b.at a (.inRegion ops (i::rest)::k)) cs) p Post:=by
 refine .step rfl fun u hps=>?_;have h1:=h u.tape u.drawn (fun a' p'=>aj P Sh (G (b.at a' (.inRegion ops rest::k)) cs) p' Post) (fun _ _ x=>x);have hal:=hT.run _ u #[] hps;have hlow:=hT.low _ #[] hps.self;rw[Sem.runT_eq]at hal hlow;have key:∀(n:Next) (p':World),(execOp a.eval o).run P (p.re u.tape u.drawn)= .ok n p'->∃u',(execOp a.eval o).run P u= .ok n u'/\PS Sh p' u'/\u.heap.size<=u'.heap.size/\∀e∈listed P b.fn a o u,EvL (O_ Sh) u'.heap.size e:=by
  intro n p' e;rw[e]at hal hlow;obtain⟨u',es2,e1,e2,e3,e4⟩:=hal;obtain⟨l1,es3,l2,l3⟩:=hlow;rw[Sem.runT_eq]at e2;simp only[Prod.mk.injEq]at e2;have hs:=e3.size;have hs0:=hps.size;refine⟨u',e2.1,e3,by omega,fun x hx=>?_⟩;have hx:=mem_listed hx;rw[e2.2]at hx;refine JJ (e4 x ?_) ?_
  ·rw[e1]at hx;simpa using hx
  ·rw[hs];exact l3 x (by rw[l2]at hx;simpa using hx)
 cases hr:(execOp a.eval o).run P (p.re u.tape u.drawn)with
 |halt x p'=>rw[hr]at h1;exact h1.elim
 |ok n p'=>
  obtain⟨u',k1,k2,k3,k4⟩:=key n p' hr;rw[hr]at h1;have hsr:PS Sh (p'.re u'.tape u'.drawn) u':=by rw[k2.vZ];exact k2
  cases n with
  |value v=>exact⟨_,p',u',_,stepG_value ho hw hk k1,hsr,k3,k4,h1⟩
  |skip=>exact⟨_,p',u',_,stepG_none ho hw hk k1,hsr,k3,k4,h1⟩
  |_=>exact h1.elim
theorem aj.pass{b:Frame}{a:Act}{k:List Item}{cs:List Frame}{ops:Array Oper}{i:Nat}{rest:List Nat}{o:Oper}{p:World}(ho:ops[i]? =some o)(hw:Region.wanted o (yielded ops a.tmps)=false)
  (hn:aj P Sh (G (b.at (a.put o.dst undef) (.inRegion ops rest::k)) cs) p Post):aj P Sh (G (b.at a (.inRegion ops (i::rest)::k)) cs) p Post:=
 .ctl rfl (fun _=>stepG_unwanted ho hw) hn
theorem aj.call{b:Frame}{a:Act}{k:List Item}{cs:List Frame}{ops:Array Oper}{i:Nat}{rest:List Nat}{o:Oper}{p:World}{f:FuncId}{fn:Func}{c:Code}{args:Array Operand}{ats:Array TypeId}(ho:ops[i]? =some o)(hw:Region.wanted o (yielded ops a.tmps)=true)(hk:b.kind≠.early)(hop:o.op= .call {callee:=.value (.func f),args,argTypes:=ats})
  (hf:P.funcs[f]? =some fn)(hname:(fn.name== "runtime.NumGoroutine")=false)(hb:fn.body=some c)
  (hn:aj P Sh (G ((base f).at {tmps:=args.map a.eval++Array.replicate (fn.ntmps-(args.map a.eval).size) undef,defers:= []} [.code c]) (b.at a (.inRegion ops (i::rest)::k)::cs)) p Post):
  aj P Sh (G (b.at a (.inRegion ops (i::rest)::k)) cs) p Post:=by
 refine .ctl rfl (fun u=>?_) hn;have:=goes_call (P:=P) (main:=true) (w:=u) (K:=fun g' w' es=>g'=G ((base f).at {tmps:=args.map a.eval++Array.replicate (fn.ntmps-(args.map a.eval).size) undef,defers:= []} [.code c]) (b.at a (.inRegion ops (i::rest)::k)::cs)/\w'=u/\es=#[]) (k:=k) (cs:=cs) (b:=b) (a:=a) ho hw hk hop hf hname hb ⟨rfl,rfl,rfl⟩;revert this;cases stepG P true (G (b.at a (.inRegion ops (i::rest)::k)) cs) u with
 |go g' w' es=>rintro⟨rfl,rfl,rfl⟩;rfl
 |_=>exact fun h=>h.elim
def Gr(fn:FuncId)(T:Array Value)(todo:List Item)(cs:List Frame):Goroutine:=G {(base fn).at ⟨T,[]⟩ todo with mode:=.returning} cs
theorem aj.ret{fn:FuncId}{T:Array Value}{k:List Item}{cs:List Frame}{p:World}(hn:aj P Sh (Gr fn T (.code .ret::k) cs) p Post):aj P Sh (G ((base fn).at ⟨T,[]⟩ (.code .ret::k)) cs) p Post:=
 .ctl rfl (fun _=>stepG_ret') hn
theorem aj.done{fn:FuncId}{T:Array Value}{cs:List Frame}{p:World}(hn:aj P Sh (Gr fn T [] cs) p Post):aj P Sh (G ((base fn).at ⟨T,[]⟩ []) cs) p Post:=
 .ctl rfl (fun u=>by simp[G,stepG,stepG.exec,Frame.at,Gr]) hn
theorem aj.back{f:FuncId}{fn:Func}{T:Array Value}{todo:List Item}{b:FuncId}{a:Act}{ops:Array Oper}{i:Nat}{rest:List Nat}{k:List Item}{cs:List Frame}{p:World}{v:Value}{o:Oper}(ho:ops[i]? =some o)
  (hf:P.funcs[f]? =some fn)(hv:∀w,(results fn T).run P w= .ok v w)(he:∀w,(results fn T).events P w #[]=#[])
  (hn:aj P Sh (G ((base b).at (a.put o.dst v) (.inRegion ops rest::k)) cs) p Post):aj P Sh (Gr f T todo ((base b).at a (.inRegion ops (i::rest)::k)::cs)) p Post:=by
 refine .ctl rfl (fun u=>?_) hn;have e:aG P ⟨f,T,todo,true⟩ [⟨b,a.tmps,.inRegion ops (i::rest)::k,false⟩] u= .go ((⟨b,a.tmps,.inRegion ops (i::rest)::k,false⟩:Fr).finish v) [] u #[]:=by
  simp only[aG,if_true,jY,hf,hv,he];simp[seen_none]
 have:=rJ (P:=P) (main:=true) (C:=⟨[],a.defers,.normal,cs⟩) (by simp) (fun c hc=>by rw[List.mem_singleton.1 hc];exact⟨⟨ops,i,rest,k,rfl⟩,rfl⟩) e;have e1:bP ⟨[],a.defers,.normal,cs⟩ ⟨f,T,todo,true⟩ [⟨b,a.tmps,.inRegion ops (i::rest)::k,false⟩]=Gr f T todo ((base b).at a (.inRegion ops (i::rest)::k)::cs):=by
  simp[bP,Gr,Fr.top,below,Fr.base,Fr.mode,Frame.at,base]
 have e2:bP ⟨[],a.defers,.normal,cs⟩ ((⟨b,a.tmps,.inRegion ops (i::rest)::k,false⟩:Fr).finish v) []=G ((base b).at (a.put o.dst v) (.inRegion ops rest::k)) cs:=by
  cases hd:o.dst<;>simp[bP,Fr.base,Fr.mode,Frame.at,base,Fr.finish,ho,Act.put,hd]
 rw[e1,e2]at this;exact this
theorem aj.code(hC:bK P X A){fn:FuncId}{c:Code}(hc:iZ P X A c=true){Q:Exit->Act->World->Prop}{T:Array Value}{ds:List Deferred}{k:List Item}{cs:List Frame}{p:World}(hp:∀(b:Nat) o,p.heap[b]? =some o->xR b o)
  (hQ:∀e a w,Q e a w->e= .normal\/e= .ret)(hre:∀e a w τ d,Q e a w->Q e a (w.re τ d))(hwp:∀τ d,c.wp P Q ⟨T,[]⟩ (p.re τ d))
  (hn:∀T' p',Q .normal ⟨T',[]⟩ p'->aj P Sh (G ((base fn).at ⟨T',ds⟩ k) cs) p' Post)(hr:∀T' p' todo,Q .ret ⟨T',[]⟩ p'->aj P Sh (G {(base fn).at ⟨T',ds⟩ todo with mode:=.returning} cs) p' Post):
  aj P Sh (G ((base fn).at ⟨T,ds⟩ (.code c::k)) cs) p Post:=by
 have h0:=aj.wp (fn:=fn) (C:=⟨k,ds,.normal,cs⟩) (Sh:=Sh) hC (by simp) hc hp hQ hre hwp;have e0:bP ⟨k,ds,.normal,cs⟩ ⟨fn,T,[.code c],false⟩ []=G ((base fn).at ⟨T,ds⟩ (.code c::k)) cs:=by
  simp[bP,Fr.base,Fr.mode,Frame.at,base]
 rw[e0]at h0;refine h0.then ?_;rintro Sh' g' p' ⟨rfl,T',⟨rfl,h⟩|⟨todo,rfl,h⟩⟩
 ·have e1:bP ⟨k,ds,.normal,cs⟩ ⟨fn,T',[],false⟩ []=G ((base fn).at ⟨T',ds⟩ k) cs:=by
   simp[bP,Fr.base,Fr.mode,Frame.at,base]
  rw[e1];exact hn T' p' h
 ·have e1:bP ⟨k,ds,.normal,cs⟩ ⟨fn,T',todo,true⟩ []=G {(base fn).at ⟨T',ds⟩ (todo++k)with mode:=.returning} cs:=by
   simp[bP,Fr.base,Fr.mode,Frame.at,base]
  rw[e1];exact hr T' p' _ h
theorem aj.re{g:Goroutine}{p:World}(h:aj P Sh g p Post)(τ:Nat->Question->Nat)(d:Nat):aj P Sh g (p.re τ d) Post:=fun gs u sl t q hb=>h gs u sl t q ⟨hb.zero,hb.ps,hb.leave,hb.past⟩
theorem aj.run(hC:bK P X A){fn:FuncId}{c:Code}(hc:iZ P X A c=true){T:Array Value}{ds:List Deferred}{k:List Item}{cs:List Frame}{p:World}(hp:∀(b:Nat) o,p.heap[b]? =some o->xR b o)
  (hwp:∀τ d,c.wp P (fun e a p'=>(e= .normal/\aj P Sh (G ((base fn).at ⟨a.tmps,ds⟩ k) cs) p' Post)\/(e= .ret/\∀todo,aj P Sh (G {(base fn).at ⟨a.tmps,ds⟩ todo with mode:=.returning} cs) p' Post)) ⟨T,[]⟩ (p.re τ d)):
  aj P Sh (G ((base fn).at ⟨T,ds⟩ (.code c::k)) cs) p Post:=by
 refine aj.code hC hc (Q:=fun e a p'=>(e= .normal/\aj P Sh (G ((base fn).at ⟨a.tmps,ds⟩ k) cs) p' Post)\/(e= .ret/\∀todo,aj P Sh (G {(base fn).at ⟨a.tmps,ds⟩ todo with mode:=.returning} cs) p' Post)) hp (fun e a w h=>h.imp (·.1) (·.1)) (fun e a w τ d h=>?_) hwp (fun T' p' h=>?_) (fun T' p' todo h=>?_)
 ·exact h.imp (fun x=>⟨x.1,x.2.re τ d⟩) (fun x=>⟨x.1,fun todo=>(x.2 todo).re τ d⟩)
 ·rcases h with h|h
  ·exact h.2
  ·cases h.1
 ·rcases h with h|h
  ·cases h.1
  ·exact h.2 todo
theorem aj.bC(hC:bK P X A){fn:FuncId}{c:Code}(hc:iZ P X A c=true){T:Array Value}{ds:List Deferred}{k:List Item}{cs:List Frame}{p:World}
 (hwp:∀τ d,c.wp P (fun e a p'=>(e= .normal/\aj P Sh (G ((base fn).at ⟨a.tmps,ds⟩ k) cs) p' Post)\/(e= .ret/\∀todo,aj P Sh (G {(base fn).at ⟨a.tmps,ds⟩ todo with mode:=.returning} cs) p' Post)) ⟨T,[]⟩ (p.re τ d)):
 aj P Sh (G ((base fn).at ⟨T,ds⟩ (.code c::k)) cs) p Post:=fun gs u sl t q hb=>aj.run (p:=p) hC hc (fun b o h=>hb.ps.views b o h) hwp gs u sl t q hb
def CX(Kn Kr:Act->World->Prop):Exit->Act->World->Prop
 | .normal,a,w=>Kn a w
 | .ret,a,w=>Kr a w
 |_,_,_=>False
theorem aj.XH(hC:bK P X A){fn:FuncId}{c:Code}(hc:iZ P X A c=true){T:Array Value}{ds:List Deferred}{k:List Item}{cs:List Frame}{p:World}
  (hwp:∀τ d,c.wp P (CX (fun a p'=>aj P Sh (G ((base fn).at ⟨a.tmps,ds⟩ k) cs) p' Post) (fun a p'=>∀todo,aj P Sh (G {(base fn).at ⟨a.tmps,ds⟩ todo with mode:=.returning} cs) p' Post)) ⟨T,[]⟩ (p.re τ d)):
  aj P Sh (G ((base fn).at ⟨T,ds⟩ (.code c::k)) cs) p Post:=fun gs u sl t q hb=>
 aj.code (p:=p) hC hc (Q:=CX (fun a p'=>aj P Sh (G ((base fn).at ⟨a.tmps,ds⟩ k) cs) p' Post) (fun a p'=>∀todo,aj P Sh (G {(base fn).at ⟨a.tmps,ds⟩ todo with mode:=.returning} cs) p' Post)) (fun b o h=>hb.ps.views b o h)
  (fun e a w h=>by cases e<;>first|exact .inl rfl|exact .inr rfl|exact h.elim) (fun e a w τ d h=>by cases e<;>first|exact h.re τ d|exact fun todo=>(h todo).re τ d|exact h.elim) hwp (fun T' p' h=>h) (fun T' p' todo h=>h todo) gs u sl t q hb
theorem aj.with{g:Goroutine}{p:World}(h:(∀b,Sh b->b<p.heap.size)->(∀(b:Nat) o,p.heap[b]? =some o->xR b o)->(∀b o,p.heap[b]? =some o->(∀e fz,o≠.cells #[] e fz)->¬Sh b)->aj P Sh g p Post):aj P Sh g p Post:=fun gs u sl t q hb=>
 h (fun b hs=>by
   obtain⟨e,fz,_,_,h1,_⟩:=hb.ps.rows b hs;exact(Array.getElem?_eq_some_iff.1 h1).1)
  (fun b o h=>hb.ps.views b o h) (fun b o h1 h2 hs=>by
   obtain⟨e,fz,_,_,h3,_⟩:=hb.ps.rows b hs;have h3:p.heap[b]? =some (.cells #[] e fz):=h3;rw[h3]at h1;exact h2 e fz (Option.some.inj h1).symm) gs u sl t q hb
theorem aj.world{g:Goroutine}{p0:World}(F:World->Prop)(hF:F p0)(h:∀p1,F p1->aj P Sh g p1 Post):aj P Sh g p0 Post:=h p0 hF
end Go.eO
namespace Go.eO
open Go.Ren Go.bB Go.Conc
variable {P:Program}
theorem Ea(t:TypeId)(x:Value):Tm P (Instr.makeChan t x):=by
 unfold Instr.makeChan;repeat' first
  |exact ay _
  |exact aA
  |exact bD _
  |exact jF trivial
  |exact dD _
  |exact aD _
  |exact jP _
  |refine au ?_ fun _=>?_
  |split
theorem wY{ρ:Operand->Value}{o:Oper}{t:TypeId}{x:Operand}(h:o.op= .makeChan t x):Tm P (execOp ρ o):=by
 unfold execOp;rw[h];exact aV (Ea t (ρ x))
theorem fI{X A:FuncId->Bool}(hC:bK P X A){a:Act}{o:Oper}(h:XP P X o=true):Tm P (execOp a.eval o):=Wz hC.ext (fun _=>rfl) (fun _=>rfl) h
variable {Sh:Nat->Prop} {Post:(Nat->Prop)->Goroutine->World->Prop} {b:Frame} {a:Act} {k:List Item} {cs:List Frame} {p:World}
theorem aj.o{X A:FuncId->Bool}(hC:bK P X A){f:FuncId}{ops:Array Oper}{i:Nat}{rest:List Nat}{o:Oper}(hT:XP P X o=true)(ho:ops[i]? =some o)(hw:Region.wanted o (yielded ops a.tmps)=true)
 (h:∀τ d,∀K':Act->World->Prop,(∀a' p',aj P Sh (G ((base f).at a' (.inRegion ops rest::k)) cs) p' Post->K' a' p')->uponK o a K' ((execOp a.eval o).run P (p.re τ d))):
 aj P Sh (G ((base f).at a (.inRegion ops (i::rest)::k)) cs) p Post:=aj.op (fI hC hT) ho hw (by simp[base]) h
theorem aj.pv{X A:FuncId->Bool}(hC:bK P X A){f:FuncId}{ops:Array Oper}{i:Nat}{rest:List Nat}{o:Oper}
 (h:∀τ d,∀K':Act->World->Prop,(∀a',aj P Sh (G ((base f).at a' (.inRegion ops rest::k)) cs) p Post->K' a' (p.re τ d))->uponK o a K' ((execOp a.eval o).run P (p.re τ d)))
 (ho:ops[i]? =some o:=by exact rfl)(hw:Region.wanted o (yielded ops a.tmps)=true:=by exact rfl)(hT:XP P X o=true:=by kernel_rfl):
 aj P Sh (G ((base f).at a (.inRegion ops (i::rest)::k)) cs) p Post:=aj.o hC hT ho hw fun τ d K' hK=>h τ d K' fun a' hb=>hK a' _ (hb.re τ d)
theorem aj.reg{id:Nat}{ops:Array Oper}{todo:List Nat}(ht:List.range ops.size=todo)(hn:aj P Sh (G (b.at a (.inRegion ops todo::k)) cs) p Post):aj P Sh (G (b.at a (.code (.region id ops false)::k)) cs) p Post:=
 .ctl rfl (fun _=>stepG_region) (ht▸hn)
theorem aj.seq{x y:Code}(hn:aj P Sh (G (b.at a (.code x:: .code y::k)) cs) p Post):aj P Sh (G (b.at a (.code (.seq x y)::k)) cs) p Post:=.ctl rfl (fun _=>stepG_seq) hn
theorem aj.aR{ops:Array Oper}(hn:aj P Sh (G (b.at a k) cs) p Post):aj P Sh (G (b.at a (.inRegion ops []::k)) cs) p Post:=.ctl rfl (fun _=>stepG_region_end) hn
theorem aj.skip(hn:aj P Sh (G (b.at a k) cs) p Post):aj P Sh (G (b.at a (.code .skip::k)) cs) p Post:=.ctl rfl (fun _=>stepG_skip) hn
theorem aj.block{id:Nat}{c:Code}(hn:aj P Sh (G (b.at a (.code c:: .inBlock id::k)) cs) p Post):aj P Sh (G (b.at a (.code (.block id c)::k)) cs) p Post:=.ctl rfl (fun _=>stepG_block) hn
theorem aj.inBlock{id:Nat}(hn:aj P Sh (G (b.at a k) cs) p Post):aj P Sh (G (b.at a (.inBlock id::k)) cs) p Post:=.ctl rfl (fun _=>stepG_inBlock) hn
theorem aj.loop{c:Code}(hn:aj P Sh (G (b.at a (.code c:: .inLoop c::k)) cs) p Post):aj P Sh (G (b.at a (.code (.loop c)::k)) cs) p Post:=.ctl rfl (fun _=>stepG_loop) hn
theorem aj.inLoop{c:Code}(hn:aj P Sh (G (b.at a (.code c:: .inLoop c::k)) cs) p Post):aj P Sh (G (b.at a (.inLoop c::k)) cs) p Post:=.ctl rfl (fun _=>stepG_inLoop) hn
theorem aj.yes{c:Operand}{x y:Code}(hc:a.eval c= .bool true)(hn:aj P Sh (G (b.at a (.code x::k)) cs) p Post):aj P Sh (G (b.at a (.code (.cond c x y)::k)) cs) p Post:=.ctl rfl (fun _=>stepG_cond hc) hn
theorem aj.no{c:Operand}{x y:Code}(hc:a.eval c= .bool false)(hn:aj P Sh (G (b.at a (.code y::k)) cs) p Post):aj P Sh (G (b.at a (.code (.cond c x y)::k)) cs) p Post:=.ctl rfl (fun _=>stepG_cond hc) hn
theorem aj.exit{id:Nat}{k':List Item}(he:exitTo id k=some k')(hn:aj P Sh (G (b.at a k') cs) p Post):aj P Sh (G (b.at a (.code (.exit id)::k)) cs) p Post:=.ctl rfl (fun _=>stepG_exit he) hn
end Go.eO
namespace Go.bB
open Go.Conc Go.Ren
variable {P:Program}
theorem Zw{I:Fr->List Fr->World->Prop}(G:G5 P I){Stop:Fr->List Fr->World->Prop}{T:Machine}(hT:∃fr w1,T=lone fr [c0 P] w1/\fr.mode= .run)(hS:∀f fs w,jA P f fs w=T->Stop f fs w):
  ∀(n:Nat) (f:Fr) (fs:List Fr) (w:World),I f fs w->runN P n (jA P f fs w)= .next T->∃m,Reach P Stop m f fs w:=by
 intro n;induction n with
 |zero=>
  intro f fs w _ h;simp only[runN,Stepped.next.injEq]at h;exact⟨0,hS f fs w h⟩
 |succ n ih=>
  intro f fs w hI h;have hwf:Wf fs:=G.wf _ _ _ hI;simp only[runN]at h;cases hs:aG P f fs w with
  |go f' fs' w' es=>
   rw[KW hwf hs]at h;obtain⟨m,hm⟩:=ih f' fs' w' (G.step _ _ _ _ _ _ _ hI hs) h;exact⟨m+1,.inr ⟨f',fs',w',es,hs,hm⟩⟩
  |panic=>
   obtain⟨fr,chain,w',e,hd,hm⟩:=yc hs;rw[e]at h;obtain⟨fr',cs',w2,ch,e2,hm2⟩:=nY n fr _ w' chain T hd hm (y7 fs hwf) h;exfalso;obtain⟨ft,wt,rfl,hmt⟩:=hT;obtain⟨rfl,_,_⟩:=jW e2;rw[hmt]at hm2;cases hm2
  |bad=>
   obtain⟨o,w',e⟩:=G.bad _ _ _ hI hs;rw[e]at h;cases h
  |stop=>
   exfalso;have hfs:fs= []:=by
    unfold aG at hs;cases hr:f.ret with
    |true=>
     simp only[hr,if_true,jY]at hs;cases fs with
     |nil=>rfl
     |cons c r=>simp only at hs;(repeat' split at hs)<;>cases hs
    |false=>
     simp only[hr,Bool.false_eq_true,if_false,aJ]at hs;split at hs
     ·cases fs with
      |nil=>rfl
      |cons c r=>cases hs
     all_goals try (cases hs;done)
     all_goals try (split at hs<;>cases hs;done)
     split at hs
     ·cases hs
     ·split at hs
      ·unfold bU at hs;split at hs<;>cases hs
      ·cases hs
   subst hfs;cases hr:f.ret with
   |false=>
    have htd:f.todo= []:=by
     simp only[aG,hr,Bool.false_eq_true,if_false,aJ]at hs;split at hs
     ·assumption
     all_goals try (cases hs;done)
     all_goals try (split at hs<;>cases hs;done)
     split at hs
     ·cases hs
     ·split at hs
      ·unfold bU at hs;split at hs<;>cases hs
      ·cases hs
    have e:∃x,step P (jA P f [] w)= .ended x w:=by
     refine Exists.imp (fun _=>step_lone_ended) ?_;rw[bO];simp[stepG,stepG.exec,iX hr,htd,tail,C0]
    obtain⟨_,e⟩:=e;rw[e]at h;cases h
   |true=>
    have fin:∀v w1,step P (jA P f [] w)= .next (lone ((c0 P).finish v) [] w1)->False:=by
     intro v w1 e;rw[e]at h;cases n with
     |zero=>
      simp only[runN,Stepped.next.injEq]at h;obtain⟨ft,wt,rfl,_⟩:=hT;exact absurd (jW h).2.1 (by simp)
     |succ n=>
      obtain⟨o,w2,e2⟩:=Bt (P:=P) v w1;simp only[runN,e2]at h;cases h
    have hm:=oh hr;cases hf:P.funcs[f.fn]? with
    |none=>
     refine fin (f.tmps.getD 0 undef) w (step_lone_go ?_);rw[bO];simp[stepG,unwind,doReturn,hm,hf,dh,fT,C0,below]
    |some fn'=>
     cases hres:(results fn' f.tmps).run P w with
     |ok v w1=>
      refine fin v w1 (step_lone_go ?_);rw[bO];simp[stepG,unwind,doReturn,hm,hf,hres,dh,fT,C0,below]
     |halt x w1=>
      have e:∃o,step P (jA P f [] w)= .ended o w1:=by
       cases x with
       |stuck why=>
        refine⟨.stuck why ((cur (C0 P) f []).pos P),step_lone_ended ?_⟩;rw[bO];simp[stepG,unwind,hm,hf,hres,dh,C0]
       |_=>
        refine⟨.stuck "return: the result variables cannot be read" ((cur (C0 P) f []).pos P),step_lone_ended ?_⟩;rw[bO];simp[stepG,unwind,hm,hf,hres,dh,C0]
      obtain⟨o,e⟩:=e;rw[e]at h;cases h
theorem Q_{f g:Fr}{fs:List Fr}{w w':World}(h:jA P f fs w=jA P g [] w'):f=g/\fs= []/\w=w':=by
 obtain⟨h1,h2,h3⟩:=jW h;have hb:below (C0 P) []= [c0 P]:=rfl;rw[hb]at h2;obtain rfl:=uz h2;refine⟨?_,rfl,h3⟩;rw[bO,bO]at h1;simp only[Frame.mk.injEq,tail,dh,fT,and_true,List.append_cancel_right_eq]at h1;obtain⟨e1,e2,e3,e4⟩:=h1;obtain⟨f1,f2,f3,f4⟩:=f;obtain⟨g1,g2,g3,g4⟩:=g;simp only[Fr.mode]at e1 e2 e3 e4;subst e1 e2 e3;cases f4<;>cases g4<;>first|rfl|(simp at e4)
end Go.bB
namespace Go.eO
open Go.Ren Go.bB Go.Conc
variable {P:Program} {X A:FuncId->Bool} {Sh:Nat->Prop} {Post:(Nat->Prop)->Goroutine->World->Prop}
theorem aj.calls(hC:bK P X A){b:FuncId}{T:Array Value}{k:List Item}{cs:List Frame}{ops:Array Oper}{i:Nat}{rest:List Nat}{o:Oper}{p:World}{g:FuncId}{args:Array Operand}{ats:Array TypeId}(hok:ops.all (xQ P X A)=true)(ho:ops[i]? =some o)(hw:Region.wanted o (yielded ops T)=true)(hop:o.op= .call {callee:=.value (.func g),args,argTypes:=ats})
  {fn:Func}{c:Code}(hf:P.funcs[g]? =some fn)(hname:(fn.name== "runtime.NumGoroutine")=false)(hb:fn.body=some c)
  (hcall:∀τ d,Calls P g (args.map (Act.eval ⟨T,[]⟩)) (p.re τ d) fun e w'=>∃v,e= .returned v/\aj P Sh (G ((base b).at (Act.put ⟨T,[]⟩ o.dst v) (.inRegion ops rest::k)) cs) w' Post):
  aj P Sh (G ((base b).at ⟨T,[]⟩ (.inRegion ops (i::rest)::k)) cs) p Post:=by
 intro gs u sl t q VQ;let f:Fr:=⟨b,T,[.inRegion ops (i::rest)],false⟩
 have hI:o_ P X A f [] p:=⟨.one fun x hx=>by rw[List.mem_singleton.1 hx];exact hok,⟨rfl,fun _ _=>rfl,fun _ x=>x.elim,VQ.ps.views,rfl,rfl,rfl,rfl⟩⟩;let Stop:Fr->List Fr->World->Prop:=fun f' fs' w'=>fs'= []/\∃v,f'=f.finish v/\aj P Sh (G ((base b).at (Act.put ⟨T,[]⟩ o.dst v) (.inRegion ops rest::k)) cs) w' Post
 have hS:∀f' fs' w' τ d,Stop f' fs' w'->Stop f' fs' (w'.re τ d):=fun f' fs' w' τ d ⟨h1,v,h2,h3⟩=>⟨h1,v,h2,h3.re τ d⟩;have GI:=A9 hC;have ht:Tr P Stop f [] p:=by
  refine bar (I:=o_ P X A) GI.re GI.step GI.loc hS hI (fun τ d=>?_);obtain⟨e,w',fr,⟨v,rfl,hB⟩,hst,hfn,hlv⟩:=hcall τ d (below (C0 P) [f]);have hbase:f.base (C0 P)=(base b).at ⟨T,[]⟩ (.inRegion ops (i::rest)::(C0 P).k):=by
   simp[f,Fr.base,Fr.mode,Frame.at,base,C0]
  have hm1:Go.step P (jA P f [] (p.re τ d))= .next (lone (Frame.enter P g (args.map (Act.eval ⟨T,[]⟩)) .normal) (below (C0 P) [f]) (p.re τ d)):=by
   refine step_lone_go ?_;show(stepG P true (G (f.base (C0 P)) [c0 P]) (p.re τ d)).bare=_;rw[hbase];have:=goes_call (P:=P) (main:=true) (w:=p.re τ d) (K:=fun g' w' es=>g'=G ((base g).at {tmps:=args.map (Act.eval ⟨T,[]⟩)++Array.replicate (fn.ntmps-(args.map (Act.eval ⟨T,[]⟩)).size) undef,defers:= []} [.code c]) ((base b).at ⟨T,[]⟩ (.inRegion ops (i::rest)::(C0 P).k):: [c0 P])/\w'=p.re τ d/\es=#[]) (k:=(C0 P).k) (cs:= [c0 P]) (b:=base b) (a:=⟨T,[]⟩) ho hw (show CallKind.normal≠CallKind.early by decide) hop hf hname hb ⟨rfl,rfl,rfl⟩;revert this;cases stepG P true (G ((base b).at ⟨T,[]⟩ (.inRegion ops (i::rest)::(C0 P).k)) [c0 P]) (p.re τ d)with
   |go g' w' es=>
    rintro⟨rfl,rfl,rfl⟩;rw[show below (C0 P) [f]=(base b).at ⟨T,[]⟩ (.inRegion ops (i::rest)::(C0 P).k):: [c0 P]from by rw[<-hbase];rfl];simp[GStep.bare,G,Frame.enter,hf,hb,base,Frame.at]
   |_=>exact fun h=>h.elim
  obtain⟨n,hn⟩:=(show Steps P _ _ from hst);have hfin:(f.base (C0 P)).finish v=(f.finish v).base (C0 P):=by
   cases hd:o.dst<;>simp[f,Fr.base,Fr.mode,Fr.finish,Frame.finish,ho,hd,C0]
  have hlast:Go.step P (lone fr (below (C0 P) [f]) w')= .next (jA P (f.finish v) [] w'):=by
   have h1:=step_leave_returned (P:=P) (c:=f.base (C0 P)) (cs:= [c0 P]) hlv;rw[hfin]at h1;exact h1
  refine Zw GI (Stop:=Stop) (T:=jA P (f.finish v) [] w') ⟨_,_,rfl,?_⟩ (fun f' fs' w1 h=>?_) (n+1+1) f [] (p.re τ d) (GI.re _ _ _ τ d hI) ?_
  ·cases hd:o.dst<;>simp[f,cur,Fr.base,Fr.mode,Fr.finish,ho,hd]
  ·obtain⟨rfl,rfl,rfl⟩:=Q_ h;exact⟨rfl,v,rfl,hB⟩
  ·have h2:runN P (n+1) (lone (Frame.enter P g (args.map (Act.eval ⟨T,[]⟩)) .normal) (below (C0 P) [f]) (p.re τ d))= .next (jA P (f.finish v) [] w'):=by
    rw[runN_add,hn];simp only[runN,hlast]
   have h3:runN P (n+1+1) (jA P f [] (p.re τ d))=(match Go.step P (jA P f [] (p.re τ d))with| .next m=>runN P (n+1) m|e=>e):=rfl;rw[h3,hm1];exact h2
 have hB:=aj.tree hC (C:=⟨k,[],.normal,cs⟩) (by simp) hS ht hI.1 (Sh:=Sh);have e0:bP ⟨k,[],.normal,cs⟩ f []=G ((base b).at ⟨T,[]⟩ (.inRegion ops (i::rest)::k)) cs:=by
  simp[f,bP,Fr.base,Fr.mode,Frame.at,base]
 rw[e0]at hB;refine(hB.then ?_) gs u sl t q VQ;rintro Sh' g' p' ⟨rfl,f',fs',rfl,rfl,v,rfl,h⟩;have e1:bP ⟨k,[],.normal,cs⟩ (f.finish v) []=G ((base b).at (Act.put ⟨T,[]⟩ o.dst v) (.inRegion ops rest::k)) cs:=by
  cases hd:o.dst<;>simp[f,bP,Fr.base,Fr.mode,Frame.at,base,Fr.finish,ho,Act.put,hd]
 rw[e1];exact h
theorem aj.jk(hC:bK P X A){b:FuncId}{T:Array Value}{k:List Item}{cs:List Frame}{ops:Array Oper}{i:Nat}{rest:List Nat}{o:Oper}{p:World}{g:FuncId}{args:Array Operand}{ats:Array TypeId}(hok:ops.all (xQ P X A)=true)(ho:ops[i]? =some o)(hw:Region.wanted o (yielded ops T)=true)(hop:o.op= .call {callee:=.value (.func g),args,argTypes:=ats})
  {fn:Func}{c:Code}(hf:P.funcs[g]? =some fn)(hname:(fn.name== "runtime.NumGoroutine")=false)(hb:fn.body=some c){xs:Array Value}(hx:args.map (Act.eval ⟨T,[]⟩)=xs)
  (hcall:∀τ d,Calls P g xs (p.re τ d) fun e w'=>∃v,e= .returned v/\aj P Sh (G ((base b).at (Act.put ⟨T,[]⟩ o.dst v) (.inRegion ops rest::k)) cs) w' Post):
  aj P Sh (G ((base b).at ⟨T,[]⟩ (.inRegion ops (i::rest)::k)) cs) p Post:=
 aj.calls hC hok ho hw hop hf hname hb (by rw[hx];exact hcall)
end Go.eO
namespace Go.Proofs.YtmfpiodlecapiaaGreatDoor
open Go.RowKit Go.Deep
set_option linter.unusedSimpArgs false in
set_option maxRecDepth 20000 in
set_option maxHeartbeats 2000000 in
theorem MG(b off n cap c1 c2 c3 c4 c5 c6 c7 c8 c9 L Z s:Nat)(hcap:n<=cap)(h1:c1<256)(h2:c2<256)(h3:c3<256)(h4:c4<256)(h5:c5<256)(h6:c6<256)(h7:c7<256)(h8:c8<256)(h9:c9<256)(w:World)
  (d0:w.cell? ⟨b,off,none⟩=some (.int .u8 70))(d1:w.cell? ⟨b,off+1,none⟩=some (.int .u8 c1))(d2:w.cell? ⟨b,off+2,none⟩=some (.int .u8 c2))(d3:w.cell? ⟨b,off+3,none⟩=some (.int .u8 c3))(d4:w.cell? ⟨b,off+4,none⟩=some (.int .u8 c4))(d5:w.cell? ⟨b,off+5,none⟩=some (.int .u8 c5))
  (d6:w.cell? ⟨b,off+6,none⟩=some (.int .u8 c6))(d7:w.cell? ⟨b,off+7,none⟩=some (.int .u8 c7))(d8:w.cell? ⟨b,off+8,none⟩=some (.int .u8 c8))(d9:w.cell? ⟨b,off+9,none⟩=some (.int .u8 c9))
  (hL:Hid (L=256*c3+c4))(hl:L<=2000)(p1:1<=c5)(p2:c5<=16)(p3:1<=c6)(p4:c6<=20)(p5:c7<=20)(hZ:Hid (Cut.blocks (Cut.pieces L c5) c6=Z))(hZ2:Z<=256)(hz:c8<Z)(hs:Hid ((Cut.sizes L c5 c6)[c8]? =some s))(hs2:s<=20)(hq:c9<s+c7)(hn:Hid (n=10+c5)):
  Calls Tryz.prog 35 #[.slice (some ⟨b,off,none⟩) n cap] w fun r w'=>r= .returned (.tuple #[dS (256*c1+c2) L c5 c6 c7 c8 c9,.slice (some ⟨b,off+10,none⟩) (n-10) (cap-10)])/\Below w.heap.size w w':=by
 have HB0:=hide (((Below.refl w.heap.size w).alloc (Nat.le_refl _) (.cells #[.int .i64 0,.int .i64 0,.int .i64 0,.int .i64 0,.int .i64 0,.int .i64 0,.int .i64 0] 76)));have k10:(10:Int)<(n:Int):=by have:=hn.out;omega
 have k0:(0:Int)<(n:Int):=by omega
 have RH:=hide (zO b off n cap c1 c2 c3 c4 c5 c6 c7 c8 c9 (by omega) h1 h2 h3 h4 h5 h6 h7 h8 h9);have CB:=hide (fun w=>(dL L c5 c6 c7 hl p1 p2 p3 p4 p5 w).1 (by rw[hZ.out];exact hZ2));rw[hZ.out]at CB;have D1:=hide d1;have D2:=hide d2;have D3:=hide d3;have D4:=hide d4;have D5:=hide d5;have D6:=hide d6;have D7:=hide d7;have D8:=hide d8;have D9:=hide d9
 replace d0:=cell_later HB0.out d0;clear d1 d2 d3 d4 d5 d6 d7 d8 d9;unfold dS at RH;rw[<-hL.out]at RH;go_enter Tryz.func35,Tryz.ntmps35;go_wp2_with first|(go_at_call 68;refine(wF _).mono ?_;rintro _ wq ⟨rfl,hq⟩;have hq2:=hq.symm;clear hq;subst hq2)|(go_at_call 69;refine(RH.out _ (cell_later HB0.out D1.out) (cell_later HB0.out D2.out) (cell_later HB0.out D3.out) (cell_later HB0.out D4.out) (cell_later HB0.out D5.out) (cell_later HB0.out D6.out) (cell_later HB0.out D7.out) (cell_later HB0.out D8.out) (cell_later HB0.out D9.out)).mono ?_;rintro _ w1 ⟨rfl,hb1⟩;replace hb1:=hide hb1)
 go_at_call 29
 refine(CB.out _).mono ?_;rintro _ w2 ⟨g,hg,rfl,hb2,hr2⟩;have R1:=(aP w1 _ _).later hb2;have hB2:Hid (Below w.heap.size w w2):=by
  show Below _ _ _;have h1:=HB0.out.trans (hb1.out.mono HB0.out.size);exact(h1.alloc h1.size _).trans (hb2.mono (by simp;have:=h1.size;omega))
 have q1:=R1.cell 1 _ rfl;have q2:=R1.cell 2 _ rfl;have q3:=R1.cell 3 _ rfl;have q4:=R1.cell 4 _ rfl;have q5:=R1.cell 5 _ rfl;have q6:=R1.cell 6 _ rfl;have q0:=R1.cell 0 _ rfl;have qs:w2.cell? ⟨g,c8,none⟩=some (.int .i64 s):=hr2.cell c8 _ (by simp only[bW,List.getElem?_map,hs.out];rfl);have e8:(c8:Int)<(Z:Int):=by omega
 have w9:=aF ((s:Int)+(c7:Int)) (by omega) (by omega);have e9:decide ((c9:Int)<(s:Int)+(c7:Int))=true:=by simp;omega
 have en:(n:Int)=10+(c5:Int):=by have:=hn.out;omega
 have R0:Hid (aB w2 w.heap.size 76 [.int .i64 0,.int .i64 0,.int .i64 0,.int .i64 0,.int .i64 0,.int .i64 0,.int .i64 0]):=by
  show aB _ _ _ _;exact(((aP w _ _).later hb1.out).alloc _).later hb2
 have HR1:=hide R1;clear R1 hb2 hr2 hg hb1;go_wp2_with (go_at_call 68;refine(wF _).mono ?_;rintro _ wq ⟨rfl,hq⟩;have hq2:=hq.symm;clear hq;subst hq2)
 go_quiet ((go_at_call 68;exact Calls.quiet_of_same (wF _)))
 have HR3:=HR1.out.drewN nq;have R3:=R0.out.drewN nq;have HB3:Hid (Below w.heap.size w (w2.drewN nq)):=by
  show Below _ _ _;exact⟨hB2.out.os,hB2.out.tape,hB2.out.output,hB2.out.size,hB2.out.block⟩
 generalize w2.drewN nq=w3 at HR3 R3 HB3⊢;clear q0 q1 q2 q3 q4 q5 q6 qs;have q0:=HR3.cell 0 _ rfl;have q1:=HR3.cell 1 _ rfl;have q2:=HR3.cell 2 _ rfl;have q3:=HR3.cell 3 _ rfl;have q4:=HR3.cell 4 _ rfl;have q5:=HR3.cell 5 _ rfl;have q6:=HR3.cell 6 _ rfl;have g0:=R3.cell 0 _ rfl;have g1:=R3.cell 1 _ rfl;have g2:=R3.cell 2 _ rfl;have g3:=R3.cell 3 _ rfl;have g4:=R3.cell 4 _ rfl;have g5:=R3.cell 5 _ rfl;have g6:=R3.cell 6 _ rfl;have f0:=R3.frozen 0;have f1:=R3.frozen 1;have f2:=R3.frozen 2;have f3:=R3.frozen 3;have f4:=R3.frozen 4;have f5:=R3.frozen 5;have f6:=R3.frozen 6;have HRH:=hide HR3;have HRR:=hide R3
 clear HR3 R3;go_wp2_with (go_at_call 68;refine(wF _).mono ?_;rintro _ wq ⟨rfl,hq⟩;have hq2:=hq.symm;clear hq;subst hq2)
 go_region
 have R4:=((((((((HRR.out.set 0 (.int .i64 (256*(c1:Int)+(c2:Int)))).set 1 (.int .i64 (L:Int))).set 2 (.int .i64 (c5:Int))).set 3 (.int .i64 (c6:Int))).set 4 (.int .i64 (c7:Int))).set 5 (.int .i64 (c8:Int))).set 6 (.int .i64 (c9:Int))).drew);have B4:Hid (Below w.heap.size w ((((((((w3.setCell ⟨w.heap.size,0,none⟩ (.int .i64 (256*(c1:Int)+(c2:Int)))).setCell ⟨w.heap.size,1,none⟩ (.int .i64 (L:Int))).setCell ⟨w.heap.size,2,none⟩ (.int .i64 (c5:Int))).setCell ⟨w.heap.size,3,none⟩ (.int .i64 (c6:Int))).setCell ⟨w.heap.size,4,none⟩ (.int .i64 (c7:Int))).setCell ⟨w.heap.size,5,none⟩ (.int .i64 (c8:Int))).setCell ⟨w.heap.size,6,none⟩ (.int .i64 (c9:Int))).drew)):=by
  show Below _ _ _;exact(((((((HB3.out.setCell (Nat.le_refl _) _).setCell (Nat.le_refl _) _).setCell (Nat.le_refl _) _).setCell (Nat.le_refl _) _).setCell (Nat.le_refl _) _).setCell (Nat.le_refl _) _).setCell (Nat.le_refl _) _).drew
 generalize (((((((w3.setCell ⟨w.heap.size,0,none⟩ _).setCell ⟨w.heap.size,1,none⟩ _).setCell ⟨w.heap.size,2,none⟩ _).setCell ⟨w.heap.size,3,none⟩ _).setCell ⟨w.heap.size,4,none⟩ _).setCell ⟨w.heap.size,5,none⟩ _).setCell ⟨w.heap.size,6,none⟩ _).drew=w4 at R4 B4⊢;clear f0 f1 f2 f3 f4 f5 f6 g0 g1 g2 g3 g4 g5 g6 q0 q1 q2 q3 q4 q5 q6;have g0:=R4.cell 0 _ rfl;have g1:=R4.cell 1 _ rfl;have g2:=R4.cell 2 _ rfl;have g3:=R4.cell 3 _ rfl;have g4:=R4.cell 4 _ rfl;have g5:=R4.cell 5 _ rfl;have g6:=R4.cell 6 _ rfl;clear R4;go_wp2;refine bodyPost_ret (v:=.tuple #[dS (256*c1+c2) L c5 c6 c7 c8 c9,.slice (some ⟨b,off+10,none⟩) (n-10) (cap-10)]) (by simp[results,Tryz.results35,go_sem,dS,g0,g1,g2,g3,g4,g5,g6]) rfl ⟨rfl,B4.out⟩
end Go.Proofs.YtmfpiodlecapiaaGreatDoor
