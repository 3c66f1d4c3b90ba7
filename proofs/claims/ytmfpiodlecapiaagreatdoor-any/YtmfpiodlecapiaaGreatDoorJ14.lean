import Derived.Test.YtmfpiodlecapiaaGreatDoorJ13
import Derived.Conc.Beside
import Derived.Test.YtmfpiodlecapiaaGreatDoorProg
namespace Go.eO
open Go.Ren Go.bB Go.Conc
variable {P:Program} {Sh:Nat->Prop}
def EvB(B:Nat)(e:Event):Prop:=e.loc.low B/\∀m,e.loc= .mark m->Bare m
theorem EvB.mono{B B':Nat}(h:B<=B'){e:Event}(he:EvB B e):EvB B' e:=⟨Loc.low_mono h he.1,he.2⟩
theorem wI{w:World}{a:Addr}{v:Value}(h:w.cell? a=some v):a.block<w.heap.size:=by
 unfold World.cell? at h;cases hb:w.heap[a.block]? with
 |none=>rw[hb]at h;simp at h
 |some o=>exact(Array.getElem?_eq_some_iff.1 hb).1
theorem rO(w:World)(a:Addr)(v:Value):(w.setCell a v).heap.size=w.heap.size:=by
 unfold World.setCell;split<;>simp
theorem vk(w:World)(a:Addr)(n:Nat):(w.freeze a n).heap.size=w.heap.size:=by
 unfold World.freeze;split<;>simp
def qc(w:World)(es:Array Event){α:Type}:Result α×Array Event->Prop
 |(.ok _ w',es1)=>w.heap.size<=w'.heap.size/\∃es2,es1=es++es2/\∀e∈es2,EvB w'.heap.size e
 |_=>True
theorem qc.after{α:Type}{w w1:World}{es ev:Array Event}{r:Result α×Array Event}(hw:w.heap.size<=w1.heap.size)(hev:∀e∈ev,EvB w1.heap.size e)(h:qc w1 (es++ev) r):qc w es r:=by
 obtain⟨r,es1⟩:=r;cases r with
 |halt x w'=>trivial
 |ok a w'=>
  obtain⟨h1,es2,h2,h3⟩:=h;refine⟨Nat.le_trans hw h1,ev++es2,by rw[h2,Array.append_assoc],fun e he=>?_⟩;rcases Array.mem_append.1 he with he|he
  ·exact(hev e he).mono h1
  ·exact h3 e he
theorem Tm.low{α:Type}{s:Sem α}(h:Tm P s):∀(w:World) (es:Array Event),PS (fun _=>False) w w->qc w es (s.runT P w es):=by
 have vN:∀(B:Nat),∀e∈(#[]:Array Event),EvB B e:=fun B e he=>by simp at he
 induction h with
 |pure a=>exact fun w es _=>⟨Nat.le_refl _,#[],by simp,vN _⟩
 |@load m a k _ ih=>
  intro w es h;simp only[Sem.runT];cases hc:w.cell? a with
  |none=>
   rcases h.Gl P a (m== .atomic)with⟨x,e,hx⟩|⟨⟨v,l⟩,e,_,hl⟩
   ·simp only[e];trivial
   ·simp only[e];refine qc.after (Nat.le_refl _) (fun e he=>?_) (ih v w _ h);simp only[Array.mem_map,List.mem_toArray]at he;obtain⟨x,hx,rfl⟩:=he;exact⟨(hl x hx).2,fun m e=>by cases e⟩
  |some v=>
   simp only[Array.push_eq_append];refine qc.after (Nat.le_refl _) (fun e he=>?_) (ih v w _ h);simp at he;subst he;exact⟨wI hc,fun m e=>by cases e⟩
 |@store m a v k _ ih=>
  intro w es h;have key:(∀c,v≠.agg c)->(∀c,v≠.tuple c)->qc w es ((Sem.store m a v k).runT P w es):=by
   intro ha ht;have e:(Sem.store m a v k).runT P w es=(match w.cell? a with
    |some _=>if w.frozen? a then(.halt (.unsupported (.unsafePointer "a write to bytes that a string shares")) w,es)else k.runT P (w.setCell a v) (es.push ⟨.cell a,true,m== .atomic⟩)
    |none=>match w.farStore P a v (m== .atomic)with
     | .ok (w,touched)=>k.runT P w (es++touched.toArray.map (⟨.cell ·,true,m== .atomic⟩))
     | .error h=>(.halt h w,es)):=by
    cases v<;>first|exact absurd rfl (ha _)|exact absurd rfl (ht _)|rfl
   rw[e];cases hc:w.cell? a with
   |none=>
    rcases h.Bn P a v (m== .atomic)with⟨x,e,hx⟩|⟨p',l,e3,⟨u',_,hu2,hu3⟩,hl,hsz⟩
    ·simp only[e];trivial
    ·have eu:u'=p':=by rw[e3]at hu2;cases hu2;rfl
     subst eu;simp only[e3];refine qc.after (Nat.le_of_eq hsz.symm) (fun e he=>?_) (ih _ _ hu3);simp only[Array.mem_map,List.mem_toArray]at he;obtain⟨x,hx,rfl⟩:=he;exact⟨by show x.block<_;rw[hsz];exact(hl x hx).2,fun m e=>by cases e⟩
   |some x=>
    simp only;cases hf:w.frozen? a with
    |true=>simp only[if_true];trivial
    |false=>
     simp only[Bool.false_eq_true,if_false,Array.push_eq_append];refine qc.after (by rw[rO];exact Nat.le_refl _) (fun e he=>?_) (ih _ _ (h.setCell a v (fun x=>x)));simp at he;subst he;exact⟨by rw[rO];exact wI hc,fun m e=>by cases e⟩
  cases v<;>first|(simp only[Sem.runT];trivial)|exact key (fun _ e=>by cases e) (fun _ e=>by cases e)
 |@new o k ho _ ih=>
  intro w es h;simp only[Sem.runT];have:=ih w.heap.size _ es (h.new (fun b hb=>hb.elim) ho);exact qc.after (w1:= {w with heap:=w.heap.push o}) (ev:=#[]) (by simp) (vN _) (by simpa using this)
 |@shape r k hk _ ih=>
  intro w es h;simp only[Sem.runT];exact ih _ w es h
 |@qG r k _ _ ih=>
  intro w es h;simp only[Sem.runT];exact ih _ w es h
 |@lF o k ho _ ih=>
  intro w es h;simp only[Sem.runT];have:=ih w.heap.size (World.shape? {w with heap:=w.heap.push o} w.heap.size) _ es (h.new (fun b hb=>hb.elim) ho);exact qc.after (w1:= {w with heap:=w.heap.push o}) (ev:=#[]) (by simp) (vN _) (by simpa using this)
 |@freeze a n k _ ih=>
  intro w es h;simp only[Sem.runT];exact qc.after (w1:=w.freeze a n) (ev:=#[]) (by rw[vk];exact Nat.le_refl _) (vN _) (by simpa using ih _ es (h.freeze a n))
 |@stringish r k k' he _ _ ih ih'=>
  intro w es h;simp only[Sem.runT];cases hp:w.shape? r with
  |none=>exact ih' w es h
  |some x=>
   obtain⟨x,n⟩:=x;rw[he];simp only[Sem.runT];exact qc.after (w1:=w.freeze ⟨r,n,none⟩ 1) (ev:=#[]) (by rw[vk];exact Nat.le_refl _) (vN _) (by simpa using ih _ es (h.freeze _ 1))
 |@getObj r k _ ih=>
  intro w es h;simp only[Sem.runT];split
  ·trivial
  ·rename_i o hne ho;refine qc.after (ev:=#[⟨.obj r,false,o.isChan⟩]) (Nat.le_refl _) (fun e he=>?_) (by simpa using ih o w _ h);simp at he;subst he;exact⟨(Array.getElem?_eq_some_iff.1 ho).1,fun m e=>by cases e⟩
  ·trivial
 |@setObj r o k hov _ ih=>
  intro w es h;simp only[Sem.runT];split
  ·trivial
  ·rename_i x hne ho;refine qc.after (w1:= {w with heap:=w.heap.setIfInBounds r o}) (ev:=#[⟨.obj r,true,o.isChan⟩]) (by simp) (fun e he=>?_) (by simpa using ih _ _ (h.set (fun x=>x) hov));simp at he;subst he;exact⟨by simpa[Loc.low]using(Array.getElem?_eq_some_iff.1 ho).1,fun m e=>by cases e⟩
  ·trivial
 |@choose q k _ ih=>
  intro w es h;simp only[Sem.runT];cases hq:q.forced with
  |true=>simp only[if_true];exact ih 0 w es h
  |false=>
   simp only[Bool.false_eq_true,if_false];exact ih _ {w with drawn:=w.drawn+1} es ⟨h.size,h.same,h.rows,h.views,h.tape,rfl,h.os,h.output⟩
 |@program k _ ih=>
  intro w es h;simp only[Sem.runT];exact ih w es h
 |@mark m k hm _ ih=>
  intro w es h;simp only[Sem.runT];refine qc.after (ev:=#[⟨.mark m,false,true⟩]) (Nat.le_refl _) (fun e he=>?_) (by simpa using ih w _ h);simp at he;subst he;exact⟨trivial,fun m' e=>by cases e;exact hm⟩
 |halt x hx=>exact fun w es _=>trivial
 |@dB s hb=>
  intro w es h;obtain⟨x,w',h1,h2⟩:=hb w;cases hr:s.runT P w es with
  |mk r es1=>
   have:r=s.run P w:=by
    have e:=congrArg Prod.fst hr;rw[Sem.runT_fst]at e;exact e.symm
   rw[this,h1];trivial
end Go.eO
namespace Go.eO
open Go.Ren Go.bB Go.Conc
open Go.ConcN (sumTo upd sumTo_upd upd_ne upd_same)
variable {P:Program} {X A:FuncId->Bool} {Sh:Nat->Prop}
theorem PS.self{p u:World}(h:PS Sh p u):PS (fun _=>False) p p:=⟨rfl,fun _ _=>rfl,fun _ x=>x.elim,h.views,rfl,rfl,rfl,rfl⟩
theorem PS.at{p u:World}(h:PS Sh p u)(d:Nat):PS Sh (p.re u.tape d) (u.at d):=⟨h.size,h.same,h.rows,h.views,rfl,rfl,h.os,h.output⟩
theorem PS.vZ{p u:World}(h:PS Sh p u):p.re u.tape u.drawn=p:=by rw[h.tape,h.drawn];exact kF _
def O_(Sh:Nat->Prop):Loc->Prop
 | .cell a=>Sh a.block
 |_=>False
theorem JJ{B:Nat}{e:Event}(h1:Off Sh e)(h2:EvB B e):EvL (O_ Sh) B e:=by
 obtain⟨loc,wr,s⟩:=e;cases loc with
 |cell a=>exact⟨fun x hx hs=>by
   obtain rfl:=Option.some.inj hx;exact absurd hs (h1.1 a rfl),(fun e=>by cases e),(fun e=>by cases e),h2.1⟩
 |obj r=>
  refine⟨fun x hx hs=>?_,(fun e=>by cases e),(fun e=>by cases e),?_⟩
  ·cases wr<;>cases s<;>first|(obtain rfl:=Option.some.inj hx;exact hs.elim)|(cases hx;done)
  ·cases wr<;>cases s<;>exact h2.1
 |mark m=>
  have:=h2.2 m rfl;cases m<;>first|exact this.elim|exact⟨fun x hx=>(by cases hx),(fun e=>by cases e),(fun e=>by cases e),trivial⟩
 |_=>exact⟨fun x hx hs=>by
   first|(cases hx;done)|(obtain rfl:=Option.some.inj hx;exact hs.elim),(fun e=>by cases e),(fun e=>by cases e),trivial⟩
theorem Na(hC:bK P X A){f f':Fr}{fs fs':List Fr}{p p':World}{es:Array Event}(h1:DI P X A f fs)(h2:PS (fun _=>False) p p)(e:aG P f fs p= .go f' fs' p' es):p.heap.size<=p'.heap.size/\∀x∈es,EvB p'.heap.size x:=by
 have vN:∀B,∀x∈(#[]:Array Event),EvB B x:=fun B x hx=>by simp at hx
 have still:p'=p->es=#[]->p.heap.size<=p'.heap.size/\∀x∈es,EvB p'.heap.size x:=by
  rintro rfl rfl;exact⟨Nat.le_refl _,vN _⟩
 unfold aG at e;cases hr:f.ret with
 |true=>
  simp only[hr,if_true]at e;unfold jY at e;cases h1 with
  |one _=>cases e
  |@cons _ c fs hf hA l1 l2 t=>
   obtain⟨fn,hfn⟩:=hC.has f.fn hA;have hlow:=(jM (P:=P) fn f.tmps).low p #[] h2;rw[Sem.runT_eq]at hlow;simp only[hfn]at e;cases hrun:(results fn f.tmps).run P p with
   |halt x w1=>rw[hrun]at e;cases e
   |ok v w1=>
    rw[hrun]at hlow e;obtain⟨hsz,es2,he,hev⟩:=hlow;have Yy:∀x∈(results fn f.tmps).events P p #[],EvB w1.heap.size x:=by rw[he];simpa using hev
    simp only[FO.go.injEq]at e;obtain⟨rfl,rfl,rfl,rfl⟩:=e;exact⟨hsz,fun x hx=>Yy x (Go.bB.mem_seen hx)⟩
 |false=>
  simp only[hr,Bool.false_eq_true,if_false]at e;unfold aJ at e;split at e
  ·cases fs with
   |nil=>cases e
   |cons c rest=>
    simp only[FO.go.injEq]at e;exact still e.2.2.1.symm e.2.2.2.symm
  iterate 5 (·simp only[FO.go.injEq]at e;exact still e.2.2.1.symm e.2.2.2.symm)
  ·split at e
   ·simp only[FO.go.injEq]at e;exact still e.2.2.1.symm e.2.2.2.symm
   ·cases e
  iterate 3 (·simp only[FO.go.injEq]at e;exact still e.2.2.1.symm e.2.2.2.symm)
  ·split at e
   ·simp only[FO.go.injEq]at e;exact still e.2.2.1.symm e.2.2.2.symm
   ·cases e
  ·rename_i id ops draw k htd;cases draw with
   |true=>
    simp only[if_true,FO.go.injEq]at e;obtain⟨rfl,rfl,rfl,rfl⟩:=e;exact⟨Nat.le_refl _,vN _⟩
   |false=>
    simp only[Bool.false_eq_true,if_false,FO.go.injEq]at e;exact still e.2.2.1.symm e.2.2.2.symm
  ·simp only[FO.go.injEq]at e;exact still e.2.2.1.symm e.2.2.2.symm
  ·rename_i ops i rest k htd;split at e
   ·simp only[FO.go.injEq]at e;exact still e.2.2.1.symm e.2.2.2.symm
   ·rename_i o ho;by_cases hwt:Region.wanted o (yielded ops f.tmps)=true
    ·simp only[hwt,if_true]at e;have hop:xQ P X A o=true:=by
      have:=h1.ok (.inRegion ops (i::rest)) (by rw[htd];simp);exact Array.all_eq_true'.1 this o (Array.mem_of_getElem? ho)
     unfold bU at e;rcases xQ.tm hC hop f.act with ZN|hno;rotate_left
     ·obtain⟨x,w1,hx,_⟩:=hno p;rw[hx]at e;cases x<;>cases e
     have hlow:=ZN.low p #[] h2;rw[Sem.runT_eq]at hlow;cases hrun:(execOp f.act.eval o).run P p with
     |halt x w1=>rw[hrun]at e;cases x<;>cases e
     |ok n w1=>
      rw[hrun]at hlow e;obtain⟨hsz,es2,he,hev⟩:=hlow;have Yy:∀x∈(execOp f.act.eval o).events P p #[],EvB w1.heap.size x:=by rw[he];simpa using hev
      have goal:p'=w1->es=seen P f.fn ((execOp f.act.eval o).events P p #[])->p.heap.size<=p'.heap.size/\∀x∈es,EvB p'.heap.size x:=by
       rintro rfl rfl;exact⟨hsz,fun x hx=>Yy x (Go.bB.mem_seen hx)⟩
      rcases wu hC (eval_func f.act) hop hrun with⟨v,rfl⟩|rfl|⟨g,xs,rfl,hg⟩;all_goals
       simp only[FO.go.injEq]at e;exact goal e.2.2.1.symm e.2.2.2.symm
    ·simp only[hwt]at e;simp only[Bool.false_eq_true,if_false,FO.go.injEq]at e;exact still e.2.2.1.symm e.2.2.2.symm
  ·cases e
theorem iY(C:Ctx)(f:Fr)(fs:List Fr):(bP C f fs).status= .running:=by cases fs<;>rfl
theorem MB(hC:bK P X A){C:Ctx}(hk:C.kind≠.early){Stop:Fr->List Fr->World->Prop}(hS:∀f fs w τ d,Stop f fs w->Stop f fs (w.re τ d)){f:Fr}{fs:List Fr}{p:World}(ht:Tr P Stop f fs p):
  ∀(M:Nat) (gs:Array Goroutine) (u:World) (sl:Option (Nat×Nat)) (t:Trace) (q:Nat->Nat),sumTo gs.size q<=M->gs[0]? =some (bP C f fs)->DI P X A f fs->PS Sh (p.re u.tape u.drawn) u->Leavers P t gs q->Past (O_ Sh) u.heap.size t->
   ∃(N:Nat) (gs':Array Goroutine) (f':Fr) (fs':List Fr) (p' u':World) (sl':Option (Nat×Nat)) (t':Trace) (q':Nat->Nat),
    runNT P N (crowd gs u sl) t=(.next (crowd gs' u' sl'),t')/\gs'.size=gs.size/\gs'[0]? =some (bP C f' fs')/\Stop f' fs' p'/\DI P X A f' fs'/\PS Sh p' u'/\Leavers P t' gs' q'/\Past (O_ Sh) u'.heap.size t':=by
 induction ht with
 |@stop f fs p h=>
  intro M gs u sl t q _ h0 hI hps hL hP;exact⟨0,gs,f,fs,_,u,sl,t,q,rfl,rfl,h0,hS _ _ _ _ _ h,hI,hps,hL,hP⟩
 |@step f fs p h1 _ ih=>
  intro M;induction M using Nat.strongRecOn with
  |ind M ihM=>
   intro gs u sl t q hM h0 hI hps hL hP;have hrun:=iY C f fs;have haw:∀g∈gs,awake g:=by
    intro g hg;obtain⟨i,hi,rfl⟩:=Array.mem_iff_getElem.1 hg;rcases Nat.eq_zero_or_pos i with rfl|hpos
    ·have:gs[0]=bP C f fs:=by simpa[Array.getElem?_eq_getElem hi]using h0
     rw[this];exact awake_of (.inl hrun)
    ·exact awake_of ((hL.old i _ hpos (Array.getElem?_eq_getElem hi)).status.elim .inl fun x=>.inr (.inr x))
   obtain⟨i,g,d,sl',hi,hg,hst⟩:=crowd_pick (P:=P) (w:=u) (sl:=sl) haw ⟨0,_,h0,hrun⟩;rcases Nat.eq_zero_or_pos i with rfl|hpos
   ·obtain rfl:g=bP C f fs:=by rw[h0]at hi;exact(Option.some.inj hi).symm
    obtain⟨f',fs',p',es,e⟩:=h1 u.tape d;have Da:PS Sh (p.re u.tape d) (u.at d):=by
     have:=hps.at d;exact this
    obtain⟨u',e',oG,hoff⟩:=ED hC hI Da e;obtain⟨hsz1,hev⟩:=Na hC hI Da.self e;have hI':DI P X A f' fs':=(o_.step hC ⟨hI,Da.self⟩ e).1;have hgo:=rJ (main:=true) (C:=C) hk hI.wf e';have hrunT:=runT_crowd_go (P:=P) (sl:=sl') (i:=0) hi (show stepG P (0==0) (bP C f fs) (u.at d)=_ from hgo);have hsz:((gs.map (woken P (bP C f fs) (bP C f' fs') u')).setIfInBounds 0 (bP C f' fs')).size=gs.size:=by simp
    have hlt:0<gs.size:=(Array.getElem?_eq_some_iff.1 h0).1;have hsu:u.heap.size<=u'.heap.size:=by
     have a1:(p.re u.tape d).heap.size=u.heap.size:=Da.size.symm;have a2:=oG.size;omega
    obtain⟨N,gs',f2,Ze,p2,u2,sl2,t2,q2,hr,hs',r⟩:=ih u.tape d f' fs' p' es e (sumTo gs.size q) ((gs.map (woken P (bP C f fs) (bP C f' fs') u')).setIfInBounds 0 (bP C f' fs')) u' sl' (t++MemOp.ofEvents 0 (bP C f fs).frame.fn (bP C f fs).frame.place es) q (by rw[hsz];exact Nat.le_refl _) (by simp[hlt]) hI' (by rw[oG.vZ];exact oG)
     ⟨fun j x hj hx=>by
      have hne:0≠j:=by omega
      rw[Array.getElem?_setIfInBounds_ne hne,Array.getElem?_map]at hx;obtain⟨y,hy,rfl⟩:=Option.map_eq_some_iff.1 hx;have hq:=hL.old j y hj hy;rw[woken_quitsD hq,Deaf_other t (by omega) _ (fun op hop=>by obtain⟨e,_,rfl⟩:=Go.Conc.mem_ofEvents hop;rfl)];exact hq,fun j hj=>by
      rw[Deaf_other t (g':=0) (by simp at hj;omega) _ (fun op hop=>by obtain⟨e,_,rfl⟩:=Go.Conc.mem_ofEvents hop;rfl)];exact hL.above j (by simpa using hj)⟩
     ((hP.mono hsu).own fun x hx=>JJ (hoff x hx) (by rw[oG.size];exact hev x hx))
    exact⟨N+1,gs',f2,Ze,p2,u2,sl2,t2,q2,by simp only[runNT,hst,hrunT];exact hr,hs'.trans hsz,r⟩
   ·have hq:=hL.old i g hpos hi;have hi0:(i==0)=false:=by simp;omega
    have hlt:i<gs.size:=(Array.getElem?_eq_some_iff.1 hi).1;cases hqi:q i with
    |zero=>rw[hqi]at hq;rw[hq.1]at hg;cases hg
    |succ k=>
     rw[hqi]at hq;rcases hq with⟨hf,_⟩|⟨_,g',es,hm,hstp,hq'⟩
     ·rw[hf]at hg;cases hg
     have hrunT:=runT_crowd_go (P:=P) (sl:=sl') (i:=i) hi (by rw[hi0];exact hstp (u.at d));have hsz:((gs.map (woken P g g' (u.at d))).setIfInBounds i g').size=gs.size:=by simp
     have hsum:sumTo gs.size (upd q i k)+(k+1)=sumTo gs.size q+k:=by
      have:=sumTo_upd q k id hlt;simpa[hqi]using this
     obtain⟨N,gs',f2,Ze,p2,u2,sl2,t2,q2,hr,hs',r⟩:=ihM (sumTo gs.size (upd q i k)) (by omega) ((gs.map (woken P g g' (u.at d))).setIfInBounds i g') (u.at d) sl' (t++MemOp.ofEvents i g.frame.fn g.frame.place es) (upd q i k) (by rw[hsz];exact Nat.le_refl _)
      (by
       have hne:i≠0:=by omega
       rw[Array.getElem?_setIfInBounds_ne hne,Array.getElem?_map,h0];simp[woken_run hrun])
      hI (by have:=hps.at d;exact this)
      ⟨fun j x hj hx=>by
       by_cases hji:i=j
       ·subst hji;rw[Array.getElem?_setIfInBounds_self_of_lt (by simpa using hlt)]at hx;obtain rfl:=Option.some.inj hx;rw[upd_same,Deaf_own];exact hq'
       ·rw[Array.getElem?_setIfInBounds_ne hji,Array.getElem?_map]at hx;obtain⟨y,hy,rfl⟩:=Option.map_eq_some_iff.1 hx;have hqj:=hL.old j y hj hy;rw[woken_quitsD hqj,upd_ne q k (Ne.symm hji),Deaf_other t hji _ (fun op hop=>by obtain⟨e,_,rfl⟩:=Go.Conc.mem_ofEvents hop;rfl)];exact hqj,fun j hj=>by
       rw[Deaf_other t (g':=i) (by simp at hj;omega) _ (fun op hop=>by obtain⟨e,_,rfl⟩:=Go.Conc.mem_ofEvents hop;rfl)];exact hL.above j (by simpa using hj)⟩
      (hP.mute (by omega) hm)
     exact⟨N+1,gs',f2,Ze,p2,u2,sl2,t2,q2,by simp only[runNT,hst,hrunT];exact hr,hs'.trans hsz,r⟩
end Go.eO
namespace Go.eO
open Go.Ren Go.bB Go.Conc
open Go.ConcN (sumTo)
variable {P:Program} {X A:FuncId->Bool}
structure Xm(P:Program)(Sh:Nat->Prop)(g:Goroutine)(p:World)(gs:Array Goroutine)(u:World)(t:Trace)(q:Nat->Nat):Prop where
 zero:gs[0]? =some g
 ps:PS Sh (p.re u.tape u.drawn) u
 leave:Leavers P t gs q
 past:Past (O_ Sh) u.heap.size t
def aj(P:Program)(Sh:Nat->Prop)(g:Goroutine)(p:World)(Post:(Nat->Prop)->Goroutine->World->Prop):Prop:=
 ∀(gs:Array Goroutine) (u:World) (sl:Option (Nat×Nat)) (t:Trace) (q:Nat->Nat),Xm P Sh g p gs u t q->
  ∃(N:Nat) (Sh':Nat->Prop) (g':Goroutine) (p':World) (gs':Array Goroutine) (u':World) (sl':Option (Nat×Nat)) (t':Trace) (q':Nat->Nat),
   runNT P N (crowd gs u sl) t=(.next (crowd gs' u' sl'),t')/\Xm P Sh' g' p' gs' u' t' q'/\Post Sh' g' p'
theorem aj.here{Sh:Nat->Prop}{g:Goroutine}{p:World}{Post:(Nat->Prop)->Goroutine->World->Prop}(h:Post Sh g p):aj P Sh g p Post:=
 fun gs u sl t q hb=>⟨0,Sh,g,p,gs,u,sl,t,q,rfl,hb,h⟩
theorem aj.then{Sh:Nat->Prop}{g:Goroutine}{p:World}{Post Post':(Nat->Prop)->Goroutine->World->Prop}(h:aj P Sh g p Post)(hn:∀Sh' g' p',Post Sh' g' p'->aj P Sh' g' p' Post'):aj P Sh g p Post':=by
 intro gs u sl t q hb;obtain⟨N,Sh1,g1,p1,gs1,u1,sl1,t1,q1,hr1,hb1,hp1⟩:=h gs u sl t q hb;obtain⟨M,sS,g2,p2,gs2,u2,sl2,t2,q2,hr2,hb2,hp2⟩:=hn Sh1 g1 p1 hp1 gs1 u1 sl1 t1 q1 hb1;exact⟨N+M,sS,g2,p2,gs2,u2,sl2,t2,q2,by rw[runNT_add,hr1];exact hr2,hb2,hp2⟩
theorem aj.mono{Sh:Nat->Prop}{g:Goroutine}{p:World}{Post Post':(Nat->Prop)->Goroutine->World->Prop}(h:aj P Sh g p Post)(hn:∀Sh' g' p',Post Sh' g' p'->Post' Sh' g' p'):aj P Sh g p Post':=
 h.then fun _ _ _ x=>.here (hn _ _ _ x)
theorem aj.tree(hC:bK P X A){C:Ctx}(hk:C.kind≠.early){Stop:Fr->List Fr->World->Prop}(hS:∀f fs w τ d,Stop f fs w->Stop f fs (w.re τ d)){f:Fr}{fs:List Fr}{p:World}(ht:Tr P Stop f fs p)(hI:DI P X A f fs){Sh:Nat->Prop}:
  aj P Sh (bP C f fs) p fun Sh' g' p'=>Sh'=Sh/\∃f' fs',g'=bP C f' fs'/\Stop f' fs' p':=by
 intro gs u sl t q hb;obtain⟨N,gs',f',fs',p',u',sl',t',q',hr,_,h0,hs,_,hps,hL,hP⟩:=MB hC hk hS ht _ gs u sl t q (Nat.le_refl _) hb.zero hI hb.ps hb.leave hb.past;exact⟨N,Sh,bP C f' fs',p',gs',u',sl',t',q',hr,⟨h0,by rw[hps.vZ];exact hps,hL,hP⟩,rfl,f',fs',rfl,hs⟩
theorem aj.wp(hC:bK P X A){C:Ctx}(hk:C.kind≠.early){fn:FuncId}{c:Code}(hc:iZ P X A c=true){Q:Exit->Act->World->Prop}{tmps:Array Value}{p:World}(hp:∀(b:Nat) o,p.heap[b]? =some o->xR b o)
  (hQ:∀e a w,Q e a w->e= .normal\/e= .ret)(hre:∀e a w τ d,Q e a w->Q e a (w.re τ d))(hwp:∀τ d,c.wp P Q ⟨tmps,[]⟩ (p.re τ d)){Sh:Nat->Prop}:
  aj P Sh (bP C ⟨fn,tmps,[.code c],false⟩ []) p fun Sh' g' p'=>Sh'=Sh/\∃Am,(g'=bP C ⟨fn,Am,[],false⟩ []/\Q .normal ⟨Am,[]⟩ p')\/(∃todo,g'=bP C ⟨fn,Am,todo,true⟩ []/\Q .ret ⟨Am,[]⟩ p'):=by
 have hI:DI P X A ⟨fn,tmps,[.code c],false⟩ []:=.one fun x hx=>by
  rw[List.mem_singleton.1 hx];exact hc
 have ht:=DY (A9 hC) (I:=o_ P X A) (fn:=fn) (c:=c) ⟨hI,⟨rfl,fun _ _=>rfl,fun _ x=>x.elim,hp,rfl,rfl,rfl,rfl⟩⟩ hQ hre hwp;refine(aj.tree hC hk ?_ ht hI).mono ?_
 ·rintro f fs w τ d ⟨h1,h2,h3⟩;refine⟨h1,h2,?_⟩;rcases h3 with⟨h3,h4,h5⟩|⟨h3,h4⟩
  ·exact .inl ⟨h3,h4,hre _ _ _ _ _ h5⟩
  ·exact .inr ⟨h3,hre _ _ _ _ _ h4⟩
 ·rintro Sh' g' p' ⟨rfl,f',fs',rfl,rfl,rfl,h3⟩;obtain⟨fn',Am,todo',ret'⟩:=f';refine⟨rfl,Am,?_⟩;rcases h3 with⟨h3,h4,h5⟩|⟨h3,h4⟩
  ·obtain rfl:todo'= []:=h3;obtain rfl:ret'=false:=h4;exact .inl ⟨rfl,h5⟩
  ·obtain rfl:ret'=true:=h3;exact .inr ⟨todo',rfl,h4⟩
end Go.eO
namespace Go.Proofs.YtmfpiodlecapiaaGreatDoor
open Go.Ren Go.bB
def slots:FuncId->List (Nat×Nat)
 |46=> [(30,1),(25,1),(3,2),(6,2),(7,2),(8,2),(9,2),(10,2),(20,2),(23,2),(22,1),(33,1)]
 |89=> [(0,2),(1,2),(2,2),(3,2),(4,2),(5,2),(12,1),(8,1),(19,1),(21,1)]
 |91=> [(45,2),(53,2),(68,2),(74,2),(79,2)]
 |92=> [(16,1),(9,2),(17,2),(22,2),(24,2),(26,2)]
 |94=> [(20,2),(46,2),(66,2),(74,2),(33,3),(53,3)]
 |170=> [(13,2),(19,2),(28,2)]
 |148=> [(13,2)]
 |149=> [(24,2),(42,2),(52,1)]
 |150=> [(14,2),(21,2),(31,2),(40,2),(25,1),(43,1)]
 |187=> [(4,4)]
 |188=> [(11,2),(20,2)]
 |_=> []
def jf(f:FuncId)(s:Nat):Nat:=((slots f).lookup s).getD 0
def inside(f:FuncId):Bool:= [94,170,171,147,148,149,188,113,112,168,169].contains f
def outside(f:FuncId):Bool:=f==156
theorem Fp:gH Tryz.prog outside inside (jf 170) Tryz.f170=true:=by kernel_rfl
theorem NT:gH Tryz.prog outside inside (jf 171) Tryz.f171=true:=by kernel_rfl
theorem QN:gH Tryz.prog outside inside (jf 147) Tryz.f147=true:=by kernel_rfl
theorem QL:gH Tryz.prog outside inside (jf 148) Tryz.f148=true:=by kernel_rfl
theorem Fj:gH Tryz.prog outside inside (jf 149) Tryz.f149=true:=by kernel_rfl
theorem QM:gH Tryz.prog outside inside (jf 188) Tryz.f188=true:=by kernel_rfl
theorem Ja:gH Tryz.prog outside inside (jf 113) Tryz.f113=true:=by kernel_rfl
theorem XQ:gH Tryz.prog outside inside (jf 112) Tryz.f112=true:=by kernel_rfl
theorem XR:gH Tryz.prog outside inside (jf 168) Tryz.f168=true:=by kernel_rfl
theorem NS:gH Tryz.prog outside inside (jf 169) Tryz.f169=true:=by kernel_rfl
theorem U7:gH Tryz.prog outside inside (jf 94) Tryz.f94=true:=by kernel_rfl
theorem yR{ρ:Array Nat}:∀(n t:Nat) {acc:Array Value},bF ρ acc acc->bF ρ (Extern.BytealgMakeNoZero.digits n t acc) (Extern.BytealgMakeNoZero.digits n t acc)
 |0,_,_,h=>h
 |n+1,t,_,h=>yR n (t/256) (h.push (.int _ _))
theorem zH{P:Program}{ρ:Array Nat}(ps rs:Array TypeId){xs ys:Array Value}(h:bF ρ xs ys):SR P (uH 0) ρ (Extern.BytealgMakeNoZero.makeNoZero ps rs xs) (Extern.BytealgMakeNoZero.makeNoZero ps rs ys):=by
 rcases Classical.em (∃n,xs=#[.int .i64 n])with⟨n,rfl⟩|hn
 ·have hs:ys.size=1:=by rw[<-h.1];rfl
  obtain⟨v,hv,hsv⟩:=h.get (i:=0) (v:=.int .i64 n) rfl;obtain rfl:ys=#[v]:=by
   apply Array.ext_getElem?;intro i;cases i with
   |zero=>rw[hv];rfl
   |succ i=>rw[Array.getElem?_eq_none (by omega)];simp
  cases hsv;unfold Extern.BytealgMakeNoZero.makeNoZero;dsimp only;cases rs[0]? with
  |none=>exact aH
  |some t=>
   dsimp only;refine(aY t).seq fun iy d d' e1 hd=>?_;replace hd:=hd.1;subst hd;cases d<;>first
    |exact aH
    |(refine eD (fun _=>SR.die (fZ _)) (fun _=>?_)
      refine pG fun cap=>?_;refine(qE _).seq fun vF _ _ e2 _=>?_;refine pG fun b=>?_;refine(jH _ (yR cap b bF.empty)).seq fun qd x y e3 hx=>?_;exact SR.ret (SV.sl _ _ hx))
 ·have key:Extern.BytealgMakeNoZero.makeNoZero ps rs xs=stuck "bytealg.MakeNoZero: an int expected" :=by
   obtain⟨l⟩:=xs;match l,hn with
   | [],_=>rfl
   |[x],hn=>
    cases x with
    |int k n=>cases k<;>first|rfl|exact absurd ⟨_,rfl⟩ hn
    |_=>rfl
   |_::_::_,_=>rfl
  rw[key];exact aH
theorem uh:Extern.findNext Tryz.f156=none:=by rfl
theorem ug:Extern.find Tryz.f156=some (Extern.BytealgMakeNoZero.makeNoZero Tryz.f156.params Tryz.f156.resultTypes):=by rfl
theorem closed:Closed Tryz.prog outside inside jf:=by
 refine⟨fun f hf ρ xs ys ha=>?_,fun f hf fn hfn=>?_,fun f hf=>?_⟩
 ·obtain rfl:f=156:=by simpa[outside]using hf
  unfold callFunc;refine f_ ?_;rw[Tryz.func156];have h1:(Tryz.f156.name== "runtime.NumGoroutine")=false:=by kernel_rfl
  have h2:Tryz.f156.body.isNone=true:=by kernel_rfl
  simp only[h1,h2,Bool.false_eq_true,if_false,if_true,uh,ug];refine SR.mark trivial ?_;exact(zH _ _ ha).seq fun iy v v' e hv=>SR.ret ⟨v,v',rfl,rfl,hv⟩
 ·simp only[inside,List.contains_eq_mem,List.mem_cons,List.not_mem_nil,or_false,decide_eq_true_eq]at hf;rcases hf with rfl|rfl|rfl|rfl|rfl|rfl|rfl|rfl|rfl|rfl|rfl
  ·rw[Tryz.func94]at hfn;obtain rfl:=Option.some.inj hfn;exact U7
  ·rw[Tryz.func170]at hfn;obtain rfl:=Option.some.inj hfn;exact Fp
  ·rw[Tryz.func171]at hfn;obtain rfl:=Option.some.inj hfn;exact NT
  ·rw[Tryz.func147]at hfn;obtain rfl:=Option.some.inj hfn;exact QN
  ·rw[Tryz.func148]at hfn;obtain rfl:=Option.some.inj hfn;exact QL
  ·rw[Tryz.func149]at hfn;obtain rfl:=Option.some.inj hfn;exact Fj
  ·rw[Tryz.func188]at hfn;obtain rfl:=Option.some.inj hfn;exact QM
  ·rw[Tryz.func113]at hfn;obtain rfl:=Option.some.inj hfn;exact Ja
  ·rw[Tryz.func112]at hfn;obtain rfl:=Option.some.inj hfn;exact XQ
  ·rw[Tryz.func168]at hfn;obtain rfl:=Option.some.inj hfn;exact XR
  ·rw[Tryz.func169]at hfn;obtain rfl:=Option.some.inj hfn;exact NS
 ·simp only[inside,List.contains_eq_mem,List.mem_cons,List.not_mem_nil,or_false,decide_eq_true_eq]at hf;rcases hf with rfl|rfl|rfl|rfl|rfl|rfl|rfl|rfl|rfl|rfl|rfl
  ·exact⟨_,Tryz.func94⟩
  ·exact⟨_,Tryz.func170⟩
  ·exact⟨_,Tryz.func171⟩
  ·exact⟨_,Tryz.func147⟩
  ·exact⟨_,Tryz.func148⟩
  ·exact⟨_,Tryz.func149⟩
  ·exact⟨_,Tryz.func188⟩
  ·exact⟨_,Tryz.func113⟩
  ·exact⟨_,Tryz.func112⟩
  ·exact⟨_,Tryz.func168⟩
  ·exact⟨_,Tryz.func169⟩
open Go.Ren Go.bB Go.eO
def Vq:List FuncId:= [28,11,12,13,16,14,15,42,35,69,68,118,81,34,41,82,83,84,130,94,128,129,29,30,31,32,62,63,64,65,66,67,114,115,116,117,171,170,111,112,113,168,169,60,61]
def KY(f:FuncId):Bool:=Vq.contains f
def Ta(P:Program)(X A:FuncId->Bool)(f:FuncId):Bool:=match P.funcs[f]? with|some fn=>SY P X A fn|none=>false
theorem wM{P:Program}{X A:FuncId->Bool}{l:List FuncId}(h:l.all (Ta P X A)=true){f:FuncId}(hf:l.contains f=true):∃fn,P.funcs[f]? =some fn/\SY P X A fn=true:=by
 have h1:=List.all_eq_true.1 h f (by simpa using hf);unfold Ta at h1;cases he:P.funcs[f]? with
 |none=>rw[he]at h1;cases h1
 |some fn=>rw[he]at h1;exact⟨fn,rfl,h1⟩
theorem KN:Vq.all (Ta Tryz.prog outside KY)=true:=by kernel_rfl
theorem QB{α:Type}{P:Program}{f:Program->Sem α}{w:World}:(program >>= f).run P w=(f P).run P w:=rfl
theorem Q8{α:Type}{P:Program}{m:Mark}{f:Unit->Sem α}{w:World}:(mark m >>= f).run P w=(f ()).run P w:=rfl
theorem oJ{P:Program}{f:FuncId}{fn:Func}(hfn:P.funcs[f]? =some fn)(h1:(fn.name== "runtime.NumGoroutine")=false)(h2:fn.body.isNone=true)(h3:Extern.findNext fn=none){e:Array Value->Sem Value}(h4:Extern.find fn=some e){xs:Array Value}{w w':World}{n:Next}(hr:(callFunc f xs).run P w= .ok n w'):∃v,n= .value v:=by
 unfold callFunc at hr;rw[QB,hfn]at hr;simp only[h1,h2,h3,h4,Bool.false_eq_true,if_false,if_true,Q8]at hr;exact qZ (g:=fun x=>x) hr
theorem nO(g:Nat)(hg:4<=g):Tryz.prog.stepOf g=none:=by
 have h:Tryz.prog.funcs.toList.all (fun f=>(f.body.map readies).all fun l=>l.all fun x=>decide (x<4))=true:=by kernel_rfl
 unfold Program.stepOf;rw[Array.findIdx?_eq_none_iff];intro f hf;have h1:=List.all_eq_true.1 h f (by simpa using hf);unfold Ta at h1;cases hb:f.body with
 |none=>rfl
 |some c=>
  rw[hb]at h1;simp only[Option.map_some,Option.any_some,Option.all_some,List.all_eq_true,decide_eq_true_eq]at h1⊢;cases hc:(readies c).contains g with
  |false=>rfl
  |true=>
   have:=h1 g (by simpa using hc);omega
theorem ak:bK Tryz.prog outside KY:=by
 refine⟨fun f hf xs=>?_,fun f hf xs w n w' hr=>?_,fun f hf fn hfn=>?_,fun f hf=>?_,by kernel_rfl,nO⟩
 ·obtain rfl:f=156:=by simpa[outside]using hf
  unfold callFunc;refine jv ?_;rw[Tryz.func156];have h1:(Tryz.f156.name== "runtime.NumGoroutine")=false:=by kernel_rfl
  have h2:Tryz.f156.body.isNone=true:=by kernel_rfl
  simp only[h1,h2,Bool.false_eq_true,if_false,if_true,uh,ug];refine .mark _ trivial ?_;exact aV (zA _ _ _)
 ·obtain rfl:f=156:=by simpa[outside]using hf
  exact oJ (fn:=Tryz.f156) Tryz.func156 (by kernel_rfl) (by kernel_rfl) uh ug hr
 ·obtain⟨fn',h1,h2⟩:=wM KN (show Vq.contains f=true from hf);obtain rfl:=Option.some.inj (h1.symm.trans hfn);exact h2
 ·obtain⟨fn,h1,_⟩:=wM KN (show Vq.contains f=true from hf);exact⟨fn,h1⟩
end Go.Proofs.YtmfpiodlecapiaaGreatDoor
namespace Go.eO
open Go.Ren Go.bB
variable {P:Program}
theorem rG:∀(n:Nat) (a:Addr) (acc:ByteArray),Tm P (Extern.Bytes.loadBytes a n acc)
 |0,_,_=>ay _
 |n+1,a,acc=>by
  unfold Extern.Bytes.loadBytes;refine au (rH _ _) fun v=>?_;split
  ·exact rG n _ _
  ·exact aA
theorem pF(v:Value):Tm P (Extern.Bytes.bytesOf v):=by
 unfold Extern.Bytes.bytesOf;split
 iterate 2 (·exact ay _)
 ·exact rG _ _ _
 ·exact aA
theorem Ej(v:Value):Tm P (Extern.Bytes.asByte v):=by
 unfold Extern.Bytes.asByte;split
 ·exact ay _
 ·exact aA
theorem M5(xs:Array Value):Tm P (Extern.BytealgCount.count xs):=by
 obtain⟨l⟩:=xs;match l with
 | []=>exact aA
 | [_]=>exact aA
 | [_,_]=>exact au (pF _) fun _=>au (Ej _) fun _=>ay _
 |_::_::_::_=>exact aA
theorem zB(xs:Array Value):Tm P (Extern.BytealgIndexByte.indexByte xs):=by
 obtain⟨l⟩:=xs;match l with
 | []=>exact aA
 | [_]=>exact aA
 |[_,_]=>
  refine au (pF _) fun _=>au (Ej _) fun _=>?_;split<;>exact ay _
 |_::_::_::_=>exact aA
theorem Ih(s:String):Tm P (globalAddr s):=by
 unfold globalAddr;refine jv ?_;split
 ·exact ay _
 ·exact aA
theorem Ia:Tm P Extern.BytealgIndex.maxLen:=by
 unfold Extern.BytealgIndex.maxLen;exact au (Ih _) fun _=>au (rH _ _) fun _=>jP _
theorem MZ(xs:Array Value):Tm P (Extern.BytealgIndex.index xs):=by
 obtain⟨l⟩:=xs;match l with
 | []=>exact aA
 | [_]=>exact aA
 |[_,_]=>
  refine au (pF _) fun _=>au (pF _) fun _=>au Ia fun _=>?_;repeat' first
   |with_reducible exact ay _
   |exact bf (by intro g h;cases h)
   |refine lQ ?_ ?_
   |refine au ?_ (fun _=>?_)
   |split
 |_::_::_::_=>exact aA
theorem PZ(xs:Array Value):Tm P (Extern.AbiNoEscape.same xs):=by
 obtain⟨l⟩:=xs;match l with
 | []=>exact aA
 | [_]=>exact ay _
 |_::_::_=>exact aA
end Go.eO
namespace Go.Proofs.YtmfpiodlecapiaaGreatDoor
open Go.Ren Go.bB Go.eO
def rY(f:FuncId):Bool:= [175,217,199,172].contains f
def Vp:List FuncId:= [44,85,71,81,37,73,121,174,125,177,122,123,176,198,200,201,218,75,74,120,173,72]
def KX(f:FuncId):Bool:=Vp.contains f
theorem KM:Vp.all (Ta Tryz.prog rY KX)=true:=by kernel_rfl
theorem LU:Extern.findNext Tryz.f175=none:=by rfl
theorem LK:Extern.find Tryz.f175=some Extern.BytealgCount.count:=by rfl
theorem LQ:Extern.findNext Tryz.f217=none:=by rfl
theorem LJ:Extern.find Tryz.f217=some Extern.BytealgIndexByte.indexByte:=by rfl
theorem LP:Extern.findNext Tryz.f199=none:=by rfl
theorem LH:Extern.find Tryz.f199=some Extern.BytealgIndex.index:=by rfl
theorem LM:Extern.findNext Tryz.f172=none:=by rfl
theorem LG:Extern.find Tryz.f172=some Extern.AbiNoEscape.same:=by rfl
theorem aI:bK Tryz.prog rY KX:=by
 refine⟨fun f hf xs=>?_,fun f hf xs w n w' hr=>?_,fun f hf fn hfn=>?_,fun f hf=>?_,by kernel_rfl,nO⟩
 ·simp only[rY,List.contains_eq_mem,List.mem_cons,List.not_mem_nil,or_false,decide_eq_true_eq]at hf;rcases hf with rfl|rfl|rfl|rfl
  ·unfold callFunc;refine jv ?_;rw[Tryz.func175];have h1:(Tryz.f175.name== "runtime.NumGoroutine")=false:=by kernel_rfl
   have h2:Tryz.f175.body.isNone=true:=by kernel_rfl
   simp only[h1,h2,Bool.false_eq_true,if_false,if_true,LU,LK];refine .mark _ trivial ?_;exact aV (M5 _)
  ·unfold callFunc;refine jv ?_;rw[Tryz.func217];have h1:(Tryz.f217.name== "runtime.NumGoroutine")=false:=by kernel_rfl
   have h2:Tryz.f217.body.isNone=true:=by kernel_rfl
   simp only[h1,h2,Bool.false_eq_true,if_false,if_true,LQ,LJ];refine .mark _ trivial ?_;exact aV (zB _)
  ·unfold callFunc;refine jv ?_;rw[Tryz.func199];have h1:(Tryz.f199.name== "runtime.NumGoroutine")=false:=by kernel_rfl
   have h2:Tryz.f199.body.isNone=true:=by kernel_rfl
   simp only[h1,h2,Bool.false_eq_true,if_false,if_true,LP,LH];refine .mark _ trivial ?_;exact aV (MZ _)
  ·unfold callFunc;refine jv ?_;rw[Tryz.func172];have h1:(Tryz.f172.name== "runtime.NumGoroutine")=false:=by kernel_rfl
   have h2:Tryz.f172.body.isNone=true:=by kernel_rfl
   simp only[h1,h2,Bool.false_eq_true,if_false,if_true,LM,LG];refine .mark _ trivial ?_;exact aV (PZ _)
 ·simp only[rY,List.contains_eq_mem,List.mem_cons,List.not_mem_nil,or_false,decide_eq_true_eq]at hf;rcases hf with rfl|rfl|rfl|rfl
  ·exact oJ (fn:=Tryz.f175) Tryz.func175 (by kernel_rfl) (by kernel_rfl) LU LK hr
  ·exact oJ (fn:=Tryz.f217) Tryz.func217 (by kernel_rfl) (by kernel_rfl) LQ LJ hr
  ·exact oJ (fn:=Tryz.f199) Tryz.func199 (by kernel_rfl) (by kernel_rfl) LP LH hr
  ·exact oJ (fn:=Tryz.f172) Tryz.func172 (by kernel_rfl) (by kernel_rfl) LM LG hr
 ·obtain⟨fn',h1,h2⟩:=wM KM (show Vp.contains f=true from hf);obtain rfl:=Option.some.inj (h1.symm.trans hfn);exact h2
 ·obtain⟨fn,h1,_⟩:=wM KM (show Vp.contains f=true from hf);exact⟨fn,h1⟩
end Go.Proofs.YtmfpiodlecapiaaGreatDoor
