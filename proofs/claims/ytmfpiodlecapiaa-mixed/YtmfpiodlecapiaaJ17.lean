import Derived.Test.YtmfpiodlecapiaaJ16
import Derived.Conc.Beside
import Derived.Conc.Walk
namespace Go.Poi
open Go.Ren Go.Frag Go.Conc
variable {P:Program} {Sh:Nat->Prop}
def EvB(B:Nat)(e:Event):Prop:=e.loc.low B/\∀m,e.loc= .mark m->Bare m
theorem EvB.mono{B B':Nat}(h:B<=B'){e:Event}(he:EvB B e):EvB B' e:=⟨Loc.low_mono h he.1,he.2⟩
theorem cell_lt{w:World}{a:Addr}{v:Value}(h:w.cell? a=some v):a.block<w.heap.size:=by
 unfold World.cell? at h;cases hb:w.heap[a.block]? with
 |none=>rw[hb]at h;simp at h
 |some o=>exact(Array.getElem?_eq_some_iff.1 hb).1
theorem setCell_size(w:World)(a:Addr)(v:Value):(w.setCell a v).heap.size=w.heap.size:=by
 unfold World.setCell;split<;>simp
theorem freeze_size(w:World)(a:Addr)(n:Nat):(w.freeze a n).heap.size=w.heap.size:=by
 unfold World.freeze;split<;>simp
def LowR(w:World)(es:Array Event){α:Type}:Result α×Array Event->Prop
 |(.ok _ w',es1)=>w.heap.size<=w'.heap.size/\∃es2,es1=es++es2/\∀e∈es2,EvB w'.heap.size e
 |_=>True
theorem LowR.after{α:Type}{w w1:World}{es ev:Array Event}{r:Result α×Array Event}(hw:w.heap.size<=w1.heap.size)(hev:∀e∈ev,EvB w1.heap.size e)(h:LowR w1 (es++ev) r):LowR w es r:=by
 obtain⟨r,es1⟩:=r;cases r with
 |halt x w'=>trivial
 |ok a w'=>
  obtain⟨h1,es2,h2,h3⟩:=h;refine⟨Nat.le_trans hw h1,ev++es2,by rw[h2,Array.append_assoc],fun e he=>?_⟩;rcases Array.mem_append.1 he with he|he
  ·exact(hev e he).mono h1
  ·exact h3 e he
theorem Tm.low{α:Type}{s:Sem α}(h:Tm P s):∀(w:World) (es:Array Event),PS (fun _=>False) w w->LowR w es (s.runT P w es):=by
 have no0:∀(B:Nat),∀e∈(#[]:Array Event),EvB B e:=fun B e he=>by simp at he
 induction h with
 |pure a=>exact fun w es _=>⟨Nat.le_refl _,#[],by simp,no0 _⟩
 |@load m a k _ ih=>
  intro w es h;simp only[Sem.runT];cases hc:w.cell? a with
  |none=>
   rcases h.far_load P a (m== .atomic)with⟨x,e,hx⟩|⟨⟨v,l⟩,e,_,hl⟩
   ·simp only[e];trivial
   ·simp only[e];refine LowR.after (Nat.le_refl _) (fun e he=>?_) (ih v w _ h);simp only[Array.mem_map,List.mem_toArray]at he;obtain⟨x,hx,rfl⟩:=he;exact⟨(hl x hx).2,fun m e=>by cases e⟩
  |some v=>
   simp only[Array.push_eq_append];refine LowR.after (Nat.le_refl _) (fun e he=>?_) (ih v w _ h);simp at he;subst he;exact⟨cell_lt hc,fun m e=>by cases e⟩
 |@store m a v k _ ih=>
  intro w es h;have key:(∀c,v≠.agg c)->(∀c,v≠.tuple c)->LowR w es ((Sem.store m a v k).runT P w es):=by
   intro ha ht;have e:(Sem.store m a v k).runT P w es=(match w.cell? a with
    |some _=>if w.frozen? a then(.halt (.unsupported (.unsafePointer "a write to bytes that a string shares")) w,es)else k.runT P (w.setCell a v) (es.push ⟨.cell a,true,m== .atomic⟩)
    |none=>match w.farStore P a v (m== .atomic)with
     | .ok (w,touched)=>k.runT P w (es++touched.toArray.map (⟨.cell ·,true,m== .atomic⟩))
     | .error h=>(.halt h w,es)):=by
    cases v<;>first|exact absurd rfl (ha _)|exact absurd rfl (ht _)|rfl
   rw[e];cases hc:w.cell? a with
   |none=>
    rcases h.far_store P a v (m== .atomic)with⟨x,e,hx⟩|⟨p',l,e3,⟨u',_,hu2,hu3⟩,hl,hsz⟩
    ·simp only[e];trivial
    ·have eu:u'=p':=by rw[e3]at hu2;cases hu2;rfl
     subst eu;simp only[e3];refine LowR.after (Nat.le_of_eq hsz.symm) (fun e he=>?_) (ih _ _ hu3);simp only[Array.mem_map,List.mem_toArray]at he;obtain⟨x,hx,rfl⟩:=he;exact⟨by show x.block<_;rw[hsz];exact(hl x hx).2,fun m e=>by cases e⟩
   |some x=>
    simp only;cases hf:w.frozen? a with
    |true=>simp only[if_true];trivial
    |false=>
     simp only[Bool.false_eq_true,if_false,Array.push_eq_append];refine LowR.after (by rw[setCell_size];exact Nat.le_refl _) (fun e he=>?_) (ih _ _ (h.setCell a v (fun x=>x)));simp at he;subst he;exact⟨by rw[setCell_size];exact cell_lt hc,fun m e=>by cases e⟩
  cases v<;>first|(simp only[Sem.runT];trivial)|exact key (fun _ e=>by cases e) (fun _ e=>by cases e)
 |@new o k ho _ ih=>
  intro w es h;simp only[Sem.runT];have:=ih w.heap.size _ es (h.new (fun b hb=>hb.elim) ho);exact LowR.after (w1:= {w with heap:=w.heap.push o}) (ev:=#[]) (by simp) (no0 _) (by simpa using this)
 |@shape r k hk _ ih=>
  intro w es h;simp only[Sem.runT];exact ih _ w es h
 |@shapeD r k _ _ ih=>
  intro w es h;simp only[Sem.runT];exact ih _ w es h
 |@newShape o k ho _ ih=>
  intro w es h;simp only[Sem.runT];have:=ih w.heap.size (World.shape? {w with heap:=w.heap.push o} w.heap.size) _ es (h.new (fun b hb=>hb.elim) ho);exact LowR.after (w1:= {w with heap:=w.heap.push o}) (ev:=#[]) (by simp) (no0 _) (by simpa using this)
 |@freeze a n k _ ih=>
  intro w es h;simp only[Sem.runT];exact LowR.after (w1:=w.freeze a n) (ev:=#[]) (by rw[freeze_size];exact Nat.le_refl _) (no0 _) (by simpa using ih _ es (h.freeze a n))
 |@stringish r k k' he _ _ ih ih'=>
  intro w es h;simp only[Sem.runT];cases hp:w.shape? r with
  |none=>exact ih' w es h
  |some x=>
   obtain⟨x,n⟩:=x;rw[he];simp only[Sem.runT];exact LowR.after (w1:=w.freeze ⟨r,n,none⟩ 1) (ev:=#[]) (by rw[freeze_size];exact Nat.le_refl _) (no0 _) (by simpa using ih _ es (h.freeze _ 1))
 |@getObj r k _ ih=>
  intro w es h;simp only[Sem.runT];split
  ·trivial
  ·rename_i o hne ho;refine LowR.after (ev:=#[⟨.obj r,false,o.isChan⟩]) (Nat.le_refl _) (fun e he=>?_) (by simpa using ih o w _ h);simp at he;subst he;exact⟨(Array.getElem?_eq_some_iff.1 ho).1,fun m e=>by cases e⟩
  ·trivial
 |@setObj r o k hov _ ih=>
  intro w es h;simp only[Sem.runT];split
  ·trivial
  ·rename_i x hne ho;refine LowR.after (w1:= {w with heap:=w.heap.setIfInBounds r o}) (ev:=#[⟨.obj r,true,o.isChan⟩]) (by simp) (fun e he=>?_) (by simpa using ih _ _ (h.set (fun x=>x) hov));simp at he;subst he;exact⟨by simpa[Loc.low]using(Array.getElem?_eq_some_iff.1 ho).1,fun m e=>by cases e⟩
  ·trivial
 |@choose q k _ ih=>
  intro w es h;simp only[Sem.runT];cases hq:q.forced with
  |true=>simp only[if_true];exact ih 0 w es h
  |false=>
   simp only[Bool.false_eq_true,if_false];exact ih _ {w with drawn:=w.drawn+1} es ⟨h.size,h.same,h.rows,h.views,h.tape,rfl,h.os,h.output⟩
 |@program k _ ih=>
  intro w es h;simp only[Sem.runT];exact ih w es h
 |@mark m k hm _ ih=>
  intro w es h;simp only[Sem.runT];refine LowR.after (ev:=#[⟨.mark m,false,true⟩]) (Nat.le_refl _) (fun e he=>?_) (by simpa using ih w _ h);simp at he;subst he;exact⟨trivial,fun m' e=>by cases e;exact hm⟩
 |halt x hx=>exact fun w es _=>trivial
 |@doomed s hb=>
  intro w es h;obtain⟨x,w',h1,h2⟩:=hb w;cases hr:s.runT P w es with
  |mk r es1=>
   have:r=s.run P w:=by
    have e:=congrArg Prod.fst hr;rw[Sem.runT_fst]at e;exact e.symm
   rw[this,h1];trivial
end Go.Poi
namespace Go.Poi
open Go.Ren Go.Frag Go.Conc
open Go.ConcN (sumTo upd sumTo_upd upd_ne upd_same)
variable {P:Program} {X A:FuncId->Bool} {Sh:Nat->Prop}
theorem PS.self{p u:World}(h:PS Sh p u):PS (fun _=>False) p p:=⟨rfl,fun _ _=>rfl,fun _ x=>x.elim,h.views,rfl,rfl,rfl,rfl⟩
theorem PS.at{p u:World}(h:PS Sh p u)(d:Nat):PS Sh (p.re u.tape d) (u.at d):=⟨h.size,h.same,h.rows,h.views,rfl,rfl,h.os,h.output⟩
theorem PS.same_re{p u:World}(h:PS Sh p u):p.re u.tape u.drawn=p:=by rw[h.tape,h.drawn];exact re_self _
def ShL(Sh:Nat->Prop):Loc->Prop
 | .cell a=>Sh a.block
 |_=>False
theorem evL_of{B:Nat}{e:Event}(h1:Off Sh e)(h2:EvB B e):EvL (ShL Sh) B e:=by
 obtain⟨loc,wr,s⟩:=e;cases loc with
 |cell a=>exact⟨fun x hx hs=>by
   obtain rfl:=Option.some.inj hx;exact absurd hs (h1.1 a rfl),(fun e=>by cases e),(fun e=>by cases e),h2.1⟩
 |obj r=>
  refine⟨fun x hx hs=>?_,(fun e=>by cases e),(fun e=>by cases e),?_⟩
  ·cases wr<;>cases s<;>first|(obtain rfl:=Option.some.inj hx;exact hs.elim)|(cases hx;done)
  ·cases wr<;>cases s<;>exact h2.1
 |mark m=>
  have:=h2.2 m rfl;cases m<;>first|exact this.elim|exact⟨fun x hx=>(by cases hx),(fun e=>by cases e),(fun e=>by cases e),trivial⟩
 |_=>exact⟨fun x hx hs=>by
   first|(cases hx;done)|(obtain rfl:=Option.some.inj hx;exact hs.elim),(fun e=>by cases e),(fun e=>by cases e),trivial⟩
theorem stepT_low(hC:ClosedT P X A){f f':Fr}{fs fs':List Fr}{p p':World}{es:Array Event}(h1:InS P X A f fs)(h2:PS (fun _=>False) p p)(e:fstep P f fs p= .go f' fs' p' es):p.heap.size<=p'.heap.size/\∀x∈es,EvB p'.heap.size x:=by
 have no0:∀B,∀x∈(#[]:Array Event),EvB B x:=fun B x hx=>by simp at hx
 have still:p'=p->es=#[]->p.heap.size<=p'.heap.size/\∀x∈es,EvB p'.heap.size x:=by
  rintro rfl rfl;exact⟨Nat.le_refl _,no0 _⟩
 unfold fstep at e;cases hr:f.ret with
 |true=>
  simp only[hr,if_true]at e;unfold fret at e;cases h1 with
  |one _=>cases e
  |@cons _ c fs hf hA l1 l2 t=>
   obtain⟨fn,hfn⟩:=hC.has f.fn hA;have hlow:=(tm_results (P:=P) fn f.tmps).low p #[] h2;rw[Sem.runT_eq]at hlow;simp only[hfn]at e;cases hrun:(results fn f.tmps).run P p with
   |halt x w1=>rw[hrun]at e;cases e
   |ok v w1=>
    rw[hrun]at hlow e;obtain⟨hsz,es2,he,hev⟩:=hlow;have hev':∀x∈(results fn f.tmps).events P p #[],EvB w1.heap.size x:=by rw[he];simpa using hev
    simp only[FO.go.injEq]at e;obtain⟨rfl,rfl,rfl,rfl⟩:=e;exact⟨hsz,fun x hx=>hev' x (Go.Frag.mem_seen hx)⟩
 |false=>
  simp only[hr,Bool.false_eq_true,if_false]at e;unfold qU at e;split at e
  ·cases fs with
   |nil=>cases e
   |cons c rest=>
    simp only[FO.go.injEq]at e;exact still e.2.2.1.symm e.2.2.2.symm
  ·simp only[FO.go.injEq]at e;exact still e.2.2.1.symm e.2.2.2.symm
  ·simp only[FO.go.injEq]at e;exact still e.2.2.1.symm e.2.2.2.symm
  ·simp only[FO.go.injEq]at e;exact still e.2.2.1.symm e.2.2.2.symm
  ·simp only[FO.go.injEq]at e;exact still e.2.2.1.symm e.2.2.2.symm
  ·simp only[FO.go.injEq]at e;exact still e.2.2.1.symm e.2.2.2.symm
  ·split at e
   ·simp only[FO.go.injEq]at e;exact still e.2.2.1.symm e.2.2.2.symm
   ·cases e
  ·simp only[FO.go.injEq]at e;exact still e.2.2.1.symm e.2.2.2.symm
  ·simp only[FO.go.injEq]at e;exact still e.2.2.1.symm e.2.2.2.symm
  ·simp only[FO.go.injEq]at e;exact still e.2.2.1.symm e.2.2.2.symm
  ·split at e
   ·simp only[FO.go.injEq]at e;exact still e.2.2.1.symm e.2.2.2.symm
   ·cases e
  ·rename_i id ops draw k htd;cases draw with
   |true=>
    simp only[if_true,FO.go.injEq]at e;obtain⟨rfl,rfl,rfl,rfl⟩:=e;exact⟨Nat.le_refl _,no0 _⟩
   |false=>
    simp only[Bool.false_eq_true,if_false,FO.go.injEq]at e;exact still e.2.2.1.symm e.2.2.2.symm
  ·simp only[FO.go.injEq]at e;exact still e.2.2.1.symm e.2.2.2.symm
  ·rename_i ops i rest k htd;split at e
   ·simp only[FO.go.injEq]at e;exact still e.2.2.1.symm e.2.2.2.symm
   ·rename_i o ho;by_cases hwt:Region.wanted o (yielded ops f.tmps)=true
    ·simp only[hwt,if_true]at e;have hop:okT P X A o=true:=by
      have:=h1.ok (.inRegion ops (i::rest)) (by rw[htd];simp);exact Array.all_eq_true'.1 this o (Array.mem_of_getElem? ho)
     unfold foper at e;rcases okT.tm hC hop f.act with htm|hno;rotate_left
     ·obtain⟨x,w1,hx,_⟩:=hno p;rw[hx]at e;cases x<;>cases e
     have hlow:=htm.low p #[] h2;rw[Sem.runT_eq]at hlow;cases hrun:(execOp f.act.eval o).run P p with
     |halt x w1=>rw[hrun]at e;cases x<;>cases e
     |ok n w1=>
      rw[hrun]at hlow e;obtain⟨hsz,es2,he,hev⟩:=hlow;have hev':∀x∈(execOp f.act.eval o).events P p #[],EvB w1.heap.size x:=by rw[he];simpa using hev
      have goal:p'=w1->es=seen P f.fn ((execOp f.act.eval o).events P p #[])->p.heap.size<=p'.heap.size/\∀x∈es,EvB p'.heap.size x:=by
       rintro rfl rfl;exact⟨hsz,fun x hx=>hev' x (Go.Frag.mem_seen hx)⟩
      rcases op_next hC (eval_func f.act) hop hrun with⟨v,rfl⟩|rfl|⟨g,xs,rfl,hg⟩;all_goals
       simp only[FO.go.injEq]at e;exact goal e.2.2.1.symm e.2.2.2.symm
    ·simp only[hwt]at e;simp only[Bool.false_eq_true,if_false,FO.go.injEq]at e;exact still e.2.2.1.symm e.2.2.2.symm
  ·cases e
theorem conc_status(C:Ctx)(f:Fr)(fs:List Fr):(conc C f fs).status= .running:=by cases fs<;>rfl
theorem walk_tree(hC:ClosedT P X A){C:Ctx}(hk:C.kind≠.early){Stop:Fr->List Fr->World->Prop}(hS:∀f fs w τ d,Stop f fs w->Stop f fs (w.re τ d)){f:Fr}{fs:List Fr}{p:World}(ht:Tr P Stop f fs p):
  ∀(M:Nat) (gs:Array Goroutine) (u:World) (sl:Option (Nat×Nat)) (t:Trace) (q:Nat->Nat),sumTo gs.size q<=M->gs[0]? =some (conc C f fs)->InS P X A f fs->PS Sh (p.re u.tape u.drawn) u->Leavers P t gs q->Past (ShL Sh) u.heap.size t->
   ∃(N:Nat) (gs':Array Goroutine) (f':Fr) (fs':List Fr) (p' u':World) (sl':Option (Nat×Nat)) (t':Trace) (q':Nat->Nat),
    runNT P N (crowd gs u sl) t=(.next (crowd gs' u' sl'),t')/\gs'.size=gs.size/\gs'[0]? =some (conc C f' fs')/\Stop f' fs' p'/\InS P X A f' fs'/\PS Sh p' u'/\Leavers P t' gs' q'/\Past (ShL Sh) u'.heap.size t':=by
 induction ht with
 |@stop f fs p h=>
  intro M gs u sl t q _ h0 hI hps hL hP;exact⟨0,gs,f,fs,_,u,sl,t,q,rfl,rfl,h0,hS _ _ _ _ _ h,hI,hps,hL,hP⟩
 |@step f fs p h1 _ ih=>
  intro M;induction M using Nat.strongRecOn with
  |ind M ihM=>
   intro gs u sl t q hM h0 hI hps hL hP;have hrun:=conc_status C f fs;have haw:∀g∈gs,awake g:=by
    intro g hg;obtain⟨i,hi,rfl⟩:=Array.mem_iff_getElem.1 hg;rcases Nat.eq_zero_or_pos i with rfl|hpos
    ·have:gs[0]=conc C f fs:=by simpa[Array.getElem?_eq_getElem hi]using h0
     rw[this];exact awake_of (.inl hrun)
    ·exact awake_of ((hL.old i _ hpos (Array.getElem?_eq_getElem hi)).status.elim .inl fun x=>.inr (.inr x))
   obtain⟨i,g,d,sl',hi,hg,hst⟩:=crowd_pick (P:=P) (w:=u) (sl:=sl) haw ⟨0,_,h0,hrun⟩;rcases Nat.eq_zero_or_pos i with rfl|hpos
   ·obtain rfl:g=conc C f fs:=by rw[h0]at hi;exact(Option.some.inj hi).symm
    obtain⟨f',fs',p',es,e⟩:=h1 u.tape d;have hps':PS Sh (p.re u.tape d) (u.at d):=by
     have:=hps.at d;exact this
    obtain⟨u',e',hps2,hoff⟩:=stepT_alike hC hI hps' e;obtain⟨hsz1,hev⟩:=stepT_low hC hI hps'.self e;have hI':InS P X A f' fs':=(InnT.step hC ⟨hI,hps'.self⟩ e).1;have hgo:=step_go (main:=true) (C:=C) hk hI.wf e';have hrunT:=runT_crowd_go (P:=P) (sl:=sl') (i:=0) hi (show stepG P (0==0) (conc C f fs) (u.at d)=_ from hgo);have hsz:((gs.map (woken P (conc C f fs) (conc C f' fs') u')).setIfInBounds 0 (conc C f' fs')).size=gs.size:=by simp
    have hlt:0<gs.size:=(Array.getElem?_eq_some_iff.1 h0).1;have hsu:u.heap.size<=u'.heap.size:=by
     have a1:(p.re u.tape d).heap.size=u.heap.size:=hps'.size.symm;have a2:=hps2.size;omega
    obtain⟨N,gs',f2,fs2,p2,u2,sl2,t2,q2,hr,hs',r⟩:=ih u.tape d f' fs' p' es e (sumTo gs.size q) ((gs.map (woken P (conc C f fs) (conc C f' fs') u')).setIfInBounds 0 (conc C f' fs')) u' sl' (t++MemOp.ofEvents 0 (conc C f fs).frame.fn (conc C f fs).frame.place es) q (by rw[hsz];exact Nat.le_refl _) (by simp[hlt]) hI' (by rw[hps2.same_re];exact hps2)
     ⟨fun j x hj hx=>by
      have hne:0≠j:=by omega
      rw[Array.getElem?_setIfInBounds_ne hne,Array.getElem?_map]at hx;obtain⟨y,hy,rfl⟩:=Option.map_eq_some_iff.1 hx;have hq:=hL.old j y hj hy;rw[woken_quitsD hq,Deaf_other t (by omega) _ (fun op hop=>by obtain⟨e,_,rfl⟩:=Go.Conc.mem_ofEvents hop;rfl)];exact hq,fun j hj=>by
      rw[Deaf_other t (g':=0) (by simp at hj;omega) _ (fun op hop=>by obtain⟨e,_,rfl⟩:=Go.Conc.mem_ofEvents hop;rfl)];exact hL.above j (by simpa using hj)⟩
     ((hP.mono hsu).own fun x hx=>evL_of (hoff x hx) (by rw[hps2.size];exact hev x hx))
    exact⟨N+1,gs',f2,fs2,p2,u2,sl2,t2,q2,by simp only[runNT,hst,hrunT];exact hr,hs'.trans hsz,r⟩
   ·have hq:=hL.old i g hpos hi;have hi0:(i==0)=false:=by simp;omega
    have hlt:i<gs.size:=(Array.getElem?_eq_some_iff.1 hi).1;cases hqi:q i with
    |zero=>rw[hqi]at hq;rw[hq.1]at hg;cases hg
    |succ k=>
     rw[hqi]at hq;rcases hq with⟨hf,_⟩|⟨_,g',es,hm,hstp,hq'⟩
     ·rw[hf]at hg;cases hg
     have hrunT:=runT_crowd_go (P:=P) (sl:=sl') (i:=i) hi (by rw[hi0];exact hstp (u.at d));have hsz:((gs.map (woken P g g' (u.at d))).setIfInBounds i g').size=gs.size:=by simp
     have hsum:sumTo gs.size (upd q i k)+(k+1)=sumTo gs.size q+k:=by
      have:=sumTo_upd q k id hlt;simpa[hqi]using this
     obtain⟨N,gs',f2,fs2,p2,u2,sl2,t2,q2,hr,hs',r⟩:=ihM (sumTo gs.size (upd q i k)) (by omega) ((gs.map (woken P g g' (u.at d))).setIfInBounds i g') (u.at d) sl' (t++MemOp.ofEvents i g.frame.fn g.frame.place es) (upd q i k) (by rw[hsz];exact Nat.le_refl _)
      (by
       have hne:i≠0:=by omega
       rw[Array.getElem?_setIfInBounds_ne hne,Array.getElem?_map,h0];simp[woken_run hrun])
      hI (by have:=hps.at d;exact this)
      ⟨fun j x hj hx=>by
       by_cases hji:i=j
       ·subst hji;rw[Array.getElem?_setIfInBounds_self_of_lt (by simpa using hlt)]at hx;obtain rfl:=Option.some.inj hx;rw[upd_same,Deaf_own];exact hq'
       ·rw[Array.getElem?_setIfInBounds_ne hji,Array.getElem?_map]at hx;obtain⟨y,hy,rfl⟩:=Option.map_eq_some_iff.1 hx;have hqj:=hL.old j y hj hy;rw[woken_quitsD hqj,upd_ne q k (Ne.symm hji),Deaf_other t hji _ (fun op hop=>by obtain⟨e,_,rfl⟩:=Go.Conc.mem_ofEvents hop;rfl)];exact hqj,fun j hj=>by
       rw[Deaf_other t (g':=i) (by simp at hj;omega) _ (fun op hop=>by obtain⟨e,_,rfl⟩:=Go.Conc.mem_ofEvents hop;rfl)];exact hL.above j (by simpa using hj)⟩
      (hP.mute (by omega) hm)
     exact⟨N+1,gs',f2,fs2,p2,u2,sl2,t2,q2,by simp only[runNT,hst,hrunT];exact hr,hs'.trans hsz,r⟩
end Go.Poi
namespace Go.Poi
open Go.Ren Go.Frag Go.Conc
open Go.ConcN (sumTo)
variable {P:Program} {X A:FuncId->Bool}
structure Bst(P:Program)(Sh:Nat->Prop)(g:Goroutine)(p:World)(gs:Array Goroutine)(u:World)(t:Trace)(q:Nat->Nat):Prop where
 zero:gs[0]? =some g
 ps:PS Sh (p.re u.tape u.drawn) u
 leave:Leavers P t gs q
 past:Past (ShL Sh) u.heap.size t
def qR(P:Program)(Sh:Nat->Prop)(g:Goroutine)(p:World)(Post:(Nat->Prop)->Goroutine->World->Prop):Prop:=
 ∀(gs:Array Goroutine) (u:World) (sl:Option (Nat×Nat)) (t:Trace) (q:Nat->Nat),Bst P Sh g p gs u t q->
  ∃(N:Nat) (Sh':Nat->Prop) (g':Goroutine) (p':World) (gs':Array Goroutine) (u':World) (sl':Option (Nat×Nat)) (t':Trace) (q':Nat->Nat),
   runNT P N (crowd gs u sl) t=(.next (crowd gs' u' sl'),t')/\Bst P Sh' g' p' gs' u' t' q'/\Post Sh' g' p'
theorem qR.here{Sh:Nat->Prop}{g:Goroutine}{p:World}{Post:(Nat->Prop)->Goroutine->World->Prop}(h:Post Sh g p):qR P Sh g p Post:=
 fun gs u sl t q hb=>⟨0,Sh,g,p,gs,u,sl,t,q,rfl,hb,h⟩
theorem qR.then{Sh:Nat->Prop}{g:Goroutine}{p:World}{Post Post':(Nat->Prop)->Goroutine->World->Prop}(h:qR P Sh g p Post)(hn:∀Sh' g' p',Post Sh' g' p'->qR P Sh' g' p' Post'):qR P Sh g p Post':=by
 intro gs u sl t q hb;obtain⟨N,Sh1,g1,p1,gs1,u1,sl1,t1,q1,hr1,hb1,hp1⟩:=h gs u sl t q hb;obtain⟨M,Sh2,g2,p2,gs2,u2,sl2,t2,q2,hr2,hb2,hp2⟩:=hn Sh1 g1 p1 hp1 gs1 u1 sl1 t1 q1 hb1;exact⟨N+M,Sh2,g2,p2,gs2,u2,sl2,t2,q2,by rw[runNT_add,hr1];exact hr2,hb2,hp2⟩
theorem qR.mono{Sh:Nat->Prop}{g:Goroutine}{p:World}{Post Post':(Nat->Prop)->Goroutine->World->Prop}(h:qR P Sh g p Post)(hn:∀Sh' g' p',Post Sh' g' p'->Post' Sh' g' p'):qR P Sh g p Post':=
 h.then fun _ _ _ x=>.here (hn _ _ _ x)
theorem qR.tree(hC:ClosedT P X A){C:Ctx}(hk:C.kind≠.early){Stop:Fr->List Fr->World->Prop}(hS:∀f fs w τ d,Stop f fs w->Stop f fs (w.re τ d)){f:Fr}{fs:List Fr}{p:World}(ht:Tr P Stop f fs p)(hI:InS P X A f fs){Sh:Nat->Prop}:
  qR P Sh (conc C f fs) p fun Sh' g' p'=>Sh'=Sh/\∃f' fs',g'=conc C f' fs'/\Stop f' fs' p':=by
 intro gs u sl t q hb;obtain⟨N,gs',f',fs',p',u',sl',t',q',hr,_,h0,hs,_,hps,hL,hP⟩:=walk_tree hC hk hS ht _ gs u sl t q (Nat.le_refl _) hb.zero hI hb.ps hb.leave hb.past;exact⟨N,Sh,conc C f' fs',p',gs',u',sl',t',q',hr,⟨h0,by rw[hps.same_re];exact hps,hL,hP⟩,rfl,f',fs',rfl,hs⟩
theorem qR.wp(hC:ClosedT P X A){C:Ctx}(hk:C.kind≠.early){fn:FuncId}{c:Code}(hc:codeT P X A c=true){Q:Exit->Act->World->Prop}{tmps:Array Value}{p:World}(hp:∀(b:Nat) o,p.heap[b]? =some o->okAt b o)
  (hQ:∀e a w,Q e a w->e= .normal\/e= .ret)(hre:∀e a w τ d,Q e a w->Q e a (w.re τ d))(hwp:∀τ d,c.wp P Q ⟨tmps,[]⟩ (p.re τ d)){Sh:Nat->Prop}:
  qR P Sh (conc C ⟨fn,tmps,[.code c],false⟩ []) p fun Sh' g' p'=>Sh'=Sh/\∃tmps',(g'=conc C ⟨fn,tmps',[],false⟩ []/\Q .normal ⟨tmps',[]⟩ p')\/(∃todo,g'=conc C ⟨fn,tmps',todo,true⟩ []/\Q .ret ⟨tmps',[]⟩ p'):=by
 have hI:InS P X A ⟨fn,tmps,[.code c],false⟩ []:=.one fun x hx=>by
  rw[List.mem_singleton.1 hx];exact hc
 have ht:=tree_gen (innT_good hC) (I:=InnT P X A) (fn:=fn) (c:=c) ⟨hI,⟨rfl,fun _ _=>rfl,fun _ x=>x.elim,hp,rfl,rfl,rfl,rfl⟩⟩ hQ hre hwp;refine(qR.tree hC hk ?_ ht hI).mono ?_
 ·rintro f fs w τ d ⟨h1,h2,h3⟩;refine⟨h1,h2,?_⟩;rcases h3 with⟨h3,h4,h5⟩|⟨h3,h4⟩
  ·exact .inl ⟨h3,h4,hre _ _ _ _ _ h5⟩
  ·exact .inr ⟨h3,hre _ _ _ _ _ h4⟩
 ·rintro Sh' g' p' ⟨rfl,f',fs',rfl,rfl,rfl,h3⟩;obtain⟨fn',tmps',todo',ret'⟩:=f';refine⟨rfl,tmps',?_⟩;rcases h3 with⟨h3,h4,h5⟩|⟨h3,h4⟩
  ·obtain rfl:todo'= []:=h3;obtain rfl:ret'=false:=h4;exact .inl ⟨rfl,h5⟩
  ·obtain rfl:ret'=true:=h3;exact .inr ⟨todo',rfl,h4⟩
end Go.Poi
namespace Go.Poi
open Go.Ren Go.Frag Go.Conc
open Go.ConcN (sumTo upd sumTo_upd upd_ne upd_same)
variable {P:Program} {X A:FuncId->Bool} {Sh:Nat->Prop} {Post:(Nat->Prop)->Goroutine->World->Prop}
theorem qR.stepC{g:Goroutine}{p:World}(hrun:g.status= .running)
  (h:∀u:World,PS Sh (p.re u.tape u.drawn) u->∃g' p' u' es,stepG P true g u= .go g' u' es/\PS Sh (p'.re u'.tape u'.drawn) u'/\u.heap.size<=u'.heap.size/\(∀e∈es,EvL (ShL Sh) u'.heap.size e)/\
   ∀gs1 sl1 t1 q1,Bst P Sh g' p' gs1 u' t1 q1->(es=#[]->Past (ShL Sh) u.heap.size t1)->∃(N:Nat) (Sh2:Nat->Prop) (g2:Goroutine) (p2:World) (gs2:Array Goroutine) (u2:World) (sl2:Option (Nat×Nat)) (t2:Trace) (q2:Nat->Nat),
    runNT P N (crowd gs1 u' sl1) t1=(.next (crowd gs2 u2 sl2),t2)/\Bst P Sh2 g2 p2 gs2 u2 t2 q2/\Post Sh2 g2 p2):qR P Sh g p Post:=by
 have main:∀(M:Nat) (gs:Array Goroutine) (u:World) (sl:Option (Nat×Nat)) (t:Trace) (q:Nat->Nat),sumTo gs.size q<=M->Bst P Sh g p gs u t q->
   ∃(N:Nat) (Sh':Nat->Prop) (g':Goroutine) (p':World) (gs':Array Goroutine) (u':World) (sl':Option (Nat×Nat)) (t':Trace) (q':Nat->Nat),
    runNT P N (crowd gs u sl) t=(.next (crowd gs' u' sl'),t')/\Bst P Sh' g' p' gs' u' t' q'/\Post Sh' g' p':=by
  intro M;induction M using Nat.strongRecOn with
  |ind M ihM=>
   intro gs u sl t q hM hb;obtain⟨h0,hps,hL,hP⟩:=hb;have haw:∀g∈gs,awake g:=by
    intro x hg;obtain⟨i,hi,rfl⟩:=Array.mem_iff_getElem.1 hg;rcases Nat.eq_zero_or_pos i with rfl|hpos
    ·have:gs[0]=g:=by simpa[Array.getElem?_eq_getElem hi]using h0
     rw[this];exact awake_of (.inl hrun)
    ·exact awake_of ((hL.old i _ hpos (Array.getElem?_eq_getElem hi)).status.elim .inl fun x=>.inr (.inr x))
   obtain⟨i,x,d,sl',hi,hg,hst⟩:=crowd_pick (P:=P) (w:=u) (sl:=sl) haw ⟨0,_,h0,hrun⟩;rcases Nat.eq_zero_or_pos i with rfl|hpos
   ·obtain rfl:x=g:=by rw[h0]at hi;exact(Option.some.inj hi).symm
    have hps':PS Sh (p.re u.tape d) (u.at d):=by
     have:=hps.at d;exact this
    obtain⟨g',p',u',es,hgo,hps2,hsu,hev,hn⟩:=h (u.at d) hps';have hrunT:=runT_crowd_go (P:=P) (sl:=sl') (i:=0) hi (show stepG P (0==0) x (u.at d)=_ from hgo);have hsz:((gs.map (woken P x g' u')).setIfInBounds 0 g').size=gs.size:=by simp
    have hlt:0<gs.size:=(Array.getElem?_eq_some_iff.1 h0).1;obtain⟨N,Sh2,g2,p2,gs2,u2,sl2,t2,q2,hr,r⟩:=hn ((gs.map (woken P x g' u')).setIfInBounds 0 g') sl' (t++MemOp.ofEvents 0 x.frame.fn x.frame.place es) q
     ⟨by simp[hlt],hps2,⟨fun j y hj hx=>by
      have hne:0≠j:=by omega
      rw[Array.getElem?_setIfInBounds_ne hne,Array.getElem?_map]at hx;obtain⟨z,hz,rfl⟩:=Option.map_eq_some_iff.1 hx;have hq:=hL.old j z hj hz;rw[woken_quitsD hq,Deaf_other t (by omega) _ (fun op hop=>by obtain⟨e,_,rfl⟩:=Go.Conc.mem_ofEvents hop;rfl)];exact hq,fun j hj=>by
      rw[Deaf_other t (g':=0) (by simp at hj;omega) _ (fun op hop=>by obtain⟨e,_,rfl⟩:=Go.Conc.mem_ofEvents hop;rfl)];exact hL.above j (by simpa using hj)⟩,(hP.mono hsu).own hev⟩ (fun e=>by subst e;have e0:(u.at d).heap.size=u.heap.size:=rfl;rw[e0];simpa[MemOp.ofEvents]using hP)
    exact⟨N+1,Sh2,g2,p2,gs2,u2,sl2,t2,q2,by simp only[runNT,hst,hrunT];exact hr,r⟩
   ·have hq:=hL.old i x hpos hi;have hi0:(i==0)=false:=by simp;omega
    have hlt:i<gs.size:=(Array.getElem?_eq_some_iff.1 hi).1;cases hqi:q i with
    |zero=>rw[hqi]at hq;rw[hq.1]at hg;cases hg
    |succ k=>
     rw[hqi]at hq;rcases hq with⟨hf,_⟩|⟨_,g',es,hm,hstp,hq'⟩
     ·rw[hf]at hg;cases hg
     have hrunT:=runT_crowd_go (P:=P) (sl:=sl') (i:=i) hi (by rw[hi0];exact hstp (u.at d));have hsz:((gs.map (woken P x g' (u.at d))).setIfInBounds i g').size=gs.size:=by simp
     have hsum:sumTo gs.size (upd q i k)+(k+1)=sumTo gs.size q+k:=by
      have:=sumTo_upd q k id hlt;simpa[hqi]using this
     obtain⟨N,Sh2,g2,p2,gs2,u2,sl2,t2,q2,hr,r⟩:=ihM (sumTo gs.size (upd q i k)) (by omega) ((gs.map (woken P x g' (u.at d))).setIfInBounds i g') (u.at d) sl' (t++MemOp.ofEvents i x.frame.fn x.frame.place es) (upd q i k) (by rw[hsz];exact Nat.le_refl _)
      ⟨by
       have hne:i≠0:=by omega
       rw[Array.getElem?_setIfInBounds_ne hne,Array.getElem?_map,h0];simp[woken_run hrun],by have:=hps.at d;exact this,
      ⟨fun j y hj hx=>by
       by_cases hji:i=j
       ·subst hji;rw[Array.getElem?_setIfInBounds_self_of_lt (by simpa using hlt)]at hx;obtain rfl:=Option.some.inj hx;rw[upd_same,Deaf_own];exact hq'
       ·rw[Array.getElem?_setIfInBounds_ne hji,Array.getElem?_map]at hx;obtain⟨z,hz,rfl⟩:=Option.map_eq_some_iff.1 hx;have hqj:=hL.old j z hj hz;rw[woken_quitsD hqj,upd_ne q k (Ne.symm hji),Deaf_other t hji _ (fun op hop=>by obtain⟨e,_,rfl⟩:=Go.Conc.mem_ofEvents hop;rfl)];exact hqj,fun j hj=>by
       rw[Deaf_other t (g':=i) (by simp at hj;omega) _ (fun op hop=>by obtain⟨e,_,rfl⟩:=Go.Conc.mem_ofEvents hop;rfl)];exact hL.above j (by simpa using hj)⟩,
      (hP.mute (by omega) hm)⟩
     exact⟨N+1,Sh2,g2,p2,gs2,u2,sl2,t2,q2,by simp only[runNT,hst,hrunT];exact hr,r⟩
 exact fun gs u sl t q hb=>main _ gs u sl t q (Nat.le_refl _) hb
theorem qR.step{g:Goroutine}{p:World}(hrun:g.status= .running)
  (h:∀u:World,PS Sh (p.re u.tape u.drawn) u->∃g' p' u' es,stepG P true g u= .go g' u' es/\PS Sh (p'.re u'.tape u'.drawn) u'/\u.heap.size<=u'.heap.size/\(∀e∈es,EvL (ShL Sh) u'.heap.size e)/\qR P Sh g' p' Post):qR P Sh g p Post:=
 .stepC hrun fun u hps=>by
  obtain⟨g',p',u',es,h1,h2,h3,h4,h5⟩:=h u hps;exact⟨g',p',u',es,h1,h2,h3,h4,fun gs1 sl1 t1 q1 hb _=>h5 gs1 u' sl1 t1 q1 hb⟩
theorem qR.ctl{g g':Goroutine}{p:World}(hrun:g.status= .running)(h:∀u,stepG P true g u= .go g' u #[])(hn:qR P Sh g' p Post):qR P Sh g p Post:=
 .step hrun fun u hps=>⟨g',p,u,#[],h u,hps,Nat.le_refl _,fun e he=>by simp at he,hn⟩
theorem qR.op{b:Frame}{a:Act}{k:List Item}{cs:List Frame}{ops:Array Oper}{i:Nat}{rest:List Nat}{o:Oper}{p:World}(hT:Tm P (execOp a.eval o))(ho:ops[i]? =some o)(hw:Region.wanted o (yielded ops a.tmps)=true)(hk:b.kind≠.early)
  (h:∀τ d,∀K':Act->World->Prop,(∀a' p',qR P Sh (G (b.at a' (.inRegion ops rest::k)) cs) p' Post->K' a' p')->uponK o a K' ((execOp a.eval o).run P (p.re τ d))):
  qR P Sh (G (b.at a (.inRegion ops (i::rest)::k)) cs) p Post:=by
 refine .step rfl fun u hps=>?_;have h1:=h u.tape u.drawn (fun a' p'=>qR P Sh (G (b.at a' (.inRegion ops rest::k)) cs) p' Post) (fun _ _ x=>x);have hal:=hT.run _ u #[] hps;have hlow:=hT.low _ #[] hps.self;rw[Sem.runT_eq]at hal hlow;have key:∀(n:Next) (p':World),(execOp a.eval o).run P (p.re u.tape u.drawn)= .ok n p'->∃u',(execOp a.eval o).run P u= .ok n u'/\PS Sh p' u'/\u.heap.size<=u'.heap.size/\∀e∈listed P b.fn a o u,EvL (ShL Sh) u'.heap.size e:=by
  intro n p' e;rw[e]at hal hlow;obtain⟨u',es2,e1,e2,e3,e4⟩:=hal;obtain⟨l1,es3,l2,l3⟩:=hlow;rw[Sem.runT_eq]at e2;simp only[Prod.mk.injEq]at e2;have hs:=e3.size;have hs0:=hps.size;refine⟨u',e2.1,e3,by omega,fun x hx=>?_⟩;have hx:=mem_listed hx;rw[e2.2]at hx;refine evL_of (e4 x ?_) ?_
  ·rw[e1]at hx;simpa using hx
  ·rw[hs];exact l3 x (by rw[l2]at hx;simpa using hx)
 cases hr:(execOp a.eval o).run P (p.re u.tape u.drawn)with
 |halt x p'=>rw[hr]at h1;exact h1.elim
 |ok n p'=>
  obtain⟨u',k1,k2,k3,k4⟩:=key n p' hr;rw[hr]at h1;have hsr:PS Sh (p'.re u'.tape u'.drawn) u':=by rw[k2.same_re];exact k2
  cases n with
  |value v=>exact⟨_,p',u',_,stepG_value ho hw hk k1,hsr,k3,k4,h1⟩
  |skip=>exact⟨_,p',u',_,stepG_none ho hw hk k1,hsr,k3,k4,h1⟩
  |_=>exact h1.elim
theorem qR.call{b:Frame}{a:Act}{k:List Item}{cs:List Frame}{ops:Array Oper}{i:Nat}{rest:List Nat}{o:Oper}{p:World}{f:FuncId}{fn:Func}{c:Code}{args:Array Operand}{ats:Array TypeId}(ho:ops[i]? =some o)(hw:Region.wanted o (yielded ops a.tmps)=true)(hk:b.kind≠.early)(hop:o.op= .call {callee:=.value (.func f),args,argTypes:=ats})
  (hf:P.funcs[f]? =some fn)(hname:(fn.name== "runtime.NumGoroutine")=false)(hb:fn.body=some c)
  (hn:qR P Sh (G ((base f).at {tmps:=args.map a.eval++Array.replicate (fn.ntmps-(args.map a.eval).size) undef,defers:= []} [.code c]) (b.at a (.inRegion ops (i::rest)::k)::cs)) p Post):
  qR P Sh (G (b.at a (.inRegion ops (i::rest)::k)) cs) p Post:=by
 refine .ctl rfl (fun u=>?_) hn;have:=goes_call (P:=P) (main:=true) (w:=u) (K:=fun g' w' es=>g'=G ((base f).at {tmps:=args.map a.eval++Array.replicate (fn.ntmps-(args.map a.eval).size) undef,defers:= []} [.code c]) (b.at a (.inRegion ops (i::rest)::k)::cs)/\w'=u/\es=#[]) (k:=k) (cs:=cs) (b:=b) (a:=a) ho hw hk hop hf hname hb ⟨rfl,rfl,rfl⟩;revert this;cases stepG P true (G (b.at a (.inRegion ops (i::rest)::k)) cs) u with
 |go g' w' es=>rintro⟨rfl,rfl,rfl⟩;rfl
 |_=>exact fun h=>h.elim
def Gr(fn:FuncId)(T:Array Value)(todo:List Item)(cs:List Frame):Goroutine:=G {(base fn).at ⟨T,[]⟩ todo with mode:=.returning} cs
theorem qR.back{f:FuncId}{fn:Func}{T:Array Value}{todo:List Item}{b:FuncId}{a:Act}{ops:Array Oper}{i:Nat}{rest:List Nat}{k:List Item}{cs:List Frame}{p:World}{v:Value}{o:Oper}(ho:ops[i]? =some o)
  (hf:P.funcs[f]? =some fn)(hv:∀w,(results fn T).run P w= .ok v w)(he:∀w,(results fn T).events P w #[]=#[])
  (hn:qR P Sh (G ((base b).at (a.put o.dst v) (.inRegion ops rest::k)) cs) p Post):qR P Sh (Gr f T todo ((base b).at a (.inRegion ops (i::rest)::k)::cs)) p Post:=by
 refine .ctl rfl (fun u=>?_) hn;have e:fstep P ⟨f,T,todo,true⟩ [⟨b,a.tmps,.inRegion ops (i::rest)::k,false⟩] u= .go ((⟨b,a.tmps,.inRegion ops (i::rest)::k,false⟩:Fr).finish v) [] u #[]:=by
  simp only[fstep,if_true,fret,hf,hv,he];simp[seen_none]
 have:=step_go (P:=P) (main:=true) (C:=⟨[],a.defers,.normal,cs⟩) (by simp) (fun c hc=>by rw[List.mem_singleton.1 hc];exact⟨⟨ops,i,rest,k,rfl⟩,rfl⟩) e;have e1:conc ⟨[],a.defers,.normal,cs⟩ ⟨f,T,todo,true⟩ [⟨b,a.tmps,.inRegion ops (i::rest)::k,false⟩]=Gr f T todo ((base b).at a (.inRegion ops (i::rest)::k)::cs):=by
  simp[conc,Gr,Fr.top,below,Fr.base,Fr.mode,Frame.at,base]
 have e2:conc ⟨[],a.defers,.normal,cs⟩ ((⟨b,a.tmps,.inRegion ops (i::rest)::k,false⟩:Fr).finish v) []=G ((base b).at (a.put o.dst v) (.inRegion ops rest::k)) cs:=by
  cases hd:o.dst<;>simp[conc,Fr.base,Fr.mode,Frame.at,base,Fr.finish,ho,Act.put,hd]
 rw[e1,e2]at this;exact this
theorem qR.code(hC:ClosedT P X A){fn:FuncId}{c:Code}(hc:codeT P X A c=true){Q:Exit->Act->World->Prop}{T:Array Value}{ds:List Deferred}{k:List Item}{cs:List Frame}{p:World}(hp:∀(b:Nat) o,p.heap[b]? =some o->okAt b o)
  (hQ:∀e a w,Q e a w->e= .normal\/e= .ret)(hre:∀e a w τ d,Q e a w->Q e a (w.re τ d))(hwp:∀τ d,c.wp P Q ⟨T,[]⟩ (p.re τ d))
  (hn:∀T' p',Q .normal ⟨T',[]⟩ p'->qR P Sh (G ((base fn).at ⟨T',ds⟩ k) cs) p' Post)(hr:∀T' p' todo,Q .ret ⟨T',[]⟩ p'->qR P Sh (G {(base fn).at ⟨T',ds⟩ todo with mode:=.returning} cs) p' Post):
  qR P Sh (G ((base fn).at ⟨T,ds⟩ (.code c::k)) cs) p Post:=by
 have h0:=qR.wp (fn:=fn) (C:=⟨k,ds,.normal,cs⟩) (Sh:=Sh) hC (by simp) hc hp hQ hre hwp;have e0:conc ⟨k,ds,.normal,cs⟩ ⟨fn,T,[.code c],false⟩ []=G ((base fn).at ⟨T,ds⟩ (.code c::k)) cs:=by
  simp[conc,Fr.base,Fr.mode,Frame.at,base]
 rw[e0]at h0;refine h0.then ?_;rintro Sh' g' p' ⟨rfl,T',⟨rfl,h⟩|⟨todo,rfl,h⟩⟩
 ·have e1:conc ⟨k,ds,.normal,cs⟩ ⟨fn,T',[],false⟩ []=G ((base fn).at ⟨T',ds⟩ k) cs:=by
   simp[conc,Fr.base,Fr.mode,Frame.at,base]
  rw[e1];exact hn T' p' h
 ·have e1:conc ⟨k,ds,.normal,cs⟩ ⟨fn,T',todo,true⟩ []=G {(base fn).at ⟨T',ds⟩ (todo++k)with mode:=.returning} cs:=by
   simp[conc,Fr.base,Fr.mode,Frame.at,base]
  rw[e1];exact hr T' p' _ h
theorem qR.re{g:Goroutine}{p:World}(h:qR P Sh g p Post)(τ:Nat->Question->Nat)(d:Nat):qR P Sh g (p.re τ d) Post:=fun gs u sl t q hb=>h gs u sl t q ⟨hb.zero,hb.ps,hb.leave,hb.past⟩
theorem qR.run(hC:ClosedT P X A){fn:FuncId}{c:Code}(hc:codeT P X A c=true){T:Array Value}{ds:List Deferred}{k:List Item}{cs:List Frame}{p:World}(hp:∀(b:Nat) o,p.heap[b]? =some o->okAt b o)
  (hwp:∀τ d,c.wp P (fun e a p'=>(e= .normal/\qR P Sh (G ((base fn).at ⟨a.tmps,ds⟩ k) cs) p' Post)\/(e= .ret/\∀todo,qR P Sh (G {(base fn).at ⟨a.tmps,ds⟩ todo with mode:=.returning} cs) p' Post)) ⟨T,[]⟩ (p.re τ d)):
  qR P Sh (G ((base fn).at ⟨T,ds⟩ (.code c::k)) cs) p Post:=by
 refine qR.code hC hc (Q:=fun e a p'=>(e= .normal/\qR P Sh (G ((base fn).at ⟨a.tmps,ds⟩ k) cs) p' Post)\/(e= .ret/\∀todo,qR P Sh (G {(base fn).at ⟨a.tmps,ds⟩ todo with mode:=.returning} cs) p' Post)) hp (fun e a w h=>h.imp (·.1) (·.1)) (fun e a w τ d h=>?_) hwp (fun T' p' h=>?_) (fun T' p' todo h=>?_)
 ·exact h.imp (fun x=>⟨x.1,x.2.re τ d⟩) (fun x=>⟨x.1,fun todo=>(x.2 todo).re τ d⟩)
 ·rcases h with h|h
  ·exact h.2
  ·cases h.1
 ·rcases h with h|h
  ·cases h.1
  ·exact h.2 todo
theorem qR.runV(hC:ClosedT P X A){fn:FuncId}{c:Code}(hc:codeT P X A c=true){T:Array Value}{ds:List Deferred}{k:List Item}{cs:List Frame}{p:World}
 (hwp:∀τ d,c.wp P (fun e a p'=>(e= .normal/\qR P Sh (G ((base fn).at ⟨a.tmps,ds⟩ k) cs) p' Post)\/(e= .ret/\∀todo,qR P Sh (G {(base fn).at ⟨a.tmps,ds⟩ todo with mode:=.returning} cs) p' Post)) ⟨T,[]⟩ (p.re τ d)):
 qR P Sh (G ((base fn).at ⟨T,ds⟩ (.code c::k)) cs) p Post:=fun gs u sl t q hb=>qR.run (p:=p) hC hc (fun b o h=>hb.ps.views b o h) hwp gs u sl t q hb
def noPanB(Kn Kr:Act->World->Prop):Exit->Act->World->Prop
 | .normal,a,w=>Kn a w
 | .ret,a,w=>Kr a w
 |_,_,_=>False
theorem qR.runP(hC:ClosedT P X A){fn:FuncId}{c:Code}(hc:codeT P X A c=true){T:Array Value}{ds:List Deferred}{k:List Item}{cs:List Frame}{p:World}
  (hwp:∀τ d,c.wp P (noPanB (fun a p'=>qR P Sh (G ((base fn).at ⟨a.tmps,ds⟩ k) cs) p' Post) (fun a p'=>∀todo,qR P Sh (G {(base fn).at ⟨a.tmps,ds⟩ todo with mode:=.returning} cs) p' Post)) ⟨T,[]⟩ (p.re τ d)):
  qR P Sh (G ((base fn).at ⟨T,ds⟩ (.code c::k)) cs) p Post:=fun gs u sl t q hb=>
 qR.code (p:=p) hC hc (Q:=noPanB (fun a p'=>qR P Sh (G ((base fn).at ⟨a.tmps,ds⟩ k) cs) p' Post) (fun a p'=>∀todo,qR P Sh (G {(base fn).at ⟨a.tmps,ds⟩ todo with mode:=.returning} cs) p' Post)) (fun b o h=>hb.ps.views b o h)
  (fun e a w h=>by cases e<;>first|exact .inl rfl|exact .inr rfl|exact h.elim) (fun e a w τ d h=>by cases e<;>first|exact h.re τ d|exact fun todo=>(h todo).re τ d|exact h.elim) hwp (fun T' p' h=>h) (fun T' p' todo h=>h todo) gs u sl t q hb
theorem qR.with{g:Goroutine}{p:World}(h:(∀b,Sh b->b<p.heap.size)->(∀(b:Nat) o,p.heap[b]? =some o->okAt b o)->(∀b o,p.heap[b]? =some o->(∀e fz,o≠.cells #[] e fz)->¬Sh b)->qR P Sh g p Post):qR P Sh g p Post:=fun gs u sl t q hb=>
 h (fun b hs=>by
   obtain⟨e,fz,_,_,h1,_⟩:=hb.ps.rows b hs;exact(Array.getElem?_eq_some_iff.1 h1).1)
  (fun b o h=>hb.ps.views b o h) (fun b o h1 h2 hs=>by
   obtain⟨e,fz,_,_,h3,_⟩:=hb.ps.rows b hs;have h3:p.heap[b]? =some (.cells #[] e fz):=h3;rw[h3]at h1;exact h2 e fz (Option.some.inj h1).symm) gs u sl t q hb
theorem qR.world{g:Goroutine}{p0:World}(F:World->Prop)(hF:F p0)(h:∀p1,F p1->qR P Sh g p1 Post):qR P Sh g p0 Post:=h p0 hF
end Go.Poi
