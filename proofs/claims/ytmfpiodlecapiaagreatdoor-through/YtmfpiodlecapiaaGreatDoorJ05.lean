import Derived.Test.YtmfpiodlecapiaaGreatDoorJ04
import Derived.KernelRfl
import Derived.Test.YtmfpiodlecapiaaGreatDoorJ02
import Derived.Conc.Events
namespace Go.bn
section
variable {P:Program}
inductive Tr(P:Program)(Stop:Fr->List Fr->World->Prop):Fr->List Fr->World->Prop
 |stop {f:Fr} {fs:List Fr} {w:World}:Stop f fs w->Tr P Stop f fs w
 |step {f:Fr} {fs:List Fr} {w:World}:(∀τ d,∃f' fs' w' es,aR P f fs (w.re τ d)= .go f' fs' w' es)->(∀τ d f' fs' w' es,aR P f fs (w.re τ d)= .go f' fs' w' es->Tr P Stop f' fs' w')->Tr P Stop f fs w
def Reach(P:Program)(Stop:Fr->List Fr->World->Prop):Nat->Fr->List Fr->World->Prop
 |0,f,fs,w=>Stop f fs w
 |n+1,f,fs,w=>Stop f fs w\/∃f' fs' w' es,aR P f fs w= .go f' fs' w' es/\Reach P Stop n f' fs' w'
def LocF(P:Program)(f:Fr)(fs:List Fr)(w:World):Prop:=
 ∀f' fs' w' es,aR P f fs w= .go f' fs' w' es->w'.tape=w.tape/\∃m,w'.drawn=w.drawn+m/\∀τ d,(∀i,i<m->τ (d+i)=w.tape (w.drawn+i))->aR P f fs (w.re τ d)= .go f' fs' (w'.re τ (d+m)) es
theorem bar{Stop:Fr->List Fr->World->Prop}{I:Fr->List Fr->World->Prop}(hI:∀f fs w τ d,I f fs w->I f fs (w.re τ d))(aq:∀f fs w f' fs' w' es,I f fs w->aR P f fs w= .go f' fs' w' es->I f' fs' w')(mj:∀f fs w,I f fs w->LocF P f fs w)
  (hS:∀f fs w τ d,Stop f fs w->Stop f fs (w.re τ d)){f:Fr}{fs:List Fr}{w:World}(h0:I f fs w)(H:∀τ d,∃n,Reach P Stop n f fs (w.re τ d)):Tr P Stop f fs w:=by
 let nx:Fr×List Fr->World->Fr×List Fr->World->Prop:=fun s w s' w'=>∃es,aR P s.1 s.2 w= .go s'.1 s'.2 w' es
 have hr:∀n f fs w,Reach P Stop n f fs w->qD nx (fun s w=>Stop s.1 s.2 w) n (f,fs) w:=fun n=>by
  induction n with
  |zero=>exact fun f fs w h=>h
  |succ n ih=>exact fun f fs w h=>h.imp id fun⟨f',fs',w',es,e,h⟩=>⟨(f',fs'),w',⟨es,e⟩,ih _ _ _ h⟩
 have ht:=barN (σ:=Fr×List Fr) (nx:=nx) (Stop:=fun s w=>Stop s.1 s.2 w) (I:=fun s w=>I s.1 s.2 w) (fun s w s1 w1 s2 w2 ⟨_,e1⟩ ⟨_,e2⟩=>by
  rw[e1]at e2;simp only[FO.go.injEq]at e2;exact⟨Prod.ext e2.1 e2.2.1,e2.2.2.1⟩) (fun s w τ d h=>hI _ _ _ _ _ h) (fun s w s' w' h ⟨_,e⟩=>aq _ _ _ _ _ _ _ h e) (fun s w h s' w' ⟨es,e⟩=>by
  obtain⟨k1,m,k2,k3⟩:=mj _ _ _ h _ _ _ _ e;exact⟨k1,m,k2,fun τ d hd=>⟨es,k3 τ d hd⟩⟩) (fun s w τ d h=>hS _ _ _ _ _ h) (s:=(f,fs)) h0 (fun τ d=>(H τ d).imp fun n h=>hr n _ _ _ h)
 have key:∀s w,V9 nx (fun s w=>Stop s.1 s.2 w) s w->Tr P Stop s.1 s.2 w:=fun s w h=>by
  induction h with
  |stop h=>exact .stop h
  |step h1 _ ih=>
   refine .step (fun τ d=>?_) fun τ d f' fs' w' es e=>ih τ d (f',fs') w' ⟨es,e⟩;obtain⟨s',w',es,e⟩:=h1 τ d;exact⟨_,_,w',es,e⟩
 exact key _ _ ht
end
section
open Go.Ren Go.Conc
variable{ρ:Array Nat}{w w':World}{i:Nat}{k:List Item}{o:Oper}{c:Code}
variable {P:Program} {X A:FuncId->Bool} {K:FuncId->Nat->Nat}
def JV(P:Program)(X A:FuncId->Bool)(K:FuncId->Nat->Nat)(f:Fr)(fs:List Fr)(w:World):Prop:=∃ρ,Bc P X A K ρ f fs f fs/\WR ρ w w
theorem WR.re{p u:World}(h:WR ρ p u)(τ:Nat->Question->Nat)(d:Nat):WR ρ (p.re τ d) (u.re τ d):=⟨h.size,h.rows,h.inj,h.low,h.cell,h.free,rfl,rfl⟩
theorem JV.re{f:Fr}{fs:List Fr}(h:JV P X A K f fs w)(τ:Nat->Question->Nat)(d:Nat):JV P X A K f fs (w.re τ d):=by
 obtain⟨ρ,h1,h2⟩:=h;exact⟨ρ,h1,WR.re h2 τ d⟩
theorem JV.step(hC:Closed P X A K){f f':Fr}{fs fs':List Fr}{w w':World}{es:Array Event}(h:JV P X A K f fs w)(e:aR P f fs w= .go f' fs' w' es):JV P X A K f' fs' w':=by
 obtain⟨ρ,h1,h2⟩:=h;have:=DT hC h1 h2;rw[e]at this;obtain⟨jo,f1,fs1,u1,es1,e1,h3,h4,_,_⟩:=this;rw[e]at e1;simp only[FO.go.injEq]at e1;obtain⟨rfl,rfl,rfl,rfl⟩:=e1;exact⟨jo,h3,h4⟩
theorem again{α β:Type}{B:Array Nat->α->β->Prop}{s:Sem α}{s':Sem β}(h:SR P B ρ s s'):∀(w u:World),WR ρ w u->∀(es:Array Event) (a:α) (w':World) (es':Array Event),s.runT P w es=(.ok a w',es')->
  w'.tape=w.tape/\∃m,w'.drawn=w.drawn+m/\∀τ d,(∀i,i<m->τ (d+i)=w.tape (w.drawn+i))->s.runT P (w.re τ d) es=(.ok a (w'.re τ (d+m)),es'):=by
 induction h with
 |pure _=>
  intro w u hw es a' w' es' h;simp only[Sem.runT,Prod.mk.injEq,Result.ok.injEq]at h;obtain⟨⟨rfl,rfl⟩,rfl⟩:=h;exact⟨rfl,0,rfl,fun τ d _=>rfl⟩
 |@load ρ a a2 k k' _ _ ih=>
  intro w u hw es a' w' es' h;simp only[Sem.runT]at h;have hc:∀τ d,(w.re τ d).cell? a=w.cell? a:=fun _ _=>rfl;cases bm:w.cell? a with
  |some v=>
   simp only[bm]at h;have kO:=kM bm;obtain⟨b,i,sp⟩:=a;simp only at kO;subst kO;obtain⟨c,v',_,_,hv⟩:=hw.cell b i v bm;obtain⟨h1,n,h2,h3⟩:=ih v v' hv w u hw _ a' w' es' h;refine⟨h1,n,h2,fun τ d hd=>?_⟩;simp only[Sem.runT,hc,bm];exact h3 τ d hd
  |none=>
   simp only[bm]at h;obtain⟨why,e⟩:=hw.Oa (P:=P) a (Mode.plain== .atomic);simp only[e]at h;cases h
 |@store ρ a a2 v v' k k' ha hv _ ih=>
  intro w u hw es a' w' es' h;have hc:∀τ d,(w.re τ d).cell? a=w.cell? a:=fun _ _=>rfl;have hz:∀τ d,(w.re τ d).frozen? a=w.frozen? a:=fun _ _=>rfl;have hs:∀τ d,(w.re τ d).setCell a v=(w.setCell a v).re τ d:=fun _ _=>rfl;have key:v≠.tuple #[]->w'.tape=w.tape/\∃m,w'.drawn=w.drawn+m/\∀τ d,(∀i,i<m->τ (d+i)=w.tape (w.drawn+i))->(Sem.store .plain a v k).runT P (w.re τ d) es=(.ok a' (w'.re τ (d+m)),es'):=by
   intro ht;have e:∀u:World,(Sem.store .plain a v k).runT P u es=(match u.cell? a with
    |some _=>if u.frozen? a then(.halt (.unsupported (.unsafePointer "a write to bytes that a string shares")) u,es)else k.runT P (u.setCell a v) (es.push ⟨.cell a,true,Mode.plain== .atomic⟩)
    |none=>match u.farStore P a v (Mode.plain== .atomic)with
     | .ok (w,touched)=>k.runT P w (es++touched.toArray.map (⟨.cell ·,true,Mode.plain== .atomic⟩))
     | .error h=>(.halt h u,es)):=by
    intro u;cases hv<;>first|exact absurd rfl ht|rfl
   rw[e]at h;cases bm:w.cell? a with
   |some x=>
    simp only[bm]at h;cases gC:w.frozen? a with
    |true=>simp only[gC,if_true]at h;cases h
    |false=>
     simp only[gC,Bool.false_eq_true,if_false]at h;obtain⟨_,_,lp,_⟩:=hw.store ha bm gC hv;obtain⟨h1,n,h2,h3⟩:=ih _ _ lp _ a' w' es' h;refine⟨h1,n,h2,fun τ d hd=>?_⟩;rw[e];simp only[hc,bm,hz,gC,hs,Bool.false_eq_true,if_false];exact h3 τ d hd
   |none=>
    simp only[bm]at h;obtain⟨why,e⟩:=hw.IY (P:=P) a v (Mode.plain== .atomic);simp only[e]at h;cases h
  cases hv<;>first|(simp only[Sem.runT]at h;cases h;done)|exact key (fun e=>by cases e)
 |@new ρ c c' e k k' hc _ ih=>
  intro w u hw es a' w' es' h;simp only[Sem.runT]at h;have lp:=(hw.new e hc).1;rw[<-hw.size]at h;obtain⟨h1,n,h2,h3⟩:=ih _ _ _ lp _ a' w' es' h;refine⟨h1,n,h2,fun τ d hd=>?_⟩;simp only[Sem.runT];have:=h3 τ d hd;rw[hw.size]at this;exact this
 |@choose ρ q k k' _ ih=>
  intro w u hw es a' w' es' h;simp only[Sem.runT]at h;cases hq:q.forced with
  |true=>
   simp only[hq,if_true]at h;obtain⟨h1,n,h2,h3⟩:=ih _ _ _ hw _ a' w' es' h;exact⟨h1,n,h2,fun τ d hd=>by simp only[Sem.runT,hq,if_true];exact h3 τ d hd⟩
  |false=>
   simp only[hq,Bool.false_eq_true,if_false]at h;have lp:WR ρ {w with drawn:=w.drawn+1} {u with drawn:=u.drawn+1}:=⟨hw.size,hw.rows,hw.inj,hw.low,hw.cell,hw.free,hw.tape,by rw[hw.drawn]⟩;obtain⟨h1,n,h2,h3⟩:=ih _ _ _ lp _ a' w' es' h;refine⟨h1,n+1,by rw[h2];simp only;omega,fun τ d hd=>?_⟩;have e0:τ d=w.tape w.drawn:=by simpa using hd 0 (by omega)
   simp only[Sem.runT,hq,Bool.false_eq_true,if_false];have:=h3 τ (d+1) (fun i hi=>by
    have:=hd (i+1) (by omega);simpa[Nat.add_assoc,Nat.add_comm 1]using this)
   show(k (q.cut (τ d q))).runT P ({w with drawn:=w.drawn+1}.re τ (d+1)) es=_;rw[e0,show d+(n+1)=d+1+n by omega];exact this
 |program _ ih=>
  intro w u hw es a' w' es' h;simp only[Sem.runT]at h;obtain⟨h1,n,h2,h3⟩:=ih _ _ hw _ a' w' es' h;exact⟨h1,n,h2,fun τ d hd=>by simp only[Sem.runT];exact h3 τ d hd⟩
 |mark _ _ ih=>
  intro w u hw es a' w' es' h;simp only[Sem.runT]at h;obtain⟨h1,n,h2,h3⟩:=ih _ _ hw _ a' w' es' h;exact⟨h1,n,h2,fun τ d hd=>by simp only[Sem.runT];exact h3 τ d hd⟩
 |dK hb=>
  intro w u hw es a' w' es' h;have:=congrArg Prod.fst h;rw[Sem.runT_fst]at this;have hx:=hb w;rw[this]at hx;exact hx.elim
 |panic _=>
  intro w u hw es a' w' es' h;simp only[Sem.runT]at h;cases h
theorem Uz(hX:X far=false){f:Fr}{fs:List Fr}(hC:Closed P X A K)(h:JV P X A K f fs w){ops:Array Oper}{rest:List Nat}(ba:f.todo= .inRegion ops (i::rest)::k)(ho:ops[i]? =some o):
  ∃ρ,WR ρ w w/\SR P (NR P A (Nb (K f.fn) o)) ρ (execOp f.act.eval o) (execOp f.act.eval o):=by
 obtain⟨ρ,h1,h2⟩:=h;have hB:opB P X A (K f.fn) o=true:=by
  have:=h1.head.ok (.inRegion ops (i::rest)) (by rw[ba];simp);have:=Array.all_eq_true_iff_forall_mem.1 this o (Array.mem_of_getElem? ho);simpa[opF,hX]using this
 exact⟨ρ,h2,IC hC.ext (a:=f.act) (a':=f.act) h1.head.tmps hB⟩
theorem Rf(hX:X far=false){f:Fr}{fs:List Fr}(hC:Closed P X A K)(h:JV P X A K f fs w){ops:Array Oper}{rest:List Nat}(ba:f.todo= .inRegion ops (i::rest)::k)(ho:ops[i]? =some o)
  {f':Fr}{fs':List Fr}{w':World}{es:Array Event}(e:fK P f fs o w= .go f' fs' w' es):
  w'.tape=w.tape/\∃m,w'.drawn=w.drawn+m/\∀τ d,(∀i,i<m->τ (d+i)=w.tape (w.drawn+i))->fK P f fs o (w.re τ d)= .go f' fs' (w'.re τ (d+m)) es:=by
 obtain⟨ρ,hw,hs⟩:=Uz hX hC h ba ho;unfold fK at e;have key:∀(n:Next) (w1:World),(execOp f.act.eval o).run P w= .ok n w1->w1.tape=w.tape/\∃m,w1.drawn=w.drawn+m/\∀τ d,(∀i,i<m->τ (d+i)=w.tape (w.drawn+i))->(execOp f.act.eval o).run P (w.re τ d)= .ok n (w1.re τ (d+m))/\(execOp f.act.eval o).events P (w.re τ d) #[]=(execOp f.act.eval o).events P w #[]:=by
  intro n w1 hr;obtain⟨h1,m,h2,h3⟩:=again hs w w hw #[] n w1 ((execOp f.act.eval o).events P w #[]) (by rw[Sem.runT_eq,hr]);refine⟨h1,m,h2,fun τ d hd=>?_⟩;have:=h3 τ d hd;rw[Sem.runT_eq]at this;simp only[Prod.mk.injEq]at this;exact this
 cases hr:(execOp f.act.eval o).run P w with
 |halt x w1=>rw[hr]at e;cases x<;>cases e
 |ok n w1=>
  rw[hr]at e;obtain⟨h1,m,h2,h3⟩:=key n w1 hr;cases n<;>first
   |(simp only[FO.go.injEq]at e
     obtain⟨rfl,rfl,rfl,rfl⟩:=e;refine⟨h1,m,h2,fun τ d hd=>?_⟩;obtain⟨h4,h5⟩:=h3 τ d hd;unfold fK;rw[h4,h5])
   |cases e
theorem tX{fn:Func}{k:Nat->Nat}(hb:TH fn k=true)(tmps:Array Value):∃v,∀w,(results fn tmps).run P w= .ok v w/\(results fn tmps).events P w #[]=#[]:=by
 unfold TH at hb;split at hb
 .rename_i hl;have hr:fn.results=#[]:=by apply Array.ext';simpa using hl
  exact⟨.tuple #[],fun w=>⟨by simp[results,hr],Conc.events_results_none hr _ _⟩⟩
 .rename_i t hl;have hr:fn.results=#[.tmp t]:=by apply Array.ext';simpa using hl
  exact⟨tmps.getD t undef,fun w=>⟨by simp[results,hr],Conc.events_results_tmp hr _ _⟩⟩
 .rename_i t t2 hl;have hr:fn.results=#[.tmp t,.tmp t2]:=by apply Array.ext';simpa using hl
  exact⟨.tuple #[tmps.getD t undef,tmps.getD t2 undef],fun w=>⟨by simp[results,hr],Conc.events_results_tmp2 hr _ _⟩⟩
 .cases hb
theorem X5(hX:X far=false)(hC:Closed P X A K){f:Fr}{fs:List Fr}(h:JV P X A K f fs w):LocF P f fs w:=by
 intro f' fs' w' es e;have still:∀(g:Fr) (gs:List Fr),(∀τ d,aR P f fs (w.re τ d)= .go g gs (w.re τ d) es)->f'=g->fs'=gs->w'=w->
   w'.tape=w.tape/\∃m,w'.drawn=w.drawn+m/\∀τ d,(∀i,i<m->τ (d+i)=w.tape (w.drawn+i))->aR P f fs (w.re τ d)= .go f' fs' (w'.re τ (d+m)) es:=by
  intro g gs cG e1 e2 e3;subst e1 e2 e3;exact⟨rfl,0,rfl,fun τ d _=>cG τ d⟩
 unfold aR at e;cases hr:f.ret with
 |true=>
  simp only[hr,if_true]at e;obtain⟨ρ,h1,h2⟩:=h;unfold sI at e;cases h1 with
  |one _=>cases e
  |@cons _ _ c c' fs fs' hf l t=>
   obtain⟨hA,_⟩:=l;simp only at e;cases cH:P.funcs[f.fn]? with
   |none=>rw[cH]at e;cases e
   |some fn=>
    have hB:=hC.fns f.fn hA fn cH;simp only[iP,Bool.and_eq_true]at hB;rw[cH]at e;simp only at e;obtain⟨v,hv⟩:=tX (P:=P) hB.1.2 f.tmps;rw[(hv w).1,(hv w).2]at e;simp only[FO.go.injEq]at e;obtain⟨rfl,rfl,rfl,rfl⟩:=e;refine still _ _ (fun τ d=>?_) rfl rfl rfl;simp only[aR,hr,if_true,sI,cH,(hv (w.re τ d)).1,(hv (w.re τ d)).2]
 |false=>
  simp only[hr,Bool.false_eq_true,if_false]at e;have e0:∀u,aR P f fs u=bg P f fs u:=fun u=>by simp[aR,hr]
  unfold bg at e;split at e
  .rename_i ba;cases fs with
   |nil=>cases e
   |cons c rest=>
    simp only[FO.go.injEq]at e;obtain⟨rfl,rfl,rfl,rfl⟩:=e;exact still _ _ (fun τ d=>by rw[e0];simp[bg,ba]) rfl rfl rfl
  iterate 5 (·rename_i ba;simp only[FO.go.injEq]at e;obtain⟨rfl,rfl,rfl,rfl⟩:=e;exact still _ _ (fun τ d=>by rw[e0];simp[bg,ba]) rfl rfl rfl)
  .rename_i ba;split at e
   .rename_i b hb;simp only[FO.go.injEq]at e;obtain⟨rfl,rfl,rfl,rfl⟩:=e;exact still _ _ (fun τ d=>by rw[e0];simp[bg,ba,hb]) rfl rfl rfl
   .cases e
  iterate 3 (·rename_i ba;simp only[FO.go.injEq]at e;obtain⟨rfl,rfl,rfl,rfl⟩:=e;exact still _ _ (fun τ d=>by rw[e0];simp[bg,ba]) rfl rfl rfl)
  .rename_i ba;split at e
   .rename_i k' dq;simp only[FO.go.injEq]at e;obtain⟨rfl,rfl,rfl,rfl⟩:=e;exact still _ _ (fun τ d=>by rw[e0];simp[bg,ba,dq]) rfl rfl rfl
   .cases e
  .rename_i id ops draw k ba;cases draw with
   |true=>
    simp only[if_true,FO.go.injEq]at e;obtain⟨rfl,rfl,rfl,rfl⟩:=e;refine⟨rfl,1,rfl,fun τ d hd=>?_⟩;have e1:τ d=w.tape w.drawn:=by simpa using hd 0 (by omega)
    rw[e0];simp only[bg,ba,if_true];show FO.go {f with todo:=Item.inRegion ops (Region.schedule (P.follows .mixedOrders) ops (τ d (.order f.fn id)))::k} fs _ _=_;rw[e1];rfl
   |false=>
    simp only[Bool.false_eq_true,if_false,FO.go.injEq]at e;obtain⟨rfl,rfl,rfl,rfl⟩:=e;exact still _ _ (fun τ d=>by rw[e0];simp[bg,ba]) rfl rfl rfl
  .rename_i ba;simp only[FO.go.injEq]at e;obtain⟨rfl,rfl,rfl,rfl⟩:=e;exact still _ _ (fun τ d=>by rw[e0];simp[bg,ba]) rfl rfl rfl
  .rename_i ops i rest k ba;split at e
   .rename_i ho;simp only[FO.go.injEq]at e;obtain⟨rfl,rfl,rfl,rfl⟩:=e;exact still _ _ (fun τ d=>by rw[e0];simp[bg,ba,ho]) rfl rfl rfl
   .rename_i o ho;by_cases fN:Region.wanted o (yielded ops f.tmps)=true
    .simp only[fN,if_true]at e;obtain⟨h1,m,h2,h3⟩:=Rf hX hC h ba ho e;refine⟨h1,m,h2,fun τ d hd=>?_⟩;rw[e0];simp only[bg,ba,ho,fN,if_true];exact h3 τ d hd
    .simp only[fN]at e;simp only[Bool.false_eq_true,if_false,FO.go.injEq]at e;obtain⟨rfl,rfl,rfl,rfl⟩:=e;exact still _ _ (fun τ d=>by rw[e0];simp[bg,ba,ho,fN]) rfl rfl rfl
  .cases e
def c0(P:Program):Frame:= {fn:=P.funcs.size,tmps:=#[],todo:= [.call {target:=.nil,args:=#[]} false "fmt's door!?" #[]],defers:= [],mode:=.run,kind:=.normal}
def C0(P:Program):Ctx:=⟨[.code (.refuse "")],[],.normal,[c0 P]⟩
def BU(P:Program)(f:Fr)(fs:List Fr)(w:World):Machine:=lone (cur (C0 P) f fs) (below (C0 P) fs) w
theorem no_row:Extern.next "fmt's door!?" =none:=by kernel_rfl
theorem door:("fmt's door!?".startsWith "fmt's door")=true:=by kernel_rfl
theorem XW{f f':Fr}{fs fs':List Fr}{es:Array Event}(gg:Wf fs)(h:aR P f fs w= .go f' fs' w' es):step P (BU P f fs w)= .next (BU P f' fs' w'):=by
 have:=yt (main:=true) (C:=C0 P) (by simp[C0]) gg h;rw[cK,cK]at this;refine step_lone_go ?_;show(stepG P true (G _ _) w).bare=_;rw[this];rfl
theorem Eh(v:Value)(w:World):∃o w',step P (lone ((c0 P).finish v) [] w)= .ended o w':=by
 refine⟨.stuck ("no extern row " ++ "fmt's door!?") (((c0 P).finish v).pos P),w,step_lone_ended ?_⟩;simp[stepG,stepG.exec,c0,Frame.finish,no_row]
theorem LU(chain:List PanicEntry)(w:World):∃o w',step P (lone {c0 P with mode:=.panicking chain} [] w)= .ended o w':=by
 refine⟨.unsupported (.noEntry "a panic or Goexit out of a method that fmt calls behind a cut's door") (({c0 P with mode:=.panicking chain}:Frame).pos P),w,step_lone_ended ?_⟩;have hc:({c0 P with mode:=.panicking chain}:Frame).catches P=true:=by simp[Frame.catches,c0,door]
 simp only[c0]at hc;simp[stepG,unwind,c0,hc]
def Wv(P:Program):List Frame->Prop
 | []=>False
 | [c]=>c=c0 P
 |c::d::cs=>c.defers= []/\c.mode= .run/\Wv P (d::cs)
theorem Nk(fs:List Fr)(gg:Wf fs):Wv P (below (C0 P) fs):=by
 induction fs with
 |nil=>exact rfl
 |cons f fs ih=>
  have ih:=ih fun c hc=>gg c (by simp[hc]);rw[qw];have hx:(cur (C0 P) f fs).defers= []/\(cur (C0 P) f fs).mode= .run:=by
   rw[dL];exact⟨by cases fs<;>rfl,nk (gg f (by simp)).2⟩
  cases hb:below (C0 P) fs with
  |nil=>rw[hb]at ih;exact ih.elim
  |cons d cs=>rw[hb]at ih;exact⟨hx.1,hx.2,ih⟩
theorem pJ:∀(n:Nat) (fr:Frame) (cs:List Frame) (w:World) (chain:List PanicEntry) (m:Machine),fr.defers= []->fr.mode= .panicking chain->Wv P cs->runN P n (lone fr cs w)= .next m->∃fr' cs' w' chain',m=lone fr' cs' w'/\fr'.mode= .panicking chain'
 |0,fr,cs,w,chain,m,_,hm,_,h=>by
  simp only[runN,Stepped.next.injEq]at h;exact⟨fr,cs,w,chain,h.symm,hm⟩
 |n+1,fr,cs,w,chain,m,hd,hm,hb,h=>by
  simp only[runN]at h;cases cs with
  |nil=>exact hb.elim
  |cons c cs=>
   by_cases hc:fr.catches P=true
   .have:step P (lone fr (c::cs) w)= .ended (.unsupported (.noEntry "a panic or Goexit out of a method that fmt calls behind a cut's door") (fr.pos P)) w:=
     step_lone_ended (by simp[stepG,unwind,hm,hd,hc])
    rw[this]at h;cases h
   .have hs:step P (lone fr (c::cs) w)= .next (lone (c.raise chain) cs w):=step_lone_go (by simp[stepG,unwind,hm,hd,hc]);rw[hs]at h;cases cs with
    |nil=>
     have ey:c=c0 P:=hb;subst ey;cases n with
     |zero=>
      simp only[runN,Stepped.next.injEq]at h;exact⟨_,_,_,chain,h.symm,rfl⟩
     |succ n=>
      obtain⟨o,w',e⟩:=LU (P:=P) chain w;have:(c0 P).raise chain= {c0 P with mode:=.panicking chain}:=rfl;simp only[runN,this,e]at h;cases h
    |cons d cs=>
     obtain⟨h1,h2,h3⟩:=hb;exact pJ n (c.raise chain) (d::cs) w chain m (by simp[Frame.raise,h2,h1]) (by simp[Frame.raise,h2]) h3 h
theorem MB{f:Fr}{fs:List Fr}(h:aR P f fs w= .panic):∃fr chain w',step P (BU P f fs w)= .next (lone fr (below (C0 P) fs) w')/\fr.defers= []/\fr.mode= .panicking chain:=by
 unfold aR at h;cases hr:f.ret with
 |true=>
  simp only[hr,if_true]at h;unfold sI at h
  (repeat' split at h)<;>cases h
 |false=>
  simp only[hr,Bool.false_eq_true,if_false]at h;unfold bg at h;split at h;all_goals try (cases h;done)
  all_goals try (split at h<;>cases h;done)
  rename_i ops i rest k ba;split at h
  .cases h
  .rename_i o ho;by_cases fN:Region.wanted o (yielded ops f.tmps)=true
   .simp only[fN,if_true]at h;unfold fK at h;split at h;all_goals try (cases h;done)
    rename_i v w1 ag;have bw:=dL (C0 P) f fs;have he:(cur (C0 P) f fs).eval=f.act.eval:=by rw[bw];exact uR _ rfl
    have e1:(cur (C0 P) f fs).todo= .inRegion ops (i::rest)::(k++tail (C0 P) fs):=by rw[bw,ba];rfl
    have e2:(cur (C0 P) f fs).oper? =some o:=by simp[Frame.oper?,e1,ho]
    have e3:(cur (C0 P) f fs).roundOf=none:=by rw[bw]
    have e4:(cur (C0 P) f fs).mode= .run:=by rw[bw];exact nk hr
    have e5:(cur (C0 P) f fs).tmps=f.tmps:=by rw[bw]
    have e6:(cur (C0 P) f fs).defers= []:=by rw[bw];cases fs<;>rfl
    refine⟨(cur (C0 P) f fs).raise [{v:=v,recovered:=false}],[{v:=v,recovered:=false}],w1,step_lone_go (fr':=(cur (C0 P) f fs).raise [{v:=v,recovered:=false}]) (cs':=below (C0 P) fs) ?_,?_,?_⟩
    .simp[stepG,stepG.exec,stepG.oper,e4,e1,e2,e3,e5,ho,fN,stepG.apply,he,ag]
    .simp[Frame.raise,e4,e6]
    .simp[Frame.raise,e4]
   .simp only[fN]at h;cases h
theorem Un(hX:X far=false)(hC:Closed P X A K){f:Fr}{fs:List Fr}(hI:JV P X A K f fs w)(h:aR P f fs w= .bad):∃o w',step P (BU P f fs w)= .ended o w':=by
 have bw:=dL (C0 P) f fs;have e5:(cur (C0 P) f fs).tmps=f.tmps:=by rw[bw]
 have e3:(cur (C0 P) f fs).roundOf=none:=by rw[bw]
 have he:(cur (C0 P) f fs).eval=f.act.eval:=by rw[bw];exact uR _ rfl
 have gw:∀x∈f.todo,uz P X A (K f.fn) x=true:=by obtain⟨ρ,h1,_⟩:=hI;exact h1.head.ok
 unfold aR at h;cases hr:f.ret with
 |true=>
  simp only[hr,if_true]at h;obtain⟨ρ,h1,_⟩:=hI;unfold sI at h;cases h1 with
  |one _=>cases h
  |@cons _ _ c c' fs fs' hf l t=>
   obtain⟨hA,_⟩:=l;obtain⟨fn,cH⟩:=hC.has f.fn hA;have hB:=hC.fns f.fn hA fn cH;simp only[iP,Bool.and_eq_true]at hB;obtain⟨v,hv⟩:=tX (P:=P) hB.1.2 f.tmps;simp only[cH,(hv w).1]at h;cases h
 |false=>
  have e4:(cur (C0 P) f fs).mode= .run:=by rw[bw];exact nk hr
  simp only[hr,Bool.false_eq_true,if_false]at h;unfold bg at h;split at h;all_goals try (cases h;done)
  .split at h<;>cases h
  .rename_i c thn els k ba;split at h
   .cases h
   .rename_i Mw;have e1:(cur (C0 P) f fs).todo= .code (.cond c thn els)::(k++tail (C0 P) fs):=by rw[bw,ba];rfl
    refine⟨.stuck "cond: bool expected" ((cur (C0 P) f fs).pos P),w,step_lone_ended ?_⟩;simp only[stepG,e4,stepG.exec,e1,he];generalize f.act.eval c=v at Mw;cases v<;>first|rfl|exact absurd rfl (Mw _)
  .rename_i id k ba;split at h
   .cases h
   .rename_i hex;have e1:(cur (C0 P) f fs).todo= .code (.exit id)::(k++tail (C0 P) fs):=by rw[bw,ba];rfl
    have e2:exitTo id (k++tail (C0 P) fs)=none:=by
     have key:∀(l r:List Item),exitTo id l=none->exitTo id r=none->exitTo id (l++r)=none:=by
      intro l;induction l with
      |nil=>exact fun r _ h=>h
      |cons x l ih=>
       intro r h1 h2;cases x<;>simp only[exitTo,List.cons_append]at h1⊢<;>first
        |exact ih r h1 h2
        |(split at h1
          .cases h1
          .rename_i hc;simp only[hc];exact ih r h1 h2)
     refine key _ _ hex ?_;cases fs<;>rfl
    refine⟨.stuck "exit, goto: no such block or label" ((cur (C0 P) f fs).pos P),w,step_lone_ended ?_⟩;simp[stepG,e4,stepG.exec,e1,e2,e3]
  .split at h<;>cases h
  .rename_i ops i rest k ba;split at h
   .cases h
   .rename_i o ho;by_cases fN:Region.wanted o (yielded ops f.tmps)=true
    .simp only[fN,if_true]at h;obtain⟨ρ,hw,hs⟩:=Uz hX hC hI ba ho;have UG:=hs.run w w hw;have e1:(cur (C0 P) f fs).todo= .inRegion ops (i::rest)::(k++tail (C0 P) fs):=by rw[bw,ba];rfl
     have e2:(cur (C0 P) f fs).oper? =some o:=by simp[Frame.oper?,e1,ho]
     have hk:((cur (C0 P) f fs).kind==CallKind.early)=false:=by rw[bw];cases fs<;>rfl
     have bt:(stepG P true (G (cur (C0 P) f fs) (below (C0 P) fs)) w)=stepG.apply P true (cur (C0 P) f fs) (below (C0 P) fs) none (execOp f.act.eval o) w:=by
      rw[<-he];simp[G,stepG,stepG.exec,stepG.oper,e4,e1,e2,e3,e5,ho,fN]
     unfold fK at h;cases ag:(execOp f.act.eval o).run P w with
     |ok n w1=>
      rw[ag]at UG h;obtain⟨_,n',_,_,_,h2,_⟩:=UG #[];cases h2<;>cases h
     |halt x w1=>
      rw[ag]at UG h;cases x with
      |panic v=>cases h
      |stuck why=>
       refine⟨.stuck why ((cur (C0 P) f fs).pos P),w1,step_lone_ended ?_⟩;show(stepG P true (G _ _) w).bare=_;rw[bt];simp[stepG.apply,ag]
      |unsupported y=>
       refine⟨.unsupported y ((cur (C0 P) f fs).pos P),w1,step_lone_ended ?_⟩;show(stepG P true (G _ _) w).bare=_;rw[bt];cases y<;>first|exact UG.elim|simp[stepG.apply,ag]
      |_=>exact UG.elim
    .simp only[fN]at h;cases h
  .rename_i h1 h2 h3 h4 h5 h6 h7 h8 h9 h10 h11 xl h13 h14;exfalso;cases hl:f.todo with
   |nil=>exact h1 hl
   |cons x k=>
    have hb:=gw x (by rw[hl];simp);cases x with
    |code c=>
     cases c<;>first
      |exact h2 _ hl|exact h3 _ hl|exact h4 _ _ hl|exact h6 _ _ _ hl|exact h7 _ _ _ _ hl|exact h8 _ _ _ hl|exact h9 _ _ hl|exact h11 _ _ hl|exact xl _ _ _ _ hl
      |(simp[uz,nu]at hb)
    |inBlock id=>exact h5 _ _ hl
    |inLoop b=>exact h10 _ _ hl
    |inRegion ops l=>cases l with
     |nil=>exact h13 _ _ hl
     |cons i l=>exact h14 _ _ _ _ hl
    |_=>simp[uz]at hb
def Left(fn:FuncId)(Q:Exit->Act->World->Prop)(f:Fr)(fs:List Fr)(w:World):Prop:=
 fs= []/\f.fn=fn/\((f.todo= []/\f.ret=false/\Q .normal f.act w)\/(f.ret=true/\Q .ret f.act w))
theorem Ef{fs:List Fr}{c:Frame}(h:below (C0 P) fs= [c]):fs= []:=by
 cases fs with
 |nil=>rfl
 |cons f fs=>
  exfalso;rw[qw]at h;have hb:below (C0 P) fs= []:=by simpa using(List.cons.inj h).2
  cases fs with
  |nil=>simp[below,C0]at hb
  |cons g gs=>rw[qw]at hb;cases hb
theorem jR{fr fr':Frame}{cs cs':List Frame}(h:lone fr cs w=lone fr' cs' w'):fr=fr'/\cs=cs'/\w=w':=by
 simp only[lone,Machine.mk.injEq,Array.mk.injEq,List.cons.injEq,Goroutine.mk.injEq,and_true]at h;exact⟨h.2.1,h.2.2,h.1⟩
structure Ws(P:Program)(I:Fr->List Fr->World->Prop):Prop where
 re:∀f fs w τ d,I f fs w->I f fs (w.re τ d)
 step:∀f fs w f' fs' w' es,I f fs w->aR P f fs w= .go f' fs' w' es->I f' fs' w'
 loc:∀f fs w,I f fs w->LocF P f fs w
 wf:∀f fs w,I f fs w->Wf fs
 bad:∀f fs w,I f fs w->aR P f fs w= .bad->∃o w',Go.step P (BU P f fs w)= .ended o w'
theorem road{I:Fr->List Fr->World->Prop}(G:Ws P I){fn:FuncId}{Q:Exit->Act->World->Prop}{T:Machine}
  (hT:(∃a w,T=lone {fn:=fn,tmps:=a.tmps,todo:=(C0 P).k,defers:=a.defers,mode:=.run,kind:=.normal} [c0 P] w/\Q .normal a w)\/
   (∃a todo w,T=lone {fn:=fn,tmps:=a.tmps,todo:=todo,defers:=a.defers,mode:=.returning,kind:=.normal} [c0 P] w/\Q .ret a w)):
  ∀(n:Nat) (f:Fr) (fs:List Fr) (w:World),I f fs w->runN P n (BU P f fs w)= .next T->∃m,Reach P (Left fn Q) m f fs w:=by
 intro n;induction n with
 |zero=>
  intro f fs w _ h;simp only[runN,Stepped.next.injEq]at h;refine⟨0,?_⟩;rcases hT with⟨a,w1,rfl,hq⟩|⟨a,todo,w1,rfl,hq⟩
  .obtain⟨e1,e2,rfl⟩:=jR h;obtain rfl:=Ef e2;rw[dL]at e1;simp only[Frame.mk.injEq]at e1;obtain⟨e3,e4,e5,e6,e7,_⟩:=e1;have il:f.ret=false:=by
    cases hr:f.ret with
    |true=>rw[zI hr]at e7;cases e7
    |false=>rfl
   have ea:f.act=a:=by
    obtain⟨t,d⟩:=a;simp only[Fr.act,Act.mk.injEq];exact⟨e4,e6⟩
   refine⟨rfl,e3,.inl ⟨?_,il,ea▸hq⟩⟩;simpa[tail]using e5
  .obtain⟨e1,e2,rfl⟩:=jR h;obtain rfl:=Ef e2;rw[dL]at e1;simp only[Frame.mk.injEq]at e1;obtain⟨e3,e4,e5,e6,e7,_⟩:=e1;have il:f.ret=true:=by
    cases hr:f.ret with
    |true=>rfl
    |false=>rw[nk hr]at e7;cases e7
   have ea:f.act=a:=by
    obtain⟨t,d⟩:=a;simp only[Fr.act,Act.mk.injEq];exact⟨e4,e6⟩
   exact⟨rfl,e3,.inr ⟨il,ea▸hq⟩⟩
 |succ n ih=>
  intro f fs w hI h;have gg:Wf fs:=G.wf _ _ _ hI;simp only[runN]at h;cases hs:aR P f fs w with
  |go f' fs' w' es=>
   rw[XW gg hs]at h;obtain⟨m,hm⟩:=ih f' fs' w' (G.step _ _ _ _ _ _ _ hI hs) h;exact⟨m+1,.inr ⟨f',fs',w',es,hs,hm⟩⟩
  |panic=>
   obtain⟨fr,chain,w',e,hd,hm⟩:=MB hs;rw[e]at h;obtain⟨fr',cs',w2,ch,e2,oc⟩:=pJ n fr _ w' chain T hd hm (Nk fs gg) h;exfalso;rcases hT with⟨a,w1,rfl,_⟩|⟨a,todo,w1,rfl,_⟩
   iterate 2 (·obtain⟨rfl,_,_⟩:=jR e2;cases oc)
  |bad=>
   obtain⟨o,w',e⟩:=G.bad _ _ _ hI hs;rw[e]at h;cases h
  |stop=>
   exfalso;have E':fs= []:=by
    unfold aR at hs;cases hr:f.ret with
    |true=>
     simp only[hr,if_true,sI]at hs;cases fs with
     |nil=>rfl
     |cons c r=>simp only at hs;(repeat' split at hs)<;>cases hs
    |false=>
     simp only[hr,Bool.false_eq_true,if_false,bg]at hs;split at hs
     .cases fs with
      |nil=>rfl
      |cons c r=>cases hs
     all_goals try (cases hs;done)
     all_goals try (split at hs<;>cases hs;done)
     split at hs
     .cases hs
     .split at hs
      .unfold fK at hs;split at hs<;>cases hs
      .cases hs
   subst E';cases hr:f.ret with
   |false=>
    have ba:f.todo= []:=by
     simp only[aR,hr,Bool.false_eq_true,if_false,bg]at hs;split at hs
     .assumption
     all_goals try (cases hs;done)
     all_goals try (split at hs<;>cases hs;done)
     split at hs
     .cases hs
     .split at hs
      .unfold fK at hs;split at hs<;>cases hs
      .cases hs
    have e:∃x,step P (BU P f [] w)= .ended x w:=by
     refine Exists.imp (fun _=>step_lone_ended) ?_;rw[dL];simp[stepG,stepG.exec,nk hr,ba,tail,C0]
    obtain⟨_,e⟩:=e;rw[e]at h;cases h
   |true=>
    have fin:∀v w1,step P (BU P f [] w)= .next (lone ((c0 P).finish v) [] w1)->False:=by
     intro v w1 e;rw[e]at h;cases n with
     |zero=>
      simp only[runN,Stepped.next.injEq]at h;rcases hT with⟨a,w2,rfl,_⟩|⟨a,todo,w2,rfl,_⟩
      iterate 2 (·exact absurd (jR h).2.1 (by simp))
     |succ n=>
      obtain⟨o,w2,e2⟩:=Eh (P:=P) v w1;simp only[runN,e2]at h;cases h
    have hm:=zI hr;cases hf:P.funcs[f.fn]? with
    |none=>
     refine fin (f.tmps.getD 0 undef) w (step_lone_go ?_);rw[dL];simp[stepG,unwind,doReturn,hm,hf,iN,kH,C0,below]
    |some fn'=>
     cases dp:(results fn' f.tmps).run P w with
     |ok v w1=>
      refine fin v w1 (step_lone_go ?_);rw[dL];simp[stepG,unwind,doReturn,hm,hf,dp,iN,kH,C0,below]
     |halt x w1=>
      have e:∃o,step P (BU P f [] w)= .ended o w1:=by
       cases x with
       |stuck why=>
        refine⟨.stuck why ((cur (C0 P) f []).pos P),step_lone_ended ?_⟩;rw[dL];simp[stepG,unwind,hm,hf,dp,iN,C0]
       |_=>
        refine⟨.stuck "return: the result variables cannot be read" ((cur (C0 P) f []).pos P),step_lone_ended ?_⟩;rw[dL];simp[stepG,unwind,hm,hf,dp,iN,C0]
      obtain⟨o,e⟩:=e;rw[e]at h;cases h
theorem Sj{I:Fr->List Fr->World->Prop}(G:Ws P I){fn:FuncId}{Q:Exit->Act->World->Prop}{tmps:Array Value}(hI:I ⟨fn,tmps,[.code c],false⟩ [] w)
  (hQ:∀e a w,Q e a w->e= .normal\/e= .ret)(sL:∀e a w τ d,Q e a w->Q e a (w.re τ d))(nh:∀τ d,c.wp P Q ⟨tmps,[]⟩ (w.re τ d)):Tr P (Left fn Q) ⟨fn,tmps,[.code c],false⟩ [] w:=by
 refine bar (I:=I) G.re G.step G.loc ?_ hI (fun τ d=>?_)
 .rintro f fs w τ d ⟨h1,h2,h3⟩;refine⟨h1,h2,?_⟩;rcases h3 with⟨h3,h4,h5⟩|⟨h3,h4⟩
  .exact .inl ⟨h3,h4,sL _ _ _ _ _ h5⟩
  .exact .inr ⟨h3,sL _ _ _ _ _ h4⟩
 .let b:Frame:= {(default:Frame)with fn:=fn,kind:=.normal}
  obtain⟨e,a',w',hq,mn⟩:=nh τ d b (C0 P).k [c0 P];have hm:lone (b.at ⟨tmps,[]⟩ (.code c::(C0 P).k)) [c0 P] (w.re τ d)=BU P ⟨fn,tmps,[.code c],false⟩ [] (w.re τ d):=rfl;rw[hm]at mn;rcases hQ e a' w' hq with rfl|rfl
  .obtain⟨n,hn⟩:=mn;exact road G (T:=lone (b.at a' (C0 P).k) [c0 P] w') (.inl ⟨a',w',rfl,hq⟩) n _ _ _ (G.re _ _ _ τ d hI) hn
  .obtain⟨todo,n,hn⟩:=mn;exact road G (T:=lone {b.at a' todo with mode:=.returning} [c0 P] w') (.inr ⟨a',todo,w',rfl,hq⟩) n _ _ _ (G.re _ _ _ τ d hI) hn
theorem UA(hX:X far=false)(hC:Closed P X A K):Ws P (JV P X A K):=
 ⟨fun _ _ _ τ d h=>h.re τ d,fun _ _ _ _ _ _ _ h e=>h.step hC e,fun _ _ _ h=>X5 hX hC h,fun _ _ _ h=>by obtain⟨ρ,h1,_⟩:=h;exact h1.wf,fun _ _ _ h e=>Un hX hC h e⟩
theorem Ku(hX:X far=false)(hC:Closed P X A K){fn:FuncId}{Q:Exit->Act->World->Prop}{tmps:Array Value}(hI:JV P X A K ⟨fn,tmps,[.code c],false⟩ [] w)
  (hQ:∀e a w,Q e a w->e= .normal\/e= .ret)(sL:∀e a w τ d,Q e a w->Q e a (w.re τ d))(nh:∀τ d,c.wp P Q ⟨tmps,[]⟩ (w.re τ d)):Tr P (Left fn Q) ⟨fn,tmps,[.code c],false⟩ [] w:=
 Sj (UA hX hC) hI hQ sL nh
end
end Go.bn
namespace Go.fE
section
open Go.Ren Go.bn Go.Conc
variable{fr:Frame}{s s':List Frame}
variable {P:Program} {X A:FuncId->Bool} {D:FuncId->List Nat}
def uK(ds:List Nat)(o:Oper):Bool:=match o.dst with|some d=> !ds.contains d|none=>true
def JK(X A:FuncId->Bool)(D:FuncId->List Nat)(o:Oper):Bool:=match o.op with
 | .call c=>(match c.callee with| .value (.func f)=>X f||(A f&&(D f).all (c.args.size<=·))|_=>true)
 |_=>true
def WE(P:Program)(X A:FuncId->Bool)(D:FuncId->List Nat)(ds:List Nat)(o:Oper):Bool:=
 match o.op with
 | .makeFunc (.func f) first _=>first.isEmpty&&A f&&(D f).isEmpty
 | .defer c=>(match c.callee with| .value (.tmp t)=>ds.contains t&&uK ds o|_=>false)
 | .panic _=>uK ds o
 | .call {callee:=.builtin .recover,args:=_,argTypes:=_}=>uK ds o
 |_=>WC P X o&&JK X A D o&&uK ds o
def jq(P:Program)(X A:FuncId->Bool)(D:FuncId->List Nat)(ds:List Nat):Code->Bool
 | .skip| .exit _| .label _| .ret| .goto _=>true
 | .region _ ops _=>ops.all (WE P X A D ds)
 | .seq a b=>jq P X A D ds a&&jq P X A D ds b
 | .cond _ a b=>jq P X A D ds a&&jq P X A D ds b
 | .block _ a| .loop a| .scope a=>jq P X A D ds a
 |_=>false
def rE(P:Program)(X A:FuncId->Bool)(D:FuncId->List Nat)(ds:List Nat):Item->Bool
 | .code c| .inLoop c| .inScope c=>jq P X A D ds c
 | .inBlock _=>true
 | .inRegion ops _=>ops.all (WE P X A D ds)
 |_=>false
def funD(P:Program)(X A:FuncId->Bool)(D:FuncId->List Nat)(f:FuncId)(fn:Func):Bool:=
 fn.name != "runtime.NumGoroutine" &&(match fn.body with|some c=>jq P X A D (D f) c|none=>false)
structure bX(P:Program)(X A:FuncId->Bool)(D:FuncId->List Nat):Prop where
 ext:∀f,X f=true->∀xs:Array Value,Tm P (callFunc f xs)
 extv:∀f,X f=true->∀(xs:Array Value) (w:World) (n:Next) (w':World),(callFunc f xs).run P w= .ok n w'->∃v,n= .value v
 fns:∀f,A f=true->∃fn,P.funcs[f]? =some fn/\funD P X A D f fn=true
 ahead:P.follows .staticDataAhead=true
 late:∀g,4<=g->P.stepOf g=none
theorem bX.fn(hC:bX P X A D){f:FuncId}(h:A f=true):∃fn c,P.funcs[f]? =some fn/\fn.body=some c/\(fn.name== "runtime.NumGoroutine")=false/\jq P X A D (D f) c=true:=by
 obtain⟨fn,h1,h2⟩:=hC.fns f h;simp only[funD,Bool.and_eq_true,bne_iff_ne,ne_eq]at h2;cases hb:fn.body with
 |none=>rw[hb]at h2;cases h2.2
 |some c=>rw[hb]at h2;exact⟨fn,c,h1,hb,by simpa using h2.1,h2.2⟩
def Good(A:FuncId->Bool)(D:FuncId->List Nat)(v:Value):Prop:=v≠.nilFunc/\∀fn pre caps,v= .func fn pre caps->∃f,fn= .func f/\A f=true/\D f= []
def DOk(A:FuncId->Bool)(D:FuncId->List Nat)(d:Deferred):Prop:=(∃f caps,d.target= .fn (.func f) caps/\A f=true/\D f= [])
structure qQ(P:Program)(X A:FuncId->Bool)(D:FuncId->List Nat)(fr:Frame):Prop where
 items:∀x∈fr.todo,rE P X A D (D fr.fn) x=true
 slots:∀t∈D fr.fn,Good A D (fr.tmps.getD t undef)
 defs:∀d∈fr.defers,DOk A D d
 kind:fr.kind= .normal\/fr.kind= .deferred
 round:fr.roundOf=none
 nod:D fr.fn= []->fr.defers= []
def Waits(D:FuncId->List Nat)(c:Frame):Prop:=∃ops i rest k,c.todo= .inRegion ops (i::rest)::k/\∀o,ops[i]? =some o->uK (D c.fn) o=true
inductive sS(P:Program)(X A:FuncId->Bool)(D:FuncId->List Nat):List Frame->Prop
 |one {fr:Frame}:qQ P X A D fr->fr.kind= .normal->sS P X A D [fr]
 |cons {fr c:Frame} {cs:List Frame}:qQ P X A D fr->A fr.fn=true->(fr.kind= .normal->Waits D c)->sS P X A D (c::cs)->sS P X A D (fr::c::cs)
theorem sS.head{cs:List Frame}(h:sS P X A D (fr::cs)):qQ P X A D fr:=by cases h<;>assumption
theorem sS.swap{fr':Frame}{cs:List Frame}(h:sS P X A D (fr::cs))(h':qQ P X A D fr')(e:fr'.fn=fr.fn)(ek:fr'.kind=fr.kind):sS P X A D (fr'::cs):=by
 cases h with
 |one _ hk=>exact .one h' (by rw[ek];exact hk)
 |cons _ h1 h2 h3=>exact .cons h' (by rw[e];exact h1) (fun hk=>h2 (by rw[<-ek];exact hk)) h3
def gW(C:Ctx)(cs:List Frame)(fr:Frame):Frame:=match cs with
 | []=> {fr with todo:=fr.todo++C.k,defers:=fr.defers++C.defers}
 |_::_=>fr
def jC(C:Ctx):List Frame->List Frame
 | []=>C.callers
 |c::cs=>gW C cs c::jC C cs
def bG(C:Ctx):List Frame->Goroutine
 | []=>G default C.callers
 |fr::cs=>G (gW C cs fr) (jC C cs)
def wV(C:Ctx)(cs:List Frame):List Item:=match cs with| []=>C.k|_::_=> []
def Vz(C:Ctx)(cs:List Frame):List Deferred:=match cs with| []=>C.defers|_::_=> []
theorem bL(C:Ctx)(cs:List Frame)(fr:Frame):gW C cs fr= {fr with todo:=fr.todo++wV C cs,defers:=fr.defers++Vz C cs}:=by
 cases cs<;>simp[gW,wV,Vz]
theorem lC(C:Ctx)(cs:List Frame)(fr:Frame)(v:Value){ops:Array Oper}{i:Nat}{rest:List Nat}{k:List Item}(h:fr.todo= .inRegion ops (i::rest)::k):(gW C cs fr).finish v=gW C cs (fr.finish v):=by
 rw[bL,bL];simp only[Frame.finish,h,List.cons_append]
theorem IE(C:Ctx)(cs:List Frame)(fr:Frame):(gW C cs fr).eval=fr.eval:=by
 rw[bL];funext x;cases x<;>rfl
theorem Dq(C:Ctx)(cs:List Frame)(fr:Frame)(ch:List PanicEntry):(gW C cs fr).raise ch=gW C cs (fr.raise ch):=by
 rw[bL,bL];obtain⟨f,t,td,ds,m,k,r⟩:=fr;cases m<;>rfl
structure Does(P:Program)(s:List Frame)(T:Sem (List Frame)):Prop where
 go:∀(C:Ctx) (w:World) (s':List Frame) (w':World) (es:Array Event),T.runT P w #[]=(.ok s' w',es)->∃fn,stepG P true (bG C s) w= .go (bG C s') w' (seen P fn es)
 no:∀(w:World) (x:Halt) (w':World) (es:Array Event),(Dead x\/∃v,x= .panic v)->T.runT P w #[]=(.halt x w',es)->∃o w2,(stepG P true (bG (C0 P) s) w).bare= .ended o w2
theorem Does.still(h:∀(C:Ctx) (w:World),stepG P true (bG C s) w= .go (bG C s') w #[]):Does P s (Pure.pure s'):=by
 refine⟨fun C w s2 w' es e=>?_,fun w x w' es _ e=>?_⟩
 .have e:((Result.ok s' w,#[]):Result (List Frame)×Array Event)=(.ok s2 w',es):=e;simp only[Prod.mk.injEq,Result.ok.injEq]at e;obtain⟨⟨rfl,rfl⟩,rfl⟩:=e;exact⟨0,by rw[h,seen_none]⟩
 .have e:((Result.ok s' w,#[]):Result (List Frame)×Array Event)=(.halt x w',es):=e;simp at e
def Told(P:Program)(X A:FuncId->Bool)(D:FuncId->List Nat)(s:List Frame):Prop:=∃T,Tm P T/\Does P s T/\∀w s' w',T.run P w= .ok s' w'->sS P X A D s'
theorem Told.still(h:∀(C:Ctx) (w:World),stepG P true (bG C s) w= .go (bG C s') w #[])(hs:sS P X A D s'):Told P X A D s:=
 ⟨_,ay s',.still h,fun w s2 w' e=>by
  have e:(Result.ok s' w:Result (List Frame))= .ok s2 w':=e;cases e;exact hs⟩
theorem Told.bad(h:∀(w:World),∃o w2,(stepG P true (bG (C0 P) s) w).bare= .ended o w2):Told P X A D s:=by
 refine⟨stuck "",aA,⟨fun C w s2 w' es e=>?_,fun w x w' es _ _=>h w⟩,fun w s2 w' e=>?_⟩
 .have e:((Result.halt (.stuck "") w,#[]):Result (List Frame)×Array Event)=(.ok s2 w',es):=e;simp at e
 .have e:(Result.halt (.stuck "") w:Result (List Frame))= .ok s2 w':=e;cases e
end
section
open Go.Ren Go.bn Go.Conc
variable{ρ:Operand->Value}{ds:List Nat}{o:Oper}{w w':World}
variable {P:Program} {X A:FuncId->Bool} {D:FuncId->List Nat}
theorem JB(fr:Frame)(v:Value):fr.eval (.const v)=v:=rfl
theorem Ar(fr:Frame)(f:FuncId):fr.eval (.func f)= .func (.func f) #[] #[]:=rfl
theorem wL(tmps:Array Value):∀l:List ResultVar,Tm P (l.mapM fun| .tmp t=>Pure.pure (tmps.getD t undef)| .cell a t=>do loadVar t (<-asAddr (tmps.getD a undef)))
 | []=>by rw[List.mapM_nil];exact ay _
 |r::l=>by
  rw[List.mapM_cons];refine au ?_ fun _=>au (wL tmps l) fun _=>ay _;cases r with
  |tmp t=>exact ay _
  |cell a t=>exact au (C_ _) fun _=>yQ _ _
theorem wK(fn:Func)(tmps:Array Value):Tm P (results fn tmps):=by
 unfold results;refine au ?_ fun _=>ay _;rw[Array.mapM_eq_mapM_toList];exact aG (wL tmps _)
theorem O1(v:Value):Tm P (Instr.panic v):=by
 unfold Instr.panic;split
 .exact tC
 .refine au ?_ fun _=>?_
  .unfold Instr.panicnil;refine .env fun x=>?_;cases x<;>first|exact aA|exact .program (.pure _)
  .split
   .exact tC
   .exact aY _
 .exact aA
theorem KE(c:Call)(t:TypeId):Tm P (resolve ρ c t):=by
 unfold resolve;cases c.callee with
 |builtin b=>exact ay _
 |invoke r n=>exact ay _
 |value x=>
  show Tm P (Deferred.ofValue _ _);unfold Deferred.ofValue;split<;>first|exact ay _|exact aA
theorem Z4(hC:bX P X A D)(h:WE P X A D ds o=true)(fr:Frame):Tm P (execOp fr.eval o):=by
 have plain:(WC P X o&&JK X A D o&&uK ds o)=true->Tm P (execOp fr.eval o):=fun h=>by
  simp only[Bool.and_eq_true]at h;exact YK hC.ext (JB fr) (Ar fr) h.1.1
 unfold WE at h;split at h
 .rename_i f first cap ho
  unfold execOp;rw[ho];exact ay _
 .rename_i c ho;unfold execOp;rw[ho];exact au (KE _ _) fun _=>ay _
 .rename_i x ho;unfold execOp;rw[ho];exact aU (O1 _)
 .rename_i args ats ho;unfold execOp;rw[ho];exact ay _
 .exact plain h
theorem mQ{α:Type}{s:Sem α}{g:α->Value}{n:Next}(h:(s >>= fun a=>Pure.pure (Next.value (g a))).run P w= .ok n w'):∃v,n= .value v:=by
 replace h:(s.bind fun a=>Sem.pure (Next.value (g a))).run P w= .ok n w':=h;rw[run_bind]at h;cases hs:s.run P w with
 |ok a w1=>rw[hs]at h;simp only[Sem.run,Result.ok.injEq]at h;exact⟨_,h.1.symm⟩
 |halt x w1=>rw[hs]at h;cases h
theorem J_{s:Sem Unit}{n:Next}(h:(s >>= fun _=>Pure.pure Next.skip).run P w= .ok n w'):n= .skip:=by
 replace h:(s.bind fun _=>Sem.pure Next.skip).run P w= .ok n w':=h;rw[run_bind]at h;cases hs:s.run P w with
 |ok a w1=>rw[hs]at h;simp only[Sem.run,Result.ok.injEq]at h;exact h.1.symm
 |halt x w1=>rw[hs]at h;cases h
theorem TY(hC:bX P X A D)(hf:∀f,ρ (.func f)= .func (.func f) #[] #[])(h:WC P X o=true)(hA:JK X A D o=true){n:Next}(hr:(execOp ρ o).run P w= .ok n w'):
  (∃v,n= .value v)\/n= .skip\/∃f xs,n= .enter f xs/\A f=true/\∀t∈D f,xs.size<=t:=by
 unfold WC at h;unfold JK at hA;unfold execOp at hr;dsimp only at hr;split at hr<;>rename_i ho<;>rw[ho]at h hA<;>dsimp only at h hA;all_goals first
  |(cases h;done)
  |exact .inl ⟨_,(Result.ok.inj hr).1.symm⟩
  |exact .inl (mQ (g:=fun x=>x) hr)
  |exact .inr (.inl (J_ hr))
  |skip
 .exact .inl (mQ (g:=fun b=>if b=true then _ else _) hr)
 .left;have no:∀{x:Halt} {w1:World},(Result.halt x w1:Result Next)= .ok n w'->∃v,n= .value v:=fun e=>by cases e
  split at hr
  iterate 3 (·exact no hr)
  .split at hr
   .exact no hr
   .replace hr:((nilAhead (P.types.size+Made.depth) _ _ _).bind _).run P w= .ok n w':=hr;rw[run_bind]at hr;split at hr
    .split at hr
     .exact no hr
     .exact⟨_,(Result.ok.inj hr).1.symm⟩
    .exact no hr
   .exact⟨_,(Result.ok.inj hr).1.symm⟩
  .exact⟨_,(Result.ok.inj hr).1.symm⟩
 .rename_i c;obtain⟨callee,args,argTypes⟩:=c;unfold fB at h;dsimp only at h hA;cases callee with
  |builtin b=>
   cases b<;>first
    |(cases h;done)
    |exact .inl (mQ (g:=fun x=>x) hr)
  |invoke r n=>cases h
  |value x=>
   cases x with
   |func f=>
    replace hr:((Deferred.ofValue (ρ (.func f)) (args.map ρ)) >>= fun d=>invoke d.target d.args).run P w= .ok n w':=hr;rw[hf]at hr;replace hr:(callFunc f ((#[]++args.map ρ)++ #[])).run P w= .ok n w':=hr;dsimp only at h hA;cases hx:X f with
    |true=>exact .inl (hC.extv f hx _ _ _ _ hr)
    |false=>
     simp only[hx,Bool.false_or,Bool.and_eq_true,List.all_eq_true,decide_eq_true_eq]at hA;obtain⟨fn,c,k1,k2,k3,_⟩:=hC.fn hA.1;have h2:fn.body.isNone=false:=by rw[k2];rfl
     unfold callFunc at hr;replace hr:(match P.funcs[f]? with|none=>stuck "call: no such function"|some fn=>_:Sem Next).run P w= .ok n w':=hr;rw[k1]at hr;simp only[k3,h2,Bool.false_eq_true,if_false]at hr;exact .inr (.inr ⟨f,_,(Result.ok.inj hr).1.symm,hA.1,fun t ht=>by simpa using hA.2 t ht⟩)
   |_=>cases h
inductive NxD(A:FuncId->Bool)(D:FuncId->List Nat)(ds:List Nat)(o:Oper):Next->Prop
 |val {v:Value}:(uK ds o=true\/Good A D v)->NxD A D ds o (.value v)
 |skip:NxD A D ds o .skip
 |enter {f:FuncId} {xs:Array Value}:A f=true->(∀t∈D f,xs.size<=t)->uK ds o=true->NxD A D ds o (.enter f xs)
 |defer {d:Deferred}:DOk A D d->ds≠ []->NxD A D ds o (.defer d)
 |recover:uK ds o=true->NxD A D ds o .recover
theorem zB(hC:bX P X A D)(h:WE P X A D ds o=true){fr:Frame}(hs:∀t∈ds,Good A D (fr.tmps.getD t undef)){n:Next}(hr:(execOp fr.eval o).run P w= .ok n w'):NxD A D ds o n:=by
 have plain:(WC P X o&&JK X A D o&&uK ds o)=true->NxD A D ds o n:=fun h=>by
  simp only[Bool.and_eq_true]at h;rcases TY hC (Ar fr) h.1.1 h.1.2 hr with⟨v,rfl⟩|rfl|⟨f,xs,rfl,k1,k2⟩
  .exact .val (.inl h.2)
  .exact .skip
  .exact .enter k1 k2 h.2
 unfold WE at h;split at h
 .rename_i f first cap ho
  unfold execOp at hr;rw[ho]at hr;have hr:(Result.ok (Next.value (.func (.func f) (first.map fr.eval) (cap.map fr.eval))) w:Result Next)= .ok n w':=hr;cases hr;simp only[Bool.and_eq_true,List.isEmpty_iff]at h;exact .val (.inr ⟨by simp,fun fn pre caps e=>by cases e;exact⟨f,rfl,h.1.2,h.2⟩⟩)
 .rename_i c ho;split at h
  .rename_i t hc;simp only[Bool.and_eq_true,List.contains_eq_mem,decide_eq_true_eq]at h;unfold execOp at hr;rw[ho]at hr;replace hr:((resolve fr.eval c o.type).bind fun d=>Sem.pure (.defer d)).run P w= .ok n w':=hr;unfold resolve at hr;rw[run_bind]at hr;simp only[hc]at hr;have hg:=hs t h.1;rw[show fr.eval (.tmp t)=fr.tmps.getD t undef from rfl]at hr;generalize fr.tmps.getD t undef=v at hg hr;unfold Deferred.ofValue at hr;cases v with
   |func fn pre caps=>
    obtain⟨f,rfl,h1,h2⟩:=hg.2 fn pre caps rfl;have hr:(Result.ok (Next.defer {target:=.fn (.func f) caps,args:=pre++c.args.map fr.eval}) w:Result Next)= .ok n w':=hr;cases hr;exact .defer ⟨f,caps,rfl,h1,h2⟩ (List.ne_nil_of_mem h.1)
   |nilFunc=>exact absurd rfl hg.1
   |_=> have hr:(Result.halt (.stuck "call: function value expected") w:Result Next)= .ok n w':=hr
        cases hr
  .cases h
 .rename_i x ho;unfold execOp at hr;rw[ho]at hr;obtain⟨v,rfl⟩:=mQ (g:=fun x=>x) hr;exact .val (.inl h)
 .rename_i args ats ho;unfold execOp at hr;rw[ho]at hr;have hr:(Result.ok Next.recover w:Result Next)= .ok n w':=hr;cases hr;exact .recover h
 .exact plain h
end
