import Derived.Test.YtmfpiodlecapiaaJ14
import Derived.KernelRfl
namespace Go.Frag
open Go.Ren Go.Conc
variable {P:Program} {X A:FuncId->Bool} {K:FuncId->Nat->Nat}
def Inn(P:Program)(X A:FuncId->Bool)(K:FuncId->Nat->Nat)(f:Fr)(fs:List Fr)(w:World):Prop:=∃ρ,StR P X A K ρ f fs f fs/\WR ρ w w
theorem WR.re{ρ:Array Nat}{p u:World}(h:WR ρ p u)(τ:Nat->Question->Nat)(d:Nat):WR ρ (p.re τ d) (u.re τ d):=⟨h.size,h.rows,h.inj,h.low,h.cell,h.free,rfl,rfl⟩
theorem Inn.re{f:Fr}{fs:List Fr}{w:World}(h:Inn P X A K f fs w)(τ:Nat->Question->Nat)(d:Nat):Inn P X A K f fs (w.re τ d):=by
 obtain⟨ρ,h1,h2⟩:=h;exact⟨ρ,h1,WR.re h2 τ d⟩
theorem Inn.step(hC:Closed P X A K){f f':Fr}{fs fs':List Fr}{w w':World}{es:Array Event}(h:Inn P X A K f fs w)(e:fstep P f fs w= .go f' fs' w' es):Inn P X A K f' fs' w':=by
 obtain⟨ρ,h1,h2⟩:=h;have:=fstep_ren hC h1 h2;rw[e]at this;obtain⟨ρ1,f1,fs1,u1,es1,e1,h3,h4,_,_⟩:=this;rw[e]at e1;simp only[FO.go.injEq]at e1;obtain⟨rfl,rfl,rfl,rfl⟩:=e1;exact⟨ρ1,h3,h4⟩
theorem again{α β:Type}{B:Array Nat->α->β->Prop}{ρ:Array Nat}{s:Sem α}{s':Sem β}(h:SR P B ρ s s'):∀(w u:World),WR ρ w u->∀(es:Array Event) (a:α) (w':World) (es':Array Event),s.runT P w es=(.ok a w',es')->
  w'.tape=w.tape/\∃m,w'.drawn=w.drawn+m/\∀τ d,(∀i,i<m->τ (d+i)=w.tape (w.drawn+i))->s.runT P (w.re τ d) es=(.ok a (w'.re τ (d+m)),es'):=by
 induction h with
 |pure _=>
  intro w u hw es a' w' es' h;simp only[Sem.runT,Prod.mk.injEq,Result.ok.injEq]at h;obtain⟨⟨rfl,rfl⟩,rfl⟩:=h;exact⟨rfl,0,rfl,fun τ d _=>rfl⟩
 |@load ρ a a2 k k' _ _ ih=>
  intro w u hw es a' w' es' h;simp only[Sem.runT]at h;have hc:∀τ d,(w.re τ d).cell? a=w.cell? a:=fun _ _=>rfl;cases hcell:w.cell? a with
  |some v=>
   simp only[hcell]at h;have hsp:=spot_none hcell;obtain⟨b,i,sp⟩:=a;simp only at hsp;subst hsp;obtain⟨c,v',_,_,hv⟩:=hw.cell b i v hcell;obtain⟨h1,n,h2,h3⟩:=ih v v' hv w u hw _ a' w' es' h;refine⟨h1,n,h2,fun τ d hd=>?_⟩;simp only[Sem.runT,hc,hcell];exact h3 τ d hd
  |none=>
   simp only[hcell]at h;obtain⟨why,e⟩:=hw.no_load (P:=P) a (Mode.plain== .atomic);simp only[e]at h;cases h
 |@store ρ a a2 v v' k k' ha hv _ ih=>
  intro w u hw es a' w' es' h;have hc:∀τ d,(w.re τ d).cell? a=w.cell? a:=fun _ _=>rfl;have hz:∀τ d,(w.re τ d).frozen? a=w.frozen? a:=fun _ _=>rfl;have hs:∀τ d,(w.re τ d).setCell a v=(w.setCell a v).re τ d:=fun _ _=>rfl;have key:v≠.tuple #[]->w'.tape=w.tape/\∃m,w'.drawn=w.drawn+m/\∀τ d,(∀i,i<m->τ (d+i)=w.tape (w.drawn+i))->(Sem.store .plain a v k).runT P (w.re τ d) es=(.ok a' (w'.re τ (d+m)),es'):=by
   intro ht;have e:∀u:World,(Sem.store .plain a v k).runT P u es=(match u.cell? a with
    |some _=>if u.frozen? a then(.halt (.unsupported (.unsafePointer "a write to bytes that a string shares")) u,es)else k.runT P (u.setCell a v) (es.push ⟨.cell a,true,Mode.plain== .atomic⟩)
    |none=>match u.farStore P a v (Mode.plain== .atomic)with
     | .ok (w,touched)=>k.runT P w (es++touched.toArray.map (⟨.cell ·,true,Mode.plain== .atomic⟩))
     | .error h=>(.halt h u,es)):=by
    intro u;cases hv<;>first|exact absurd rfl ht|rfl
   rw[e]at h;cases hcell:w.cell? a with
   |some x=>
    simp only[hcell]at h;cases hfz:w.frozen? a with
    |true=>simp only[hfz,if_true]at h;cases h
    |false=>
     simp only[hfz,Bool.false_eq_true,if_false]at h;obtain⟨_,_,hw',_⟩:=hw.store ha hcell hfz hv;obtain⟨h1,n,h2,h3⟩:=ih _ _ hw' _ a' w' es' h;refine⟨h1,n,h2,fun τ d hd=>?_⟩;rw[e];simp only[hc,hcell,hz,hfz,hs,Bool.false_eq_true,if_false];exact h3 τ d hd
   |none=>
    simp only[hcell]at h;obtain⟨why,e⟩:=hw.no_store (P:=P) a v (Mode.plain== .atomic);simp only[e]at h;cases h
  cases hv<;>first|(simp only[Sem.runT]at h;cases h;done)|exact key (fun e=>by cases e)
 |@new ρ c c' e k k' hc _ ih=>
  intro w u hw es a' w' es' h;simp only[Sem.runT]at h;have hw':=(hw.new e hc).1;rw[<-hw.size]at h;obtain⟨h1,n,h2,h3⟩:=ih _ _ _ hw' _ a' w' es' h;refine⟨h1,n,h2,fun τ d hd=>?_⟩;simp only[Sem.runT];have:=h3 τ d hd;rw[hw.size]at this;exact this
 |@choose ρ q k k' _ ih=>
  intro w u hw es a' w' es' h;simp only[Sem.runT]at h;cases hq:q.forced with
  |true=>
   simp only[hq,if_true]at h;obtain⟨h1,n,h2,h3⟩:=ih _ _ _ hw _ a' w' es' h;exact⟨h1,n,h2,fun τ d hd=>by simp only[Sem.runT,hq,if_true];exact h3 τ d hd⟩
  |false=>
   simp only[hq,Bool.false_eq_true,if_false]at h;have hw':WR ρ {w with drawn:=w.drawn+1} {u with drawn:=u.drawn+1}:=⟨hw.size,hw.rows,hw.inj,hw.low,hw.cell,hw.free,hw.tape,by rw[hw.drawn]⟩;obtain⟨h1,n,h2,h3⟩:=ih _ _ _ hw' _ a' w' es' h;refine⟨h1,n+1,by rw[h2];simp only;omega,fun τ d hd=>?_⟩;have e0:τ d=w.tape w.drawn:=by simpa using hd 0 (by omega)
   simp only[Sem.runT,hq,Bool.false_eq_true,if_false];have:=h3 τ (d+1) (fun i hi=>by
    have:=hd (i+1) (by omega);simpa[Nat.add_assoc,Nat.add_comm 1]using this)
   show(k (q.cut (τ d q))).runT P ({w with drawn:=w.drawn+1}.re τ (d+1)) es=_;rw[e0,show d+(n+1)=d+1+n by omega];exact this
 |program _ ih=>
  intro w u hw es a' w' es' h;simp only[Sem.runT]at h;obtain⟨h1,n,h2,h3⟩:=ih _ _ hw _ a' w' es' h;exact⟨h1,n,h2,fun τ d hd=>by simp only[Sem.runT];exact h3 τ d hd⟩
 |mark _ _ ih=>
  intro w u hw es a' w' es' h;simp only[Sem.runT]at h;obtain⟨h1,n,h2,h3⟩:=ih _ _ hw _ a' w' es' h;exact⟨h1,n,h2,fun τ d hd=>by simp only[Sem.runT];exact h3 τ d hd⟩
 |doomed hb=>
  intro w u hw es a' w' es' h;have:=congrArg Prod.fst h;rw[Sem.runT_fst]at this;have hx:=hb w;rw[this]at hx;exact hx.elim
 |panic _=>
  intro w u hw es a' w' es' h;simp only[Sem.runT]at h;cases h
theorem inn_op(hX:X far=false){f:Fr}{fs:List Fr}{w:World}(hC:Closed P X A K)(h:Inn P X A K f fs w){ops:Array Oper}{i:Nat}{rest:List Nat}{k:List Item}{o:Oper}(htd:f.todo= .inRegion ops (i::rest)::k)(ho:ops[i]? =some o):
  ∃ρ,WR ρ w w/\SR P (NR P A (dcls (K f.fn) o)) ρ (execOp f.act.eval o) (execOp f.act.eval o):=by
 obtain⟨ρ,h1,h2⟩:=h;have hB:opB P X A (K f.fn) o=true:=by
  have:=h1.head.ok (.inRegion ops (i::rest)) (by rw[htd];simp);have:=Array.all_eq_true_iff_forall_mem.1 this o (Array.mem_of_getElem? ho);simpa[opF,hX]using this
 exact⟨ρ,h2,op_alike hC.ext (a:=f.act) (a':=f.act) h1.head.tmps hB⟩
theorem foper_loc(hX:X far=false){f:Fr}{fs:List Fr}{w:World}(hC:Closed P X A K)(h:Inn P X A K f fs w){ops:Array Oper}{i:Nat}{rest:List Nat}{k:List Item}{o:Oper}(htd:f.todo= .inRegion ops (i::rest)::k)(ho:ops[i]? =some o)
  {f':Fr}{fs':List Fr}{w':World}{es:Array Event}(e:foper P f fs o w= .go f' fs' w' es):
  w'.tape=w.tape/\∃m,w'.drawn=w.drawn+m/\∀τ d,(∀i,i<m->τ (d+i)=w.tape (w.drawn+i))->foper P f fs o (w.re τ d)= .go f' fs' (w'.re τ (d+m)) es:=by
 obtain⟨ρ,hw,hs⟩:=inn_op hX hC h htd ho;unfold foper at e;have key:∀(n:Next) (w1:World),(execOp f.act.eval o).run P w= .ok n w1->w1.tape=w.tape/\∃m,w1.drawn=w.drawn+m/\∀τ d,(∀i,i<m->τ (d+i)=w.tape (w.drawn+i))->(execOp f.act.eval o).run P (w.re τ d)= .ok n (w1.re τ (d+m))/\(execOp f.act.eval o).events P (w.re τ d) #[]=(execOp f.act.eval o).events P w #[]:=by
  intro n w1 hr;obtain⟨h1,m,h2,h3⟩:=again hs w w hw #[] n w1 ((execOp f.act.eval o).events P w #[]) (by rw[Sem.runT_eq,hr]);refine⟨h1,m,h2,fun τ d hd=>?_⟩;have:=h3 τ d hd;rw[Sem.runT_eq]at this;simp only[Prod.mk.injEq]at this;exact this
 cases hr:(execOp f.act.eval o).run P w with
 |halt x w1=>rw[hr]at e;cases x<;>cases e
 |ok n w1=>
  rw[hr]at e;obtain⟨h1,m,h2,h3⟩:=key n w1 hr;cases n<;>first
   |(simp only[FO.go.injEq]at e
     obtain⟨rfl,rfl,rfl,rfl⟩:=e;refine⟨h1,m,h2,fun τ d hd=>?_⟩;obtain⟨h4,h5⟩:=h3 τ d hd;unfold foper;rw[h4,h5])
   |cases e
theorem results_pure{fn:Func}{k:Nat->Nat}(hb:resB fn k=true)(tmps:Array Value):∃v,∀w,(results fn tmps).run P w= .ok v w/\(results fn tmps).events P w #[]=#[]:=by
 unfold resB at hb;split at hb
 ·rename_i hl;have hr:fn.results=#[]:=by apply Array.ext';simpa using hl
  exact⟨.tuple #[],fun w=>⟨by simp[results,hr],Conc.events_results_none hr _ _⟩⟩
 ·rename_i t hl;have hr:fn.results=#[.tmp t]:=by apply Array.ext';simpa using hl
  exact⟨tmps.getD t undef,fun w=>⟨by simp[results,hr],Conc.events_results_tmp hr _ _⟩⟩
 ·rename_i t t2 hl;have hr:fn.results=#[.tmp t,.tmp t2]:=by apply Array.ext';simpa using hl
  exact⟨.tuple #[tmps.getD t undef,tmps.getD t2 undef],fun w=>⟨by simp[results,hr],Conc.events_results_tmp2 hr _ _⟩⟩
 ·cases hb
theorem inn_loc(hX:X far=false)(hC:Closed P X A K){f:Fr}{fs:List Fr}{w:World}(h:Inn P X A K f fs w):LocF P f fs w:=by
 intro f' fs' w' es e;have still:∀(g:Fr) (gs:List Fr),(∀τ d,fstep P f fs (w.re τ d)= .go g gs (w.re τ d) es)->f'=g->fs'=gs->w'=w->
   w'.tape=w.tape/\∃m,w'.drawn=w.drawn+m/\∀τ d,(∀i,i<m->τ (d+i)=w.tape (w.drawn+i))->fstep P f fs (w.re τ d)= .go f' fs' (w'.re τ (d+m)) es:=by
  intro g gs hall e1 e2 e3;subst e1 e2 e3;exact⟨rfl,0,rfl,fun τ d _=>hall τ d⟩
 unfold fstep at e;cases hr:f.ret with
 |true=>
  simp only[hr,if_true]at e;obtain⟨ρ,h1,h2⟩:=h;unfold fret at e;cases h1 with
  |one _=>cases e
  |@cons _ _ c c' fs fs' hf l t=>
   obtain⟨hA,_⟩:=l;simp only at e;cases hfn:P.funcs[f.fn]? with
   |none=>rw[hfn]at e;cases e
   |some fn=>
    have hB:=hC.fns f.fn hA fn hfn;simp only[funB,Bool.and_eq_true]at hB;rw[hfn]at e;simp only at e;obtain⟨v,hv⟩:=results_pure (P:=P) hB.1.2 f.tmps;rw[(hv w).1,(hv w).2]at e;simp only[FO.go.injEq]at e;obtain⟨rfl,rfl,rfl,rfl⟩:=e;refine still _ _ (fun τ d=>?_) rfl rfl rfl;simp only[fstep,hr,if_true,fret,hfn,(hv (w.re τ d)).1,(hv (w.re τ d)).2]
 |false=>
  simp only[hr,Bool.false_eq_true,if_false]at e;have e0:∀u,fstep P f fs u=qU P f fs u:=fun u=>by simp[fstep,hr]
  unfold qU at e;split at e
  ·rename_i htd;cases fs with
   |nil=>cases e
   |cons c rest=>
    simp only[FO.go.injEq]at e;obtain⟨rfl,rfl,rfl,rfl⟩:=e;exact still _ _ (fun τ d=>by rw[e0];simp[qU,htd]) rfl rfl rfl
  ·rename_i htd;simp only[FO.go.injEq]at e;obtain⟨rfl,rfl,rfl,rfl⟩:=e;exact still _ _ (fun τ d=>by rw[e0];simp[qU,htd]) rfl rfl rfl
  ·rename_i htd;simp only[FO.go.injEq]at e;obtain⟨rfl,rfl,rfl,rfl⟩:=e;exact still _ _ (fun τ d=>by rw[e0];simp[qU,htd]) rfl rfl rfl
  ·rename_i htd;simp only[FO.go.injEq]at e;obtain⟨rfl,rfl,rfl,rfl⟩:=e;exact still _ _ (fun τ d=>by rw[e0];simp[qU,htd]) rfl rfl rfl
  ·rename_i htd;simp only[FO.go.injEq]at e;obtain⟨rfl,rfl,rfl,rfl⟩:=e;exact still _ _ (fun τ d=>by rw[e0];simp[qU,htd]) rfl rfl rfl
  ·rename_i htd;simp only[FO.go.injEq]at e;obtain⟨rfl,rfl,rfl,rfl⟩:=e;exact still _ _ (fun τ d=>by rw[e0];simp[qU,htd]) rfl rfl rfl
  ·rename_i htd;split at e
   ·rename_i b hb;simp only[FO.go.injEq]at e;obtain⟨rfl,rfl,rfl,rfl⟩:=e;exact still _ _ (fun τ d=>by rw[e0];simp[qU,htd,hb]) rfl rfl rfl
   ·cases e
  ·rename_i htd;simp only[FO.go.injEq]at e;obtain⟨rfl,rfl,rfl,rfl⟩:=e;exact still _ _ (fun τ d=>by rw[e0];simp[qU,htd]) rfl rfl rfl
  ·rename_i htd;simp only[FO.go.injEq]at e;obtain⟨rfl,rfl,rfl,rfl⟩:=e;exact still _ _ (fun τ d=>by rw[e0];simp[qU,htd]) rfl rfl rfl
  ·rename_i htd;simp only[FO.go.injEq]at e;obtain⟨rfl,rfl,rfl,rfl⟩:=e;exact still _ _ (fun τ d=>by rw[e0];simp[qU,htd]) rfl rfl rfl
  ·rename_i htd;split at e
   ·rename_i k' hk';simp only[FO.go.injEq]at e;obtain⟨rfl,rfl,rfl,rfl⟩:=e;exact still _ _ (fun τ d=>by rw[e0];simp[qU,htd,hk']) rfl rfl rfl
   ·cases e
  ·rename_i id ops draw k htd;cases draw with
   |true=>
    simp only[if_true,FO.go.injEq]at e;obtain⟨rfl,rfl,rfl,rfl⟩:=e;refine⟨rfl,1,rfl,fun τ d hd=>?_⟩;have e1:τ d=w.tape w.drawn:=by simpa using hd 0 (by omega)
    rw[e0];simp only[qU,htd,if_true];show FO.go {f with todo:=Item.inRegion ops (Region.schedule (P.follows .mixedOrders) ops (τ d (.order f.fn id)))::k} fs _ _=_;rw[e1];rfl
   |false=>
    simp only[Bool.false_eq_true,if_false,FO.go.injEq]at e;obtain⟨rfl,rfl,rfl,rfl⟩:=e;exact still _ _ (fun τ d=>by rw[e0];simp[qU,htd]) rfl rfl rfl
  ·rename_i htd;simp only[FO.go.injEq]at e;obtain⟨rfl,rfl,rfl,rfl⟩:=e;exact still _ _ (fun τ d=>by rw[e0];simp[qU,htd]) rfl rfl rfl
  ·rename_i ops i rest k htd;split at e
   ·rename_i ho;simp only[FO.go.injEq]at e;obtain⟨rfl,rfl,rfl,rfl⟩:=e;exact still _ _ (fun τ d=>by rw[e0];simp[qU,htd,ho]) rfl rfl rfl
   ·rename_i o ho;by_cases hwt:Region.wanted o (yielded ops f.tmps)=true
    ·simp only[hwt,if_true]at e;obtain⟨h1,m,h2,h3⟩:=foper_loc hX hC h htd ho e;refine⟨h1,m,h2,fun τ d hd=>?_⟩;rw[e0];simp only[qU,htd,ho,hwt,if_true];exact h3 τ d hd
    ·simp only[hwt]at e;simp only[Bool.false_eq_true,if_false,FO.go.injEq]at e;obtain⟨rfl,rfl,rfl,rfl⟩:=e;exact still _ _ (fun τ d=>by rw[e0];simp[qU,htd,ho,hwt]) rfl rfl rfl
  ·cases e
def c0(P:Program):Frame:= {fn:=P.funcs.size,tmps:=#[],todo:= [.call {target:=.nil,args:=#[]} false "fmt's door!?" #[]],defers:= [],mode:=.run,kind:=.normal}
def C0(P:Program):Ctx:=⟨[.code (.refuse "")],[],.normal,[c0 P]⟩
def mach(P:Program)(f:Fr)(fs:List Fr)(w:World):Machine:=lone (cur (C0 P) f fs) (below (C0 P) fs) w
theorem no_row:Extern.next "fmt's door!?" =none:=by kernel_rfl
theorem door:("fmt's door!?".startsWith "fmt's door")=true:=by kernel_rfl
theorem mach_go{f f':Fr}{fs fs':List Fr}{w w':World}{es:Array Event}(hwf:Wf fs)(h:fstep P f fs w= .go f' fs' w' es):step P (mach P f fs w)= .next (mach P f' fs' w'):=by
 have:=step_go (main:=true) (C:=C0 P) (by simp[C0]) hwf h;rw[conc_eq,conc_eq]at this;refine step_lone_go ?_;show(stepG P true (G _ _) w).bare=_;rw[this];rfl
theorem back_ends(v:Value)(w:World):∃o w',step P (lone ((c0 P).finish v) [] w)= .ended o w':=by
 refine⟨.stuck ("no extern row " ++ "fmt's door!?") (((c0 P).finish v).pos P),w,step_lone_ended ?_⟩;simp[stepG,stepG.exec,c0,Frame.finish,no_row]
theorem panic_ends(chain:List PanicEntry)(w:World):∃o w',step P (lone {c0 P with mode:=.panicking chain} [] w)= .ended o w':=by
 refine⟨.unsupported (.noEntry "a panic or Goexit out of a method that fmt calls behind a cut's door") (({c0 P with mode:=.panicking chain}:Frame).pos P),w,step_lone_ended ?_⟩;have hc:({c0 P with mode:=.panicking chain}:Frame).catches P=true:=by simp[Frame.catches,c0,door]
 simp only[c0]at hc;simp[stepG,unwind,c0,hc]
def Bare0(P:Program):List Frame->Prop
 | []=>False
 | [c]=>c=c0 P
 |c::d::cs=>c.defers= []/\c.mode= .run/\Bare0 P (d::cs)
theorem below_bare(fs:List Fr)(hwf:Wf fs):Bare0 P (below (C0 P) fs):=by
 induction fs with
 |nil=>exact rfl
 |cons f fs ih=>
  have ih:=ih fun c hc=>hwf c (by simp[hc]);rw[below_eq];have hx:(cur (C0 P) f fs).defers= []/\(cur (C0 P) f fs).mode= .run:=by
   rw[cur_eq];exact⟨by cases fs<;>rfl,mode_run (hwf f (by simp)).2⟩
  cases hb:below (C0 P) fs with
  |nil=>rw[hb]at ih;exact ih.elim
  |cons d cs=>rw[hb]at ih;exact⟨hx.1,hx.2,ih⟩
theorem panic_never:∀(n:Nat) (fr:Frame) (cs:List Frame) (w:World) (chain:List PanicEntry) (m:Machine),fr.defers= []->fr.mode= .panicking chain->Bare0 P cs->runN P n (lone fr cs w)= .next m->∃fr' cs' w' chain',m=lone fr' cs' w'/\fr'.mode= .panicking chain'
 |0,fr,cs,w,chain,m,_,hm,_,h=>by
  simp only[runN,Stepped.next.injEq]at h;exact⟨fr,cs,w,chain,h.symm,hm⟩
 |n+1,fr,cs,w,chain,m,hd,hm,hb,h=>by
  simp only[runN]at h;cases cs with
  |nil=>exact hb.elim
  |cons c cs=>
   by_cases hc:fr.catches P=true
   ·have:step P (lone fr (c::cs) w)= .ended (.unsupported (.noEntry "a panic or Goexit out of a method that fmt calls behind a cut's door") (fr.pos P)) w:=
     step_lone_ended (by simp[stepG,unwind,hm,hd,hc])
    rw[this]at h;cases h
   ·have hs:step P (lone fr (c::cs) w)= .next (lone (c.raise chain) cs w):=step_lone_go (by simp[stepG,unwind,hm,hd,hc]);rw[hs]at h;cases cs with
    |nil=>
     have hc0:c=c0 P:=hb;subst hc0;cases n with
     |zero=>
      simp only[runN,Stepped.next.injEq]at h;exact⟨_,_,_,chain,h.symm,rfl⟩
     |succ n=>
      obtain⟨o,w',e⟩:=panic_ends (P:=P) chain w;have:(c0 P).raise chain= {c0 P with mode:=.panicking chain}:=rfl;simp only[runN,this,e]at h;cases h
    |cons d cs=>
     obtain⟨h1,h2,h3⟩:=hb;exact panic_never n (c.raise chain) (d::cs) w chain m (by simp[Frame.raise,h2,h1]) (by simp[Frame.raise,h2]) h3 h
theorem mach_panic{f:Fr}{fs:List Fr}{w:World}(h:fstep P f fs w= .panic):∃fr chain w',step P (mach P f fs w)= .next (lone fr (below (C0 P) fs) w')/\fr.defers= []/\fr.mode= .panicking chain:=by
 unfold fstep at h;cases hr:f.ret with
 |true=>
  simp only[hr,if_true]at h;unfold fret at h
  (repeat' split at h)<;>cases h
 |false=>
  simp only[hr,Bool.false_eq_true,if_false]at h;unfold qU at h;split at h;all_goals try (cases h;done)
  all_goals try (split at h<;>cases h;done)
  rename_i ops i rest k htd;split at h
  ·cases h
  ·rename_i o ho;by_cases hwt:Region.wanted o (yielded ops f.tmps)=true
   ·simp only[hwt,if_true]at h;unfold foper at h;split at h;all_goals try (cases h;done)
    rename_i v w1 hrun;have hcur:=cur_eq (C0 P) f fs;have he:(cur (C0 P) f fs).eval=f.act.eval:=by rw[hcur];exact act_eval _ rfl
    have e1:(cur (C0 P) f fs).todo= .inRegion ops (i::rest)::(k++tail (C0 P) fs):=by rw[hcur,htd];rfl
    have e2:(cur (C0 P) f fs).oper? =some o:=by simp[Frame.oper?,e1,ho]
    have e3:(cur (C0 P) f fs).roundOf=none:=by rw[hcur]
    have e4:(cur (C0 P) f fs).mode= .run:=by rw[hcur];exact mode_run hr
    have e5:(cur (C0 P) f fs).tmps=f.tmps:=by rw[hcur]
    have e6:(cur (C0 P) f fs).defers= []:=by rw[hcur];cases fs<;>rfl
    refine⟨(cur (C0 P) f fs).raise [{v:=v,recovered:=false}],[{v:=v,recovered:=false}],w1,step_lone_go (fr':=(cur (C0 P) f fs).raise [{v:=v,recovered:=false}]) (cs':=below (C0 P) fs) ?_,?_,?_⟩
    ·simp[stepG,stepG.exec,stepG.oper,e4,e1,e2,e3,e5,ho,hwt,stepG.apply,he,hrun]
    ·simp[Frame.raise,e4,e6]
    ·simp[Frame.raise,e4]
   ·simp only[hwt]at h;cases h
theorem mach_bad(hX:X far=false)(hC:Closed P X A K){f:Fr}{fs:List Fr}{w:World}(hI:Inn P X A K f fs w)(h:fstep P f fs w= .bad):∃o w',step P (mach P f fs w)= .ended o w':=by
 have hcur:=cur_eq (C0 P) f fs;have e5:(cur (C0 P) f fs).tmps=f.tmps:=by rw[hcur]
 have e3:(cur (C0 P) f fs).roundOf=none:=by rw[hcur]
 have he:(cur (C0 P) f fs).eval=f.act.eval:=by rw[hcur];exact act_eval _ rfl
 have hok:∀x∈f.todo,itemB P X A (K f.fn) x=true:=by obtain⟨ρ,h1,_⟩:=hI;exact h1.head.ok
 unfold fstep at h;cases hr:f.ret with
 |true=>
  simp only[hr,if_true]at h;obtain⟨ρ,h1,_⟩:=hI;unfold fret at h;cases h1 with
  |one _=>cases h
  |@cons _ _ c c' fs fs' hf l t=>
   obtain⟨hA,_⟩:=l;obtain⟨fn,hfn⟩:=hC.has f.fn hA;have hB:=hC.fns f.fn hA fn hfn;simp only[funB,Bool.and_eq_true]at hB;obtain⟨v,hv⟩:=results_pure (P:=P) hB.1.2 f.tmps;simp only[hfn,(hv w).1]at h;cases h
 |false=>
  have e4:(cur (C0 P) f fs).mode= .run:=by rw[hcur];exact mode_run hr
  simp only[hr,Bool.false_eq_true,if_false]at h;unfold qU at h;split at h;all_goals try (cases h;done)
  ·split at h<;>cases h
  ·rename_i c thn els k htd;split at h
   ·cases h
   ·rename_i hnb;have e1:(cur (C0 P) f fs).todo= .code (.cond c thn els)::(k++tail (C0 P) fs):=by rw[hcur,htd];rfl
    refine⟨.stuck "cond: bool expected" ((cur (C0 P) f fs).pos P),w,step_lone_ended ?_⟩;simp only[stepG,e4,stepG.exec,e1,he];generalize f.act.eval c=v at hnb;cases v<;>first|rfl|exact absurd rfl (hnb _)
  ·rename_i id k htd;split at h
   ·cases h
   ·rename_i hex;have e1:(cur (C0 P) f fs).todo= .code (.exit id)::(k++tail (C0 P) fs):=by rw[hcur,htd];rfl
    have e2:exitTo id (k++tail (C0 P) fs)=none:=by
     have key:∀(l r:List Item),exitTo id l=none->exitTo id r=none->exitTo id (l++r)=none:=by
      intro l;induction l with
      |nil=>exact fun r _ h=>h
      |cons x l ih=>
       intro r h1 h2;cases x<;>simp only[exitTo,List.cons_append]at h1⊢<;>first
        |exact ih r h1 h2
        |(split at h1
          ·cases h1
          ·rename_i hc;simp only[hc];exact ih r h1 h2)
     refine key _ _ hex ?_;cases fs<;>rfl
    refine⟨.stuck "exit, goto: no such block or label" ((cur (C0 P) f fs).pos P),w,step_lone_ended ?_⟩;simp[stepG,e4,stepG.exec,e1,e2,e3]
  ·split at h<;>cases h
  ·rename_i ops i rest k htd;split at h
   ·cases h
   ·rename_i o ho;by_cases hwt:Region.wanted o (yielded ops f.tmps)=true
    ·simp only[hwt,if_true]at h;obtain⟨ρ,hw,hs⟩:=inn_op hX hC hI htd ho;have hsim:=hs.run w w hw;have e1:(cur (C0 P) f fs).todo= .inRegion ops (i::rest)::(k++tail (C0 P) fs):=by rw[hcur,htd];rfl
     have e2:(cur (C0 P) f fs).oper? =some o:=by simp[Frame.oper?,e1,ho]
     have hk:((cur (C0 P) f fs).kind==CallKind.early)=false:=by rw[hcur];cases fs<;>rfl
     have happ:(stepG P true (G (cur (C0 P) f fs) (below (C0 P) fs)) w)=stepG.apply P true (cur (C0 P) f fs) (below (C0 P) fs) none (execOp f.act.eval o) w:=by
      rw[<-he];simp[G,stepG,stepG.exec,stepG.oper,e4,e1,e2,e3,e5,ho,hwt]
     unfold foper at h;cases hrun:(execOp f.act.eval o).run P w with
     |ok n w1=>
      rw[hrun]at hsim h;obtain⟨_,n',_,_,_,h2,_⟩:=hsim #[];cases h2<;>cases h
     |halt x w1=>
      rw[hrun]at hsim h;cases x with
      |panic v=>cases h
      |stuck why=>
       refine⟨.stuck why ((cur (C0 P) f fs).pos P),w1,step_lone_ended ?_⟩;show(stepG P true (G _ _) w).bare=_;rw[happ];simp[stepG.apply,hrun]
      |unsupported y=>
       refine⟨.unsupported y ((cur (C0 P) f fs).pos P),w1,step_lone_ended ?_⟩;show(stepG P true (G _ _) w).bare=_;rw[happ];cases y<;>first|exact hsim.elim|simp[stepG.apply,hrun]
      |_=>exact hsim.elim
    ·simp only[hwt]at h;cases h
  ·rename_i h1 h2 h3 h4 h5 h6 h7 h8 h9 h10 h11 h12 h13 h14;exfalso;cases hl:f.todo with
   |nil=>exact h1 hl
   |cons x k=>
    have hb:=hok x (by rw[hl];simp);cases x with
    |code c=>
     cases c<;>first
      |exact h2 _ hl|exact h3 _ hl|exact h4 _ _ hl|exact h6 _ _ _ hl|exact h7 _ _ _ _ hl|exact h8 _ _ _ hl|exact h9 _ _ hl|exact h11 _ _ hl|exact h12 _ _ _ _ hl
      |(simp[itemB,codeB]at hb)
    |inBlock id=>exact h5 _ _ hl
    |inLoop b=>exact h10 _ _ hl
    |inRegion ops l=>cases l with
     |nil=>exact h13 _ _ hl
     |cons i l=>exact h14 _ _ _ _ hl
    |_=>simp[itemB]at hb
def Left(fn:FuncId)(Q:Exit->Act->World->Prop)(f:Fr)(fs:List Fr)(w:World):Prop:=
 fs= []/\f.fn=fn/\((f.todo= []/\f.ret=false/\Q .normal f.act w)\/(f.ret=true/\Q .ret f.act w))
theorem below_one{fs:List Fr}{c:Frame}(h:below (C0 P) fs= [c]):fs= []:=by
 cases fs with
 |nil=>rfl
 |cons f fs=>
  exfalso;rw[below_eq]at h;have hb:below (C0 P) fs= []:=by simpa using(List.cons.inj h).2
  cases fs with
  |nil=>simp[below,C0]at hb
  |cons g gs=>rw[below_eq]at hb;cases hb
theorem lone_inj{fr fr':Frame}{cs cs':List Frame}{w w':World}(h:lone fr cs w=lone fr' cs' w'):fr=fr'/\cs=cs'/\w=w':=by
 simp only[lone,Machine.mk.injEq,Array.mk.injEq,List.cons.injEq,Goroutine.mk.injEq,and_true]at h;exact⟨h.2.1,h.2.2,h.1⟩
structure GoodI(P:Program)(I:Fr->List Fr->World->Prop):Prop where
 re:∀f fs w τ d,I f fs w->I f fs (w.re τ d)
 step:∀f fs w f' fs' w' es,I f fs w->fstep P f fs w= .go f' fs' w' es->I f' fs' w'
 loc:∀f fs w,I f fs w->LocF P f fs w
 wf:∀f fs w,I f fs w->Wf fs
 bad:∀f fs w,I f fs w->fstep P f fs w= .bad->∃o w',Go.step P (mach P f fs w)= .ended o w'
theorem road{I:Fr->List Fr->World->Prop}(G:GoodI P I){fn:FuncId}{Q:Exit->Act->World->Prop}{T:Machine}
  (hT:(∃a w,T=lone {fn:=fn,tmps:=a.tmps,todo:=(C0 P).k,defers:=a.defers,mode:=.run,kind:=.normal} [c0 P] w/\Q .normal a w)\/
   (∃a todo w,T=lone {fn:=fn,tmps:=a.tmps,todo:=todo,defers:=a.defers,mode:=.returning,kind:=.normal} [c0 P] w/\Q .ret a w)):
  ∀(n:Nat) (f:Fr) (fs:List Fr) (w:World),I f fs w->runN P n (mach P f fs w)= .next T->∃m,Reach P (Left fn Q) m f fs w:=by
 intro n;induction n with
 |zero=>
  intro f fs w _ h;simp only[runN,Stepped.next.injEq]at h;refine⟨0,?_⟩;rcases hT with⟨a,w1,rfl,hq⟩|⟨a,todo,w1,rfl,hq⟩
  ·obtain⟨e1,e2,rfl⟩:=lone_inj h;obtain rfl:=below_one e2;rw[cur_eq]at e1;simp only[Frame.mk.injEq]at e1;obtain⟨e3,e4,e5,e6,e7,_⟩:=e1;have hret:f.ret=false:=by
    cases hr:f.ret with
    |true=>rw[mode_ret hr]at e7;cases e7
    |false=>rfl
   have ea:f.act=a:=by
    obtain⟨t,d⟩:=a;simp only[Fr.act,Act.mk.injEq];exact⟨e4,e6⟩
   refine⟨rfl,e3,.inl ⟨?_,hret,ea▸hq⟩⟩;simpa[tail]using e5
  ·obtain⟨e1,e2,rfl⟩:=lone_inj h;obtain rfl:=below_one e2;rw[cur_eq]at e1;simp only[Frame.mk.injEq]at e1;obtain⟨e3,e4,e5,e6,e7,_⟩:=e1;have hret:f.ret=true:=by
    cases hr:f.ret with
    |true=>rfl
    |false=>rw[mode_run hr]at e7;cases e7
   have ea:f.act=a:=by
    obtain⟨t,d⟩:=a;simp only[Fr.act,Act.mk.injEq];exact⟨e4,e6⟩
   exact⟨rfl,e3,.inr ⟨hret,ea▸hq⟩⟩
 |succ n ih=>
  intro f fs w hI h;have hwf:Wf fs:=G.wf _ _ _ hI;simp only[runN]at h;cases hs:fstep P f fs w with
  |go f' fs' w' es=>
   rw[mach_go hwf hs]at h;obtain⟨m,hm⟩:=ih f' fs' w' (G.step _ _ _ _ _ _ _ hI hs) h;exact⟨m+1,.inr ⟨f',fs',w',es,hs,hm⟩⟩
  |panic=>
   obtain⟨fr,chain,w',e,hd,hm⟩:=mach_panic hs;rw[e]at h;obtain⟨fr',cs',w2,ch,e2,hm2⟩:=panic_never n fr _ w' chain T hd hm (below_bare fs hwf) h;exfalso;rcases hT with⟨a,w1,rfl,_⟩|⟨a,todo,w1,rfl,_⟩
   ·obtain⟨rfl,_,_⟩:=lone_inj e2;cases hm2
   ·obtain⟨rfl,_,_⟩:=lone_inj e2;cases hm2
  |bad=>
   obtain⟨o,w',e⟩:=G.bad _ _ _ hI hs;rw[e]at h;cases h
  |stop=>
   exfalso;have hfs:fs= []:=by
    unfold fstep at hs;cases hr:f.ret with
    |true=>
     simp only[hr,if_true,fret]at hs;cases fs with
     |nil=>rfl
     |cons c r=>simp only at hs;(repeat' split at hs)<;>cases hs
    |false=>
     simp only[hr,Bool.false_eq_true,if_false,qU]at hs;split at hs
     ·cases fs with
      |nil=>rfl
      |cons c r=>cases hs
     all_goals try (cases hs;done)
     all_goals try (split at hs<;>cases hs;done)
     split at hs
     ·cases hs
     ·split at hs
      ·unfold foper at hs;split at hs<;>cases hs
      ·cases hs
   subst hfs;cases hr:f.ret with
   |false=>
    have htd:f.todo= []:=by
     simp only[fstep,hr,Bool.false_eq_true,if_false,qU]at hs;split at hs
     ·assumption
     all_goals try (cases hs;done)
     all_goals try (split at hs<;>cases hs;done)
     split at hs
     ·cases hs
     ·split at hs
      ·unfold foper at hs;split at hs<;>cases hs
      ·cases hs
    have e:∃x,step P (mach P f [] w)= .ended x w:=by
     refine Exists.imp (fun _=>step_lone_ended) ?_;rw[cur_eq];simp[stepG,stepG.exec,mode_run hr,htd,tail,C0]
    obtain⟨_,e⟩:=e;rw[e]at h;cases h
   |true=>
    have fin:∀v w1,step P (mach P f [] w)= .next (lone ((c0 P).finish v) [] w1)->False:=by
     intro v w1 e;rw[e]at h;cases n with
     |zero=>
      simp only[runN,Stepped.next.injEq]at h;rcases hT with⟨a,w2,rfl,_⟩|⟨a,todo,w2,rfl,_⟩
      ·exact absurd (lone_inj h).2.1 (by simp)
      ·exact absurd (lone_inj h).2.1 (by simp)
     |succ n=>
      obtain⟨o,w2,e2⟩:=back_ends (P:=P) v w1;simp only[runN,e2]at h;cases h
    have hm:=mode_ret hr;cases hf:P.funcs[f.fn]? with
    |none=>
     refine fin (f.tmps.getD 0 undef) w (step_lone_go ?_);rw[cur_eq];simp[stepG,unwind,doReturn,hm,hf,curDefers,curKind,C0,below]
    |some fn'=>
     cases hres:(results fn' f.tmps).run P w with
     |ok v w1=>
      refine fin v w1 (step_lone_go ?_);rw[cur_eq];simp[stepG,unwind,doReturn,hm,hf,hres,curDefers,curKind,C0,below]
     |halt x w1=>
      have e:∃o,step P (mach P f [] w)= .ended o w1:=by
       cases x with
       |stuck why=>
        refine⟨.stuck why ((cur (C0 P) f []).pos P),step_lone_ended ?_⟩;rw[cur_eq];simp[stepG,unwind,hm,hf,hres,curDefers,C0]
       |_=>
        refine⟨.stuck "return: the result variables cannot be read" ((cur (C0 P) f []).pos P),step_lone_ended ?_⟩;rw[cur_eq];simp[stepG,unwind,hm,hf,hres,curDefers,C0]
      obtain⟨o,e⟩:=e;rw[e]at h;cases h
theorem tree_gen{I:Fr->List Fr->World->Prop}(G:GoodI P I){fn:FuncId}{c:Code}{Q:Exit->Act->World->Prop}{tmps:Array Value}{w:World}(hI:I ⟨fn,tmps,[.code c],false⟩ [] w)
  (hQ:∀e a w,Q e a w->e= .normal\/e= .ret)(hre:∀e a w τ d,Q e a w->Q e a (w.re τ d))(hwp:∀τ d,c.wp P Q ⟨tmps,[]⟩ (w.re τ d)):Tr P (Left fn Q) ⟨fn,tmps,[.code c],false⟩ [] w:=by
 refine bar (I:=I) G.re G.step G.loc ?_ hI (fun τ d=>?_)
 ·rintro f fs w τ d ⟨h1,h2,h3⟩;refine⟨h1,h2,?_⟩;rcases h3 with⟨h3,h4,h5⟩|⟨h3,h4⟩
  ·exact .inl ⟨h3,h4,hre _ _ _ _ _ h5⟩
  ·exact .inr ⟨h3,hre _ _ _ _ _ h4⟩
 ·let b:Frame:= {(default:Frame)with fn:=fn,kind:=.normal}
  obtain⟨e,a',w',hq,harr⟩:=hwp τ d b (C0 P).k [c0 P];have hm:lone (b.at ⟨tmps,[]⟩ (.code c::(C0 P).k)) [c0 P] (w.re τ d)=mach P ⟨fn,tmps,[.code c],false⟩ [] (w.re τ d):=rfl;rw[hm]at harr;rcases hQ e a' w' hq with rfl|rfl
  ·obtain⟨n,hn⟩:=harr;exact road G (T:=lone (b.at a' (C0 P).k) [c0 P] w') (.inl ⟨a',w',rfl,hq⟩) n _ _ _ (G.re _ _ _ τ d hI) hn
  ·obtain⟨todo,n,hn⟩:=harr;exact road G (T:=lone {b.at a' todo with mode:=.returning} [c0 P] w') (.inr ⟨a',todo,w',rfl,hq⟩) n _ _ _ (G.re _ _ _ τ d hI) hn
theorem inn_good(hX:X far=false)(hC:Closed P X A K):GoodI P (Inn P X A K):=
 ⟨fun _ _ _ τ d h=>h.re τ d,fun _ _ _ _ _ _ _ h e=>h.step hC e,fun _ _ _ h=>inn_loc hX hC h,fun _ _ _ h=>by obtain⟨ρ,h1,_⟩:=h;exact h1.wf,fun _ _ _ h e=>mach_bad hX hC h e⟩
theorem tree_of_wp(hX:X far=false)(hC:Closed P X A K){fn:FuncId}{c:Code}{Q:Exit->Act->World->Prop}{tmps:Array Value}{w:World}(hI:Inn P X A K ⟨fn,tmps,[.code c],false⟩ [] w)
  (hQ:∀e a w,Q e a w->e= .normal\/e= .ret)(hre:∀e a w τ d,Q e a w->Q e a (w.re τ d))(hwp:∀τ d,c.wp P Q ⟨tmps,[]⟩ (w.re τ d)):Tr P (Left fn Q) ⟨fn,tmps,[.code c],false⟩ [] w:=
 tree_gen (inn_good hX hC) hI hQ hre hwp
end Go.Frag
