import Derived.Test.YtmfpiodlecapiaaJ39
namespace Go.Frag
open Go.Conc Go.Ren
variable {P:Program}
theorem road2{I:Fr->List Fr->World->Prop}(G:GoodI P I){Stop:Fr->List Fr->World->Prop}{T:Machine}(hT:∃fr w1,T=lone fr [c0 P] w1/\fr.mode= .run)(hS:∀f fs w,mach P f fs w=T->Stop f fs w):
  ∀(n:Nat) (f:Fr) (fs:List Fr) (w:World),I f fs w->runN P n (mach P f fs w)= .next T->∃m,Reach P Stop m f fs w:=by
 intro n;induction n with
 |zero=>
  intro f fs w _ h;simp only[runN,Stepped.next.injEq]at h;exact⟨0,hS f fs w h⟩
 |succ n ih=>
  intro f fs w hI h;have hwf:Wf fs:=G.wf _ _ _ hI;simp only[runN]at h;cases hs:fstep P f fs w with
  |go f' fs' w' es=>
   rw[mach_go hwf hs]at h;obtain⟨m,hm⟩:=ih f' fs' w' (G.step _ _ _ _ _ _ _ hI hs) h;exact⟨m+1,.inr ⟨f',fs',w',es,hs,hm⟩⟩
  |panic=>
   obtain⟨fr,chain,w',e,hd,hm⟩:=mach_panic hs;rw[e]at h;obtain⟨fr',cs',w2,ch,e2,hm2⟩:=panic_never n fr _ w' chain T hd hm (below_bare fs hwf) h;exfalso;obtain⟨ft,wt,rfl,hmt⟩:=hT;obtain⟨rfl,_,_⟩:=lone_inj e2;rw[hmt]at hm2;cases hm2
  |bad=>
   obtain⟨o,w',e⟩:=G.bad _ _ _ hI hs;rw[e]at h;cases h
  |stop=>
   exfalso;have hfs:fs= []:=by
    unfold fstep at hs;cases hr:f.ret with
    |true=>
     simp only[hr,if_true,fret]at hs;cases fs with
     |nil=>rfl
     |cons c r=>simp only at hs;(repeat' split at hs)<;>cases hs
    |false=>
     simp only[hr,Bool.false_eq_true,if_false,qU]at hs;split at hs
     ·cases fs with
      |nil=>rfl
      |cons c r=>cases hs
     all_goals try (cases hs;done)
     all_goals try (split at hs<;>cases hs;done)
     split at hs
     ·cases hs
     ·split at hs
      ·unfold foper at hs;split at hs<;>cases hs
      ·cases hs
   subst hfs;cases hr:f.ret with
   |false=>
    have htd:f.todo= []:=by
     simp only[fstep,hr,Bool.false_eq_true,if_false,qU]at hs;split at hs
     ·assumption
     all_goals try (cases hs;done)
     all_goals try (split at hs<;>cases hs;done)
     split at hs
     ·cases hs
     ·split at hs
      ·unfold foper at hs;split at hs<;>cases hs
      ·cases hs
    have e:∃x,step P (mach P f [] w)= .ended x w:=by
     refine Exists.imp (fun _=>step_lone_ended) ?_;rw[cur_eq];simp[stepG,stepG.exec,mode_run hr,htd,tail,C0]
    obtain⟨_,e⟩:=e;rw[e]at h;cases h
   |true=>
    have fin:∀v w1,step P (mach P f [] w)= .next (lone ((c0 P).finish v) [] w1)->False:=by
     intro v w1 e;rw[e]at h;cases n with
     |zero=>
      simp only[runN,Stepped.next.injEq]at h;obtain⟨ft,wt,rfl,_⟩:=hT;exact absurd (lone_inj h).2.1 (by simp)
     |succ n=>
      obtain⟨o,w2,e2⟩:=back_ends (P:=P) v w1;simp only[runN,e2]at h;cases h
    have hm:=mode_ret hr;cases hf:P.funcs[f.fn]? with
    |none=>
     refine fin (f.tmps.getD 0 undef) w (step_lone_go ?_);rw[cur_eq];simp[stepG,unwind,doReturn,hm,hf,curDefers,curKind,C0,below]
    |some fn'=>
     cases hres:(results fn' f.tmps).run P w with
     |ok v w1=>
      refine fin v w1 (step_lone_go ?_);rw[cur_eq];simp[stepG,unwind,doReturn,hm,hf,hres,curDefers,curKind,C0,below]
     |halt x w1=>
      have e:∃o,step P (mach P f [] w)= .ended o w1:=by
       cases x with
       |stuck why=>
        refine⟨.stuck why ((cur (C0 P) f []).pos P),step_lone_ended ?_⟩;rw[cur_eq];simp[stepG,unwind,hm,hf,hres,curDefers,C0]
       |_=>
        refine⟨.stuck "return: the result variables cannot be read" ((cur (C0 P) f []).pos P),step_lone_ended ?_⟩;rw[cur_eq];simp[stepG,unwind,hm,hf,hres,curDefers,C0]
      obtain⟨o,e⟩:=e;rw[e]at h;cases h
theorem mach_inj{f g:Fr}{fs:List Fr}{w w':World}(h:mach P f fs w=mach P g [] w'):f=g/\fs= []/\w=w':=by
 obtain⟨h1,h2,h3⟩:=lone_inj h;have hb:below (C0 P) []= [c0 P]:=rfl;rw[hb]at h2;obtain rfl:=below_one h2;refine⟨?_,rfl,h3⟩;rw[cur_eq,cur_eq]at h1;simp only[Frame.mk.injEq,tail,curDefers,curKind,and_true,List.append_cancel_right_eq]at h1;obtain⟨e1,e2,e3,e4⟩:=h1;obtain⟨f1,f2,f3,f4⟩:=f;obtain⟨g1,g2,g3,g4⟩:=g;simp only[Fr.mode]at e1 e2 e3 e4;subst e1 e2 e3;cases f4<;>cases g4<;>first|rfl|(simp at e4)
end Go.Frag
namespace Go.Poi
open Go.Ren Go.Frag Go.Conc
variable {P:Program} {X A:FuncId->Bool} {Sh:Nat->Prop} {Post:(Nat->Prop)->Goroutine->World->Prop}
theorem qR.calls(hC:ClosedT P X A){b:FuncId}{T:Array Value}{k:List Item}{cs:List Frame}{ops:Array Oper}{i:Nat}{rest:List Nat}{o:Oper}{p:World}{g:FuncId}{args:Array Operand}{ats:Array TypeId}(hok:ops.all (okT P X A)=true)(ho:ops[i]? =some o)(hw:Region.wanted o (yielded ops T)=true)(hop:o.op= .call {callee:=.value (.func g),args,argTypes:=ats})
  {fn:Func}{c:Code}(hf:P.funcs[g]? =some fn)(hname:(fn.name== "runtime.NumGoroutine")=false)(hb:fn.body=some c)
  (hcall:∀τ d,Calls P g (args.map (Act.eval ⟨T,[]⟩)) (p.re τ d) fun e w'=>∃v,e= .returned v/\qR P Sh (G ((base b).at (Act.put ⟨T,[]⟩ o.dst v) (.inRegion ops rest::k)) cs) w' Post):
  qR P Sh (G ((base b).at ⟨T,[]⟩ (.inRegion ops (i::rest)::k)) cs) p Post:=by
 intro gs u sl t q hbst;let f:Fr:=⟨b,T,[.inRegion ops (i::rest)],false⟩
 have hI:InnT P X A f [] p:=⟨.one fun x hx=>by rw[List.mem_singleton.1 hx];exact hok,⟨rfl,fun _ _=>rfl,fun _ x=>x.elim,hbst.ps.views,rfl,rfl,rfl,rfl⟩⟩;let Stop:Fr->List Fr->World->Prop:=fun f' fs' w'=>fs'= []/\∃v,f'=f.finish v/\qR P Sh (G ((base b).at (Act.put ⟨T,[]⟩ o.dst v) (.inRegion ops rest::k)) cs) w' Post
 have hS:∀f' fs' w' τ d,Stop f' fs' w'->Stop f' fs' (w'.re τ d):=fun f' fs' w' τ d ⟨h1,v,h2,h3⟩=>⟨h1,v,h2,h3.re τ d⟩;have GI:=innT_good hC;have ht:Tr P Stop f [] p:=by
  refine bar (I:=InnT P X A) GI.re GI.step GI.loc hS hI (fun τ d=>?_);obtain⟨e,w',fr,⟨v,rfl,hB⟩,hst,hfn,hlv⟩:=hcall τ d (below (C0 P) [f]);have hbase:f.base (C0 P)=(base b).at ⟨T,[]⟩ (.inRegion ops (i::rest)::(C0 P).k):=by
   simp[f,Fr.base,Fr.mode,Frame.at,base,C0]
  have hm1:Go.step P (mach P f [] (p.re τ d))= .next (lone (Frame.enter P g (args.map (Act.eval ⟨T,[]⟩)) .normal) (below (C0 P) [f]) (p.re τ d)):=by
   refine step_lone_go ?_;show(stepG P true (G (f.base (C0 P)) [c0 P]) (p.re τ d)).bare=_;rw[hbase];have:=goes_call (P:=P) (main:=true) (w:=p.re τ d) (K:=fun g' w' es=>g'=G ((base g).at {tmps:=args.map (Act.eval ⟨T,[]⟩)++Array.replicate (fn.ntmps-(args.map (Act.eval ⟨T,[]⟩)).size) undef,defers:= []} [.code c]) ((base b).at ⟨T,[]⟩ (.inRegion ops (i::rest)::(C0 P).k):: [c0 P])/\w'=p.re τ d/\es=#[]) (k:=(C0 P).k) (cs:= [c0 P]) (b:=base b) (a:=⟨T,[]⟩) ho hw (show CallKind.normal≠CallKind.early by decide) hop hf hname hb ⟨rfl,rfl,rfl⟩;revert this;cases stepG P true (G ((base b).at ⟨T,[]⟩ (.inRegion ops (i::rest)::(C0 P).k)) [c0 P]) (p.re τ d)with
   |go g' w' es=>
    rintro⟨rfl,rfl,rfl⟩;rw[show below (C0 P) [f]=(base b).at ⟨T,[]⟩ (.inRegion ops (i::rest)::(C0 P).k):: [c0 P]from by rw[<-hbase];rfl];simp[GStep.bare,G,Frame.enter,hf,hb,base,Frame.at]
   |_=>exact fun h=>h.elim
  obtain⟨n,hn⟩:=(show Steps P _ _ from hst);have hfin:(f.base (C0 P)).finish v=(f.finish v).base (C0 P):=by
   cases hd:o.dst<;>simp[f,Fr.base,Fr.mode,Fr.finish,Frame.finish,ho,hd,C0]
  have hlast:Go.step P (lone fr (below (C0 P) [f]) w')= .next (mach P (f.finish v) [] w'):=by
   have h1:=step_leave_returned (P:=P) (c:=f.base (C0 P)) (cs:= [c0 P]) hlv;rw[hfin]at h1;exact h1
  refine road2 GI (Stop:=Stop) (T:=mach P (f.finish v) [] w') ⟨_,_,rfl,?_⟩ (fun f' fs' w1 h=>?_) (n+1+1) f [] (p.re τ d) (GI.re _ _ _ τ d hI) ?_
  ·cases hd:o.dst<;>simp[f,cur,Fr.base,Fr.mode,Fr.finish,ho,hd]
  ·obtain⟨rfl,rfl,rfl⟩:=mach_inj h;exact⟨rfl,v,rfl,hB⟩
  ·have h2:runN P (n+1) (lone (Frame.enter P g (args.map (Act.eval ⟨T,[]⟩)) .normal) (below (C0 P) [f]) (p.re τ d))= .next (mach P (f.finish v) [] w'):=by
    rw[runN_add,hn];simp only[runN,hlast]
   have h3:runN P (n+1+1) (mach P f [] (p.re τ d))=(match Go.step P (mach P f [] (p.re τ d))with| .next m=>runN P (n+1) m|e=>e):=rfl;rw[h3,hm1];exact h2
 have hB:=qR.tree hC (C:=⟨k,[],.normal,cs⟩) (by simp) hS ht hI.1 (Sh:=Sh);have e0:conc ⟨k,[],.normal,cs⟩ f []=G ((base b).at ⟨T,[]⟩ (.inRegion ops (i::rest)::k)) cs:=by
  simp[f,conc,Fr.base,Fr.mode,Frame.at,base]
 rw[e0]at hB;refine(hB.then ?_) gs u sl t q hbst;rintro Sh' g' p' ⟨rfl,f',fs',rfl,rfl,v,rfl,h⟩;have e1:conc ⟨k,[],.normal,cs⟩ (f.finish v) []=G ((base b).at (Act.put ⟨T,[]⟩ o.dst v) (.inRegion ops rest::k)) cs:=by
  cases hd:o.dst<;>simp[f,conc,Fr.base,Fr.mode,Frame.at,base,Fr.finish,ho,Act.put,hd]
 rw[e1];exact h
theorem qR.callsA(hC:ClosedT P X A){b:FuncId}{T:Array Value}{k:List Item}{cs:List Frame}{ops:Array Oper}{i:Nat}{rest:List Nat}{o:Oper}{p:World}{g:FuncId}{args:Array Operand}{ats:Array TypeId}(hok:ops.all (okT P X A)=true)(ho:ops[i]? =some o)(hw:Region.wanted o (yielded ops T)=true)(hop:o.op= .call {callee:=.value (.func g),args,argTypes:=ats})
  {fn:Func}{c:Code}(hf:P.funcs[g]? =some fn)(hname:(fn.name== "runtime.NumGoroutine")=false)(hb:fn.body=some c){xs:Array Value}(hx:args.map (Act.eval ⟨T,[]⟩)=xs)
  (hcall:∀τ d,Calls P g xs (p.re τ d) fun e w'=>∃v,e= .returned v/\qR P Sh (G ((base b).at (Act.put ⟨T,[]⟩ o.dst v) (.inRegion ops rest::k)) cs) w' Post):
  qR P Sh (G ((base b).at ⟨T,[]⟩ (.inRegion ops (i::rest)::k)) cs) p Post:=
 qR.calls hC hok ho hw hop hf hname hb (by rw[hx];exact hcall)
end Go.Poi
namespace Go.Poi
open Go.Ren Go.Frag Go.Conc
theorem mix_val{dst:Nat->Nat}{v v':Nat->Value}{T0:Array Value}{l:Nat->Bool}:∀m,(∀i,i<m->l i=true->v i=v' i)->mixT dst v T0 l m=mixT dst v' T0 l m
 |0,_=>rfl
 |m+1,h=>by
  have ih:=mix_val (dst:=dst) (T0:=T0) m (fun i hi hl=>h i (by omega) hl);simp only[mixT,ih];cases hl:l m with
  |false=>rfl
  |true=>rw[h m (by omega) hl]
theorem cnt_zero{l:Nat->Bool}:∀m,cnt l m=0->∀i,i<m->l i=true
 |0,_,i,h=>by omega
 |m+1,hc,i,h=>by
  simp only[cnt]at hc;by_cases e:i=m
  ·subst e;cases hl:l i with
   |true=>rfl
   |false=>rw[hl]at hc;simp at hc
  ·exact cnt_zero m (by omega) i (by omega)
variable {P:Program} {Sh:Nat->Prop} {Post:(Nat->Prop)->Goroutine->World->Prop} {b:FuncId} {k:List Item} {cs:List Frame} {p:World} {ops:Array Oper}
def DrSt{X:Type}(ops:Array Oper)(M c m:Nat)(dst:Nat->Nat)(val:X->Nat->Value)(T0:Array Value)(Wd:Bool->Bool->X->World->Prop)(Sh:Nat->Prop)(n:Nat)(l:Array Bool)(a:Act)(S:Nat->Prop)(w:World):Prop:=
 ∃x,a=⟨mixT dst (val x) T0 (fun i=>l.getD i false) M,[]⟩/\S=Sh/\l.size=M/\n=cnt (fun i=>l.getD i false) M/\Wd (l.getD c false) (l.getD m false) x w/\∀i,i<M->l.getD i false=true->∀j∈depsOf ops i,l.getD j false=true
theorem qR.drawn{X:Type}{id M c m:Nat}{dst:Nat->Nat}{val:X->Nat->Value}{T0:Array Value}{Wd:Bool->Bool->X->World->Prop}(hmx:P.follows .mixedOrders=true)(hM:ops.size=M)(hcM:c<M)(hmM:m<M)
  (hdst:∀i j,i<M->j<M->dst i=dst j->i=j)(hin:∀i,i<M->dst i<T0.size)(hback:∀i,i<M->∀j∈depsOf ops i,j<i)(x0:X)(h0:Wd false false x0 p)
  (hstep:∀i,i<M->∀(l:Nat->Bool) (x:X) (w:World),l i=false->(∀i,i<M->l i=true->∀j∈depsOf ops i,l j=true)->(∀j∈depsOf ops i,l j=true)->Wd (l c) (l m) x w->∀T:Array Value,T.size=T0.size->(∀j∈depsOf ops i,T[dst j]? =some (val x j))->(∀k,(∀j,j<M->dst j≠k)->T[k]? =T0[k]?)->
   ∀rest,(∀x' w',(∀j,j<M->l j=true->val x' j=val x j)->Wd (l c||i==c) (l m||i==m) x' w'->qR P Sh (G ((base b).at ⟨T.setIfInBounds (dst i) (val x' i),[]⟩ (.inRegion ops rest::k)) cs) w' Post)->qR P Sh (G ((base b).at ⟨T,[]⟩ (.inRegion ops (i::rest)::k)) cs) w Post)
  (hend:∀x w,Wd true true x w->qR P Sh (G ((base b).at ⟨mixT dst (val x) T0 (fun _=>true) M,[]⟩ k) cs) w Post):
  qR P Sh (G ((base b).at ⟨T0,[]⟩ (.code (.region id ops true)::k)) cs) p Post:=by
 have hst:DrSt ops M c m dst val T0 Wd Sh ops.size (Array.replicate ops.size false) ⟨T0,[]⟩ Sh p:=by
  have hl:∀i,(Array.replicate ops.size false).getD i false=false:=fun i=>by
   rw[Array.getD_eq_getD_getElem?];by_cases h:i<ops.size<;>simp[h]
  have hf:(fun i=>(Array.replicate ops.size false).getD i false)=fun _=>false:=funext hl;have hc:∀n,cnt (fun _=>false) n=n:=fun n=>by
   induction n with
   |zero=>rfl
   |succ n ih=>simp[cnt,ih]
  have ht:∀n,mixT dst (val x0) T0 (fun _=>false) n=T0:=fun n=>by
   induction n with
   |zero=>rfl
   |succ n ih=>simp[mixT,ih]
  refine⟨x0,by rw[hf,ht],rfl,by simp[hM],by rw[hf,hc,hM],?_,fun i _ h=>by rw[hl]at h;cases h⟩;rw[hl,hl];exact h0
 refine qR.draw hmx hst ?_;rintro n l a S w ⟨x,rfl,rfl,h1,h2,h3,h4⟩;have gt:∀i,i<M->l.getD i true=l.getD i false:=fun i hi=>by
  rw[Array.getD_eq_getD_getElem?,Array.getD_eq_getD_getElem?,Array.getElem?_eq_getElem (by omega)];rfl
 refine⟨fun h=>?_,fun n' hn i hi rest hr=>?_⟩
 ·have hall:∀i,i<M->l.getD i false=true:=by
   rcases h with h|h
   ·exact cnt_zero M (by omega)
   ·intro i hi;cases hb:l.getD i false with
    |true=>rfl
    |false=>
     obtain⟨i',⟨k1,k2⟩,k3'⟩:=least_of (p:=fun i=>i<M/\l.getD i false=false) ⟨i,hi,hb⟩;have:i'∈Region.ready .any ops l:=ready_mem.2 ⟨by omega,by rw[gt i' k1];exact k2,fun j hj=>by
      have hji:=hback i' k1 j hj;cases hbj:l.getD j false with
      |true=>rfl
      |false=>exact absurd ⟨by omega,hbj⟩ (k3' j hji)⟩
     rw[h]at this;cases this
  rw[hall c hcM,hall m hmM]at h3;have e:mixT dst (val x) T0 (fun i=>l.getD i false) M=mixT dst (val x) T0 (fun _=>true) M:=mix_congr M (fun i hi=>hall i hi);rw[e];exact qR.regEnd (hend x w h3)
 ·obtain⟨r1,r2,r3⟩:=ready_mem.1 hi;rw[hM]at r1;rw[gt i r1]at r2;refine hstep i r1 (fun j=>l.getD j false) x w r2 h4 r3 h3 _ (mix_size _ M) (fun j hj=>?_) (fun k' hk'=>mix_other _ M (fun j hj _=>hk' j hj)) rest (fun x' w' hv hw'=>?_)
  ·have hji:=hback i r1 j hj;exact mix_at _ M hdst (by omega) (r3 j hj) (hin j (by omega))
  ·rw[mix_val M (fun j hj hl=>(hv j hj hl).symm),mix_set (l':=fun j=>(l.setIfInBounds i true).getD j false) hdst r1 (getD_set_self (by omega)) (fun j hj=>getD_set_ne hj) hin];refine hr _ _ _ ⟨x',rfl,rfl,by simpa using h1,?_,?_,fun i' hi' hl' j hj=>?_⟩
   ·have:=cnt_set (l:=fun j=>l.getD j false) (l':=fun j=>(l.setIfInBounds i true).getD j false) r2 (getD_set_self (by omega)) (fun j hj=>getD_set_ne hj) M r1;omega
   ·have key:∀j,j<M->(l.setIfInBounds i true).getD j false=(l.getD j false||i==j):=fun j hj=>by
     by_cases e:j=i
     ·subst e;rw[getD_set_self (by omega)];simp
     ·rw[getD_set_ne e];have:(i==j)=false:=by simpa using Ne.symm e
      rw[this,Bool.or_false]
    rw[key c hcM,key m hmM];exact hw'
   ·by_cases e:i'=i
    ·subst e;have:=hback i' r1 j hj;rw[getD_set_ne (by omega)];exact r3 j hj
    ·rw[getD_set_ne e]at hl';have:=h4 i' hi' hl' j hj;by_cases ej:j=i
     ·subst ej;exact getD_set_self (by omega)
     ·rw[getD_set_ne ej];exact this
end Go.Poi
namespace Go.Proofs.Ytmfpiodlecapiaa
open Go.Conc Go.ConcN Go.RowKit Go.Frag Go.Ren Go.Poi Go.Deep Go.Grp
attribute [local go_sem↓] Go.wp_at_zero Go.wp_at_succ
theorem Try.infoPlan:(Try.prog.info? 30).map (fun i=>(i.zero,i.size,i.bytes))=some (some (.agg #[.int .i64 0,.int .i64 0,.int .i64 0]),3,24):=by kernel_rfl
theorem Try.infoList:(Try.prog.info? 33).map (fun i=>(i.zero,i.size,i.bytes))=some (some (.slice none 0 0),1,24):=by kernel_rfl
theorem info_parts3{P:Program}{t:TypeId}{z:Value}{n b:Nat}(h:(P.info? t).map (fun i=>(i.zero,i.size,i.bytes))=some (some z,n,b)):∃i,P.info? t=some i/\i.zero=some z/\i.size=n/\i.bytes=b:=by
 cases hi:P.info? t with
 |none=>rw[hi]at h;cases h
 |some i=>
  rw[hi]at h;simp only[Option.map_some,Option.some.injEq,Prod.mk.injEq]at h;exact⟨i,rfl,h.1,h.2.1,h.2.2⟩
theorem wrap_wf(y:Int):(Lit.int .i64 (IntKind.wrap .i64 y)).wf=true:=by
 simp[Lit.wf,IntKind.wrap,IntKind.min,IntKind.max,IntKind.signed,IntKind.bits]<;>(try split)<;>omega
structure L1(p0 q:World)(k:Nat)(S:Nat->Oj)(vA vP:Value)(gl cp:Nat->Nat):Prop where
 grw:Grw p0 q
 all:q.ownsRow p0.heap.size 33 1 vA k ((List.range k).map fun i=>Value.slice (some ⟨gl i,0,none⟩) (S i).T (cp i))
 pls:q.ownsRow p0.heap.size 30 3 vP k ((List.range k).flatMap fun i=> [.int .i64 ((S i).sz:Nat),.int .i64 ((S i).ms:Nat),.int .i64 ((S i).V:Nat)])
 pk:∀i,i<k->∃cur,PacketsAt q (gl i) (S i).T (10+(S i).sz) cur (Pk.packets i (S i).obj (S i).sz (S i).ms (S i).V)
theorem own_of{w w':World}{base n size:Nat}{e:TypeId}{v:Value}{xs:List Value}(h:w.ownsRow base e size v n xs)(hk:∀g,v.ownBlock=some g->w'.heap[g]? =w.heap[g]?):w'.ownsRow base e size v n xs:=by
 obtain⟨h1,h2⟩:=h;refine⟨h1,?_⟩;rcases h2 with h2|⟨g,cap,cur,rfl,h3,h4,h5⟩
 ·exact .inl h2
 ·exact .inr ⟨g,cap,cur,rfl,h3,by rw[hk g rfl];exact h4,h5⟩
theorem own_row{w:World}{base n size:Nat}{e:TypeId}{v:Value}{xs:List Value}(h:w.ownsRow base e size v n xs){g:Nat}(hg:v.ownBlock=some g):base<=g/\∃L,qS w g e L:=by
 rcases h.2 with⟨rfl,_⟩|⟨g',cap,cur,rfl,h3,h4,_⟩
 ·simp[Value.ownBlock]at hg
 ·simp only[Value.ownBlock,Option.some.injEq]at hg;subst hg;exact⟨h3,cur.toList,by unfold qS;simpa using h4⟩
theorem own_grw{w w':World}{base n size:Nat}{e:TypeId}{v:Value}{xs:List Value}(h:w.ownsRow base e size v n xs)(hw:Grw w w'):w'.ownsRow base e size v n xs:=
 own_of h fun _ hg=>by obtain⟨_,L,hr⟩:=own_row h hg;exact hw.row _ hr.lt
theorem own_grb{w w':World}{base n size n' size':Nat}{e e':TypeId}{v v':Value}{xs xs':List Value}(h:w.ownsRow base e size v n xs)(h':w.ownsRow base e' size' v' n' xs')(hne:e≠e')(hw:Grb v'.ownBlock w w'):w'.ownsRow base e size v n xs:=
 own_of h fun g hg=>by
  obtain⟨_,L,hr⟩:=own_row h hg;refine hw.block _ hr.lt (fun e2=>?_);obtain⟨_,L',hr'⟩:=own_row h' e2.symm;exact hne (hr.unique hr').1
theorem row_grb{w w':World}{base n size:Nat}{e t:TypeId}{v:Value}{xs L:List Value}{b:Nat}(h:w.ownsRow base e size v n xs)(hr:qS w b t L)(hne:t≠e)(hw:Grb v.ownBlock w w'):qS w' b t L:=
 hr.of_block (hw.block _ hr.lt (fun e2=>by obtain⟨_,L',hr'⟩:=own_row h e2.symm;exact hne (hr.unique hr').1))
theorem PacketsAt.keep{w w':World}{gl T c:Nat}{cur:List Value}{ps:List (List Nat)}(h:PacketsAt w gl T c cur ps)(hk:∀b e L,qS w b e L->e=36\/e=5->qS w' b e L):PacketsAt w' gl T c cur ps:=
 ⟨hk _ _ _ h.row (.inl rfl),h.len,fun q bs hq=>by obtain⟨g,h1,h2⟩:=h.at_ q bs hq;exact⟨g,h1,hk _ _ _ h2 (.inr rfl)⟩⟩
def updN(f:Nat->Nat)(k v:Nat):Nat->Nat:=fun i=>if i=k then v else f i
theorem L1.next{p0 q w w2 w3 w4 w5:World}{k g cg:Nat}{S:Nat->Oj}{vA vP vA' vP':Value}{gl cp:Nat->Nat}(h:L1 p0 q k S vA vP gl cp)(hw:Grw q w)(hP:∃cur,PacketsAt w g (S k).T (10+(S k).sz) cur (Pk.packets k (S k).obj (S k).sz (S k).ms (S k).V))(hw2:Grw w w2)
  (h3:w3.ownsRow p0.heap.size 33 1 vA' (k+1) (((List.range k).map fun i=>Value.slice (some ⟨gl i,0,none⟩) (S i).T (cp i))++ [.slice (some ⟨g,0,none⟩) (S k).T cg]))(hb3:Grb vA.ownBlock w2 w3)(hw4:Grw w3 w4)
  (h5:w5.ownsRow p0.heap.size 30 3 vP' (k+1) (((List.range k).flatMap fun i=> [.int .i64 ((S i).sz:Int),.int .i64 ((S i).ms:Int),.int .i64 ((S i).V:Int)])++ [.int .i64 ((S k).sz:Int),.int .i64 ((S k).ms:Int),.int .i64 ((S k).V:Int)]))(hb5:Grb vP.ownBlock w4 w5):
  L1 p0 w5 (k+1) S vA' vP' (updN gl k g) (updN cp k cg):=by
 have a2:=own_grw (own_grw h.all hw) hw2;have p2:=own_grw (own_grw h.pls hw) hw2;have p3:=own_grb p2 a2 (by decide) hb3;have p4:=own_grw p3 hw4;have a4:=own_grw h3 hw4;have a5:=own_grb a4 p4 (by decide) hb5;have keep:∀b e L,qS w b e L->e=36\/e=5->qS w5 b e L:=fun b e L hr he=>by
  have r2:=hr.of_block (hw2.row _ hr.lt);have r3:=row_grb a2 r2 (by rcases he with rfl|rfl<;>decide) hb3;have r4:=r3.of_block (hw4.row _ r3.lt);exact row_grb p4 r4 (by rcases he with rfl|rfl<;>decide) hb5
 have eu:∀(f:Nat->Nat) v i,i<k->updN f k v i=f i:=fun f v i hi=>by simp[updN,Nat.ne_of_lt hi]
 have ek:∀(f:Nat->Nat) v,updN f k v k=v:=fun f v=>by simp[updN]
 refine⟨⟨?_,fun b hb=>?_,?_,?_⟩,?_,?_,fun i hi=>?_⟩
 ·have:=h.grw.size;have:=hw.size;have:=hw2.size;have:=hb3.size;have:=hw4.size;have:=hb5.size
  omega
 ·have s1:=h.grw.size;have s2:=hw.size;have s3:=hw2.size;have s4:=hb3.size;have s5:=hw4.size
  rw[hb5.block b (by omega) (fun e=>?_),hw4.row b (by omega),hb3.block b (by omega) (fun e=>?_),hw2.row b (by omega),hw.row b (by omega),h.grw.row b hb]
  ·have:=(own_row a2 e.symm).1;omega
  ·have:=(own_row p4 e.symm).1;omega
 ·rw[hb5.os,hw4.os,hb3.os,hw2.os,hw.os,h.grw.os]
 ·rw[hb5.output,hw4.output,hb3.output,hw2.output,hw.output,h.grw.output]
 ·rw[List.range_succ,List.map_append];have e1:(List.range k).map (fun i=>Value.slice (some ⟨updN gl k g i,0,none⟩) (S i).T (updN cp k cg i))=(List.range k).map (fun i=>Value.slice (some ⟨gl i,0,none⟩) (S i).T (cp i)):=List.map_congr_left fun i hi=>by
   have:=List.mem_range.1 hi;rw[eu _ _ _ this,eu _ _ _ this]
  rw[e1];simp only[List.map_cons,List.map_nil,ek];exact a5
 ·rw[List.range_succ,List.flatMap_append];simpa using h5
 ·by_cases e:i=k
  ·subst e;rw[ek];obtain⟨cur,hp⟩:=hP;exact⟨cur,hp.keep keep⟩
  ·obtain⟨cur,hp⟩:=h.pk i (by omega);rw[eu _ _ _ (by omega)];exact⟨cur,(hp.keep (fun b e L hr _=>hr.of_block (hw.row _ hr.lt))).keep keep⟩
def d11:Nat->Nat
 |0=>60|1=>61|2=>62|3=>63|4=>64|5=>65|6=>66|7=>67|8=>59|9=>68|10=>69|11=>17|_=>18
def v11(gs os no co k len sz ms V T:Nat)(s:ByteArray)(x:Nat×Nat×Nat×Nat):Nat->Value
 |0=>.int .i64 (k:Int)
 |1=>.slice (some ⟨gs,os,none⟩) no co
 |2=>.int .i64 (k:Int)
 |3=>.pointer (some ⟨gs,os+k,none⟩)
 |4=>.string s
 |5=>.slice (some ⟨x.1,0,none⟩) len x.2.1
 |6=>.agg #[.int .i64 (sz:Int),.int .i64 (ms:Int),.int .i64 (V:Int)]
 |7=>.tuple #[.slice (some ⟨x.2.2.1,0,none⟩) T x.2.2.2,.int .i64 0]
 |8=>.tuple #[.slice (some ⟨x.2.2.1,0,none⟩) T x.2.2.2,.int .i64 0]
 |9=>.slice (some ⟨x.2.2.1,0,none⟩) T x.2.2.2
 |10=>.int .i64 0
 |11=>.slice (some ⟨x.2.2.1,0,none⟩) T x.2.2.2
 |_=>.int .i64 0
theorem get_of{T:Array Value}{i:Nat}{v:Value}(h:T[i]? =some v)(hi:i<T.size):T[i]'hi=v:=(Array.getElem?_eq_some_iff.1 h).2
theorem tmp_of{T:Array Value}{i:Nat}{v:Value}(h:T[i]? =some v):Act.eval ⟨T,[]⟩ (.tmp i)=v:=by
 simp[Act.eval,Array.getD_eq_getD_getElem?,h]
set_option maxRecDepth 100000 in
set_option maxHeartbeats 8000000 in
theorem mix_r11{Sh:Nat->Prop}{Post:(Nat->Prop)->Goroutine->World->Prop}{q1:World}{ks:List Item}{cs:List Frame}{gs os no co pv k:Nat}{s:Oj}{st:ByteArray}{T0:Array Value}(hT:T0.size=226)(t0:T0[0]? =some (.slice (some ⟨gs,os,none⟩) no co))(D0:T0[15]? =some (.int .i64 (k:Int)))(a3:T0[16]? =some (.pointer (some ⟨pv,0,none⟩)))(hk:k<no)(hk8:k<8)(ok:s.Ok)(hmany:manyN s.len s.sz s.ms=false)(hsz:st.size<=maxLen)(e4:s.len=min st.size 200)(e5:(bytesOf st).take s.len=s.obj)
  (hcell:q1.cell? ⟨gs,os+k,none⟩=some (.string st))(hrow:qS q1 pv 30 [.int .i64 (s.sz:Int),.int .i64 (s.ms:Int),.int .i64 (s.V:Int)]){ops:Array Oper}(hops:ops=qV (pth [1,1,1,1,1,1,0,1,0,0,1,0,0,1,0] (Try.f9.body.getD .skip)))
  (hend:∀x w,Grw q1 w->(∃cur,PacketsAt w x.2.2.1 s.T (10+s.sz) cur (Pk.packets k s.obj s.sz s.ms s.V))->qR Try.prog Sh (G ((base 9).at ⟨mixT d11 (v11 gs os no co k s.len s.sz s.ms s.V s.T st x) T0 (fun _=>true) 13,[]⟩ ks) cs) w Post):
  qR Try.prog Sh (G ((base 9).at ⟨T0,[]⟩ (.code (.region 11 ops true)::ks)) cs) q1 Post:=by
 subst hops;have hd:∀i:Fin 13,∀j:Fin 13,d11 i=d11 j->i=j:=by decide
 have hb:(List.range 13).all (fun i=>(depsOf (qV (pth [1,1,1,1,1,1,0,1,0,0,1,0,0,1,0] (Try.f9.body.getD .skip))) i).all fun j=>decide (j<i))=true:=by kernel_rfl
 have hl:∀i:Fin 13,d11 i<226:=by decide
 refine qR.drawn (c:=5) (m:=7) (M:=13) (dst:=d11) (val:=v11 gs os no co k s.len s.sz s.ms s.V s.T st) (Wd:=fun cd md x w=>Grw q1 w/\(cd=true->ObjAt w (some ⟨x.1,0,none⟩) s.len s.obj)/\(md=true->∃cur,PacketsAt w x.2.2.1 s.T (10+s.sz) cur (Pk.packets k s.obj s.sz s.ms s.V))) (by kernel_rfl) (by kernel_rfl) (by decide) (by decide) (fun i j hi hj h=>by have:=hd ⟨i,hi⟩ ⟨j,hj⟩ h;exact congrArg Fin.val this) (fun i hi=>by rw[hT];exact hl ⟨i,hi⟩) (fun i hi j hj=>?_) (0,0,0,0) ⟨Grw.refl _,(fun h=>by cases h),(fun h=>by cases h)⟩ (fun i hi l x w hli hcl hdep hW T hTs hT1 hT2 rest hr=>?_) (fun x w hW=>hend x w hW.1 (hW.2.2 rfl))
 ·have h1:=List.all_eq_true.1 hb i (List.mem_range.2 hi);have h2:=List.all_eq_true.1 h1 j hj;simpa using h2
 ·obtain⟨hg,hO,hP⟩:=hW;have i13:i=0\/i=1\/i=2\/i=3\/i=4\/i=5\/i=6\/i=7\/i=8\/i=9\/i=10\/i=11\/i=12:=by omega
  have f0:T[0]? =some (.slice (some ⟨gs,os,none⟩) no co):=(hT2 0 (fun j hj=>by have:=(by decide:∀j:Fin 13,d11 j≠0);exact this ⟨j,hj⟩)).trans t0;have f15:T[15]? =some (.int .i64 (k:Int)):=(hT2 15 (fun j hj=>by have:=(by decide:∀j:Fin 13,d11 j≠15);exact this ⟨j,hj⟩)).trans D0;have f16:T[16]? =some (.pointer (some ⟨pv,0,none⟩)):=(hT2 16 (fun j hj=>by have:=(by decide:∀j:Fin 13,d11 j≠16);exact this ⟨j,hj⟩)).trans a3;have c1:∀τ d,(w.re τ d).cell? ⟨gs,os+k,none⟩=some (.string st):=fun τ d=>hg.cell hcell;have hrw:qS w pv 30 [.int .i64 (s.sz:Int),.int .i64 (s.ms:Int),.int .i64 (s.V:Int)]:=hrow.of_block (hg.row _ hrow.lt);have q1:(k:Int)<(no:Int):=by omega
  have q3:(0:Int)<=(k:Int):=by omega
  clear hT2;rcases i13 with rfl|rfl|rfl|rfl|rfl|rfl|rfl|rfl|rfl|rfl|rfl|rfl|rfl
  ·refine qR.o qJ (by kernel_rfl) rfl rfl (fun τ d K hK=>?_);simp only[Try.f9,Option.getD_some,pth,qV]at hr⊢;clear hT1 hdep hb hcl;have e15:=get_of f15 (by omega:15<T.size);go_simp;refine hK _ _ (qR.re ?_ τ d);exact hr x w (fun _ _ _=>rfl) ⟨hg,fun h=>hO (by simpa using h),fun h=>hP (by simpa using h)⟩
  ·refine qR.o qJ (by kernel_rfl) rfl rfl (fun τ d K hK=>?_);simp only[Try.f9,Option.getD_some,pth,qV]at hr⊢;clear hT1 hdep hb hcl;have e0:=get_of f0 (by omega:0<T.size);go_simp;refine hK _ _ (qR.re ?_ τ d);exact hr x w (fun _ _ _=>rfl) ⟨hg,fun h=>hO (by simpa using h),fun h=>hP (by simpa using h)⟩
  ·refine qR.o qJ (by kernel_rfl) rfl rfl (fun τ d K hK=>?_);simp only[Try.f9,Option.getD_some,pth,qV]at hr⊢;clear hT1 hdep hb hcl;have e15:=get_of f15 (by omega:15<T.size);go_simp;refine hK _ _ (qR.re ?_ τ d);exact hr x w (fun _ _ _=>rfl) ⟨hg,fun h=>hO (by simpa using h),fun h=>hP (by simpa using h)⟩
  ·refine qR.o qJ (by kernel_rfl) rfl rfl (fun τ d K hK=>?_);have g1:=hT1 1 (of_decide_eq_true (by kernel_rfl));simp only[d11,v11]at g1;have g2:=hT1 2 (of_decide_eq_true (by kernel_rfl));simp only[d11,v11]at g2;simp only[Try.f9,Option.getD_some,pth,qV]at hr⊢;clear hT1 hdep hb hcl;have e61:=get_of g1 (by omega:61<T.size);have e62:=get_of g2 (by omega:62<T.size);go_simp;refine hK _ _ (qR.re ?_ τ d);exact hr x w (fun _ _ _=>rfl) ⟨hg,fun h=>hO (by simpa using h),fun h=>hP (by simpa using h)⟩
  ·refine qR.o qJ (by kernel_rfl) rfl rfl (fun τ d K hK=>?_);have g3:=hT1 3 (of_decide_eq_true (by kernel_rfl));simp only[d11,v11]at g3;have c2:=c1 τ d;simp only[Try.f9,Option.getD_some,pth,qV]at hr⊢;clear hT1 hdep hb hcl;have e63:=get_of g3 (by omega:63<T.size);go_simp;refine hK _ _ (qR.re ?_ τ d);exact hr x w (fun _ _ _=>rfl) ⟨hg,fun h=>hO (by simpa using h),fun h=>hP (by simpa using h)⟩
  ·have g4:=hT1 4 (of_decide_eq_true (by kernel_rfl));simp only[d11,v11]at g4;refine qR.calls qJ (by kernel_rfl) rfl rfl rfl Try.func21 rfl rfl (fun τ d=>?_);have ea:(#[Operand.tmp 64,Operand.const (.int .i64 200)]).map (Act.eval ⟨T,[]⟩)=#[.string st,.int .i64 200]:=by
    simp only[List.map_toArray,List.map_cons,List.map_nil,tmp_of g4];rfl
   refine(show Calls Try.prog 21 ((#[Operand.tmp 64,Operand.const (.int .i64 200)]).map (Act.eval ⟨T,[]⟩)) (w.re τ d) _ from ?_);rw[ea];have hsh:=short_walk st 200 s.len (by omega) hsz e4 (w.re τ d);rw[e5]at hsh;refine hsh.mono ?_;rintro e w' ⟨cap,rfl,_,_,hob,hbw⟩;refine⟨_,rfl,?_⟩;refine hr (w.heap.size,cap,x.2.2) w' (fun j hj hlj=>?_) ⟨hg.trans (Grw.below hbw),fun _=>hob,fun h=>?_⟩
   ·have hj5:j≠5:=fun e=>by subst e;rw[hli]at hlj;cases hlj
    have:j=0\/j=1\/j=2\/j=3\/j=4\/j=6\/j=7\/j=8\/j=9\/j=10\/j=11\/j=12:=by omega
    rcases this with rfl|rfl|rfl|rfl|rfl|rfl|rfl|rfl|rfl|rfl|rfl|rfl<;>rfl
   ·obtain⟨cur,h⟩:=hP (by simpa using h);exact⟨cur,PacketsAt.later (w:=w.re τ d) ⟨h.row,h.len,h.at_⟩ hbw⟩
  ·refine qR.o qJ (by kernel_rfl) rfl rfl (fun τ d K hK=>?_);have d0:=(show qS (w.re τ d) pv _ _ from hrw).cell 0 _ rfl;have d1:=(show qS (w.re τ d) pv _ _ from hrw).cell 1 _ rfl;have d2:=(show qS (w.re τ d) pv _ _ from hrw).cell 2 _ rfl;simp only[Try.f9,Option.getD_some,pth,qV]at hr⊢;clear hT1 hdep hb hcl;have e16:=get_of f16 (by omega:16<T.size);go_simp;refine hK _ _ (qR.re ?_ τ d);exact hr x w (fun _ _ _=>rfl) ⟨hg,fun h=>hO (by simpa using h),fun h=>hP (by simpa using h)⟩
  ·have g0:=hT1 0 (of_decide_eq_true (by kernel_rfl));have g5:=hT1 5 (of_decide_eq_true (by kernel_rfl));have g6:=hT1 6 (of_decide_eq_true (by kernel_rfl));simp only[d11,v11]at g0 g5 g6;have hob:=hO (hdep 5 (of_decide_eq_true (by kernel_rfl)));refine qR.calls qJ (by kernel_rfl) rfl rfl rfl Try.func22 rfl rfl (fun τ d=>?_);have ea:(#[Operand.tmp 60,Operand.tmp 65,Operand.tmp 66]).map (Act.eval ⟨T,[]⟩)=#[.int .i64 (k:Int),.slice (some ⟨x.1,0,none⟩) s.len x.2.1,.agg #[.int .i64 (s.sz:Int),.int .i64 (s.ms:Int),.int .i64 (s.V:Int)]]:=by
    simp only[List.map_toArray,List.map_cons,List.map_nil,tmp_of g0,tmp_of g5,tmp_of g6]
   refine(show Calls Try.prog 22 ((#[Operand.tmp 60,Operand.tmp 65,Operand.tmp 66]).map (Act.eval ⟨T,[]⟩)) (w.re τ d) _ from ?_);rw[ea];refine(fPackets_open (some ⟨x.1,0,none⟩) s.len x.2.1 k s.sz s.ms s.V s.T s.obj s.L (by omega) ok.len ok.s1 ok.s2 ok.m1 ok.m2 ok.v hmany rfl rfl (w.re τ d) hob).mono ?_;rintro e w' ⟨gl,cap,cur,rfl,hpa,hbw⟩;refine⟨_,rfl,?_⟩;have n8:∀j,8<=j->j<13->l j=true->l 8=true:=fun j h1 h2 h3=>by
    have:j=8\/j=9\/j=10\/j=11\/j=12:=by omega
    rcases this with rfl|rfl|rfl|rfl|rfl
    ·exact h3
    ·exact hcl 9 (by decide) h3 8 (of_decide_eq_true (by kernel_rfl))
    ·exact hcl 10 (by decide) h3 8 (of_decide_eq_true (by kernel_rfl))
    ·exact hcl 9 (by decide) (hcl 11 (by decide) h3 9 (of_decide_eq_true (by kernel_rfl))) 8 (of_decide_eq_true (by kernel_rfl))
    ·exact hcl 10 (by decide) (hcl 12 (by decide) h3 10 (of_decide_eq_true (by kernel_rfl))) 8 (of_decide_eq_true (by kernel_rfl))
   refine hr (x.1,x.2.1,gl,cap) w' (fun j hj hlj=>?_) ⟨hg.trans (Grw.below hbw),fun _=>ObjAt.later (w:=w.re τ d) hob hbw,fun _=>⟨cur,hpa⟩⟩;have hj7:j<7:=by
    by_cases h8:8<=j
    ·have h7:=hcl 8 (by decide) (n8 j h8 hj hlj) 7 (of_decide_eq_true (by kernel_rfl));rw[hli]at h7;cases h7
    ·have:j≠7:=fun e=>by subst e;rw[hli]at hlj;cases hlj
     omega
   have:j=0\/j=1\/j=2\/j=3\/j=4\/j=5\/j=6:=by omega
   rcases this with rfl|rfl|rfl|rfl|rfl|rfl|rfl<;>rfl
  ·refine qR.o qJ (by kernel_rfl) rfl rfl (fun τ d K hK=>?_);have g7:=hT1 7 (of_decide_eq_true (by kernel_rfl));simp only[d11,v11]at g7;simp only[Try.f9,Option.getD_some,pth,qV]at hr⊢;clear hT1 hdep hb hcl;have e67:=get_of g7 (by omega:67<T.size);go_simp;refine hK _ _ (qR.re ?_ τ d);exact hr x w (fun _ _ _=>rfl) ⟨hg,fun h=>hO (by simpa using h),fun h=>hP (by simpa using h)⟩
  ·refine qR.o qJ (by kernel_rfl) rfl rfl (fun τ d K hK=>?_);have g8:=hT1 8 (of_decide_eq_true (by kernel_rfl));simp only[d11,v11]at g8;simp only[Try.f9,Option.getD_some,pth,qV]at hr⊢;clear hT1 hdep hb hcl;have e59:=get_of g8 (by omega:59<T.size);go_simp;refine hK _ _ (qR.re ?_ τ d);exact hr x w (fun _ _ _=>rfl) ⟨hg,fun h=>hO (by simpa using h),fun h=>hP (by simpa using h)⟩
  ·refine qR.o qJ (by kernel_rfl) rfl rfl (fun τ d K hK=>?_);have g8:=hT1 8 (of_decide_eq_true (by kernel_rfl));simp only[d11,v11]at g8;simp only[Try.f9,Option.getD_some,pth,qV]at hr⊢;clear hT1 hdep hb hcl;have e59:=get_of g8 (by omega:59<T.size);go_simp;refine hK _ _ (qR.re ?_ τ d);exact hr x w (fun _ _ _=>rfl) ⟨hg,fun h=>hO (by simpa using h),fun h=>hP (by simpa using h)⟩
  ·refine qR.o qJ (by kernel_rfl) rfl rfl (fun τ d K hK=>?_);have g9:=hT1 9 (of_decide_eq_true (by kernel_rfl));simp only[d11,v11]at g9;simp only[Try.f9,Option.getD_some,pth,qV]at hr⊢;clear hT1 hdep hb hcl;have e68:=get_of g9 (by omega:68<T.size);go_simp;refine hK _ _ (qR.re ?_ τ d);exact hr x w (fun _ _ _=>rfl) ⟨hg,fun h=>hO (by simpa using h),fun h=>hP (by simpa using h)⟩
  ·refine qR.o qJ (by kernel_rfl) rfl rfl (fun τ d K hK=>?_);have g10:=hT1 10 (of_decide_eq_true (by kernel_rfl));simp only[d11,v11]at g10;simp only[Try.f9,Option.getD_some,pth,qV]at hr⊢;clear hT1 hdep hb hcl;have e69:=get_of g10 (by omega:69<T.size);go_simp;refine hK _ _ (qR.re ?_ τ d);exact hr x w (fun _ _ _=>rfl) ⟨hg,fun h=>hO (by simpa using h),fun h=>hP (by simpa using h)⟩
set_option maxRecDepth 100000 in
set_option maxHeartbeats 16000000 in
theorem mix_l1{Sh:Nat->Prop}{Post:(Nat->Prop)->Goroutine->World->Prop}{p0:World}{ks:List Item}{cs:List Frame}{gs os no co lb m:Nat}{x y zz:Int}{vW:Value}{S:Nat->Oj}{st:Nat->ByteArray}(hm:m=min no 8)(hS:∀i,i<m->S i=mixOj (IntKind.wrap .i64 (x+(i:Int))) y zz (st i))
  (wy:(Lit.int .i64 y).wf=true)(wz:(Lit.int .i64 zz).wf=true)(hst:∀i,i<m->p0.cell? ⟨gs,os+i,none⟩=some (.string (st i))/\(st i).size<=maxLen){c:Code}(hc:Hid (c=pth [1,1,1,1,1,1,0,1,0,0] (Try.f9.body.getD .skip)))
  (hend:∀q vA vP gl cp t5 t6 t7 t8 t9 a3 m8 d6 r6 z9 k7 f7 d4 v5 j3 l0 y7 o9 b7 w9 o3 B6 p9 a8 B7 z7 u7 i5 j7 c8 z4 s9 y1 y5 m4 B5 l3 i7 A6 B0 C8 t2 u2 s6 l9 b3 q4 u3 q9 h9 y4 A0 l5 q5 y9 e9 v1 k8 p6 q6 B8 C6 v6 l1 u0 y2 s0 c9 t3 a7 b2 n0 u1 v3 k9 n6 o5 x1 l7 C9 k4 x7 u4 b8 o8 r8 B1 b6 v8 o7 A2 i2 A8 k5 y8 n2 i1 e7 c7 p7 t4 l4 n5 d8 c3 p8 B2 A1 m5 i3 i9 u5 d7 b5 u6 C5 m0 q7 y0 C4 C2 x6 x3 i8 c4 k3 o1 u9 A7 w8 l6 x9 v7 n4 z8 x4 m3 r7 n7 r5 B9 x8 i0 f5 n1 v2 a6 v4 C7 j4 k0 e6 A3 d9 f6 o4 m6 a9 j2 b4 n9 w7 C1 o2 m7 e8 B4 C3 b9 c5 d3 t1 w6 p1 n3 s7 j5 A5 v9 c6 j0 y6 l2 v0 h6 i4 l8 y3 j6 q0 r9 o6 j1 z6 w0 p5 q8 A4 A9 d5 b1 i6 s8 f8 o0 k6 j8 j9 z5 z3 x5 u8 m9 B3 x2,L1 p0 q m S vA vP gl cp->qR Try.prog Sh (G ((base 9).at ⟨#[.slice (some ⟨gs,os,none⟩) no co,.int .i64 x,.int .i64 y,.int .i64 zz,vW,t5,t6,t7,t8,t9,.bool false,.bool true,.pointer (some ⟨lb,0,none⟩),vA,vP,.int .i64 m,a3,m8,d6,r6,z9,k7,f7,d4,v5,j3,l0,y7,o9,b7,w9,o3,B6,p9,a8,B7,z7,u7,i5,j7,c8,z4,s9,y1,y5,m4,B5,l3,i7,A6,B0,C8,t2,u2,s6,l9,b3,q4,u3,q9,h9,y4,A0,l5,q5,y9,e9,v1,k8,p6,q6,B8,C6,v6,l1,u0,y2,s0,c9,t3,a7,b2,n0,u1,v3,k9,n6,o5,x1,l7,C9,k4,x7,u4,b8,o8,r8,B1,b6,v8,o7,A2,i2,A8,k5,y8,n2,i1,e7,c7,p7,t4,l4,n5,d8,c3,p8,B2,A1,m5,i3,i9,u5,d7,b5,u6,C5,m0,q7,y0,C4,C2,x6,x3,i8,c4,k3,o1,u9,A7,w8,l6,x9,v7,n4,z8,x4,m3,r7,n7,r5,B9,x8,i0,f5,n1,v2,a6,v4,C7,j4,k0,e6,A3,d9,f6,o4,m6,a9,j2,b4,n9,w7,C1,o2,m7,e8,B4,C3,b9,c5,d3,t1,w6,p1,n3,s7,j5,A5,v9,c6,j0,y6,l2,v0,h6,i4,l8,y3,j6,q0,r9,o6,j1,z6,w0,p5,q8,A4,A9,d5,b1,i6,s8,f8,o0,k6,j8,j9,z5,z3,x5,u8,m9,B3,x2],[]⟩ ks) cs) q Post):
  ∀(r k:Nat),k+r=m->∀(q:World) (vA vP:Value) (gl cp:Nat->Nat) (t5 t6 t7 t8 t9 a3 m8 d6 r6 z9 k7 f7 d4 v5 j3 l0 y7 o9 b7 w9 o3 B6 p9 a8 B7 z7 u7 i5 j7 c8 z4 s9 y1 y5 m4 B5 l3 i7 A6 B0 C8 t2 u2 s6 l9 b3 q4 u3 q9 h9 y4 A0 l5 q5 y9 e9 v1 k8 p6 q6 B8 C6 v6 l1 u0 y2 s0 c9 t3 a7 b2 n0 u1 v3 k9 n6 o5 x1 l7 C9 k4 x7 u4 b8 o8 r8 B1 b6 v8 o7 A2 i2 A8 k5 y8 n2 i1 e7 c7 p7 t4 l4 n5 d8 c3 p8 B2 A1 m5 i3 i9 u5 d7 b5 u6 C5 m0 q7 y0 C4 C2 x6 x3 i8 c4 k3 o1 u9 A7 w8 l6 x9 v7 n4 z8 x4 m3 r7 n7 r5 B9 x8 i0 f5 n1 v2 a6 v4 C7 j4 k0 e6 A3 d9 f6 o4 m6 a9 j2 b4 n9 w7 C1 o2 m7 e8 B4 C3 b9 c5 d3 t1 w6 p1 n3 s7 j5 A5 v9 c6 j0 y6 l2 v0 h6 i4 l8 y3 j6 q0 r9 o6 j1 z6 w0 p5 q8 A4 A9 d5 b1 i6 s8 f8 o0 k6 j8 j9 z5 z3 x5 u8 m9 B3 x2:Value),L1 p0 q k S vA vP gl cp->
   qR Try.prog Sh (G ((base 9).at ⟨#[.slice (some ⟨gs,os,none⟩) no co,.int .i64 x,.int .i64 y,.int .i64 zz,vW,t5,t6,t7,t8,t9,.bool false,.bool true,.pointer (some ⟨lb,0,none⟩),vA,vP,.int .i64 k,a3,m8,d6,r6,z9,k7,f7,d4,v5,j3,l0,y7,o9,b7,w9,o3,B6,p9,a8,B7,z7,u7,i5,j7,c8,z4,s9,y1,y5,m4,B5,l3,i7,A6,B0,C8,t2,u2,s6,l9,b3,q4,u3,q9,h9,y4,A0,l5,q5,y9,e9,v1,k8,p6,q6,B8,C6,v6,l1,u0,y2,s0,c9,t3,a7,b2,n0,u1,v3,k9,n6,o5,x1,l7,C9,k4,x7,u4,b8,o8,r8,B1,b6,v8,o7,A2,i2,A8,k5,y8,n2,i1,e7,c7,p7,t4,l4,n5,d8,c3,p8,B2,A1,m5,i3,i9,u5,d7,b5,u6,C5,m0,q7,y0,C4,C2,x6,x3,i8,c4,k3,o1,u9,A7,w8,l6,x9,v7,n4,z8,x4,m3,r7,n7,r5,B9,x8,i0,f5,n1,v2,a6,v4,C7,j4,k0,e6,A3,d9,f6,o4,m6,a9,j2,b4,n9,w7,C1,o2,m7,e8,B4,C3,b9,c5,d3,t1,w6,p1,n3,s7,j5,A5,v9,c6,j0,y6,l2,v0,h6,i4,l8,y3,j6,q0,r9,o6,j1,z6,w0,p5,q8,A4,A9,d5,b1,i6,s8,f8,o0,k6,j8,j9,z5,z3,x5,u8,m9,B3,x2],[]⟩ (.code c:: .inLoop c:: .inBlock 0::ks)) cs) q Post:=by
 have HE:=hide hend;have HSt:=hide hst;have HS:=hide hS;have HWY:=hide wy;have HWZ:=hide wz;have HM:=hide hm
 clear hend hst hS wy wz hm;intro r;induction r with
 |zero=>
  intro k hkr q vA vP gl cp t5 t6 t7 t8 t9 a3 m8 d6 r6 z9 k7 f7 d4 v5 j3 l0 y7 o9 b7 w9 o3 B6 p9 a8 B7 z7 u7 i5 j7 c8 z4 s9 y1 y5 m4 B5 l3 i7 A6 B0 C8 t2 u2 s6 l9 b3 q4 u3 q9 h9 y4 A0 l5 q5 y9 e9 v1 k8 p6 q6 B8 C6 v6 l1 u0 y2 s0 c9 t3 a7 b2 n0 u1 v3 k9 n6 o5 x1 l7 C9 k4 x7 u4 b8 o8 r8 B1 b6 v8 o7 A2 i2 A8 k5 y8 n2 i1 e7 c7 p7 t4 l4 n5 d8 c3 p8 B2 A1 m5 i3 i9 u5 d7 b5 u6 C5 m0 q7 y0 C4 C2 x6 x3 i8 c4 k3 o1 u9 A7 w8 l6 x9 v7 n4 z8 x4 m3 r7 n7 r5 B9 x8 i0 f5 n1 v2 a6 v4 C7 j4 k0 e6 A3 d9 f6 o4 m6 a9 j2 b4 n9 w7 C1 o2 m7 e8 B4 C3 b9 c5 d3 t1 w6 p1 n3 s7 j5 A5 v9 c6 j0 y6 l2 v0 h6 i4 l8 y3 j6 q0 r9 o6 j1 z6 w0 p5 q8 A4 A9 d5 b1 i6 s8 f8 o0 k6 j8 j9 z5 z3 x5 u8 m9 B3 x2 hL;have hkm:k=m:=by omega
  subst hkm;refine qR.unc hc.out ?_;conv=>arg 3;simp only[Try.f9,Option.getD_some,pth]
  refine qR.seq (qR.seq ?_);by_cases hk:k<no
  ·have q1:(k:Int)<(no:Int):=by omega
   have q2:¬(k:Int)<8:=by have:=HM.out;omega
   clear hk;refine qR.hideK fun kk hkk=>?_;replace hkk:=hide hkk;refine qR.runV qJ (by kernel_rfl) fun τ d=>?_;go_wp2;refine .inl ⟨rfl,?_⟩;dsimp only;refine qR.re ?_ _ _;rw[hkk.out];refine qR.no rfl ?_;refine qR.exit rfl ?_;exact HE.out q vA vP gl cp _ _ _ _ _ _ _ _ _ _ _ _ _ _ _ _ _ _ _ _ _ _ _ _ _ _ _ _ _ _ _ _ _ _ _ _ _ _ _ _ _ _ _ _ _ _ _ _ _ _ _ _ _ _ _ _ _ _ _ _ _ _ _ _ _ _ _ _ _ _ _ _ _ _ _ _ _ _ _ _ _ _ _ _ _ _ _ _ _ _ _ _ _ _ _ _ _ _ _ _ _ _ _ _ _ _ _ _ _ _ _ _ _ _ _ _ _ _ _ _ _ _ _ _ _ _ _ _ _ _ _ _ _ _ _ _ _ _ _ _ _ _ _ _ _ _ _ _ _ _ _ _ _ _ _ _ _ _ _ _ _ _ _ _ _ _ _ _ _ _ _ _ _ _ _ _ _ _ _ _ _ _ _ _ _ _ _ _ _ _ _ _ _ _ _ _ _ _ _ _ _ _ _ _ _ _ _ _ _ _ _ _ _ _ _ hL
  ·have q1:¬(k:Int)<(no:Int):=by omega
   refine qR.hideK fun kk hkk=>?_;replace hkk:=hide hkk;refine qR.runV qJ (by kernel_rfl) fun τ d=>?_;go_wp2;refine .inl ⟨rfl,?_⟩;dsimp only;refine qR.re ?_ _ _;rw[hkk.out];refine qR.no rfl ?_;refine qR.exit rfl ?_;exact HE.out q vA vP gl cp _ _ _ _ _ _ _ _ _ _ _ _ _ _ _ _ _ _ _ _ _ _ _ _ _ _ _ _ _ _ _ _ _ _ _ _ _ _ _ _ _ _ _ _ _ _ _ _ _ _ _ _ _ _ _ _ _ _ _ _ _ _ _ _ _ _ _ _ _ _ _ _ _ _ _ _ _ _ _ _ _ _ _ _ _ _ _ _ _ _ _ _ _ _ _ _ _ _ _ _ _ _ _ _ _ _ _ _ _ _ _ _ _ _ _ _ _ _ _ _ _ _ _ _ _ _ _ _ _ _ _ _ _ _ _ _ _ _ _ _ _ _ _ _ _ _ _ _ _ _ _ _ _ _ _ _ _ _ _ _ _ _ _ _ _ _ _ _ _ _ _ _ _ _ _ _ _ _ _ _ _ _ _ _ _ _ _ _ _ _ _ _ _ _ _ _ _ _ _ _ _ _ _ _ _ _ _ _ _ _ _ _ _ _ _ hL
 |succ r ih=>
  intro k hkr q vA vP gl cp t5 t6 t7 t8 t9 a3 m8 d6 r6 z9 k7 f7 d4 v5 j3 l0 y7 o9 b7 w9 o3 B6 p9 a8 B7 z7 u7 i5 j7 c8 z4 s9 y1 y5 m4 B5 l3 i7 A6 B0 C8 t2 u2 s6 l9 b3 q4 u3 q9 h9 y4 A0 l5 q5 y9 e9 v1 k8 p6 q6 B8 C6 v6 l1 u0 y2 s0 c9 t3 a7 b2 n0 u1 v3 k9 n6 o5 x1 l7 C9 k4 x7 u4 b8 o8 r8 B1 b6 v8 o7 A2 i2 A8 k5 y8 n2 i1 e7 c7 p7 t4 l4 n5 d8 c3 p8 B2 A1 m5 i3 i9 u5 d7 b5 u6 C5 m0 q7 y0 C4 C2 x6 x3 i8 c4 k3 o1 u9 A7 w8 l6 x9 v7 n4 z8 x4 m3 r7 n7 r5 B9 x8 i0 f5 n1 v2 a6 v4 C7 j4 k0 e6 A3 d9 f6 o4 m6 a9 j2 b4 n9 w7 C1 o2 m7 e8 B4 C3 b9 c5 d3 t1 w6 p1 n3 s7 j5 A5 v9 c6 j0 y6 l2 v0 h6 i4 l8 y3 j6 q0 r9 o6 j1 z6 w0 p5 q8 A4 A9 d5 b1 i6 s8 f8 o0 k6 j8 j9 z5 z3 x5 u8 m9 B3 x2 hL;have hk:k<m:=by omega
  have q1:(k:Int)<(no:Int):=by have:=HM.out;omega
  have q2:(k:Int)<8:=by have:=HM.out;omega
  have q3:(0:Int)<=(k:Int):=by omega
  obtain⟨hcell,hsz⟩:=HSt.out k hk;have ok:(S k).Ok:=by rw[HS.out k hk];exact mixOj_ok _ _ _ _
  have hmany:manyN (S k).len (S k).sz (S k).ms=false:=by rw[HS.out k hk];exact mixOj_many _ _ _ _
  have e1:1+pickN (IntKind.wrap .i64 (x+(k:Int))) 16=(S k).sz:=by rw[HS.out k hk];rfl
  have e2:1+pickN y 20=(S k).ms:=by rw[HS.out k hk];rfl
  have e3:pickN zz 21=(S k).V:=by rw[HS.out k hk];rfl
  have e4:(S k).len=min (st k).size 200:=by rw[HS.out k hk];rfl
  have e5:(bytesOf (st k)).take (S k).len=(S k).obj:=by rw[HS.out k hk];rfl
  have F:=hide (fun w=>fit_walk (IntKind.wrap .i64 (x+(k:Int))) y zz (hide (wrap_wf _)) HWY HWZ w);rw[e1,e2,e3]at F;have hT0:¬((S k).T:Int)=0:=by have:=ok.T_pos;omega
  have hT1:¬(S k).T=0:=by have:=ok.T_pos;omega
  have HOK:=hide ok;have HCell:=hide hcell;have HMany:=hide hmany;have HSz:=hide hsz;have HE4:=hide e4;have HE5:=hide e5
  clear e1 e2 e3 e4 e5 hmany ok hsz hcell;refine qR.unc hc.out ?_;conv=>arg 3;simp only[Try.f9,Option.getD_some,pth]
  refine qR.seq (qR.seq ?_);refine qR.hideK fun kk hkk=>?_;replace hkk:=hide hkk;refine qR.runV qJ (by kernel_rfl) fun τ d=>?_;go_wp2;refine .inl ⟨rfl,?_⟩;dsimp only;refine qR.re ?_ _ _;rw[hkk.out];clear hkk kk τ d;refine qR.yes rfl (qR.skip ?_);refine qR.seq (qR.block (qR.seq ?_));refine qR.hideK fun kk hkk=>?_;replace hkk:=hide hkk;refine qR.reg (todo:= [0,1,2,3,4,5,6,7]) rfl ?_;refine qR.o qJ (by kernel_rfl) rfl rfl (fun τ d K hK=>?_);go_simp;refine hK _ _ ?_;clear hK;refine qR.re ?_ _ _;try walk_nrm
  refine qR.o qJ (by kernel_rfl) rfl rfl (fun τ d K hK=>?_);go_simp;refine hK _ _ ?_;clear hK;refine qR.re ?_ _ _;try walk_nrm
  refine qR.o qJ (by kernel_rfl) rfl rfl (fun τ d K hK=>?_);go_simp;refine hK _ _ ?_;clear hK;refine qR.re ?_ _ _;try walk_nrm
  refine qR.o qJ (by kernel_rfl) rfl rfl (fun τ d K hK=>?_);go_simp;refine hK _ _ ?_;clear hK;refine qR.re ?_ _ _;try walk_nrm
  refine qR.o qJ (by kernel_rfl) rfl rfl (fun τ d K hK=>?_);go_simp;refine hK _ _ ?_;clear hK;refine qR.re ?_ _ _;try walk_nrm
  refine qR.callsA qJ (by kernel_rfl) rfl rfl rfl Try.func20 rfl rfl (xs:=#[.int .i64 (IntKind.wrap .i64 (x+(k:Int))),.int .i64 y,.int .i64 zz]) (by simp[Act.eval]) (fun τ d=>?_);refine(F.out _).mono ?_;rintro _ w1 ⟨rfl,hb1⟩;refine⟨_,rfl,?_⟩;have hg1:Grw q w1:=Grw.below hb1;clear hb1 τ d;try walk_nrm
  refine qR.o qJ (by kernel_rfl) rfl rfl (fun τ d K hK=>?_);go_simp;refine hK _ _ ?_;clear hK;try walk_nrm
  rw[show(w1.re τ d).heap.size=w1.heap.size from rfl];obtain⟨pv,hpv⟩:∃pv,pv=w1.heap.size:=⟨_,rfl⟩;rw[<-hpv];have hpvq:q.heap.size<=pv:=by rw[hpv];exact hg1.size
  refine qR.world (fun q2=>Grw q q2/\qS q2 pv 30 [.int .i64 0,.int .i64 0,.int .i64 0]) ⟨((hg1.re τ d).alloc _),by rw[hpv];exact rowL_alloc (w1.re τ d) _ _⟩ fun q2 hq2=>?_;obtain⟨hg2,r0⟩:=hq2;clear hg1 hpv τ d w1;refine qR.o qJ (by kernel_rfl) rfl rfl (fun τ d K hK=>?_);have c0:(q2.re τ d).cell? ⟨pv,0,none⟩=some (.int .i64 0):=r0.cell 0 _ rfl;have z0:(q2.re τ d).frozen? ⟨pv,0,none⟩=false:=r0.frozen 0;have r1:=qS.set (w:=q2.re τ d) r0 0 (.int .i64 ((S k).sz:Int));have c1:=r1.cell 1 _ rfl;have z1:=r1.frozen 1;have r2:=r1.set 1 (.int .i64 ((S k).ms:Int));have c2:=r2.cell 2 _ rfl;have z2:=r2.frozen 2;have r3:=hide (r2.set 2 (.int .i64 ((S k).V:Int)));clear r1 r2;go_simp;refine hK _ _ ?_;clear hK c0 z0 c1 z1 c2 z2;try walk_nrm
  have hlt:pv<q2.heap.size:=r0.lt;refine qR.world (fun q1=>q2.heap.size<=q1.heap.size/\(∀b,b<q2.heap.size->b≠pv->q1.heap[b]? =q2.heap[b]?)/\q1.os=q2.os/\q1.output=q2.output/\qS q1 pv 30 [.int .i64 ((S k).sz:Int),.int .i64 ((S k).ms:Int),.int .i64 ((S k).V:Int)]) ?_ fun q1 hq1=>?_
  ·refine⟨?_,fun b hb hne=>?_,rfl,rfl,r3.out⟩
   ·simp[World.setCell,World.re]
   ·simp[World.setCell,World.re,Array.getElem?_modify,Ne.symm hne]
  have hg1:Grw q q1:=⟨Nat.le_trans hg2.size hq1.1,fun b hb=>(hq1.2.1 b (Nat.lt_of_lt_of_le hb hg2.size) (by omega)).trans (hg2.row b hb),hq1.2.2.1.trans hg2.os,hq1.2.2.2.1.trans hg2.output⟩;have hrow:=hq1.2.2.2.2;clear hq1 r3 hlt hg2 r0 hpvq q2 τ d;refine qR.regEnd ?_;rw[hkk.out];clear hkk kk;refine qR.seq (qR.hideK fun kk hkk=>?_);replace hkk:=hide hkk;refine mix_r11 (no:=no) (co:=co) (pv:=pv) (k:=k) (s:=S k) (st:=st k) (by rfl) rfl rfl rfl (by omega) (by omega) HOK.out HMany.out HSz.out HE4.out HE5.out (hg1.cell (hL.grw.cell HCell.out)) hrow (by kernel_rfl) (fun xx w hgw hP=>?_);obtain⟨b0,c0,g,cg⟩:=xx;rw[hkk.out];clear hkk kk;simp only[mixT,d11,v11,if_true,List.setIfInBounds_toArray,List.set_cons_zero,List.set_cons_succ];refine qR.seq (qR.seq ?_);refine qR.hideK fun kk hkk=>?_;replace hkk:=hide hkk;refine qR.runV qJ (by kernel_rfl) fun τ d=>?_;go_wp2;refine .inl ⟨rfl,?_⟩;dsimp only;refine qR.re ?_ _ _;rw[hkk.out];clear hkk kk τ d;refine qR.no (by simp[Act.eval];exact hT1) (qR.skip ?_);refine qR.seq ?_;obtain⟨i33,hi33,hz33,hs33,hb33⟩:=info_parts3 Try.infoList;obtain⟨i30,hi30,hz30,hs30,hb30⟩:=info_parts3 Try.infoPlan;have hk8:k<8:=by omega
  have hsq:=Nat.le_trans hL.grw.size (Nat.le_trans hg1.size hgw.size);refine qR.hideK fun kk hkk=>?_;replace hkk:=hide hkk;refine qR.reg (todo:= [0,1,2,3,4]) rfl ?_;refine qR.o qJ (by kernel_rfl) rfl rfl (fun τ d K hK=>?_);go_simp;refine hK _ _ ?_;clear hK;refine qR.re ?_ _ _;try walk_nrm
  refine qR.o qJ (by kernel_rfl) rfl rfl (fun τ d K hK=>?_);go_simp;refine hK _ _ ?_;clear hK;refine qR.re ?_ _ _;try walk_nrm
  refine qR.o qJ (by kernel_rfl) rfl rfl (fun τ d K hK=>?_);go_simp;refine hK _ _ ?_;clear hK;try walk_nrm
  rw[show(w.re τ d).heap.size=w.heap.size from rfl];refine qR.re (p:=w.alloc (.cells #[.slice (some ⟨g,0,none⟩) (S k).T cg] 33)) ?_ τ d;clear τ d;have hw2:Grw w (w.alloc (.cells #[.slice (some ⟨g,0,none⟩) (S k).T cg] 33)):=(Grw.refl w).alloc _;refine qR.append rfl rfl (by decide) (tm_act qJ (by kernel_rfl)) (s:=.tmp 77) (x:=.tmp 79) rfl (base:=p0.heap.size) (n:=k) (m:=1) (c:=1) (ad:=⟨w.heap.size,0,none⟩) (xs:=(List.range k).map fun i=>Value.slice (some ⟨gl i,0,none⟩) (S i).T (cp i)) (news:= [.slice (some ⟨g,0,none⟩) (S k).T cg]) Try.underlying34 hi33 hz33 hs33 hb33 rfl (by decide) rfl (own_grw (own_grw (own_grw hL.all hg1) hgw) hw2) rfl rfl (fun j u hu=>?_) (by simp[Value.oneCell']) (by simp only[maxLen];omega) (by omega) (Nat.le_trans hsq hw2.size) (fun vA' w3 hown3 hgb3=>?_)
  ·have hj:j=0:=by
    have:=(List.getElem?_eq_some_iff.1 hu).1;simp at this;omega
   subst hj;simp only[List.getElem?_cons_zero,Option.some.injEq]at hu;subst hu;exact cell_alloc_any _ _ _ _ _ _ rfl
  try walk_nrm
  refine qR.o qJ (by kernel_rfl) rfl rfl (fun τ d K hK=>?_);go_simp;refine hK _ _ ?_;clear hK;refine qR.re ?_ _ _;try walk_nrm
  refine qR.regEnd ?_;rw[hkk.out];clear hkk kk;have hrow3:qS w3 pv 30 [.int .i64 ((S k).sz:Int),.int .i64 ((S k).ms:Int),.int .i64 ((S k).V:Int)]:=by
   have r2:=hrow.of_block ((hgw.trans hw2).row _ hrow.lt);exact row_grb (own_grw (own_grw (own_grw hL.all hg1) hgw) hw2) r2 (by decide) hgb3
  have hs3:p0.heap.size<=w3.heap.size:=Nat.le_trans hsq (Nat.le_trans hw2.size hgb3.size);have hpls3:w3.ownsRow p0.heap.size 30 3 vP k ((List.range k).flatMap fun i=> [.int .i64 ((S i).sz:Nat),.int .i64 ((S i).ms:Nat),.int .i64 ((S i).V:Nat)]):=own_grb (own_grw (own_grw (own_grw hL.pls hg1) hgw) hw2) (own_grw (own_grw (own_grw hL.all hg1) hgw) hw2) (by decide) hgb3;have HW2:=hide hw2;have HGB3:=hide hgb3;have HOWN3:=hide hown3;have HPL3:=hide hpls3;have HP:=hide hP;have HLL:=hide hL
  clear hw2 hgb3 hown3 hpls3 hP hL hrow HCell HMany HSz HE4 HE5 hsq;refine qR.hideK fun kk hkk=>?_;replace hkk:=hide hkk;refine qR.reg (todo:= [0,1,2,3,4]) rfl ?_;refine qR.o qJ (by kernel_rfl) rfl rfl (fun τ d K hK=>?_);go_simp;refine hK _ _ ?_;clear hK;refine qR.re ?_ _ _;try walk_nrm
  refine qR.o qJ (by kernel_rfl) rfl rfl (fun τ d K hK=>?_);have a0:(w3.re τ d).cell? ⟨pv,0,none⟩=some (.int .i64 ((S k).sz:Int)):=hrow3.cell 0 _ rfl;have a1:(w3.re τ d).cell? ⟨pv,1,none⟩=some (.int .i64 ((S k).ms:Int)):=hrow3.cell 1 _ rfl;have a2:(w3.re τ d).cell? ⟨pv,2,none⟩=some (.int .i64 ((S k).V:Int)):=hrow3.cell 2 _ rfl;go_simp;refine hK _ _ ?_;clear hK a0 a1 a2;refine qR.re ?_ _ _;try walk_nrm
  refine qR.o qJ (by kernel_rfl) rfl rfl (fun τ d K hK=>?_);go_simp;refine hK _ _ ?_;clear hK;try walk_nrm
  rw[show(w3.re τ d).heap.size=w3.heap.size from rfl];refine qR.re (p:=w3.alloc (.cells #[.int .i64 ((S k).sz:Int),.int .i64 ((S k).ms:Int),.int .i64 ((S k).V:Int)] 30)) ?_ τ d;clear τ d;have hw4:Grw w3 (w3.alloc (.cells #[.int .i64 ((S k).sz:Int),.int .i64 ((S k).ms:Int),.int .i64 ((S k).V:Int)] 30)):=(Grw.refl w3).alloc _;refine qR.append rfl rfl (by decide) (tm_act qJ (by kernel_rfl)) (s:=.tmp 81) (x:=.tmp 83) rfl (base:=p0.heap.size) (n:=k) (m:=1) (c:=1) (ad:=⟨w3.heap.size,0,none⟩) (xs:=(List.range k).flatMap fun i=> [.int .i64 ((S i).sz:Nat),.int .i64 ((S i).ms:Nat),.int .i64 ((S i).V:Nat)]) (news:= [.int .i64 ((S k).sz:Int),.int .i64 ((S k).ms:Int),.int .i64 ((S k).V:Int)]) Try.underlying59 hi30 hz30 hs30 hb30 rfl (by decide) rfl (own_grw HPL3.out hw4) rfl rfl (fun j u hu=>?_) (by simp[Value.oneCell']) (by simp only[maxLen];omega) (by omega) (Nat.le_trans hs3 hw4.size) (fun vP' w5 hown5 hgb5=>?_)
  ·have hj:j<3:=(List.getElem?_eq_some_iff.1 hu).1;have hc:(w3.alloc (.cells #[.int .i64 ((S k).sz:Int),.int .i64 ((S k).ms:Int),.int .i64 ((S k).V:Int)] 30)).cell? ⟨w3.heap.size,j,none⟩=some u:=cell_alloc_any _ _ _ _ _ _ (by simpa using hu);rw[Addr.add_lit];simpa using hc
  have hL':=(HLL.out).next (hg1.trans hgw) HP.out HW2.out HOWN3.out HGB3.out hw4 hown5 hgb5;try walk_nrm
  refine qR.o qJ (by kernel_rfl) rfl rfl (fun τ d K hK=>?_);go_simp;refine hK _ _ ?_;clear hK;refine qR.re ?_ _ _;try walk_nrm
  refine qR.regEnd ?_;rw[hkk.out];clear hkk kk;refine qR.inBlock ?_;refine qR.hideK fun kk hkk=>?_;replace hkk:=hide hkk;refine qR.runV qJ (by kernel_rfl) fun τ d=>?_;go_wp2;refine .inl ⟨rfl,?_⟩;dsimp only;refine qR.re ?_ _ _;rw[hkk.out];clear hkk kk τ d;refine qR.inLoop ?_;exact ih (k+1) (by omega) w5 vA' vP' _ _ _ _ _ _ _ _ _ _ _ _ _ _ _ _ _ _ _ _ _ _ _ _ _ _ _ _ _ _ _ _ _ _ _ _ _ _ _ _ _ _ _ _ _ _ _ _ _ _ _ _ _ _ _ _ _ _ _ _ _ _ _ _ _ _ _ _ _ _ _ _ _ _ _ _ _ _ _ _ _ _ _ _ _ _ _ _ _ _ _ _ _ _ _ _ _ _ _ _ _ _ _ _ _ _ _ _ _ _ _ _ _ _ _ _ _ _ _ _ _ _ _ _ _ _ _ _ _ _ _ _ _ _ _ _ _ _ _ _ _ _ _ _ _ _ _ _ _ _ _ _ _ _ _ _ _ _ _ _ _ _ _ _ _ _ _ _ _ _ _ _ _ _ _ _ _ _ _ _ _ _ _ _ _ _ _ _ _ _ _ _ _ _ _ _ _ _ _ _ _ _ _ _ _ _ _ _ _ _ _ _ _ _ _ _ _ hL'
end Go.Proofs.Ytmfpiodlecapiaa
