import Derived.Test.YtmfpiodlecapiaaGreatDoorJ10
namespace Go.kg
section
open Go.Conc Go.ConcN Go.bn Go.Ren
open Go.ConcR (KK wgBlock WgAt stA smA rd wr mk Payload Aside2 DC0 Bk g_of_ofEvents again_blocked bk_of_mute ofEvent_loc_mark ofEvent_cell)
def WX.to(d:WX)(s m dd:Nat):WX:= {d with ws:=s,rk:=.ofNat m,st:=s,fu:=m,df:=dd}
def GEv(Wg B:Nat)(e:Event):Prop:=(∀y,(MemAct.ofEvent e).touch? =some y->V7 Wg y.loc/\y.kind= .atomic)/\(MemAct.ofEvent e).low B/\e.loc≠.mark (.release (stA Wg))
theorem Vl{Wg B:Nat}{e:Event}(h:Bk Wg e)(hB:Wg<B):GEv Wg B e:=by
 rcases h with h1|h1|⟨a,wr,rfl,ha⟩
 iterate 2 (·exact⟨fun y hy=>(by rw[ofEvent_loc_mark h1]at hy;cases hy),(by rw[ofEvent_loc_mark h1];trivial),(by rw[h1];simp)⟩)
 .refine⟨fun y hy=>?_,?_,by simp⟩
  .simp only[ofEvent_cell,MemAct.touch?,Option.some.injEq]at hy;subst hy;exact⟨⟨a,rfl,ha⟩,rfl⟩
  .rw[ofEvent_cell];show a.block<B;omega
section
variable [Payload] {H:Ph} {j:Nat} {D:Nat->WX} {mine:Nat->Prop} {got:Nat->Option Value} {Y:Goroutine} {closed:Bool} {tag:b_} {f0 d0:Nat} {gs:Array Goroutine} {w:World} {sl:Option (Nat×Nat)} {t:Trace} {a:Goroutine} {x:Nat->Goroutine} {q:Nat->Nat} {st sm:Int}
theorem SS.bound(h:SS H j mine got Y tag f0 d0 a w):j+pend tag.c<=H.N:=by
 cases h<;>simp only[b_.c,pend]<;>(try simp)<;>omega
omit [Payload]in
theorem vH{See:Nat->Prop}{w w':World}(h:Aside H.Wg w w'){st sm:Int}(hl:WgAt H.ty H.Wg w' st sm)(hn:¬See H.Wg):mP H.ty H.Wg See w w':=
 ⟨Nat.le_of_eq h.size.symm,fun b hb=>h.block b (fun e=>hn (e▸hb)),fun _=>⟨st,sm,hl⟩,h.tape,h.os,h.output,fun hn b o hb=>by
  by_cases e:b=H.Wg
  .subst e;have e2:w'.heap[H.Wg]? =_:=hl;rw[e2]at hb;obtain rfl:=Option.some.inj hb;exact trivial
  .rw[h.block b e]at hb;exact hn b o hb⟩
omit [Payload]in
theorem fZ{E:Nat->WD}{tag':b_}(h:ConcN.Mode j E tag.c st sm)(ht:tag'=tag\/(tag= .wt .blk/\tag'= .wt .w3)):ConcN.Mode j E tag'.c st sm:=by
 rcases ht with rfl|⟨rfl,rfl⟩
 .exact h
 .exact h.retag (.inr ⟨rfl,rfl⟩)
set_option maxHeartbeats 1600000 in
theorem NK(O:oJ H)(hA:oK H.P H.o j gs a x q t)(hS:SS H j mine got Y tag f0 d0 a w)(hW:∀i,i<j->WS H i (D i) (x i) w)(aC:Sets H j D mine w.heap.size)(hT:qP H j D d0 w.heap.size t)(hF:Fl H j D tag got Y closed mine w)
  (hCH:CH H closed w)(hwg:WgAt H.ty H.Wg w st sm)(hmode:ConcN.Mode j (bJ D) tag.c st sm)(hacq:tag= .wt .ret->yg H j t){i:Nat}(hi:i<j)(ag:(x i).status= .running)
  (h7:((D i).ws=7/\(D i).st=7/\(D i).df=0/\(D i).rk= .ofNat (D i).fu/\Goes H.P false (RW H.ty H.Wg (D i).C 1 0 0) DC0 (AtR0 H.P H.ty H.Wg (D i).C 1 0 1 (D i).zv) (D i).fu (x i) w)\/
   ((D i).ws=(D i).st/\(D i).st<=6/\(D i).rk= .ofNat (D i).fu/\WSit H.P H.ty H.Wg (D i).C 1 IX IX 0 1 (D i).zv (D i).st (D i).fu (D i).df (x i) w)):
  ∃m₁ ops μ',runT H.P (crowd gs w sl) (H.o+i)=(.next m₁,ops)/\LL H.N μ' (meas H j D tag f0 q)/\Inv H μ' m₁ (t++ops):=by
 obtain⟨pH,ox,QM,n1,n2,n3⟩:=aC.Ab;obtain⟨⟨sR,rR,yT,hR⟩,⟨sD,rD,vw,hD⟩,qN⟩:=hCH;have vl:(D i).ws=(D i).st/\(D i).st<=7/\(D i).rk= .ofNat (D i).fu:=by rcases h7 with⟨h1,h2,_,h3,_⟩|⟨h1,h2,h3,_⟩<;>exact⟨by omega,by omega,h3⟩
 have hb:=hS.bound;have N0:=Vc_le j (bJ D);have Sq:Deaf t (H.o+i)=(D i).df:=hT.deafW i hi;have hN:=O.hN;have nr:(D i).st≠1->tag≠.wt .ret:=fun h e=>by
  subst e;exact hmode.not_ret hi (show(bJ D i).stage≠1 from h) rfl
 have bookG:∀{g':Goroutine} {w':World} {es:Array Event} {s' m' dd':Nat} {st' sm':Int},stepG H.P false (x i) w= .go g' w' es->Aside H.Wg w w'->WgAt H.ty H.Wg w' st' sm'->(∀e∈es,GEv H.Wg w.heap.size e)->
   WS H i ((D i).to s' m' dd') g' w'->deafBehind (D i).df es=dd'->(s'<=6->∃r,RelBy (stA H.Wg) (t++MemOp.ofEvents (H.o+i) (x i).frame.fn (x i).frame.place es) (H.o+i) r)->s'<=7->
   (∀tag',(tag'=tag\/(tag= .wt .blk/\tag'= .wt .w3))->(mayWake H.P (x i)=true->g'.status= .running->tag'≠.wt .blk)->ConcN.Mode j (upd (bJ D) i ⟨s',m',dd'⟩) tag'.c st' sm')->(tag= .wt .ret->yg H j (t++MemOp.ofEvents (H.o+i) (x i).frame.fn (x i).frame.place es))->
   ((s'<(D i).st/\ConcN.cnt ⟨s',m',dd'⟩<=ConcN.cnt (D i).wd)\/(s'=(D i).st/\m'+1=(D i).fu))->
   ∃m₁ ops μ',runT H.P (crowd gs w sl) (H.o+i)=(.next m₁,ops)/\LL H.N μ' (meas H j D tag f0 q)/\Inv H μ' m₁ (t++ops):=by
  intro g' w' es s' m' dd' st' sm' hgo eV eK dt nB th hrel h6 fW rB ai;have cC:w'.heap.size=w.heap.size:=eV.size;have sE:TI H.Shun (Nn H.o j) (Em H.o j D) (Ej H.o j D) H.Wg w.heap.size (t++MemOp.ofEvents (H.o+i) (x i).frame.fn (x i).frame.place es):=by
   refine hT.ti.group (aC.sep hA.pos) (g:=H.o+i) g_of_ofEvents (fun op a_=>?_) (fun op a_ y hy=>?_)
   .obtain⟨e,he,rfl⟩:=Go.Conc.mem_ofEvents a_;exact(dt e he).2.1
   .obtain⟨e,he,rfl⟩:=Go.Conc.mem_ofEvents a_;exact⟨((dt e he).1 y hy).1,.inl ((dt e he).1 y hy).2⟩
  have ja:∀a,(upd D i ((D i).to s' m' dd') a).ow=(D a).ow/\(upd D i ((D i).to s' m' dd') a).vs=(D a).vs:=by
   intro a;by_cases e:a=i
   .subst e;rw[upd_same];exact⟨rfl,rfl⟩
   .rw[upd_ne D _ e];exact⟨rfl,rfl⟩
  have eo:Em H.o j (upd D i ((D i).to s' m' dd'))=Em H.o j D:=by funext k c;simp only[Em,(ja _).1]
  have ev:Ej H.o j (upd D i ((D i).to s' m' dd'))=Ej H.o j D:=by funext k c;simp only[Ej,(ja _).2]
  refine goW O.ar hA hS hW aC hF hi hgo (vH eV eK fun h=>h.elim (fun h=>(aC.iZ _ h).2.1 rfl) fun h=>(aC.mspec _ h).2.1 rfl) (fun i' bh _=>vH eV eK fun h=>(aC.gV i' _ bh h).2.1 rfl) nB
   (by rw[cC];exact yu (i:=i) (d':=(D i).to s' m' dd') (w':=w) aC rfl rfl rfl (Nat.le_refl _)) (by rw[cC];exact hT.appW hA.pos hi (by rw[eo,ev];exact sE) (fun e he=>(dt e he).2.2) th hrel)
   (fun h=>hF.gu i hi h) (fun v hv=>⟨h6,?_⟩) (fun hc hn=>?_) (show s'≠17 by omega) ⟨⟨sR,rR,yT,(eV.block _ (Ne.symm n1)).trans hR⟩,⟨sD,rD,vw,(eV.block _ (Ne.symm n2)).trans hD⟩,qN.rely (vH eV eK (See:=nY H mine) fun h=>h.elim (fun h=>(aC.iZ _ h).2.1 rfl) fun h=>(aC.mspec _ h).2.1 rfl) fun b hb _=>eV.block b (qN.2.2 b hb).1.1⟩ eK fW rB ?_
  .obtain⟨F,k1,k2,k3⟩:=(hF.some i v hv).2.2;exact⟨F,k1,k1 w w' (fun c hc _=>eV.block c fun e=>(aC.gV i c hi (aC.ov i c hi hc)).2.1 e) k2,k3⟩
  .have:=hF.none hc i hi hn;omega
  .rcases ai with⟨k1,k2⟩|⟨k1,k2⟩
   .exact .inl ⟨(show s'<(D i).ws by omega),k2⟩
   .exact .inr ⟨(show s'=(D i).ws by omega),(by subst k1;rfl),by rw[vl.2.2,<-k2];exact Rk.ofNat_lt m'⟩
 have relB:∀{es:Array Event},(D i).ws<=6->(∀e∈es,Bk H.Wg e)->(∀jx e,es[jx]? =some e->(MemAct.ofEvent e).touch? =none\/0<deafBehind (D i).df (es.extract 0 jx))->∃r,RelBy (stA H.Wg) (t++MemOp.ofEvents (H.o+i) (x i).frame.fn (x i).frame.place es) (H.o+i) r:=by
  intro es h6 fh hd;obtain⟨r,hr⟩:=hT.rel i hi h6;exact⟨r,hr.book Sq _ _ fh hd⟩
 have book:∀{g':Goroutine} {w':World} {es:Array Event} {s' m' dd':Nat} {st' sm':Int},(D i).st<=6->stepG H.P false (x i) w= .go g' w' es->Aside H.Wg w w'->WgAt H.ty H.Wg w' st' sm'->(∀e∈es,Bk H.Wg e)->
   (∀jx e,es[jx]? =some e->(MemAct.ofEvent e).touch? =none\/0<deafBehind (D i).df (es.extract 0 jx))->WSit H.P H.ty H.Wg (D i).C 1 IX IX 0 1 (D i).zv s' m' dd' g' w'->deafBehind (D i).df es=dd'->s'<=6->
   (∀tag',(tag'=tag\/(tag= .wt .blk/\tag'= .wt .w3))->(mayWake H.P (x i)=true->g'.status= .running->tag'≠.wt .blk)->ConcN.Mode j (upd (bJ D) i ⟨s',m',dd'⟩) tag'.c st' sm')->(tag= .wt .ret->yg H j (t++MemOp.ofEvents (H.o+i) (x i).frame.fn (x i).frame.place es))->
   ((s'<(D i).st/\ConcN.cnt ⟨s',m',dd'⟩<=ConcN.cnt (D i).wd)\/(s'=(D i).st/\m'+1=(D i).fu))->
   ∃m₁ ops μ',runT H.P (crowd gs w sl) (H.o+i)=(.next m₁,ops)/\LL H.N μ' (meas H j D tag f0 q)/\Inv H μ' m₁ (t++ops):=
  fun De hgo eV eK fh hd nB th h6 fW rB ai=>bookG hgo eV eK (fun e he=>Vl (fh e he) pH) (.lib rfl h6 rfl nB) th (fun _=>relB (by omega) fh hd) (by omega) fW rB ai
 have noEv:∀e∈(#[]:Array Event),Bk H.Wg e:=fun e he=>by simp at he
 have idle:∀{g':Goroutine} {m':Nat},(D i).st<=6->(D i).st≠1->stepG H.P false (x i) w= .go g' w #[]->WSit H.P H.ty H.Wg (D i).C 1 IX IX 0 1 (D i).zv (D i).st m' (D i).df g' w->m'+1=(D i).fu->
   ∃m₁ ops μ',runT H.P (crowd gs w sl) (H.o+i)=(.next m₁,ops)/\LL H.N μ' (meas H j D tag f0 q)/\Inv H μ' m₁ (t++ops):=by
  intro g' m' h6 h1 hgo nB hm;exact book h6 hgo (.refl _ w) hwg noEv (by simp) nB rfl h6 (fun tag' ht _=>fZ (hmode.same (i:=i) m' (D i).df) ht) (fun e=>absurd e (nr h1)) (.inr ⟨rfl,hm⟩)
 rcases h7 with⟨e1,cg,qn,e4,h⟩|⟨e1,e2,e3,hs⟩
 .have dr:ConcN.cnt (D i).wd=1:=by simp[ConcN.cnt,WX.wd,cg]
  rcases Goes.cases h with bk|⟨m',hm,aq⟩
  .obtain⟨_,hhas,g',hgo,m₂,hk⟩:=bk w (RW.refl w);refine bookG (s':=6) (m':=m₂) (dd':=0) hgo (.refl _ w) hwg (fun e he=>?_) (.lib rfl (Nat.le_refl _) rfl (.k1 hk)) (by rw[qn];rfl) (fun _=>⟨t.size,RelBy.new (by rw[Sq,qn]) _ _⟩) (by omega) (fun tag' ht _=>fZ (hmode.counted hi (show 5<=(D i).st by omega) (.inl rfl) _ _) ht) (fun e=>absurd e (nr (by omega))) (.inl ⟨by omega,by rw[dr];simp[ConcN.cnt]⟩);simp at he;subst he;exact⟨fun y hy=>by simp[mk,MemAct.ofEvent,MemAct.touch?]at hy,pH,by simp[mk]⟩
  .obtain⟨g',w',es,hgo,⟨rfl,rfl⟩,cE⟩:=aq w (RW.refl w);exact bookG (s':=7) (m':=m') (dd':=0) hgo (.refl _ w') hwg (fun e he=>by simp at he) (.done rfl rfl rfl rfl cE) (by rw[qn];rfl) (fun h=>by omega) (by omega) (fun tag' ht _=>fZ (by have:=hmode.same (i:=i) m' 0;simpa only[bJ,WX.wd,cg]using this) ht) (fun e=>absurd e (nr (by omega))) (.inr ⟨by omega,by omega⟩)
 generalize uF:(D i).st=s at hs;generalize hsfu:(D i).fu=m at hs;generalize nQ:(D i).df=dd at hs;have bk2:∀e∈#[rd (stA H.Wg),wr (stA H.Wg)],Bk H.Wg e:=by intro e he;simp at he;rcases he with rfl|rfl<;>exact bk_cell _ _ rfl
 have df2:∀jx e,(#[rd (stA H.Wg),wr (stA H.Wg)]:Array Event)[jx]? =some e->(MemAct.ofEvent e).touch? =none\/0<deafBehind 1 ((#[rd (stA H.Wg),wr (stA H.Wg)]:Array Event).extract 0 jx):=by
  intro jx e he;match jx,he with
  |0,_=>exact .inr (by simp[deafBehind])
  |1,_=>exact .inr (by simp[deafBehind,rd])
  |jx+2,he=>simp at he
 cases hs with
 |r0 h=>omega
 |k1 h=>
  rcases Goes.cases h with bk|⟨m',rfl,aq⟩
  .obtain⟨_,g',hgo,m₂,hk⟩:=bk w (RW.refl w);exact book (by omega) hgo (.refl _ w) hwg (by intro e he;simp at he;subst he;exact .inl rfl) (by intro jx e he;exact .inl (by have:=Array.mem_of_getElem? he;simp at this;subst this;rfl)) (.d1 hk) (by rw[nQ];rfl) (by omega)
    (fun tag' ht _=>fZ (hmode.counted hi (show 5<=(D i).st by omega) (.inr rfl) _ _) ht) (fun e=>absurd e (nr (by omega))) (.inl ⟨by omega,by simp[ConcN.cnt,WX.wd,uF]⟩)
  .obtain⟨g',w',es,hgo,⟨rfl,rfl⟩,cE⟩:=aq w (RW.refl w);exact idle (by omega) (by omega) hgo (by rw[uF,nQ];exact .k1 cE) (by omega)
 |d1 h=>
  rcases Goes.cases h with bk|⟨m',rfl,aq⟩
  .obtain⟨_,cG⟩:=bk w (RW.refl w);have dr:ConcN.cnt (bJ D i)=1:=by simp[ConcN.cnt,bJ,WX.wd,uF]
   have hV1:1<=Vc j (bJ D):=by have:=le_sumTo (f:=fun x=>ConcN.cnt (bJ D x)) hi;simp only[Vc];omega
   have p_:∀q,ConcN.cnt (⟨1,q,1⟩:WD)=0:=fun _=>rfl;have opq:∀q,OpenSt j (bJ D)->OpenSt j (upd (bJ D) i ⟨1,q,1⟩):=fun q h a ha=>by
    by_cases e:a=i
    .subst e;rw[upd_same];simp
    .rw[upd_ne (bJ D) _ e];exact h a ha
   have lt1:∀q,(1<(D i).st/\ConcN.cnt (⟨1,q,1⟩:WD)<=ConcN.cnt (D i).wd):=fun q=>⟨by omega,by rw[p_];omega⟩;generalize Dd:tag.c=tc at hmode;cases hmode with
   |opn h1 h2 h3=>
    obtain⟨v,hv⟩:∃v,Vc j (bJ D)+pend tc=v+1:=⟨Vc j (bJ D)+pend tc-1,by omega⟩;rw[Dd]at hb;rw[hv]at hwg;have dm:WgAt H.ty H.Wg w (((v:Nat)+1)*KK+((0:Nat):Int)) 0:=by simpa using hwg
    obtain⟨g',hgo,_,hq⟩:=cG v 0 (by omega) (by omega) dm;obtain⟨q',hq⟩:=hq (by omega);have rN:Vc j (upd (bJ D) i ⟨1,q',1⟩)+pend tc=v:=by have:=Vc_upd (bJ D) (⟨1,q',1⟩:WD) hi;have:=p_ q';omega
    refine book (by omega) hgo (aside_setCell w (stA H.Wg) _) (hwg.setSt _) bk2 (by rw[nQ];exact df2) (.quit hq) (by rw[nQ];rfl) (by omega) (fun tag' ht _=>fZ ?_ ht) (fun e=>absurd e (nr (by omega))) (.inl (lt1 _));rw[Dd];have e:((v:Nat):Int)*KK+((0:Nat):Int)=((Vc j (upd (bJ D) i ⟨1,q',1⟩)+pend tc:Nat):Int)*KK:=by rw[rN];simp
    rw[e];exact .opn h1 (opq q' h2) (fun vs ev=>by have:=h3 vs ev;omega)
   |reg h1 h2 h3=>
    obtain⟨v,hv⟩:∃v,Vc j (bJ D)=v+1:=⟨Vc j (bJ D)-1,by omega⟩;rw[Dd]at hb;rw[hv]at hwg;have dm:WgAt H.ty H.Wg w (((v:Nat)+1)*KK+((1:Nat):Int)) 0:=by simpa using hwg
    obtain⟨g',hgo,hl,hq⟩:=cG v 1 (by omega) (by omega) dm;by_cases vn:v=0
    .subst vn;obtain⟨m₂,hk⟩:=hl ⟨rfl,rfl⟩;refine book (by omega) hgo (aside_setCell w (stA H.Wg) _) (hwg.setSt _) bk2 (by rw[nQ];exact df2) (.d2 hk) (by rw[nQ];rfl) (by omega) (fun tag' ht _=>fZ ?_ ht) (fun e=>absurd e (nr (by omega))) (.inl ⟨by omega,by simp[ConcN.cnt]⟩);rw[Dd];have mh:∀a,a<j->a≠i->(bJ D a).stage=1:=fun a ha e=>by
      have c0:=others_uncounted hi hv dr a ha e;have:=h2 a ha;simp only[ConcN.cnt]at c0;split at c0<;>omega
     have:=ConcN.Mode.last (j:=j) (D:=upd (bJ D) i ⟨4,m₂,1⟩) (tag:=tc) i h1 hi (by rw[upd_same];simp) (fun a ha e=>by rw[upd_ne (bJ D) _ e];exact mh a ha e);rw[upd_same]at this;simpa using this
    .obtain⟨q',hq⟩:=hq (by omega);have rN:Vc j (upd (bJ D) i ⟨1,q',1⟩)=v:=by have:=Vc_upd (bJ D) (⟨1,q',1⟩:WD) hi;have:=p_ q';omega
     refine book (by omega) hgo (aside_setCell w (stA H.Wg) _) (hwg.setSt _) bk2 (by rw[nQ];exact df2) (.quit hq) (by rw[nQ];rfl) (by omega) (fun tag' ht _=>fZ ?_ ht) (fun e=>absurd e (nr (by omega))) (.inl (lt1 _));rw[Dd];have e:((v:Nat):Int)*KK+((1:Nat):Int)=((Vc j (upd (bJ D) i ⟨1,q',1⟩):Nat):Int)*KK+1:=by rw[rN];simp
     rw[e];exact .reg h1 (opq q' h2) (by omega)
   |last L _ h2 h3 h4=>
    have mw:(bJ D i).stage=5:=uF;by_cases e:i=L
    .subst e;omega
    .have:=h4 i hi e;omega
   |sema h2=>have:=h2 i hi;have mw:(bJ D i).stage=5:=uF;omega
   |fin _ h2=>have:=h2 i hi;have mw:(bJ D i).stage=5:=uF;omega
  .obtain⟨g',w',es,hgo,⟨rfl,rfl⟩,cE⟩:=aq w (RW.refl w);exact idle (by omega) (by omega) hgo (by rw[uF,nQ];exact .d1 cE) (by omega)
 |d2 h=>
  rcases Goes.cases h with bk|⟨m',rfl,aq⟩
  .obtain⟨_,hx⟩:=bk w (RW.refl w);have mw:(bJ D i).stage=4:=uF;obtain⟨uk,mh,rfl,rfl⟩:=hmode.isLast hi (by omega);simp only[mw]at hwg;obtain⟨g',hgo,m₂,hk⟩:=hx (by simpa using hwg);refine book (by omega) hgo (.refl _ w) hwg (by intro e he;simp at he;subst he;exact bk_cell _ _ rfl) (by rw[nQ];intro jx e he;match jx,he with|0,_=>exact .inr (by simp[deafBehind])|jx+1,he=>simp at he) (.d3 hk) (by rw[nQ];rfl) (by omega) (fun tag' ht _=>fZ ?_ ht) (fun e=>absurd e (nr (by omega))) (.inl ⟨by omega,by simp[ConcN.cnt]⟩);have:=ConcN.Mode.last (j:=j) (D:=upd (bJ D) i ⟨3,m₂,1⟩) (tag:=tag.c) i uk hi (by rw[upd_same];simp) (fun a ha e=>by rw[upd_ne (bJ D) _ e];exact mh a ha e);rw[upd_same]at this;simpa using this
  .obtain⟨g',w',es,hgo,⟨rfl,rfl⟩,cE⟩:=aq w (RW.refl w);exact idle (by omega) (by omega) hgo (by rw[uF,nQ];exact .d2 cE) (by omega)
 |d3 h=>
  rcases Goes.cases h with bk|⟨m',rfl,aq⟩
  .obtain⟨_,hx⟩:=bk w (RW.refl w);have mw:(bJ D i).stage=3:=uF;obtain⟨uk,mh,rfl,rfl⟩:=hmode.isLast hi (by omega);simp only[mw]at hwg;obtain⟨g',hgo,m₂,hk⟩:=hx (by simpa using hwg);refine book (by omega) hgo (aside_setCell w (stA H.Wg) _) (hwg.setSt 0) (by intro e he;simp at he;subst he;exact bk_cell _ _ rfl) (by rw[nQ];intro jx e he;match jx,he with|0,_=>exact .inr (by simp[deafBehind])|jx+1,he=>simp at he) (.d4 hk) (by rw[nQ];rfl) (by omega) (fun tag' ht _=>fZ ?_ ht) (fun e=>absurd e (nr (by omega))) (.inl ⟨by omega,by simp[ConcN.cnt]⟩);have:=ConcN.Mode.last (j:=j) (D:=upd (bJ D) i ⟨2,m₂,1⟩) (tag:=tag.c) i uk hi (by rw[upd_same];simp) (fun a ha e=>by rw[upd_ne (bJ D) _ e];exact mh a ha e);rw[upd_same]at this;simpa using this
  .obtain⟨g',w',es,hgo,⟨rfl,rfl⟩,cE⟩:=aq w (RW.refl w);exact idle (by omega) (by omega) hgo (by rw[uF,nQ];exact .d3 cE) (by omega)
 |d4 h=>
  rcases Goes.cases h with bk|⟨m',rfl,aq⟩
  .obtain⟨_,vy,hx⟩:=bk w (RW.refl w);have mw:(bJ D i).stage=2:=uF;obtain⟨uk,mh,rfl,rfl⟩:=hmode.isLast hi (by omega);simp only[mw]at hwg;obtain⟨g',hgo,q',hq⟩:=hx (by simpa using hwg);have fX:g'.status= .running:=by
    cases q' with
    |zero=>exact absurd hq.2 (by decide)
    |succ q=>exact hq.elim (fun x=>absurd x.2 (by decide)) (fun x=>x.1)
   refine book (by omega) hgo (aside_setCell w (smA H.Wg) _) (hwg.setSm 1) (es:=semEvents (smA H.Wg)) ?_ ?_ (.quit hq) (by rw[nQ];simp[deafBehind,semEvents]) (by omega) ?_ (fun e=>absurd e (nr (by omega))) (.inl ⟨by omega,by simp[ConcN.cnt]⟩)
   .intro e he;simp[semEvents]at he;rcases he with rfl|rfl|rfl|rfl
    .exact .inl rfl
    iterate 2 (·exact bk_cell _ _ rfl)
    .exact .inr (.inl rfl)
   .intro jx e he;rw[nQ];match jx,he with
    |0,he=>simp[semEvents]at he;subst he;exact .inl rfl
    |1,_=>exact .inr (by simp[deafBehind,semEvents])
    |2,_=>exact .inr (by simp[deafBehind,semEvents])
    |3,he=>simp[semEvents]at he;subst he;exact .inl rfl
    |jx+4,he=>simp[semEvents]at he
   .intro tag' ht hw;have Mw:=hw vy fX;have cG:AllQuit j (upd (bJ D) i ⟨1,q',1⟩):=fun a ha=>by
     by_cases e:a=i
     .subst e;rw[upd_same]
     .rw[upd_ne (bJ D) _ e];exact mh a ha e
    have e3:tag'.c= .w3:=by
     rcases ht with rfl|⟨_,rfl⟩
     .cases tag' with
      |sp r s=>exact uk.elim
      |col k b=>exact uk.elim
      |cl=>exact uk.elim
      |wm=>rfl
      |wt c=>cases c<;>first|rfl|exact uk.elim|exact absurd rfl Mw
     .rfl
    rw[e3];simp only[if_true];exact .sema cG
  .obtain⟨g',w',es,hgo,⟨rfl,rfl⟩,cE⟩:=aq w (RW.refl w);exact idle (by omega) (by omega) hgo (by rw[uF,nQ];exact .d4 cE) (by omega)
 |quit h=>
  cases m with
  |zero=>rw[h.1]at ag;cases ag
  |succ q'=>
   rcases h with⟨hf,_⟩|⟨_,g',es,vb,aq,hq⟩
   .rw[hf]at ag;cases ag
   .have fh:∀e∈es,Bk H.Wg e:=fun e he=>bk_of_mute (vb e he);have gA:∀jx e,es[jx]? =some e->(MemAct.ofEvent e).touch? =none\/0<deafBehind (D i).df (es.extract 0 jx):=fun jx e he=>.inl (touch_mute (vb e (Array.mem_of_getElem? he)));refine book (by omega) (aq w) (.refl _ w) hwg fh gA (.quit hq) (by rw[nQ]) (by omega) (fun tag' ht _=>fZ (by have:=hmode.same (i:=i) q' (deafBehind dd es);simpa only[bJ,WX.wd,uF]using this) ht) (fun e=>?_) (.inr ⟨by omega,by omega⟩);obtain⟨p,k1,k2,k3,k4⟩:=hacq e;have hp:=lt_of_act? k1;refine⟨p,by rw[act?_old hp];exact k1,by rw[g?_old hp];exact k2,(heard_old hp).2 k3,fun i' bh=>?_⟩;obtain⟨r,hr,Mp⟩:=k4 i' bh;by_cases e':i'=i
    .subst e';exact⟨r,hr.book Sq _ _ fh gA,Mp⟩
    .exact⟨r,hr.appOther g_of_ofEvents (by omega),Mp⟩
theorem ZJ(O:oJ H)(hA:oK H.P H.o j gs a x q t)(hS:SS H j mine got Y tag f0 d0 a w)(hW:∀i,i<j->WS H i (D i) (x i) w)(aC:Sets H j D mine w.heap.size)(hT:qP H j D d0 w.heap.size t)(hF:Fl H j D tag got Y closed mine w)
  (hCH:CH H closed w)(hwg:WgAt H.ty H.Wg w st sm)(hmode:ConcN.Mode j (bJ D) tag.c st sm)(hacq:tag= .wt .ret->yg H j t){i:Nat}(hi:i<j)(ag:(x i).status= .running):
  ∃m₁ ops μ',runT H.P (crowd gs w sl) (H.o+i)=(.next m₁,ops)/\LL H.N μ' (meas H j D tag f0 q)/\Inv H μ' m₁ (t++ops):=by
 have qf:∀{d:WX},(D i).wd=⟨7,0,0⟩->d=D i->tag≠.wt .ret:=fun h _ e=>by
  subst e;exact hmode.not_ret hi (show(bJ D i).stage≠1 by simp only[bJ,h];decide) rfl
 cases hW i hi with
 |born n gB rk h1 h2 h3 h0 h4 h5 h6=>
  cases n with
  |zero=>
   have e:x i=gB:=h4;exact Hw O hA hS hW aC hT hF hCH hwg hmode hi (.inr h1) h3 (e▸h5) h6
  |succ n=>
   obtain⟨_,g1,hgo,yn⟩:=h4;obtain⟨cg,Nd,qn⟩:=Zt h3;have dC:g1.status= .running:=by
    cases n with
    |zero=>
     obtain⟨ρ,p,f,fs,f',fs',e,_⟩:=h5;rw[show g1=gB from yn,e];exact qm _ _ _
    |succ n=>exact yn.1
   refine goW O.ar hA hS hW aC hF hi (d':= {D i with rk:=.ofNat n}) (hgo w) (.refl w) (fun _ _ _=>.refl w) (.born n gB rk h1 rfl h3 dC yn h5 h6) (yu (i:=i) (d':= {D i with rk:=.ofNat n}) (w':=w) aC rfl rfl rfl (Nat.le_refl _)) ?_ (fun h=>hF.gu i hi h) (fun v hv=>by have:=(hF.some i v hv).2.1;omega) (fun _ _=>by simp only;omega) (by simp only;omega) hCH hwg
    (fun tag' ht _=>fZ (by have:=hmode.same (i:=i) (D i).fu (D i).df;exact this) ht) (fun e=>absurd e (qf h3 rfl)) (.inr ⟨rfl,rfl,by rw[h2];exact Rk.ofNat_lt n⟩)
   rw[mK,Array.append_empty];exact hT.upd rfl rfl rfl (fun h=>h)
 |tree h1 h2 h3 h4=>exact Hw O hA hS hW aC hT hF hCH hwg hmode hi (.inl ⟨h1,rfl⟩) h2 h3 h4
 |sel v z0 z1 bj off h1 h2 h3 h4 h5 h6=>exact NJ O hA hS hW aC hT hF hCH hwg hmode hi (by omega) h2 h3 h4 h5 h6
 |uh v z0 z1 bj h1 h2 h3 h4 h5 h6=>rw[h3]at ag;cases ag
 |done h1 h2 h3 h4 h5=>exact NK O hA hS hW aC hT hF hCH hwg hmode hacq hi ag (.inl ⟨h1,h2,h3,h4,h5⟩)
 |lib h1 h2 h3 h4=>exact NK O hA hS hW aC hT hF hCH hwg hmode hacq hi ag (.inr ⟨h1,h2,h3,h4⟩)
end
end
section
open Go.Conc Go.ConcN Go.bn Go.Ren
open Go.ConcR (KK wgBlock WgAt stA smA rd wr mk Payload Aside2 DC0 Bk g_of_ofEvents again_blocked bk_of_mute ofEvent_loc_mark ofEvent_cell ofEvent_mk)
variable{Wg B:Nat}
def b_.kin:b_->Nat
 | .sp _ _=>0
 | .col _ _=>1
 | .cl=>2
 | .wm=>3
 | .wt _=>3
def RV(Wg B:Nat)(e:Event):Prop:=(∀y,(MemAct.ofEvent e).touch? =some y->V7 Wg y.loc/\(y.kind= .atomic\/y.kind= .said))/\(MemAct.ofEvent e).low B/\e.loc≠.mark (.release (stA Wg))
theorem GEv.zero{e:Event}(h:GEv Wg B e):RV Wg B e:=⟨fun y hy=>⟨(h.1 y hy).1,.inl (h.1 y hy).2⟩,h.2⟩
theorem aO.mono{H:Ph}{Stop Stop':(Nat->Prop)->Goroutine->World->Prop}(hs:∀m g w,Stop m g w->Stop' m g w):∀{n:Nat} {mine:Nat->Prop} {g:Goroutine} {w:World},aO H Stop n mine g w->aO H Stop' n mine g w
 |0,_,_,_,h=>fun af aa=>hs _ _ _ (h af aa)
 |_+1,_,_,_,h=>h.imp (fun x af aa=>hs _ _ _ (x af aa)) fun x=>⟨x.1,fun af aa=>let⟨g',w',es,bH,h1,h2,h3⟩:=x.2 af aa;⟨g',w',es,bH,h1,h2,aO.mono hs h3⟩⟩
theorem ll_le{n:Nat}{J a b:Ms}(h:LL n J a)(j':a.1.1<b.1.1):LL n J b:=by
 obtain⟨⟨u,v⟩,k⟩:=J;obtain⟨⟨a1,a2⟩,a3⟩:=a;refine jc ?_;simp only at j'⊢;rcases Prod.lex_def.1 h with h1|⟨h1,_⟩
 .rcases h1 with h1|⟨h1,_⟩<;>simp only at h1<;>omega
 .simp only[Prod.mk.injEq]at h1;omega
section
variable [Payload] {H:Ph} {j:Nat} {D:Nat->WX} {mine bH:Nat->Prop} {got:Nat->Option Value} {Y:Goroutine} {closed:Bool} {tag tag':b_} {f0 f' d0:Nat} {gs:Array Goroutine} {w w':World} {sl:Option (Nat×Nat)} {t:Trace} {a a':Goroutine} {x:Nat->Goroutine} {q:Nat->Nat} {st sm st' sm':Int} {es:Array Event}
def Moves(H:Ph)(gs:Array Goroutine)(w:World)(sl:Option (Nat×Nat))(t:Trace)(c:Nat)(J:Ms):Prop:=∃m₁ ops μ',runT H.P (crowd gs w sl) c=(.next m₁,ops)/\LL H.N μ' J/\Inv H μ' m₁ (t++ops)
theorem Moves.le{c:Nat}{J μ':Ms}(h:Moves H gs w sl t c J)(hl:J.1.1<μ'.1.1):Moves H gs w sl t c μ':=by
 obtain⟨m₁,ops,μ1,h1,h2,h3⟩:=h;exact⟨m₁,ops,μ1,h1,ll_le h2 hl,h3⟩
omit [Payload]in
theorem Fl.to(hF:Fl H j D tag got Y closed mine w)(hk:tag'.kin=tag.kin)(Vg:tag.kin=0\/tag.kin=3)(hr:mP H.ty H.Wg (nY H mine) w w')(ho:∀i c,i<j->(D i).ow c->w'.heap[c]? =w.heap[c]?):Fl H j D tag' got Y closed mine w':=by
 have hl:tag'.late=tag.late:=by
  cases tag<;>cases tag'<;>simp[b_.kin]at hk Vg<;>rfl
 refine⟨hF.jN,hF.gu,fun hc=>hF.np (hl▸hc),fun i v hv=>?_,hF.none,fun k b e=>?_,fun r s e=>?_,fun c e=>?_,fun e=>?_⟩
 .obtain⟨h1,h2,h3⟩:=hF.some i v hv;exact⟨h1,h2,h3.rely fun c hc _=>ho i c h1 hc⟩
 .subst e;have h1:1=tag.kin:=hk;omega
 .subst e;cases tag with
  |sp r' s'=>exact hF.sp r' s' rfl
  |_=>simp[b_.kin]at hk
 .have:∃c,tag= .wt c\/tag= .wm:=by
   cases tag with
   |wm=>exact⟨.kd,.inr rfl⟩
   |wt c=>exact⟨c,.inl rfl⟩
   |_=>rcases e with rfl|rfl<;>simp[b_.kin]at hk
  obtain⟨c',e'⟩:=this;obtain⟨ok,h1,h2,h3⟩:=hF.wt c' e';exact⟨ok,h1,h2,h3.rely hr⟩
 .subst e;have h1:2=tag.kin:=hk;omega
theorem book0(hA:oK H.P H.o j gs a x q t)(hW:∀i,i<j->WS H i (D i) (x i) w)(aC:Sets H j D mine w.heap.size)(hT:qP H j D d0 w.heap.size t)(hF:Fl H j D tag got Y closed mine w)(hCH:CH H closed w)
  (hgo:stepG H.P true a w= .go a' w' es)(eV:Aside H.Wg w w')(eK:WgAt H.ty H.Wg w' st' sm')(dt:∀e∈es,RV H.Wg w.heap.size e)(sG:SS H j mine got Y tag' f' (deafBehind d0 es) a' w')(hk:tag'.kin=tag.kin)(Vg:tag.kin=0\/tag.kin=3)
  (hmode:ConcN.Mode j (bJ D) tag'.c st' sm')(hacq:tag'= .wt .ret->yg H j (t++MemOp.ofEvents 0 a.frame.fn a.frame.place es))
  (ai:dA H.N (Vc j (bJ D)) tag'<dA H.N (Vc j (bJ D)) tag\/(dA H.N (Vc j (bJ D)) tag'=dA H.N (Vc j (bJ D)) tag/\f'<f0)):Moves H gs w sl t 0 (meas H j D tag f0 q):=by
 obtain⟨pH,ox,QM,n1,n2,n3⟩:=aC.Ab;obtain⟨⟨sR,rR,yT,hR⟩,⟨sD,rD,vw,hD⟩,qN⟩:=hCH;have ff:mP H.ty H.Wg (nY H mine) w w':=vH eV eK fun h=>h.elim (fun h=>(aC.iZ _ h).2.1 rfl) fun h=>(aC.mspec _ h).2.1 rfl;have pw:∀i,i<j->mP H.ty H.Wg (D i).vs w w':=fun i hi=>vH eV eK fun h=>(aC.gV i _ hi h).2.1 rfl;have sE:TI H.Shun (Nn H.o j) (Em H.o j D) (Ej H.o j D) H.Wg w.heap.size (t++MemOp.ofEvents 0 a.frame.fn a.frame.place es):=by
  refine hT.ti.group (aC.sep hA.pos) (g:=0) g_of_ofEvents (fun op a_=>?_) (fun op a_ y hy=>?_)
  .obtain⟨e,he,rfl⟩:=Go.Conc.mem_ofEvents a_;exact(dt e he).2.1
  .obtain⟨e,he,rfl⟩:=Go.Conc.mem_ofEvents a_;exact⟨((dt e he).1 y hy).1,((dt e he).1 y hy).2.imp id fun h=>⟨h,rfl⟩⟩
 exact go0 hA hW aC hgo pw (by rw[eV.size];exact aC) (by rw[eV.size];exact hT.app0 hA.pos sE fun e he=>(dt e he).2.2) sG (hF.to hk Vg ff fun i c hi hc=>(pw i hi).row c (aC.ov i c hi hc)) (fun hc=>hF.np (.inl hc))
  ⟨⟨sR,rR,yT,(eV.block _ (Ne.symm n1)).trans hR⟩,⟨sD,rD,vw,(eV.block _ (Ne.symm n2)).trans hD⟩,qN.rely ff fun b hb _=>eV.block b (qN.2.2 b hb).1.1⟩ eK hmode hacq ai
theorem idle0(hA:oK H.P H.o j gs a x q t)(hW:∀i,i<j->WS H i (D i) (x i) w)(aC:Sets H j D mine w.heap.size)(hT:qP H j D d0 w.heap.size t)(hF:Fl H j D tag got Y closed mine w)(hCH:CH H closed w)(hwg:WgAt H.ty H.Wg w st sm)(hmode:ConcN.Mode j (bJ D) tag.c st sm)(hacq:tag= .wt .ret->yg H j t)
  (hgo:stepG H.P true a w= .go a' w #[])(sG:SS H j mine got Y tag f' d0 a' w)(Vg:tag.kin=0\/tag.kin=3)(ai:f'<f0):Moves H gs w sl t 0 (meas H j D tag f0 q):=
 book0 (f':=f') hA hW aC hT hF hCH hgo (.refl _ w) hwg (fun e he=>by simp at he) sG rfl Vg hmode (fun e=>by rw[mK,Array.append_empty];exact hacq e) (.inr ⟨rfl,ai⟩)
theorem plain0(hA:oK H.P H.o j gs a x q t)(hW:∀i,i<j->WS H i (D i) (x i) w)(aC:Sets H j D mine w.heap.size)(hT:qP H j D 0 w.heap.size t)(hF:Fl H j D tag got Y closed mine w)(hCH:CH H closed w)(hwg:WgAt H.ty H.Wg w st sm)(hmode:ConcN.Mode j (bJ D) tag.c st sm)
  (hgo:stepG H.P true a w= .go a' w' es)(cg:JU H mine bH w w' es)(sG:SS H j bH got Y tag f' 0 a' w')(h3:tag.kin≠3)(ai:f'<f0):Moves H gs w sl t 0 (meas H j D tag f0 q):=by
 obtain⟨pH,ox,QM,n1,n2,n3⟩:=aC.Ab;obtain⟨⟨sR,rR,yT,hR⟩,⟨sD,rD,vw,hD⟩,qN⟩:=hCH;have kO:∀c,c=H.Wg\/c=H.R\/c=H.Dn->w'.heap[c]? =w.heap[c]? :=by
  intro c hc;refine cg.row c (by rcases hc with rfl|rfl|rfl<;>assumption) fun hm=>?_;have:=aC.mspec c hm;rcases hc with rfl|rfl|rfl
  .exact this.2.1 rfl
  .exact this.2.2.1 rfl
  .exact this.2.2.2.1 rfl
 have eK:WgAt H.ty H.Wg w' st sm:=(kO _ (.inl rfl)).trans hwg;have pw:∀i,i<j->mP H.ty H.Wg (D i).vs w w':=fun i hi=>⟨cg.size,fun b hb=>cg.row b (aC.gV i b hi hb).1 (aC.vm i b hi hb),fun _=>⟨st,sm,eK⟩,cg.tape,cg.os,cg.output,cg.nv⟩;have up:∀{b:Nat} {X:Prop},(b<w.heap.size/\X)->(b<w'.heap.size/\X):=fun x=>⟨Nat.lt_of_lt_of_le x.1 cg.size,x.2⟩;have cV:Sets H j D bH w'.heap.size:=by
  refine⟨fun b hb=>up (aC.iZ b hb),fun b hb=>?_,fun b hb ho=>?_,fun i b hi hb=>up (aC.gV i b hi hb),aC.ov,fun i b hi hb hm=>?_,aC.om,aC.apart,aC.cv,aC.cold,aC.co,aC.cap,⟨Nat.lt_of_lt_of_le pH cg.size,Nat.lt_of_lt_of_le ox cg.size,Nat.lt_of_lt_of_le QM cg.size,n1,n2,n3⟩,fun b k hb=>aC.fresh b k (Nat.le_trans cg.size hb)⟩
  .rcases cg.new b hb with h|⟨h1,h2⟩
   .exact up (aC.mspec b h)
   .exact⟨h2,by omega,by omega,by omega,fun k=>aC.fresh b k h1⟩
  .rcases cg.new b hb with h|⟨h1,h2⟩
   .exact aC.Qv b h ho
   .have:=(aC.iZ b ho).1;omega
  .rcases cg.new b hm with h|⟨h1,h2⟩
   .exact aC.vm i b hi hb h
   .have:=(aC.gV i b hi hb).1;omega
 have dt:∀e∈es,(MemAct.ofEvent e).low w'.heap.size/\e.loc≠.mark .disable/\e.loc≠.mark .enable/\(∀a,e.loc≠.mark (.release a))/\∀y,(MemAct.ofEvent e).touch? =some y->∃c i,y.loc= .cell ⟨c,i,none⟩/\y.kind= .plain/\(H.old c\/bH c)/\(y.write=true->bH c):=by
  intro e he;rcases cg.evs e he with⟨c,i,wr,rfl,h1,h2⟩|rfl|⟨f,rfl⟩
  .refine⟨?_,by simp,by simp,by simp,fun y hy=>?_⟩
   .show c<w'.heap.size;exact h1.elim (fun h=>(cV.iZ c h).1) fun h=>(cV.mspec c h).1
   .simp only[MemAct.ofEvent,MemAct.touch?,Option.some.injEq]at hy;subst hy;exact⟨c,i,rfl,rfl,h1,h2⟩
  iterate 2 (·exact⟨trivial,by simp,by simp,by simp,fun y hy=>by simp[MemAct.ofEvent,MemAct.touch?]at hy⟩)
 have hd0:deafBehind 0 es=0:=deafBehind_still (fun e he=>⟨(dt e he).2.1,(dt e he).2.2.1⟩) 0;have sE:TI H.Shun (Nn H.o j) (Em H.o j D) (Ej H.o j D) H.Wg w'.heap.size (t++MemOp.ofEvents 0 a.frame.fn a.frame.place es):=by
  refine(hT.ti.grow (fun _ _ _ h=>.inl h) (fun _ _ _ h=>.inl h) (fun _ _ h=>h) (fun _ _ h=>h) cg.size).lead g_of_ofEvents (fun op a_=>?_) (fun op a_ y hy=>?_)
  .obtain⟨e,he,rfl⟩:=Go.Conc.mem_ofEvents a_;exact(dt e he).1
  .obtain⟨e,he,rfl⟩:=Go.Conc.mem_ofEvents a_;obtain⟨c,i,h1,h2,h3,h4⟩:=(dt e he).2.2.2.2 y hy;refine⟨c,i,h1,h2,?_,?_,fun k _ ⟨i',bh,_,ho⟩=>?_,fun hw k _ ⟨i',bh,_,hv⟩=>cV.vm i' c bh hv (h4 hw)⟩
   .exact h3.elim (fun h=>(cV.iZ c h).2.1) fun h=>(cV.mspec c h).2.1
   .rw[h1];exact h3.elim (fun h=>(cV.iZ c h).2.2.2.2 i) fun h=>(cV.mspec c h).2.2.2.2 i
   .exact h3.elim (cV.om i' c bh ho) (cV.vm i' c bh (cV.ov i' c bh ho))
 refine go0 (d0:=0) (Ze:=f') hA hW aC hgo pw cV (hT.app0 hA.pos sE fun e he=>(dt e he).2.2.2.1 _) (by rw[hd0];exact sG) ?_ (fun hc=>hF.np (.inl hc)) ⟨⟨sR,rR,yT,(kO _ (.inr (.inl rfl))).trans hR⟩,⟨sD,rD,vw,(kO _ (.inr (.inr rfl))).trans hD⟩,⟨⟨fun b hb=>(cg.row b (aC.iZ b hb).1 fun hm=>aC.Qv b hm hb).trans (qN.1.1 b hb),cg.os.trans qN.1.2.1,cg.output.trans qN.1.2.2⟩,cg.nv qN.2.1,fun b hb=>⟨(qN.2.2 b hb).1,by
   obtain⟨o,h1,h2⟩:=(qN.2.2 b hb).2;exact⟨o,h1,(cg.row b (Array.getElem?_eq_some_iff.1 h2).1 fun hm=>(aC.mspec b hm).2.2.2.2 0 (qN.2.2 b hb).1.2.2.2).trans h2⟩⟩⟩⟩ eK hmode (fun e=>by subst e;exact absurd rfl h3) (.inr ⟨rfl,ai⟩)
 refine⟨hF.jN,hF.gu,hF.np,fun i v hv=>?_,hF.none,hF.cnt,hF.sp,fun c e=>?_,hF.cl⟩
 .obtain⟨h1,h2,h3⟩:=hF.some i v hv;exact⟨h1,h2,h3.rely fun c hc _=>(pw i h1).row c (aC.ov i c h1 hc)⟩
 .rcases e with rfl|rfl<;>exact absurd rfl h3
structure Now(H:Ph)(j:Nat)(D:Nat->WX)(mine:Nat->Prop)(got:Nat->Option Value)(Y:Goroutine)(closed:Bool)(tag:b_)(d0:Nat)(gs:Array Goroutine)(w:World)(t:Trace)(a:Goroutine)(x:Nat->Goroutine)(q:Nat->Nat)(st sm:Int):Prop where
 hA:oK H.P H.o j gs a x q t
 hW:∀i,i<j->WS H i (D i) (x i) w
 aC:Sets H j D mine w.heap.size
 hT:qP H j D d0 w.heap.size t
 hF:Fl H j D tag got Y closed mine w
 hCH:CH H closed w
 hwg:WgAt H.ty H.Wg w st sm
 hmode:ConcN.Mode j (bJ D) tag.c st sm
 hacq:tag= .wt .ret->yg H j t
theorem Now.to(h:Now H j D mine got Y closed tag d0 gs w t a x q st sm)(hk:tag'.kin=tag.kin)(Vg:tag.kin=0\/tag.kin=3)(hm:ConcN.Mode j (bJ D) tag'.c st sm)(hr:tag'≠.wt .ret):Now H j D mine got Y closed tag' d0 gs w t a x q st sm:=
 ⟨h.hA,h.hW,h.aC,h.hT,h.hF.to hk Vg (.refl w) fun _ _ _ _=>rfl,h.hCH,h.hwg,hm,fun e=>absurd e hr⟩
omit [Payload]in
theorem reopen{tag tag':b_}(hm:ConcN.Mode j (bJ D) tag.c st sm)(h:isOpen tag.c)(h':isOpen tag'.c)(hp:pend tag'.c=pend tag.c)(hw:∀vs,tag'.c≠.w2 vs):ConcN.Mode j (bJ D) tag'.c st sm:=hm.reopen h h' hp fun vs e=>absurd e (hw vs)
omit [Payload]in
theorem uJ{m:Mark}(h:m= .disable\/m= .enable):∀e∈#[mk m],RV Wg B e:=by
 intro e he;simp at he;subst he;rcases h with rfl|rfl
 iterate 2 (·exact⟨fun y hy=>by simp[mk,MemAct.ofEvent,MemAct.touch?]at hy,trivial,by simp[mk]⟩)
omit [Payload]in
theorem Jp{m:Mark}(h:m= .read (smA Wg)\/m= .write (smA Wg))(hB:Wg<B):∀e∈#[mk m],RV Wg B e:=by
 intro e he;simp at he;subst he;rcases h with rfl|rfl
 iterate 2 (·refine⟨fun y hy=>?_,hB,by simp[mk]⟩;simp only[mk,MemAct.ofEvent,MemAct.touch?,Option.some.injEq]at hy;subst hy;exact⟨⟨_,rfl,rfl⟩,.inr rfl⟩)
omit [Payload]in
theorem mg{es:Array Event}(h:∀e∈es,Bk Wg e)(hB:Wg<B):∀e∈es,RV Wg B e:=fun e he=>(Vl (h e he) hB).zero
omit [Payload]in
theorem bk_rw:∀e∈#[rd (stA Wg),wr (stA Wg)],Bk Wg e:=by intro e he;simp at he;rcases he with rfl|rfl<;>exact bk_cell _ _ rfl
omit [Payload]in
theorem bk_rd:∀e∈#[rd (stA Wg)],Bk Wg e:=by intro e he;simp at he;subst he;exact bk_cell _ _ rfl
section
variable (n:Now H j D mine got Y closed tag d0 gs w t a x q st sm)
include n
theorem Oc{r:Nat}(ht:tag= .sp r 0)(hd:d0=0)(e:j+(r+1)=H.N)(h:aO H (AtGo H (H.N-(r+1)) (Wh H r)) f0 mine a w):Moves H gs w sl t 0 (meas H j D tag f0 q):=by
 subst ht;subst hd;have hj:H.N-(r+1)=j:=by omega
 rw[hj]at h;rcases h.cases with bk|⟨n',rfl,ag,g',w',es,bH,hgo,cg,cE⟩
 .obtain⟨ag,g',child,d,bH,kO,xi,qn,pC,vl,gA,pr,hvm,hC,hCm,fg,fL⟩:=bk;have fX:=runT_crowd_spawn (P:=H.P) (sl:=sl) (i:=0) n.hA.z (show stepG H.P (0==0) a w=_ from kO);rw[mK,n.hA.size]at fX;have tz:((#[]:Array MemOp).push {g:=0,fn:=a.frame.fn,pos:=a.frame.place,act:=.go (H.o+j)}).push {g:=H.o+j,fn:=child.frame.fn,pos:=a.frame.place,act:=.start}=#[{g:=0,fn:=a.frame.fn,pos:=a.frame.place,act:=.go (H.o+j)},{g:=H.o+j,fn:=child.frame.fn,pos:=a.frame.place,act:=.start}]:=rfl;rw[tz]at fX;generalize hux:({g:=0,fn:=a.frame.fn,pos:=a.frame.place,act:=.go (H.o+j)}:MemOp)=ux at fX;generalize huy:({g:=H.o+j,fn:=child.frame.fn,pos:=a.frame.place,act:=.start}:MemOp)=uy at fX;have CM:ux.g=0/\ux.act= .go (H.o+j):=by subst hux;exact⟨rfl,rfl⟩
  have Cu:uy.g=H.o+j/\uy.act= .start:=by subst huy;exact⟨rfl,rfl⟩
  have oc:∀op∈#[ux,uy],op=ux\/op=uy:=by intro op a_;simpa using a_
  have Ya:∀op∈#[ux,uy],op.act≠.mark .disable/\op.act≠.mark .enable:=by
   intro op a_;rcases oc op a_ with rfl|rfl
   .rw[CM.2];exact⟨by simp,by simp⟩
   .rw[Cu.2];exact⟨by simp,by simp⟩
  obtain⟨pH,ox,QM,n1,n2,n3⟩:=n.aC.Ab;have eL:=n.hA.pos;have hDj:∀i,i<j->upd D j d i=D i:=fun i hi=>upd_ne D _ (by omega);have MN:∀b,d.vs b->b<w.heap.size/\b≠H.Wg/\b≠H.R/\b≠H.Dn/\∀k,¬H.Shun (.cell ⟨b,k,none⟩):=fun b hb=>(pr b hb).elim (n.aC.iZ b) (n.aC.mspec b);have cV:Sets H (j+1) (upd D j d) bH w.heap.size:=by
   have c:∀i,i<j+1->(i<j/\upd D j d i=D i)\/(i=j/\upd D j d i=d):=fun i hi=>by
    by_cases e:i=j
    .exact .inr ⟨e,by rw[e,upd_same]⟩
    .exact .inl ⟨by omega,upd_ne D _ e⟩
   refine⟨n.aC.iZ,fun b hb=>n.aC.mspec b (fg b hb),fun b hb=>n.aC.Qv b (fg b hb),fun i b hi hb=>?_,fun i b hi hb=>?_,fun i b hi hb hm=>?_,fun i b hi hb=>?_,fun i i' b hi bh bd hb cU=>?_,fun i hi=>?_,fun i hi=>?_,fun i hi=>?_,fun i i' hi bh bd hb=>?_,n.aC.Ab,n.aC.fresh⟩
   .rcases c i hi with⟨h1,h2⟩|⟨h1,h2⟩<;>rw[h2]at hb
    .exact n.aC.gV i b h1 hb
    .exact MN b hb
   .rcases c i hi with⟨h1,h2⟩|⟨h1,h2⟩<;>rw[h2]at hb⊢
    .exact n.aC.ov i b h1 hb
    .exact absurd hb (gA b)
   .rcases c i hi with⟨h1,h2⟩|⟨h1,h2⟩<;>rw[h2]at hb
    .exact n.aC.vm i b h1 hb (fg b hm)
    .exact hvm b hb hm
   .rcases c i hi with⟨h1,h2⟩|⟨h1,h2⟩<;>rw[h2]at hb
    .exact n.aC.om i b h1 hb
    .exact absurd hb (gA b)
   .rcases c i hi with⟨h1,h2⟩|⟨h1,h2⟩<;>rw[h2]at hb
    .rcases c i' bh with⟨h3,h4⟩|⟨h3,h4⟩<;>rw[h4]at cU
     .exact n.aC.apart i i' b h1 h3 bd hb cU
     .exact(pr b cU).elim (n.aC.om i b h1 hb) (n.aC.vm i b h1 (n.aC.ov i b h1 hb))
    .exact absurd hb (gA b)
   .rcases c i hi with⟨h1,h2⟩|⟨h1,h2⟩<;>rw[h2]
    .exact n.aC.cv i h1
    .exact hC
   .rcases c i hi with⟨h1,h2⟩|⟨h1,h2⟩<;>rw[h2]
    .exact n.aC.cold i h1
    .exact n.aC.Qv _ hCm
   .rcases c i hi with⟨h1,h2⟩|⟨h1,h2⟩<;>rw[h2]
    .exact n.aC.co i h1
    .exact gA _
   .rcases c i hi with⟨h1,h2⟩|⟨h1,h2⟩<;>rw[h2]at hb
    .rcases c i' bh with⟨h3,h4⟩|⟨h3,h4⟩<;>rw[h4]at hb
     .exact n.aC.cap i i' h1 h3 bd hb
     .exact(pr _ hb).elim (n.aC.cold i h1) (n.aC.vm i _ h1 (n.aC.cv i h1))
    .rcases c i' bh with⟨h3,h4⟩|⟨h3,h4⟩
     .rw[h4]at hb;exact n.aC.vm i' _ h3 hb hCm
     .exact bd (h1.trans h3.symm)
  have hTI:TI H.Shun (Nn H.o (j+1)) (Em H.o (j+1) (upd D j d)) (Ej H.o (j+1) (upd D j d)) H.Wg w.heap.size (t++ #[ux,uy]):=by
   have:=n.hT.ti.fork (n:=H.o+j) (Sees:=d.vs) CM Cu n.hT.deaf0 (n.hT.rH _ (Nat.le_refl _)) (fun⟨i,hi,e⟩=>by omega) (fun c i hc=>⟨(MN c hc).2.2.2.2 i,(MN c hc).2.1,fun k _ ⟨i',bh,_,ho⟩=>(pr c hc).elim (n.aC.om i' c bh ho) (n.aC.vm i' c bh (n.aC.ov i' c bh ho))⟩);have ew:(fun k=>Nn H.o j k\/k=H.o+j)=Nn H.o (j+1):=by
    funext k;apply propext;constructor
    .rintro(⟨i,hi,rfl⟩|rfl)
     .exact⟨i,by omega,rfl⟩
     .exact⟨j,by omega,rfl⟩
    .rintro⟨i,hi,rfl⟩;by_cases e:i=j
     .exact .inr (by rw[e])
     .exact .inl ⟨i,by omega,rfl⟩
   have eo:(fun k c=>k≠H.o+j/\Em H.o j D k c)=Em H.o (j+1) (upd D j d):=by
    funext k c;apply propext;constructor
    .rintro⟨_,i,hi,rfl,h⟩;exact⟨i,by omega,rfl,by rw[hDj i hi];exact h⟩
    .rintro⟨i,hi,rfl,h⟩;by_cases e:i=j
     .subst e;rw[upd_same]at h;exact absurd h (gA c)
     .rw[upd_ne D _ e]at h;exact⟨by omega,i,by omega,rfl,h⟩
   have ev:(fun k c=>(k≠H.o+j/\Ej H.o j D k c)\/(k=H.o+j/\d.vs c))=Ej H.o (j+1) (upd D j d):=by
    funext k c;apply propext;constructor
    .rintro(⟨_,i,hi,rfl,h⟩|⟨rfl,h⟩)
     .exact⟨i,by omega,rfl,by rw[hDj i hi];exact h⟩
     .exact⟨j,by omega,rfl,by rw[upd_same];exact h⟩
    .rintro⟨i,hi,rfl,h⟩;by_cases e:i=j
     .subst e;rw[upd_same]at h;exact .inr ⟨rfl,h⟩
     .rw[upd_ne D _ e]at h;exact .inl ⟨by omega,i,by omega,rfl,h⟩
   rw[ew,eo,ev]at this;exact this
  have hWk:∀i,i<j+1->WS H i (upd D j d i) (upd x j child i) w:=fun i hi=>by
   by_cases e:i=j
   .subst e;rw[upd_same,upd_same];exact vl
   .rw[upd_ne D _ e,upd_ne x _ e];exact n.hW i (by omega)
  have N4:qP H (j+1) (upd D j d) 0 w.heap.size (t++ #[ux,uy]):=by
   refine⟨hTI,n.hT.IW.app fun op a_=>?_,fun i g hg bd hc=>?_,by rw[Deaf_still _ _ _ Ya,n.hT.deaf0],fun i hi=>?_,fun k hk=>by rw[Deaf_still _ _ _ Ya,n.hT.rH k (by omega)],fun i hi hw=>?_⟩
   .rcases oc op a_ with rfl|rfl
    .rw[CM.2];simp
    .rw[Cu.2];simp
   .have:=pK (u:=#[ux,uy]) (Wk:=Nn H.o j) n.hT.over (fun op a_=>.inr (.inr (by
     rcases oc op a_ with rfl|rfl
     .rw[CM.2];rfl
     .rw[Cu.2];rfl))) i g hg bd hc
    exact this.imp (fun⟨i,hi,e⟩=>⟨i,by omega,e⟩) id
   .rw[Deaf_still _ _ _ Ya];by_cases e:i=j
    .subst e;rw[upd_same,qn];exact n.hT.rH _ (Nat.le_refl _)
    .rw[upd_ne D _ e];exact n.hT.deafW i (by omega)
   .by_cases e:i=j
    .subst e;rw[upd_same]at hw;omega
    .rw[upd_ne D _ e]at hw;obtain⟨r,hr⟩:=n.hT.rel i (by omega) hw;refine⟨r,hr.appNot fun op a_=>?_⟩;rcases oc op a_ with rfl|rfl
     .rw[CM.1];omega
     .rw[Cu.1];omega
  have BZ:oK H.P H.o (j+1) ((gs.setIfInBounds 0 g').push child) g' (upd x j child) q (t++ #[ux,uy]):=(n.hA.set0 (u:=t) fun _ _ _=>rfl).push fun _ _ _=>Deaf_still _ _ _ Ya;obtain⟨cF,M1⟩:=n.hF.sp r 0 rfl;have pT:(upd (bJ D) j d.wd)=bJ (upd D j d):=(yh d).symm;have hd7:d.wd.stage=7:=by
   rcases vl.IB with h|h
   .exact h.2
   .omega
  have hVc:Vc (j+1) (bJ (upd D j d))=Vc j (bJ D)+1:=by
   rw[<-pT];simp only[Vc,sumTo,upd_same];rw[sumTo_congr (g:=fun i=>ConcN.cnt (bJ D i)) (fun i hi=>by rw[upd_ne (bJ D) _ (by omega)])];simp[ConcN.cnt,hd7]
  have fW:∀tag':b_,isOpen tag'.c->pend tag'.c=0->(∀vs,tag'.c≠.w2 vs)->ConcN.Mode (j+1) (bJ (upd D j d)) tag'.c st sm:=by
   intro tag' h1 h2 h3;obtain⟨k1,k2,k3,_⟩:=n.hmode.open_inv trivial;have hp:pend (b_.sp r 0).c=1:=rfl;have:st=((Vc (j+1) (bJ (upd D j d))+pend tag'.c:Nat):Int)*KK:=by rw[hVc,h2,k2,hp]
   rw[this,k3];refine .opn h1 (fun i hi=>?_) (fun vs e=>absurd e (h3 vs));rw[<-pT];by_cases e:i=j
   .subst e;rw[upd_same];exact .inl hd7
   .rw[upd_ne (bJ D) _ e];exact k1 i (by omega)
  have ON:∀tag':b_,tag'.late=false->(∀k b,tag'= .col k b->k=H.N)->Fl H (j+1) (upd D j d) tag' got Y closed bH w:=by
   intro tag' hl hk;refine⟨by omega,fun i hi=>?_,fun hc=>?_,fun i v hv=>by(rw[M1 i]at hv;cases hv),fun hc i hi hn=>?_,fun k b e=>⟨cF,?_⟩,fun r s e=>⟨cF,M1⟩,fun c e=>?_,fun e=>?_⟩
   .by_cases e:i=j
    .subst e;rw[upd_same,pC];intro h;cases h
    .rw[upd_ne D _ e];exact n.hF.gu i (by omega)
   .rcases hc with hc|hc
    .rw[cF]at hc;cases hc
    .rw[hl]at hc;cases hc
   .by_cases e:i=j
    .subst e;rw[upd_same];omega
    .rw[upd_ne D _ e];exact n.hF.none hc i (by omega) hn
   .rw[hk k b e];have:∀m,sumTo m (fun i=>if got i=none then 1 else 0)=m:=by
     intro m;induction m with
     |zero=>rfl
     |succ m ih=>simp[sumTo,ih,M1 m]
    exact this _
   .rcases e with rfl|rfl<;>cases hl
   .subst e;cases hl
  have hsumN:sumTo H.N (iO (j+1) (upd D j d))+30=sumTo H.N (iO j D)+22:=by
   have e:∀b,iO (j+1) (upd D j d) b=upd (iO j D) j 22 b:=by
    intro b;by_cases e:b=j
    .subst e;simp[iO,upd_same,xi]
    .simp only[iO,upd_ne D _ e,upd_ne (iO j D) _ e];by_cases h:b<j
     .rw[if_pos (by omega),if_pos h]
     .rw[if_neg (by omega),if_neg h]
   have h1:=sumTo_upd (iO j D) 22 id (show j<H.N by omega);simp only[id_eq]at h1;have h2:sumTo H.N (iO (j+1) (upd D j d))=sumTo H.N (fun a=>upd (iO j D) j 22 a):=sumTo_congr fun a _=>e a;have h3:iO j D j=30:=by simp[iO]
   rw[h2,<-h3];exact h1
  cases r with
  |zero=>
   obtain⟨m,yW⟩:=fL;have Mn:SS H (j+1) bH got Y (.col H.N false) m 0 g' w:=.col (by omega) (by
    have hg:got=fun _=>none:=funext M1;rw[hg];exact yW)
   exact⟨_,_,meas H (j+1) (upd D j d) (.col H.N false) m q,fX,jc (by simp only[meas,dA,Bool.false_eq_true,if_false];omega),_,w,sl,j+1,upd D j d,bH,got,Y,closed,.col H.N false,m,0,g',_,q,st,sm,rfl,BZ,Mn,hWk,cV,N4,ON _ rfl (fun k b e=>by simp only[b_.col.injEq]at e;exact e.1.symm),n.hCH,n.hwg,fW _ trivial rfl (by simp[b_.c]),(fun e=>by cases e),rfl⟩
  |succ r=>
   obtain⟨m,hspw⟩:=fL;exact⟨_,_,meas H (j+1) (upd D j d) (.sp r 6) m q,fX,jc (by simp only[meas,dA];omega),_,w,sl,j+1,upd D j d,bH,got,Y,closed,.sp r 6,m,0,g',_,q,st,sm,rfl,BZ,.ZL (by omega) hspw,hWk,cV,N4,ON _ rfl (fun k b e=>by cases e),n.hCH,n.hwg,fW _ trivial rfl (by simp[b_.c]),(fun e=>by cases e),rfl⟩
 .exact plain0 n.hA n.hW n.aC n.hT n.hF n.hCH n.hwg n.hmode hgo cg (.sgo e (by rw[hj];exact cE)) (by simp[b_.kin]) (Nat.lt_succ_self _)
end
end
end
section
open Go.Conc Go.ConcN Go.bn Go.Ren
open Go.ConcR (KK wgBlock WgAt stA smA rd wr mk Payload Aside2 DC0 Bk g_of_ofEvents again_blocked bk_of_mute ofEvent_loc_mark ofEvent_cell ofEvent_mk)
variable{r:Nat}{gK:Goroutine}
section
variable [Payload] {H:Ph} {j:Nat} {D:Nat->WX} {mine bH:Nat->Prop} {got:Nat->Option Value} {Y:Goroutine} {closed:Bool} {tag tag':b_} {f0 f' d0:Nat} {gs:Array Goroutine} {w w':World} {sl:Option (Nat×Nat)} {t:Trace} {a a':Goroutine} {x:Nat->Goroutine} {q:Nat->Nat} {st sm st' sm':Int} {es:Array Event}
section
variable (n:Now H j D mine got Y closed tag d0 gs w t a x q st sm)
include n
theorem Now.idle(hgo:stepG H.P true a w= .go a' w #[])(sG:SS H j mine got Y tag f' d0 a' w)(Vg:tag.kin=0\/tag.kin=3)(ai:f'<f0):Moves H gs w sl t 0 (meas H j D tag f0 q):=
 idle0 n.hA n.hW n.aC n.hT n.hF n.hCH n.hwg n.hmode n.hacq hgo sG Vg ai
theorem Now.book(hgo:stepG H.P true a w= .go a' w' es)(eV:Aside H.Wg w w')(eK:WgAt H.ty H.Wg w' st' sm')(dt:∀e∈es,RV H.Wg w.heap.size e){dd:Nat}(th:deafBehind d0 es=dd)(sG:SS H j mine got Y tag' f' dd a' w')(hk:tag'.kin=tag.kin)(Vg:tag.kin=0\/tag.kin=3)
  (hmode:ConcN.Mode j (bJ D) tag'.c st' sm')(hacq:tag'= .wt .ret->yg H j (t++MemOp.ofEvents 0 a.frame.fn a.frame.place es))
  (ai:dA H.N (Vc j (bJ D)) tag'<dA H.N (Vc j (bJ D)) tag):Moves H gs w sl t 0 (meas H j D tag f0 q):=by
 subst th;exact book0 n.hA n.hW n.aC n.hT n.hF n.hCH hgo eV eK dt sG hk Vg hmode hacq (.inl ai)
theorem moveKk(ht:tag= .sp r 1)(hd:d0=0)(e:j+(r+1)=H.N)(hK:gK.status= .running)(h:Goes H.P true (RS H.ty H.Wg) DC0 (isK gK) f0 a w)(hc:Cont H mine (NX H r mine gK) w):Moves H gs w sl t 0 (meas H j D tag f0 q):=by
 subst ht;subst hd;rcases Goes.cases h with bk|⟨m',rfl,aq⟩
 .have ea:a=gK:=bk w (RS.refl w);obtain⟨m,hm⟩:=hc w (.refl w);rw[<-ea]at hm;exact(Oc (tag:=.sp r 0) (f0:=m) (n.to rfl (.inl rfl) (reopen (tag:=.sp r 1) n.hmode trivial trivial rfl (by simp[b_.c])) (by simp)) rfl rfl e hm).le (by simp only[meas,dA];omega)
 .obtain⟨g',w1,es1,hgo,⟨rfl,rfl⟩,cE⟩:=aq w (RS.refl w);exact n.idle hgo (.kk e hK cE hc) (.inl rfl) (Nat.lt_succ_self _)
theorem moveKe(ht:tag= .sp r 2)(hd:d0=1)(e:j+(r+1)=H.N)(h:Goes H.P true (RS H.ty H.Wg) DC0 (ko H.P H.ty H.Wg .enable (isK gK)) f0 a w)(hc:Cont H mine (NX H r mine gK) w):Moves H gs w sl t 0 (meas H j D tag f0 q):=by
 subst ht;subst hd;rcases Goes.cases h with bk|⟨m',rfl,aq⟩
 .obtain⟨_,g',hgo,m,cE⟩:=bk w (RS.refl w);have hK:gK.status= .running:=by
   obtain⟨m,hm⟩:=hc w (.refl w);exact hm.running fun _ _ _ y=>y.1
  exact n.book (tag':=.sp r 1) hgo (.refl _ w) n.hwg (uJ (.inr rfl)) (dd:=0) rfl (.kk e hK cE hc) rfl (.inl rfl) (reopen (tag:=.sp r 2) n.hmode trivial trivial rfl (by simp[b_.c])) (fun e=>by cases e) (by simp only[dA];omega)
 .obtain⟨g',w1,es1,hgo,⟨rfl,rfl⟩,cE⟩:=aq w (RS.refl w);exact n.idle hgo (.ke e cE hc) (.inl rfl) (Nat.lt_succ_self _)
theorem moveRd(ht:tag= .sp r 3)(hd:d0=1)(e:j+(r+1)=H.N)(h:Goes H.P true (RS H.ty H.Wg) DC0 (ko H.P H.ty H.Wg (.read (smA H.Wg)) (ko H.P H.ty H.Wg .enable (isK gK))) f0 a w)(hc:Cont H mine (NX H r mine gK) w):Moves H gs w sl t 0 (meas H j D tag f0 q):=by
 subst ht;subst hd;rcases Goes.cases h with bk|⟨m',rfl,aq⟩
 .obtain⟨_,g',hgo,m,cE⟩:=bk w (RS.refl w);exact n.book (tag':=.sp r 2) hgo (.refl _ w) n.hwg (Jp (.inl rfl) n.aC.Ab.1) (dd:=1) rfl (.ke e cE hc) rfl (.inl rfl) (reopen (tag:=.sp r 3) n.hmode trivial trivial rfl (by simp[b_.c])) (fun e=>by cases e) (by simp only[dA];omega)
 .obtain⟨g',w1,es1,hgo,⟨rfl,rfl⟩,cE⟩:=aq w (RS.refl w);exact n.idle hgo (.rd e cE hc) (.inl rfl) (Nat.lt_succ_self _)
theorem moveA1(O:oJ H)(ht:tag= .sp r 4)(hd:d0=1)(e:j+(r+1)=H.N)(h:Goes H.P true (RS H.ty H.Wg) DC0 (JX H.P H.ty H.Wg (ko H.P H.ty H.Wg (.read (smA H.Wg)) (ko H.P H.ty H.Wg .enable (isK gK))) (ko H.P H.ty H.Wg .enable (isK gK))) f0 a w)(hc:Cont H mine (NX H r mine gK) w):
  Moves H gs w sl t 0 (meas H j D tag f0 q):=by
 subst ht;subst hd;rcases Goes.cases h with bk|⟨m',rfl,aq⟩
 .obtain⟨_,cG⟩:=bk w (RS.refl w);obtain⟨h1,h2,h3,_⟩:=n.hmode.open_inv trivial;have N0:=Vc_le j (bJ D);have hN:=O.hN;have hwg:WgAt H.ty H.Wg w ((Vc j (bJ D):Nat)*KK) 0:=by
   have:=n.hwg;rw[h2,h3]at this;exact this
  obtain⟨g',hgo,hz,hs⟩:=cG (Vc j (bJ D)) (by omega) hwg;have eV:=aside_setCell w (stA H.Wg) (.int .u64 ((Vc j (bJ D)+1)*KK));have lA:Cont H mine (NX H r mine gK) (w.setCell (stA H.Wg) (.int .u64 ((Vc j (bJ D)+1)*KK))):=hc.rely (vH eV (hwg.setSt _) fun h=>h.elim (fun h=>(n.aC.iZ _ h).2.1 rfl) fun h=>(n.aC.mspec _ h).2.1 rfl);have hm:∀s,s<=3->ConcN.Mode j (bJ D) (b_.sp r s).c ((Vc j (bJ D)+1)*KK) 0:=by
   intro s ij;have:=ConcN.Mode.opn (j:=j) (D:=bJ D) (tag:=.sp r s) trivial h1 (fun vs e=>by cases e);have hp:pend (.sp r s)=1:=by simp[pend,ij]
   rw[hp,Int.natCast_add]at this;exact this
  by_cases hv:Vc j (bJ D)=0
  .obtain⟨m,cE⟩:=hz hv;exact n.book (tag':=.sp r 3) hgo eV (hwg.setSt _) (mg bk_rw n.aC.Ab.1) (dd:=1) rfl (.rd e cE lA) rfl (.inl rfl) (hm 3 (by omega)) (fun e=>by cases e) (by simp only[dA];omega)
  .obtain⟨m,cE⟩:=hs hv;exact n.book (tag':=.sp r 2) hgo eV (hwg.setSt _) (mg bk_rw n.aC.Ab.1) (dd:=1) rfl (.ke e cE lA) rfl (.inl rfl) (hm 2 (by omega)) (fun e=>by cases e) (by simp only[dA];omega)
 .obtain⟨g',w1,es1,hgo,⟨rfl,rfl⟩,cE⟩:=aq w (RS.refl w);exact n.idle hgo (.a1 e cE hc) (.inl rfl) (Nat.lt_succ_self _)
theorem Ug(ht:tag= .sp r 5)(hd:d0=0)(e:j+(r+1)=H.N)(h:Goes H.P true (RS H.ty H.Wg) DC0 (ko H.P H.ty H.Wg .disable (JX H.P H.ty H.Wg (ko H.P H.ty H.Wg (.read (smA H.Wg)) (ko H.P H.ty H.Wg .enable (isK gK))) (ko H.P H.ty H.Wg .enable (isK gK)))) f0 a w)(hc:Cont H mine (NX H r mine gK) w):
  Moves H gs w sl t 0 (meas H j D tag f0 q):=by
 subst ht;subst hd;rcases Goes.cases h with bk|⟨m',rfl,aq⟩
 .obtain⟨_,g',hgo,m,cE⟩:=bk w (RS.refl w);exact n.book (tag':=.sp r 4) hgo (.refl _ w) n.hwg (uJ (.inl rfl)) (dd:=1) rfl (.a1 e cE hc) rfl (.inl rfl) (reopen (tag:=.sp r 5) n.hmode trivial trivial rfl (by simp[b_.c])) (fun e=>by cases e) (by simp only[dA];omega)
 .obtain⟨g',w1,es1,hgo,⟨rfl,rfl⟩,cE⟩:=aq w (RS.refl w);exact n.idle hgo (.kd e cE hc) (.inl rfl) (Nat.lt_succ_self _)
theorem XR(ht:tag= .sp r 6)(hd:d0=0)(e:j+(r+1)=H.N)(h:aO H (AtCall H (NX H r)) f0 mine a w):Moves H gs w sl t 0 (meas H j D tag f0 q):=by
 subst ht;subst hd;rcases h.cases with bk|⟨n',rfl,ag,g',w',es,bH,hgo,cg,cE⟩
 .obtain⟨gK,⟨m,hm⟩,hc⟩:=bk;exact(Ug (tag:=.sp r 5) (f0:=m) (n.to rfl (.inl rfl) (reopen (tag:=.sp r 6) n.hmode trivial trivial rfl (by simp[b_.c])) (by simp)) rfl rfl e hm hc).le (by simp only[meas,dA];omega)
 .exact plain0 n.hA n.hW n.aC n.hT n.hF n.hCH n.hwg n.hmode hgo cg (.ZL e cE) (by simp[b_.kin]) (Nat.lt_succ_self _)
theorem XU(ht:tag= .wt .acq)(hd:d0=0)(e:j=H.N/\Y.status= .running)(h:Goes H.P true (RS H.ty H.Wg) DC0 (ko H.P H.ty H.Wg (.acquire (stA H.Wg)) (isK Y)) f0 a w):Moves H gs w sl t 0 (meas H j D tag f0 q):=by
 subst ht;subst hd;rcases Goes.cases h with bk|⟨m',rfl,aq⟩
 .obtain⟨_,g',hgo,m,cE⟩:=bk w (RS.refl w);obtain⟨hq,h1,h2⟩:=n.hmode.fin_inv trivial;refine n.book (tag':=.wt .ret) hgo (.refl _ w) n.hwg (fun e he=>?_) (dd:=0) rfl (.ret e cE) rfl (.inr rfl) (by rw[h1,h2];exact .fin trivial hq) (fun _=>?_) (by simp only[dA,phi];omega)
  .simp at he;subst he;exact⟨fun y hy=>by simp[mk,MemAct.ofEvent,MemAct.touch?]at hy,n.aC.Ab.1,by simp[mk]⟩
  .have e1:MemOp.ofEvents 0 a.frame.fn a.frame.place #[mk (.acquire (stA H.Wg))]=#[{g:=0,fn:=a.frame.fn,pos:=a.frame.place,act:=.mark (.acquire (stA H.Wg))}]:=by rw[ofEvents_eq];simp[ofEvent_mk]
   have hy:(t++ #[({g:=0,fn:=a.frame.fn,pos:=a.frame.place,act:=.mark (.acquire (stA H.Wg))}:MemOp)])[t.size]? =some {g:=0,fn:=a.frame.fn,pos:=a.frame.place,act:=.mark (.acquire (stA H.Wg))}:=by simp
   refine⟨t.size,by rw[e1,act?_of hy],by rw[e1];simp[Trace.g?],by rw[e1];exact⟨0,by simp[Trace.g?],by rw[deaf_old (Nat.le_refl _)];exact n.hT.deaf0⟩,fun i hi=>?_⟩;have h1s:(D i).st=1:=hq i hi;have vl:(D i).ws<=6:=by rcases(n.hW i hi).IB with h|h<;>omega
   obtain⟨r,hr⟩:=n.hT.rel i hi vl;have eL:=n.hA.pos;exact⟨r,hr.appOther g_of_ofEvents (by omega),lt_of_act? hr.act⟩
 .obtain⟨g',w1,es1,hgo,⟨rfl,rfl⟩,cE⟩:=aq w (RS.refl w);exact n.idle hgo (.acq e cE) (.inr rfl) (Nat.lt_succ_self _)
theorem XQ(ht:tag= .wt .ke)(hd:d0=1)(e:j=H.N/\Y.status= .running)(h:Goes H.P true (RS H.ty H.Wg) DC0 (Ends H.P H.ty H.Wg (isK Y)) f0 a w):Moves H gs w sl t 0 (meas H j D tag f0 q):=by
 subst ht;subst hd;rcases Goes.cases h with bk|⟨m',rfl,aq⟩
 .obtain⟨_,g',hgo,m,cE⟩:=bk w (RS.refl w);obtain⟨hq,h1,h2⟩:=n.hmode.fin_inv trivial;exact n.book (tag':=.wt .acq) hgo (.refl _ w) n.hwg (uJ (.inr rfl)) (dd:=0) rfl (.acq e cE) rfl (.inr rfl) (by rw[h1,h2];exact .fin trivial hq) (fun e=>by cases e) (by simp only[dA,phi];omega)
 .obtain⟨g',w1,es1,hgo,⟨rfl,rfl⟩,cE⟩:=aq w (RS.refl w);exact n.idle hgo (.Zr e cE) (.inr rfl) (Nat.lt_succ_self _)
theorem moveW4(ht:tag= .wt .w4)(hd:d0=1)(e:j=H.N/\Y.status= .running)(h:Goes H.P true (RS H.ty H.Wg) DC0 (oh H.P H.ty H.Wg (Ends H.P H.ty H.Wg (isK Y))) f0 a w):Moves H gs w sl t 0 (meas H j D tag f0 q):=by
 subst ht;subst hd;rcases Goes.cases h with bk|⟨m',rfl,aq⟩
 .obtain⟨_,hx⟩:=bk w (RS.refl w);obtain⟨hq,h1,h2⟩:=n.hmode.fin_inv trivial;have hwg:=n.hwg;rw[h1,h2]at hwg;obtain⟨g',hgo,m,cE⟩:=hx hwg;exact n.book (tag':=.wt .ke) hgo (.refl _ w) hwg (mg bk_rd n.aC.Ab.1) (dd:=1) rfl (.Zr e cE) rfl (.inr rfl) (.fin trivial hq) (fun e=>by cases e) (by simp only[dA,phi];omega)
 .obtain⟨g',w1,es1,hgo,⟨rfl,rfl⟩,cE⟩:=aq w (RS.refl w);exact n.idle hgo (.w4 e cE) (.inr rfl) (Nat.lt_succ_self _)
theorem moveW3{m:Nat}(ht:tag= .wt .w3)(hd:d0=1)(e:j=H.N/\Y.status= .running)(hf:f0=m+1)(h:Goes H.P true (RS H.ty H.Wg) DC0 (JW H.P H.ty H.Wg (oh H.P H.ty H.Wg (Ends H.P H.ty H.Wg (isK Y)))) m a w):Moves H gs w sl t 0 (meas H j D tag f0 q):=by
 subst ht;subst hd;subst hf;rcases Goes.cases h with bk|⟨m',rfl,aq⟩
 .obtain⟨ag,hoff,hb,hs⟩:=bk w (RS.refl w);have blocks:sm=0->ConcN.Mode j (bJ D) .blk st sm->Moves H gs w sl t 0 (meas H j D (.wt .w3) (m+1) q):=by
   intro h0 hm;subst h0;exact book0 (tag':=.wt .blk) (f':=0) n.hA n.hW n.aC n.hT n.hF n.hCH (hb ⟨st,n.hwg⟩) (.refl _ w) n.hwg (fun e he=>by simp at he) (.blk e bk) rfl (.inr rfl) hm (fun e=>by cases e) (.inr ⟨rfl,Nat.succ_pos _⟩)
  have hmode:ConcN.Mode j (bJ D) .w3 st sm:=n.hmode;cases hmode with
  |opn h1 _ _=>exact h1.elim
  |reg _ h2 h3=>exact blocks rfl (.reg trivial h2 h3)
  |last L _ h2 h3 h4=>exact blocks rfl (.last L trivial h2 h3 h4)
  |sema h2=>
   obtain⟨g',hgo,m₂,cE⟩:=hs n.hwg;refine n.book (tag':=.wt .w4) hgo (aside_setCell w (smA H.Wg) _) (n.hwg.setSm 0) (es:=semEvents (smA H.Wg)) (mg ?_ n.aC.Ab.1) (dd:=1) (by simp[deafBehind,semEvents]) (.w4 e cE) rfl (.inr rfl) (.fin trivial h2) (fun e=>by cases e) (by simp only[dA,phi];omega);intro e he;simp[semEvents]at he;rcases he with rfl|rfl|rfl|rfl
   .exact .inl rfl
   iterate 2 (·exact bk_cell _ _ rfl)
   .exact .inr (.inl rfl)
  |fin h1 _=>exact h1.elim
 .obtain⟨g',w1,es1,hgo,⟨rfl,rfl⟩,cE⟩:=aq w (RS.refl w);exact n.idle hgo (.w3 e cE) (.inr rfl) (by omega)
theorem moveWm(ht:tag= .wm)(hd:d0=1)(e:j=H.N/\Y.status= .running)(h:Goes H.P true (RS H.ty H.Wg) DC0 (ko H.P H.ty H.Wg (.write (smA H.Wg)) (JW H.P H.ty H.Wg (oh H.P H.ty H.Wg (Ends H.P H.ty H.Wg (isK Y))))) f0 a w):Moves H gs w sl t 0 (meas H j D tag f0 q):=by
 subst ht;subst hd;rcases Goes.cases h with bk|⟨m',rfl,aq⟩
 .obtain⟨_,g',hgo,m,cE⟩:=bk w (RS.refl w);exact n.book (tag':=.wt .w3) hgo (.refl _ w) n.hwg (Jp (.inr rfl) n.aC.Ab.1) (dd:=1) rfl (.w3 e cE) rfl (.inr rfl) n.hmode (fun e=>by cases e) (by simp only[dA,phi];omega)
 .obtain⟨g',w1,es1,hgo,⟨rfl,rfl⟩,cE⟩:=aq w (RS.refl w);exact n.idle hgo (.wm e cE) (.inr rfl) (Nat.lt_succ_self _)
theorem moveW2(O:oJ H){vs:Nat}(ht:tag= .wt (.w2 vs))(hd:d0=1)(e:j=H.N/\Y.status= .running)(h:Goes H.P true (RS H.ty H.Wg) DC0 (Wy H.P H.ty H.Wg vs (ko H.P H.ty H.Wg (.write (smA H.Wg)) (JW H.P H.ty H.Wg (oh H.P H.ty H.Wg (Ends H.P H.ty H.Wg (isK Y))))) (H.Anch Y)) f0 a w):
  Moves H gs w sl t 0 (meas H j D tag f0 q):=by
 subst ht;subst hd;rcases Goes.cases h with bk|⟨m',rfl,aq⟩
 .obtain⟨_,cG⟩:=bk w (RS.refl w);obtain⟨h1,h2,h3,h4⟩:=n.hmode.open_inv trivial;obtain⟨lO,ia⟩:=h4 vs rfl;have N0:=Vc_le j (bJ D);have hN:=O.hN;have hwg:WgAt H.ty H.Wg w ((Vc j (bJ D):Nat)*KK) 0:=by
   have:=n.hwg;rw[h2,h3]at this;exact this
  obtain⟨hhit,LI⟩:=cG (Vc j (bJ D)) (by omega) hwg;by_cases hv:Vc j (bJ D)=vs
  .obtain⟨g',hgo,m,cE⟩:=hhit hv;exact n.book (tag':=.wm) hgo (aside_setCell w (stA H.Wg) _) (hwg.setSt _) (mg bk_rw n.aC.Ab.1) (dd:=1) rfl (.wm e cE) rfl (.inr rfl) (.reg trivial h1 (by omega)) (fun e=>by cases e) (by simp only[dA,phi];omega)
  .obtain⟨g',hgo,m,cE⟩:=LI hv;exact n.book (tag':=.wt .anch) hgo (.refl _ w) n.hwg (mg bk_rd n.aC.Ab.1) (dd:=1) rfl (.anch e cE) rfl (.inr rfl) (reopen (tag:=.wt (.w2 vs)) n.hmode trivial trivial rfl (by simp[b_.c])) (fun e=>by cases e) (by simp only[dA,phi];omega)
 .obtain⟨g',w1,es1,hgo,⟨rfl,rfl⟩,cE⟩:=aq w (RS.refl w);exact n.idle hgo (.w2 e cE) (.inr rfl) (Nat.lt_succ_self _)
theorem Ue(O:oJ H)(ht:tag= .wt .w1)(hd:d0=1)(e:j=H.N/\Y.status= .running)(h:Goes H.P true (RS H.ty H.Wg) DC0 (Round H.P H.ty H.Wg (H.Anch Y) (isK Y)) f0 a w):Moves H gs w sl t 0 (meas H j D tag f0 q):=by
 subst ht;subst hd;rcases Goes.cases h with bk|⟨m',rfl,aq⟩
 .obtain⟨_,cG⟩:=bk w (RS.refl w);obtain⟨h1,h2,h3,_⟩:=n.hmode.open_inv trivial;have N0:=Vc_le j (bJ D);have hN:=O.hN;have hwg:WgAt H.ty H.Wg w ((Vc j (bJ D):Nat)*KK) 0:=by
   have:=n.hwg;rw[h2,h3]at this;exact this
  obtain⟨g',hgo,hz,hs⟩:=cG (Vc j (bJ D)) (by omega) hwg;by_cases hv:Vc j (bJ D)=0
  .obtain⟨m,cE⟩:=hz hv;refine n.book (tag':=.wt .ke) hgo (.refl _ w) n.hwg (mg bk_rd n.aC.Ab.1) (dd:=1) rfl (.Zr e cE) rfl (.inr rfl) ?_ (fun e=>by cases e) (by simp only[dA,phi];omega);have:st=0:=by rw[h2,hv];simp[b_.c,pend]
   rw[this,h3];exact .fin trivial (allQuit_of h1 hv)
  .obtain⟨m,cE⟩:=hs hv;refine n.book (tag':=.wt (.w2 (Vc j (bJ D)))) hgo (.refl _ w) n.hwg (mg bk_rd n.aC.Ab.1) (dd:=1) rfl (.w2 e cE) rfl (.inr rfl) ?_ (fun e=>by cases e) (by simp only[dA,phi];omega);exact ConcN.Mode.reopen n.hmode trivial trivial rfl (fun vs e=>by simp only[b_.c,CTag.w2.injEq]at e;omega)
 .obtain⟨g',w1,es1,hgo,⟨rfl,rfl⟩,cE⟩:=aq w (RS.refl w);exact n.idle hgo (.w1 e cE) (.inr rfl) (Nat.lt_succ_self _)
theorem Ui(O:oJ H)(ht:tag= .wt .anch)(hd:d0=1)(e:j=H.N/\Y.status= .running)(h:Goes H.P true (RS H.ty H.Wg) DC0 (H.Anch Y) f0 a w):Moves H gs w sl t 0 (meas H j D tag f0 q):=by
 subst ht;subst hd;rcases Goes.cases h with bk|⟨m',rfl,aq⟩
 .obtain⟨m,hm⟩:=O.round Y a w (bk w (RS.refl w));exact(Ue (tag:=.wt .w1) (f0:=m) (n.to rfl (.inr rfl) (reopen (tag:=.wt .anch) n.hmode trivial trivial rfl (by simp[b_.c])) (by simp)) O rfl rfl e hm).le (by simp only[meas,dA,phi];omega)
 .obtain⟨g',w1,es1,hgo,⟨rfl,rfl⟩,cE⟩:=aq w (RS.refl w);exact n.idle hgo (.anch e cE) (.inr rfl) (Nat.lt_succ_self _)
theorem Ob(ht:tag= .wt .kd)(hd:d0=0)(e:j=H.N/\Y.status= .running)(h:Goes H.P true (RS H.ty H.Wg) DC0 (ko H.P H.ty H.Wg .disable (H.Anch Y)) f0 a w):Moves H gs w sl t 0 (meas H j D tag f0 q):=by
 subst ht;subst hd;rcases Goes.cases h with bk|⟨m',rfl,aq⟩
 .obtain⟨_,g',hgo,m,cE⟩:=bk w (RS.refl w);have N0:=Vc_le j (bJ D);exact n.book (tag':=.wt .anch) hgo (.refl _ w) n.hwg (uJ (.inl rfl)) (dd:=1) rfl (.anch e cE) rfl (.inr rfl) (reopen (tag:=.wt .kd) n.hmode trivial trivial rfl (by simp[b_.c])) (fun e=>by cases e) (by simp only[dA,phi];omega)
 .obtain⟨g',w1,es1,hgo,⟨rfl,rfl⟩,cE⟩:=aq w (RS.refl w);exact n.idle hgo (.wkd e cE) (.inr rfl) (Nat.lt_succ_self _)
theorem Uh{ok:Bool}(hkin:tag.c= .kd)(hd:d0=0)(e:j=H.N)(cF:closed= !ok)(U3:ok=true->∀i,i<H.N->got i≠none)(h:og H ok got mine a w)(ai:8*H.N+7<dA H.N (Vc j (bJ D)) tag):Moves H gs w sl t 0 (meas H j D tag f0 q):=by
 obtain⟨κ0,hκ,⟨m,hm⟩,hc⟩:=h;have hmode:ConcN.Mode j (bJ D) .kd st sm:=hkin▸n.hmode;have ON:Fl H j D (.wt .kd) got κ0 closed mine w:=by
  refine⟨n.hF.jN,n.hF.gu,fun _ i hi vN=>?_,n.hF.some,n.hF.none,fun k b e=>by(cases e),fun r s e=>by(cases e),fun c _=>⟨ok,cF,U3,hc⟩,fun e=>by(cases e)⟩;cases ok with
  |true=>
   cases e2:got i with
   |none=>exact U3 rfl i (by omega) e2
   |some v'=>have:=(n.hF.some i v' e2).2.1;omega
  |false=>exact n.hF.np (.inl cF) i hi vN
 exact(Ob (tag:=.wt .kd) (f0:=m) ⟨n.hA,n.hW,n.aC,n.hT,ON,n.hCH,n.hwg,hmode,fun e=>by cases e⟩ rfl hd ⟨e,hκ⟩ hm).le (by simp only[meas];simp only[dA,phi]at ai⊢;omega)
theorem moveCl(ht:tag= .cl)(hd:d0=0)(e:j=H.N)(h:aO H (og H false got) f0 mine a w):Moves H gs w sl t 0 (meas H j D tag f0 q):=by
 subst ht;subst hd;rcases h.cases with bk|⟨n',rfl,ag,g',w',es,bH,hgo,cg,cE⟩
 .exact Uh n (ok:=false) rfl rfl e (n.hF.cl rfl) (fun h=>by cases h) bk (by simp only[dA];omega)
 .exact plain0 n.hA n.hW n.aC n.hT n.hF n.hCH n.hwg n.hmode hgo cg (.cl e cE) (by simp[b_.kin]) (Nat.lt_succ_self _)
end
end
end
