import Derived.Test.YtmfpiodlecapiaaGreatDoorJ24
namespace Go.iw
open Go.Conc Go.ConcN Go.bB Go.Ren
open Go.ConcR (KK wgBlock WgAt stA smA rd wr mk Payload Aside2 DC0 Bk g_of_ofEvents again_blocked bk_of_mute ofEvent_loc_mark ofEvent_cell)
def WX.to(d:WX)(s m dd:Nat):WX:= {d with ws:=s,rk:=.ofNat m,st:=s,fu:=m,df:=dd}
def GEv(Wg B:Nat)(e:Event):Prop:=(∀y,(MemAct.ofEvent e).touch? =some y->Ua Wg y.loc/\y.kind= .atomic)/\(MemAct.ofEvent e).low B/\e.loc≠.mark (.release (stA Wg))
theorem SL{Wg B:Nat}{e:Event}(h:Bk Wg e)(hB:Wg<B):GEv Wg B e:=by
 rcases h with h1|h1|⟨a,wr,rfl,ha⟩
 iterate 2 (·exact⟨fun y hy=>(by rw[ofEvent_loc_mark h1]at hy;cases hy),(by rw[ofEvent_loc_mark h1];trivial),(by rw[h1];simp)⟩)
 ·refine⟨fun y hy=>?_,?_,by simp⟩
  ·simp only[ofEvent_cell,MemAct.touch?,Option.some.injEq]at hy;subst hy;exact⟨⟨a,rfl,ha⟩,rfl⟩
  ·rw[ofEvent_cell];show a.block<B;omega
section
variable [Payload] {H:Ph} {j:Nat} {D:Nat->WX} {mine:Nat->Prop} {got:Nat->Option Value} {κ:Goroutine} {closed:Bool} {tag:bT} {f0 d0:Nat} {gs:Array Goroutine} {w:World} {sl:Option (Nat×Nat)} {t:Trace} {a:Goroutine} {x:Nat->Goroutine} {q:Nat->Nat} {st sm:Int}
theorem SS.bound(h:SS H j mine got κ tag f0 d0 a w):j+pend tag.c<=H.N:=by
 cases h<;>simp only[bT.c,pend]<;>(try simp)<;>omega
omit [Payload]in
theorem tT{See:Nat->Prop}{w w':World}(h:Aside H.Wg w w'){st sm:Int}(hl:WgAt H.ty H.Wg w' st sm)(hn:¬See H.Wg):kW H.ty H.Wg See w w':=
 ⟨Nat.le_of_eq h.size.symm,fun b hb=>h.block b (fun e=>hn (e▸hb)),fun _=>⟨st,sm,hl⟩,h.tape,h.os,h.output,fun hn b o hb=>by
  by_cases e:b=H.Wg
  ·subst e;have e2:w'.heap[H.Wg]? =_:=hl;rw[e2]at hb;obtain rfl:=Option.some.inj hb;exact trivial
  ·rw[h.block b e]at hb;exact hn b o hb⟩
omit [Payload]in
theorem fB{E:Nat->WD}{tag':bT}(h:ConcN.Mode j E tag.c st sm)(ht:tag'=tag\/(tag= .wt .blk/\tag'= .wt .w3)):ConcN.Mode j E tag'.c st sm:=by
 rcases ht with rfl|⟨rfl,rfl⟩
 ·exact h
 ·exact h.retag (.inr ⟨rfl,rfl⟩)
set_option maxHeartbeats 1600000 in
theorem Ky(O:nk H)(hA:nu H.P H.o j gs a x q t)(hS:SS H j mine got κ tag f0 d0 a w)(hW:∀i,i<j->WS H i (D i) (x i) w)(aC:Sets H j D mine w.heap.size)(hT:qb H j D d0 w.heap.size t)(hF:Fl H j D tag got κ closed mine w)
  (hCH:CH H closed w)(hwg:WgAt H.ty H.Wg w st sm)(hmode:ConcN.Mode j (bJ D) tag.c st sm)(hacq:tag= .wt .ret->vV H j t){i:Nat}(hi:i<j)(hrun:(x i).status= .running)
  (h7:((D i).ws=7/\(D i).st=7/\(D i).df=0/\(D i).rk= .ofNat (D i).fu/\Goes H.P false (RW H.ty H.Wg (D i).C 1 0 0) DC0 (AtR0 H.P H.ty H.Wg (D i).C 1 0 1 (D i).zv) (D i).fu (x i) w)\/
   ((D i).ws=(D i).st/\(D i).st<=6/\(D i).rk= .ofNat (D i).fu/\WSit H.P H.ty H.Wg (D i).C 1 FD FD 0 1 (D i).zv (D i).st (D i).fu (D i).df (x i) w)):
  ∃m₁ ops μ',runT H.P (crowd gs w sl) (H.o+i)=(.next m₁,ops)/\LL H.N μ' (meas H j D tag f0 q)/\Inv H μ' m₁ (t++ops):=by
 obtain⟨hgW,hgR,Ov,n1,n2,n3⟩:=aC.yE;obtain⟨⟨sR,rR,xk,hR⟩,⟨sD,rD,tK,hD⟩,pU⟩:=hCH;have hws:(D i).ws=(D i).st/\(D i).st<=7/\(D i).rk= .ofNat (D i).fu:=by rcases h7 with⟨h1,h2,_,h3,_⟩|⟨h1,h2,h3,_⟩<;>exact⟨by omega,by omega,h3⟩
 have hb:=hS.bound;have hVj:=Vc_le j (bJ D);have hdk:Deaf t (H.o+i)=(D i).df:=hT.deafW i hi;have hN:=O.hN;have nr:(D i).st≠1->tag≠.wt .ret:=fun h e=>by
  subst e;exact hmode.not_ret hi (show(bJ D i).stage≠1 from h) rfl
 have bookG:∀{g':Goroutine} {w':World} {es:Array Event} {s' m' dd':Nat} {st' sm':Int},stepG H.P false (x i) w= .go g' w' es->Aside H.Wg w w'->WgAt H.ty H.Wg w' st' sm'->(∀e∈es,GEv H.Wg w.heap.size e)->
   WS H i ((D i).to s' m' dd') g' w'->deafBehind (D i).df es=dd'->(s'<=6->∃r,RelBy (stA H.Wg) (t++MemOp.ofEvents (H.o+i) (x i).frame.fn (x i).frame.place es) (H.o+i) r)->s'<=7->
   (∀tag',(tag'=tag\/(tag= .wt .blk/\tag'= .wt .w3))->(mayWake H.P (x i)=true->g'.status= .running->tag'≠.wt .blk)->ConcN.Mode j (upd (bJ D) i ⟨s',m',dd'⟩) tag'.c st' sm')->(tag= .wt .ret->vV H j (t++MemOp.ofEvents (H.o+i) (x i).frame.fn (x i).frame.place es))->
   ((s'<(D i).st/\ConcN.cnt ⟨s',m',dd'⟩<=ConcN.cnt (D i).wd)\/(s'=(D i).st/\m'+1=(D i).fu))->
   ∃m₁ ops μ',runT H.P (crowd gs w sl) (H.o+i)=(.next m₁,ops)/\LL H.N μ' (meas H j D tag f0 q)/\Inv H μ' m₁ (t++ops):=by
  intro g' w' es s' m' dd' st' sm' hgo hAs hwg' hev hs' hdd hrel h6 hmode' hacq' hlt;have hsz:w'.heap.size=w.heap.size:=hAs.size;have hti:TI H.Shun (JZ H.o j) (Bw H.o j D) (Bv H.o j D) H.Wg w.heap.size (t++MemOp.ofEvents (H.o+i) (x i).frame.fn (x i).frame.place es):=by
   refine hT.ti.group (aC.sep hA.pos) (g:=H.o+i) g_of_ofEvents (fun op hop=>?_) (fun op hop y hy=>?_)
   ·obtain⟨e,he,rfl⟩:=Go.Conc.mem_ofEvents hop;exact(hev e he).2.1
   ·obtain⟨e,he,rfl⟩:=Go.Conc.mem_ofEvents hop;exact⟨((hev e he).1 y hy).1,.inl ((hev e he).1 y hy).2⟩
  have hsame:∀a,(upd D i ((D i).to s' m' dd') a).ow=(D a).ow/\(upd D i ((D i).to s' m' dd') a).vs=(D a).vs:=by
   intro a;by_cases e:a=i
   ·subst e;rw[upd_same];exact⟨rfl,rfl⟩
   ·rw[upd_ne D _ e];exact⟨rfl,rfl⟩
  have eo:Bw H.o j (upd D i ((D i).to s' m' dd'))=Bw H.o j D:=by funext k c;simp only[Bw,(hsame _).1]
  have ev:Bv H.o j (upd D i ((D i).to s' m' dd'))=Bv H.o j D:=by funext k c;simp only[Bv,(hsame _).2]
  refine goW O.ar hA hS hW aC hF hi hgo (tT hAs hwg' fun h=>h.elim (fun h=>(aC.gX _ h).2.1 rfl) fun h=>(aC.mspec _ h).2.1 rfl) (fun i' hi' _=>tT hAs hwg' fun h=>(aC.fH i' _ hi' h).2.1 rfl) hs'
   (by rw[hsz];exact vY (i:=i) (d':=(D i).to s' m' dd') (w':=w) aC rfl rfl rfl (Nat.le_refl _)) (by rw[hsz];exact hT.appW hA.pos hi (by rw[eo,ev];exact hti) (fun e he=>(hev e he).2.2) hdd hrel)
   (fun h=>hF.gu i hi h) (fun v hv=>⟨h6,?_⟩) (fun hc hn=>?_) (show s'≠17 by omega) ⟨⟨sR,rR,xk,(hAs.block _ (Ne.symm n1)).trans hR⟩,⟨sD,rD,tK,(hAs.block _ (Ne.symm n2)).trans hD⟩,pU.rely (tT hAs hwg' (See:=mO H mine) fun h=>h.elim (fun h=>(aC.gX _ h).2.1 rfl) fun h=>(aC.mspec _ h).2.1 rfl) fun b hb _=>hAs.block b (pU.2.2 b hb).1.1⟩ hwg' hmode' hacq' ?_
  ·obtain⟨F,k1,k2,k3⟩:=(hF.some i v hv).2.2;exact⟨F,k1,k1 w w' (fun c hc _=>hAs.block c fun e=>(aC.fH i c hi (aC.ov i c hi hc)).2.1 e) k2,k3⟩
  ·have:=hF.none hc i hi hn;omega
  ·rcases hlt with⟨k1,k2⟩|⟨k1,k2⟩
   ·exact .inl ⟨(show s'<(D i).ws by omega),k2⟩
   ·exact .inr ⟨(show s'=(D i).ws by omega),(by subst k1;rfl),by rw[hws.2.2,<-k2];exact Rk.ofNat_lt m'⟩
 have relB:∀{es:Array Event},(D i).ws<=6->(∀e∈es,Bk H.Wg e)->(∀jx e,es[jx]? =some e->(MemAct.ofEvent e).touch? =none\/0<deafBehind (D i).df (es.extract 0 jx))->∃r,RelBy (stA H.Wg) (t++MemOp.ofEvents (H.o+i) (x i).frame.fn (x i).frame.place es) (H.o+i) r:=by
  intro es h6 hbk hd;obtain⟨r,hr⟩:=hT.rel i hi h6;exact⟨r,hr.book hdk _ _ hbk hd⟩
 have book:∀{g':Goroutine} {w':World} {es:Array Event} {s' m' dd':Nat} {st' sm':Int},(D i).st<=6->stepG H.P false (x i) w= .go g' w' es->Aside H.Wg w w'->WgAt H.ty H.Wg w' st' sm'->(∀e∈es,Bk H.Wg e)->
   (∀jx e,es[jx]? =some e->(MemAct.ofEvent e).touch? =none\/0<deafBehind (D i).df (es.extract 0 jx))->WSit H.P H.ty H.Wg (D i).C 1 FD FD 0 1 (D i).zv s' m' dd' g' w'->deafBehind (D i).df es=dd'->s'<=6->
   (∀tag',(tag'=tag\/(tag= .wt .blk/\tag'= .wt .w3))->(mayWake H.P (x i)=true->g'.status= .running->tag'≠.wt .blk)->ConcN.Mode j (upd (bJ D) i ⟨s',m',dd'⟩) tag'.c st' sm')->(tag= .wt .ret->vV H j (t++MemOp.ofEvents (H.o+i) (x i).frame.fn (x i).frame.place es))->
   ((s'<(D i).st/\ConcN.cnt ⟨s',m',dd'⟩<=ConcN.cnt (D i).wd)\/(s'=(D i).st/\m'+1=(D i).fu))->
   ∃m₁ ops μ',runT H.P (crowd gs w sl) (H.o+i)=(.next m₁,ops)/\LL H.N μ' (meas H j D tag f0 q)/\Inv H μ' m₁ (t++ops):=
  fun hs6 hgo hAs hwg' hbk hd hs' hdd h6 hmode' hacq' hlt=>bookG hgo hAs hwg' (fun e he=>SL (hbk e he) hgW) (.lib rfl h6 rfl hs') hdd (fun _=>relB (by omega) hbk hd) (by omega) hmode' hacq' hlt
 have noEv:∀e∈(#[]:Array Event),Bk H.Wg e:=fun e he=>by simp at he
 have idle:∀{g':Goroutine} {m':Nat},(D i).st<=6->(D i).st≠1->stepG H.P false (x i) w= .go g' w #[]->WSit H.P H.ty H.Wg (D i).C 1 FD FD 0 1 (D i).zv (D i).st m' (D i).df g' w->m'+1=(D i).fu->
   ∃m₁ ops μ',runT H.P (crowd gs w sl) (H.o+i)=(.next m₁,ops)/\LL H.N μ' (meas H j D tag f0 q)/\Inv H μ' m₁ (t++ops):=by
  intro g' m' h6 h1 hgo hs' hm;exact book h6 hgo (.refl _ w) hwg noEv (by simp) hs' rfl h6 (fun tag' ht _=>fB (hmode.same (i:=i) m' (D i).df) ht) (fun e=>absurd e (nr h1)) (.inr ⟨rfl,hm⟩)
 rcases h7 with⟨e1,hst,hdf,e4,h⟩|⟨e1,e2,e3,hs⟩
 ·have hc1:ConcN.cnt (D i).wd=1:=by simp[ConcN.cnt,WX.wd,hst]
  rcases Goes.cases h with hstop|⟨m',hm,hstep⟩
  ·obtain⟨_,hhas,g',hgo,m₂,hk⟩:=hstop w (RW.refl w);refine bookG (s':=6) (m':=m₂) (dd':=0) hgo (.refl _ w) hwg (fun e he=>?_) (.lib rfl (Nat.le_refl _) rfl (.k1 hk)) (by rw[hdf];rfl) (fun _=>⟨t.size,RelBy.new (by rw[hdk,hdf]) _ _⟩) (by omega) (fun tag' ht _=>fB (hmode.counted hi (show 5<=(D i).st by omega) (.inl rfl) _ _) ht) (fun e=>absurd e (nr (by omega))) (.inl ⟨by omega,by rw[hc1];simp[ConcN.cnt]⟩);simp at he;subst he;exact⟨fun y hy=>by simp[mk,MemAct.ofEvent,MemAct.touch?]at hy,hgW,by simp[mk]⟩
  ·obtain⟨g',w',es,hgo,⟨rfl,rfl⟩,hg'⟩:=hstep w (RW.refl w);exact bookG (s':=7) (m':=m') (dd':=0) hgo (.refl _ w') hwg (fun e he=>by simp at he) (.done rfl rfl rfl rfl hg') (by rw[hdf];rfl) (fun h=>by omega) (by omega) (fun tag' ht _=>fB (by have:=hmode.same (i:=i) m' 0;simpa only[bJ,WX.wd,hst]using this) ht) (fun e=>absurd e (nr (by omega))) (.inr ⟨by omega,by omega⟩)
 generalize sF:(D i).st=s at hs;generalize hsfu:(D i).fu=m at hs;generalize mE:(D i).df=dd at hs;have bk2:∀e∈#[rd (stA H.Wg),wr (stA H.Wg)],Bk H.Wg e:=by intro e he;simp at he;rcases he with rfl|rfl<;>exact bk_cell _ _ rfl
 have df2:∀jx e,(#[rd (stA H.Wg),wr (stA H.Wg)]:Array Event)[jx]? =some e->(MemAct.ofEvent e).touch? =none\/0<deafBehind 1 ((#[rd (stA H.Wg),wr (stA H.Wg)]:Array Event).extract 0 jx):=by
  intro jx e he;match jx,he with
  |0,_=>exact .inr (by simp[deafBehind])
  |1,_=>exact .inr (by simp[deafBehind,rd])
  |jx+2,he=>simp at he
 cases hs with
 |r0 h=>omega
 |k1 h=>
  rcases Goes.cases h with hstop|⟨m',rfl,hstep⟩
  ·obtain⟨_,g',hgo,m₂,hk⟩:=hstop w (RW.refl w);exact book (by omega) hgo (.refl _ w) hwg (by intro e he;simp at he;subst he;exact .inl rfl) (by intro jx e he;exact .inl (by have:=Array.mem_of_getElem? he;simp at this;subst this;rfl)) (.d1 hk) (by rw[mE];rfl) (by omega)
    (fun tag' ht _=>fB (hmode.counted hi (show 5<=(D i).st by omega) (.inr rfl) _ _) ht) (fun e=>absurd e (nr (by omega))) (.inl ⟨by omega,by simp[ConcN.cnt,WX.wd,sF]⟩)
  ·obtain⟨g',w',es,hgo,⟨rfl,rfl⟩,hg'⟩:=hstep w (RW.refl w);exact idle (by omega) (by omega) hgo (by rw[sF,mE];exact .k1 hg') (by omega)
 |d1 h=>
  rcases Goes.cases h with hstop|⟨m',rfl,hstep⟩
  ·obtain⟨_,hall⟩:=hstop w (RW.refl w);have hc1:ConcN.cnt (bJ D i)=1:=by simp[ConcN.cnt,bJ,WX.wd,sF]
   have hV1:1<=Vc j (bJ D):=by have:=le_sumTo (f:=fun x=>ConcN.cnt (bJ D x)) hi;simp only[Vc];omega
   have hq0:∀q,ConcN.cnt (⟨1,q,1⟩:WD)=0:=fun _=>rfl;have opq:∀q,OpenSt j (bJ D)->OpenSt j (upd (bJ D) i ⟨1,q,1⟩):=fun q h a ha=>by
    by_cases e:a=i
    ·subst e;rw[upd_same];simp
    ·rw[upd_ne (bJ D) _ e];exact h a ha
   have lt1:∀q,(1<(D i).st/\ConcN.cnt (⟨1,q,1⟩:WD)<=ConcN.cnt (D i).wd):=fun q=>⟨by omega,by rw[hq0];omega⟩;generalize htc:tag.c=tc at hmode;cases hmode with
   |opn h1 h2 h3=>
    obtain⟨v,hv⟩:∃v,Vc j (bJ D)+pend tc=v+1:=⟨Vc j (bJ D)+pend tc-1,by omega⟩;rw[htc]at hb;rw[hv]at hwg;have hw1:WgAt H.ty H.Wg w (((v:Nat)+1)*KK+((0:Nat):Int)) 0:=by simpa using hwg
    obtain⟨g',hgo,_,hq⟩:=hall v 0 (by omega) (by omega) hw1;obtain⟨q',hq⟩:=hq (by omega);have hv':Vc j (upd (bJ D) i ⟨1,q',1⟩)+pend tc=v:=by have:=Vc_upd (bJ D) (⟨1,q',1⟩:WD) hi;have:=hq0 q';omega
    refine book (by omega) hgo (aside_setCell w (stA H.Wg) _) (hwg.setSt _) bk2 (by rw[mE];exact df2) (.quit hq) (by rw[mE];rfl) (by omega) (fun tag' ht _=>fB ?_ ht) (fun e=>absurd e (nr (by omega))) (.inl (lt1 _));rw[htc];have e:((v:Nat):Int)*KK+((0:Nat):Int)=((Vc j (upd (bJ D) i ⟨1,q',1⟩)+pend tc:Nat):Int)*KK:=by rw[hv'];simp
    rw[e];exact .opn h1 (opq q' h2) (fun vs ev=>by have:=h3 vs ev;omega)
   |reg h1 h2 h3=>
    obtain⟨v,hv⟩:∃v,Vc j (bJ D)=v+1:=⟨Vc j (bJ D)-1,by omega⟩;rw[htc]at hb;rw[hv]at hwg;have hw1:WgAt H.ty H.Wg w (((v:Nat)+1)*KK+((1:Nat):Int)) 0:=by simpa using hwg
    obtain⟨g',hgo,hl,hq⟩:=hall v 1 (by omega) (by omega) hw1;by_cases hv0:v=0
    ·subst hv0;obtain⟨m₂,hk⟩:=hl ⟨rfl,rfl⟩;refine book (by omega) hgo (aside_setCell w (stA H.Wg) _) (hwg.setSt _) bk2 (by rw[mE];exact df2) (.d2 hk) (by rw[mE];rfl) (by omega) (fun tag' ht _=>fB ?_ ht) (fun e=>absurd e (nr (by omega))) (.inl ⟨by omega,by simp[ConcN.cnt]⟩);rw[htc];have hoth:∀a,a<j->a≠i->(bJ D a).stage=1:=fun a ha e=>by
      have c0:=others_uncounted hi hv hc1 a ha e;have:=h2 a ha;simp only[ConcN.cnt]at c0;split at c0<;>omega
     have:=ConcN.Mode.last (j:=j) (D:=upd (bJ D) i ⟨4,m₂,1⟩) (tag:=tc) i h1 hi (by rw[upd_same];simp) (fun a ha e=>by rw[upd_ne (bJ D) _ e];exact hoth a ha e);rw[upd_same]at this;simpa using this
    ·obtain⟨q',hq⟩:=hq (by omega);have hv':Vc j (upd (bJ D) i ⟨1,q',1⟩)=v:=by have:=Vc_upd (bJ D) (⟨1,q',1⟩:WD) hi;have:=hq0 q';omega
     refine book (by omega) hgo (aside_setCell w (stA H.Wg) _) (hwg.setSt _) bk2 (by rw[mE];exact df2) (.quit hq) (by rw[mE];rfl) (by omega) (fun tag' ht _=>fB ?_ ht) (fun e=>absurd e (nr (by omega))) (.inl (lt1 _));rw[htc];have e:((v:Nat):Int)*KK+((1:Nat):Int)=((Vc j (upd (bJ D) i ⟨1,q',1⟩):Nat):Int)*KK+1:=by rw[hv'];simp
     rw[e];exact .reg h1 (opq q' h2) (by omega)
   |last L _ h2 h3 h4=>
    have hs5:(bJ D i).stage=5:=sF;by_cases e:i=L
    ·subst e;omega
    ·have:=h4 i hi e;omega
   |sema h2=>have:=h2 i hi;have hs5:(bJ D i).stage=5:=sF;omega
   |fin _ h2=>have:=h2 i hi;have hs5:(bJ D i).stage=5:=sF;omega
  ·obtain⟨g',w',es,hgo,⟨rfl,rfl⟩,hg'⟩:=hstep w (RW.refl w);exact idle (by omega) (by omega) hgo (by rw[sF,mE];exact .d1 hg') (by omega)
 |d2 h=>
  rcases Goes.cases h with hstop|⟨m',rfl,hstep⟩
  ·obtain⟨_,hx⟩:=hstop w (RW.refl w);have hs5:(bJ D i).stage=4:=sF;obtain⟨hW3,hoth,rfl,rfl⟩:=hmode.isLast hi (by omega);simp only[hs5]at hwg;obtain⟨g',hgo,m₂,hk⟩:=hx (by simpa using hwg);refine book (by omega) hgo (.refl _ w) hwg (by intro e he;simp at he;subst he;exact bk_cell _ _ rfl) (by rw[mE];intro jx e he;match jx,he with|0,_=>exact .inr (by simp[deafBehind])|jx+1,he=>simp at he) (.d3 hk) (by rw[mE];rfl) (by omega) (fun tag' ht _=>fB ?_ ht) (fun e=>absurd e (nr (by omega))) (.inl ⟨by omega,by simp[ConcN.cnt]⟩);have:=ConcN.Mode.last (j:=j) (D:=upd (bJ D) i ⟨3,m₂,1⟩) (tag:=tag.c) i hW3 hi (by rw[upd_same];simp) (fun a ha e=>by rw[upd_ne (bJ D) _ e];exact hoth a ha e);rw[upd_same]at this;simpa using this
  ·obtain⟨g',w',es,hgo,⟨rfl,rfl⟩,hg'⟩:=hstep w (RW.refl w);exact idle (by omega) (by omega) hgo (by rw[sF,mE];exact .d2 hg') (by omega)
 |d3 h=>
  rcases Goes.cases h with hstop|⟨m',rfl,hstep⟩
  ·obtain⟨_,hx⟩:=hstop w (RW.refl w);have hs5:(bJ D i).stage=3:=sF;obtain⟨hW3,hoth,rfl,rfl⟩:=hmode.isLast hi (by omega);simp only[hs5]at hwg;obtain⟨g',hgo,m₂,hk⟩:=hx (by simpa using hwg);refine book (by omega) hgo (aside_setCell w (stA H.Wg) _) (hwg.setSt 0) (by intro e he;simp at he;subst he;exact bk_cell _ _ rfl) (by rw[mE];intro jx e he;match jx,he with|0,_=>exact .inr (by simp[deafBehind])|jx+1,he=>simp at he) (.d4 hk) (by rw[mE];rfl) (by omega) (fun tag' ht _=>fB ?_ ht) (fun e=>absurd e (nr (by omega))) (.inl ⟨by omega,by simp[ConcN.cnt]⟩);have:=ConcN.Mode.last (j:=j) (D:=upd (bJ D) i ⟨2,m₂,1⟩) (tag:=tag.c) i hW3 hi (by rw[upd_same];simp) (fun a ha e=>by rw[upd_ne (bJ D) _ e];exact hoth a ha e);rw[upd_same]at this;simpa using this
  ·obtain⟨g',w',es,hgo,⟨rfl,rfl⟩,hg'⟩:=hstep w (RW.refl w);exact idle (by omega) (by omega) hgo (by rw[sF,mE];exact .d3 hg') (by omega)
 |d4 h=>
  rcases Goes.cases h with hstop|⟨m',rfl,hstep⟩
  ·obtain⟨_,hmw,hx⟩:=hstop w (RW.refl w);have hs5:(bJ D i).stage=2:=sF;obtain⟨hW3,hoth,rfl,rfl⟩:=hmode.isLast hi (by omega);simp only[hs5]at hwg;obtain⟨g',hgo,q',hq⟩:=hx (by simpa using hwg);have hrun':g'.status= .running:=by
    cases q' with
    |zero=>exact absurd hq.2 (by decide)
    |succ q=>exact hq.elim (fun x=>absurd x.2 (by decide)) (fun x=>x.1)
   refine book (by omega) hgo (aside_setCell w (smA H.Wg) _) (hwg.setSm 1) (es:=semEvents (smA H.Wg)) ?_ ?_ (.quit hq) (by rw[mE];simp[deafBehind,semEvents]) (by omega) ?_ (fun e=>absurd e (nr (by omega))) (.inl ⟨by omega,by simp[ConcN.cnt]⟩)
   ·intro e he;simp[semEvents]at he;rcases he with rfl|rfl|rfl|rfl
    ·exact .inl rfl
    iterate 2 (·exact bk_cell _ _ rfl)
    ·exact .inr (.inl rfl)
   ·intro jx e he;rw[mE];match jx,he with
    |0,he=>simp[semEvents]at he;subst he;exact .inl rfl
    |1,_=>exact .inr (by simp[deafBehind,semEvents])
    |2,_=>exact .inr (by simp[deafBehind,semEvents])
    |3,he=>simp[semEvents]at he;subst he;exact .inl rfl
    |jx+4,he=>simp[semEvents]at he
   ·intro tag' ht hw;have hnb:=hw hmw hrun';have hall:AllQuit j (upd (bJ D) i ⟨1,q',1⟩):=fun a ha=>by
     by_cases e:a=i
     ·subst e;rw[upd_same]
     ·rw[upd_ne (bJ D) _ e];exact hoth a ha e
    have e3:tag'.c= .w3:=by
     rcases ht with rfl|⟨_,rfl⟩
     ·cases tag' with
      |sp r s=>exact hW3.elim
      |col k b=>exact hW3.elim
      |cl=>exact hW3.elim
      |wm=>rfl
      |wt c=>cases c<;>first|rfl|exact hW3.elim|exact absurd rfl hnb
     ·rfl
    rw[e3];simp only[if_true];exact .sema hall
  ·obtain⟨g',w',es,hgo,⟨rfl,rfl⟩,hg'⟩:=hstep w (RW.refl w);exact idle (by omega) (by omega) hgo (by rw[sF,mE];exact .d4 hg') (by omega)
 |quit h=>
  cases m with
  |zero=>rw[h.1]at hrun;cases hrun
  |succ q'=>
   rcases h with⟨hf,_⟩|⟨_,g',es,hmute,hstep,hq⟩
   ·rw[hf]at hrun;cases hrun
   ·have hbk:∀e∈es,Bk H.Wg e:=fun e he=>bk_of_mute (hmute e he);have hno:∀jx e,es[jx]? =some e->(MemAct.ofEvent e).touch? =none\/0<deafBehind (D i).df (es.extract 0 jx):=fun jx e he=>.inl (touch_mute (hmute e (Array.mem_of_getElem? he)));refine book (by omega) (hstep w) (.refl _ w) hwg hbk hno (.quit hq) (by rw[mE]) (by omega) (fun tag' ht _=>fB (by have:=hmode.same (i:=i) q' (deafBehind dd es);simpa only[bJ,WX.wd,sF]using this) ht) (fun e=>?_) (.inr ⟨by omega,by omega⟩);obtain⟨p,k1,k2,k3,k4⟩:=hacq e;have hp:=lt_of_act? k1;refine⟨p,by rw[act?_old hp];exact k1,by rw[g?_old hp];exact k2,(heard_old hp).2 k3,fun i' hi'=>?_⟩;obtain⟨r,hr,hrp⟩:=k4 i' hi';by_cases e':i'=i
    ·subst e';exact⟨r,hr.book hdk _ _ hbk hno,hrp⟩
    ·exact⟨r,hr.appOther g_of_ofEvents (by omega),hrp⟩
theorem XD(O:nk H)(hA:nu H.P H.o j gs a x q t)(hS:SS H j mine got κ tag f0 d0 a w)(hW:∀i,i<j->WS H i (D i) (x i) w)(aC:Sets H j D mine w.heap.size)(hT:qb H j D d0 w.heap.size t)(hF:Fl H j D tag got κ closed mine w)
  (hCH:CH H closed w)(hwg:WgAt H.ty H.Wg w st sm)(hmode:ConcN.Mode j (bJ D) tag.c st sm)(hacq:tag= .wt .ret->vV H j t){i:Nat}(hi:i<j)(hrun:(x i).status= .running):
  ∃m₁ ops μ',runT H.P (crowd gs w sl) (H.o+i)=(.next m₁,ops)/\LL H.N μ' (meas H j D tag f0 q)/\Inv H μ' m₁ (t++ops):=by
 have hnr:∀{d:WX},(D i).wd=⟨7,0,0⟩->d=D i->tag≠.wt .ret:=fun h _ e=>by
  subst e;exact hmode.not_ret hi (show(bJ D i).stage≠1 by simp only[bJ,h];decide) rfl
 cases hW i hi with
 |born n gB rk h1 h2 h3 h0 h4 h5 h6=>
  cases n with
  |zero=>
   have e:x i=gB:=h4;exact EC O hA hS hW aC hT hF hCH hwg hmode hi (.inr h1) h3 (e▸h5) h6
  |succ n=>
   obtain⟨_,g1,hgo,Yu⟩:=h4;obtain⟨hst,hfu,hdf⟩:=Xq h3;have hs1:g1.status= .running:=by
    cases n with
    |zero=>
     obtain⟨ρ,p,f,fs,f',fs',e,_⟩:=h5;rw[show g1=gB from Yu,e];exact iY _ _ _
    |succ n=>exact Yu.1
   refine goW O.ar hA hS hW aC hF hi (d':= {D i with rk:=.ofNat n}) (hgo w) (.refl w) (fun _ _ _=>.refl w) (.born n gB rk h1 rfl h3 hs1 Yu h5 h6) (vY (i:=i) (d':= {D i with rk:=.ofNat n}) (w':=w) aC rfl rfl rfl (Nat.le_refl _)) ?_ (fun h=>hF.gu i hi h) (fun v hv=>by have:=(hF.some i v hv).2.1;omega) (fun _ _=>by simp only;omega) (by simp only;omega) hCH hwg
    (fun tag' ht _=>fB (by have:=hmode.same (i:=i) (D i).fu (D i).df;exact this) ht) (fun e=>absurd e (hnr h3 rfl)) (.inr ⟨rfl,rfl,by rw[h2];exact Rk.ofNat_lt n⟩)
   rw[kS,Array.append_empty];exact hT.upd rfl rfl rfl (fun h=>h)
 |tree h1 h2 h3 h4=>exact EC O hA hS hW aC hT hF hCH hwg hmode hi (.inl ⟨h1,rfl⟩) h2 h3 h4
 |sel v z0 z1 g₂ off h1 h2 h3 h4 h5 h6=>exact Kw O hA hS hW aC hT hF hCH hwg hmode hi (by omega) h2 h3 h4 h5 h6
 |rX v z0 z1 g₂ h1 h2 h3 h4 h5 h6=>rw[h3]at hrun;cases hrun
 |done h1 h2 h3 h4 h5=>exact Ky O hA hS hW aC hT hF hCH hwg hmode hacq hi hrun (.inl ⟨h1,h2,h3,h4,h5⟩)
 |lib h1 h2 h3 h4=>exact Ky O hA hS hW aC hT hF hCH hwg hmode hacq hi hrun (.inr ⟨h1,h2,h3,h4⟩)
end
end Go.iw
