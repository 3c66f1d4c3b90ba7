import Derived.Test.YtmfpiodlecapiaaGreatDoorJ25
namespace Go.iw
open Go.Conc Go.ConcN Go.bB Go.Ren
open Go.ConcR (KK wgBlock WgAt stA smA rd wr mk Payload Aside2 DC0 Bk g_of_ofEvents again_blocked bk_of_mute ofEvent_loc_mark ofEvent_cell ofEvent_mk)
def bT.kin:bT->Nat
 | .sp _ _=>0
 | .col _ _=>1
 | .cl=>2
 | .wm=>3
 | .wt _=>3
def Pj(Wg B:Nat)(e:Event):Prop:=(∀y,(MemAct.ofEvent e).touch? =some y->Ua Wg y.loc/\(y.kind= .atomic\/y.kind= .said))/\(MemAct.ofEvent e).low B/\e.loc≠.mark (.release (stA Wg))
theorem GEv.zero{Wg B:Nat}{e:Event}(h:GEv Wg B e):Pj Wg B e:=⟨fun y hy=>⟨(h.1 y hy).1,.inl (h.1 y hy).2⟩,h.2⟩
theorem aS.mono{H:Ph}{Stop Stop':(Nat->Prop)->Goroutine->World->Prop}(hs:∀m g w,Stop m g w->Stop' m g w):∀{n:Nat} {mine:Nat->Prop} {g:Goroutine} {w:World},aS H Stop n mine g w->aS H Stop' n mine g w
 |0,_,_,_,h=>fun w₁ h₁=>hs _ _ _ (h w₁ h₁)
 |_+1,_,_,_,h=>h.imp (fun x w₁ h₁=>hs _ _ _ (x w₁ h₁)) fun x=>⟨x.1,fun w₁ h₁=>let⟨g',w',es,bH,h1,h2,h3⟩:=x.2 w₁ h₁;⟨g',w',es,bH,h1,h2,aS.mono hs h3⟩⟩
theorem ZF{n:Nat}{μ a b:Ms}(h:LL n μ a)(hab:a.1.1<b.1.1):LL n μ b:=by
 obtain⟨⟨u,v⟩,k⟩:=μ;obtain⟨⟨a1,a2⟩,a3⟩:=a;refine gY ?_;simp only at hab⊢;rcases Prod.lex_def.1 h with h1|⟨h1,_⟩
 ·rcases h1 with h1|⟨h1,_⟩<;>simp only at h1<;>omega
 ·simp only[Prod.mk.injEq]at h1;omega
section
variable [Payload] {H:Ph} {j:Nat} {D:Nat->WX} {mine bH:Nat->Prop} {got:Nat->Option Value} {κ:Goroutine} {closed:Bool} {tag tag':bT} {f0 f' d0:Nat} {gs:Array Goroutine} {w w':World} {sl:Option (Nat×Nat)} {t:Trace} {a a':Goroutine} {x:Nat->Goroutine} {q:Nat->Nat} {st sm st' sm':Int} {es:Array Event}
def Moves(H:Ph)(gs:Array Goroutine)(w:World)(sl:Option (Nat×Nat))(t:Trace)(c:Nat)(μ:Ms):Prop:=∃m₁ ops μ',runT H.P (crowd gs w sl) c=(.next m₁,ops)/\LL H.N μ' μ/\Inv H μ' m₁ (t++ops)
theorem Moves.le{c:Nat}{μ μ':Ms}(h:Moves H gs w sl t c μ)(hl:μ.1.1<μ'.1.1):Moves H gs w sl t c μ':=by
 obtain⟨m₁,ops,μ1,h1,h2,h3⟩:=h;exact⟨m₁,ops,μ1,h1,ZF h2 hl,h3⟩
omit [Payload]in
theorem Fl.to(hF:Fl H j D tag got κ closed mine w)(hk:tag'.kin=tag.kin)(SH:tag.kin=0\/tag.kin=3)(hr:kW H.ty H.Wg (mO H mine) w w')(ho:∀i c,i<j->(D i).ow c->w'.heap[c]? =w.heap[c]?):Fl H j D tag' got κ closed mine w':=by
 have hl:tag'.late=tag.late:=by
  cases tag<;>cases tag'<;>simp[bT.kin]at hk SH<;>rfl
 refine⟨hF.jN,hF.gu,fun hc=>hF.np (hl▸hc),fun i v hv=>?_,hF.none,fun k b e=>?_,fun r s e=>?_,fun c e=>?_,fun e=>?_⟩
 ·obtain⟨h1,h2,h3⟩:=hF.some i v hv;exact⟨h1,h2,h3.rely fun c hc _=>ho i c h1 hc⟩
 ·subst e;have h1:1=tag.kin:=hk;omega
 ·subst e;cases tag with
  |sp r' s'=>exact hF.sp r' s' rfl
  |_=>simp[bT.kin]at hk
 ·have:∃c,tag= .wt c\/tag= .wm:=by
   cases tag with
   |wm=>exact⟨.kd,.inr rfl⟩
   |wt c=>exact⟨c,.inl rfl⟩
   |_=>rcases e with rfl|rfl<;>simp[bT.kin]at hk
  obtain⟨c',e'⟩:=this;obtain⟨ok,h1,h2,h3⟩:=hF.wt c' e';exact⟨ok,h1,h2,h3.rely hr⟩
 ·subst e;have h1:2=tag.kin:=hk;omega
theorem book0(hA:nu H.P H.o j gs a x q t)(hW:∀i,i<j->WS H i (D i) (x i) w)(aC:Sets H j D mine w.heap.size)(hT:qb H j D d0 w.heap.size t)(hF:Fl H j D tag got κ closed mine w)(hCH:CH H closed w)
  (hgo:stepG H.P true a w= .go a' w' es)(hAs:Aside H.Wg w w')(hwg':WgAt H.ty H.Wg w' st' sm')(hev:∀e∈es,Pj H.Wg w.heap.size e)(qP:SS H j mine got κ tag' f' (deafBehind d0 es) a' w')(hk:tag'.kin=tag.kin)(SH:tag.kin=0\/tag.kin=3)
  (hmode:ConcN.Mode j (bJ D) tag'.c st' sm')(hacq:tag'= .wt .ret->vV H j (t++MemOp.ofEvents 0 a.frame.fn a.frame.place es))
  (hlt:cK H.N (Vc j (bJ D)) tag'<cK H.N (Vc j (bJ D)) tag\/(cK H.N (Vc j (bJ D)) tag'=cK H.N (Vc j (bJ D)) tag/\f'<f0)):Moves H gs w sl t 0 (meas H j D tag f0 q):=by
 obtain⟨hgW,hgR,Ov,n1,n2,n3⟩:=aC.yE;obtain⟨⟨sR,rR,xk,hR⟩,⟨sD,rD,tK,hD⟩,pU⟩:=hCH;have hr0:kW H.ty H.Wg (mO H mine) w w':=tT hAs hwg' fun h=>h.elim (fun h=>(aC.gX _ h).2.1 rfl) fun h=>(aC.mspec _ h).2.1 rfl;have hrw:∀i,i<j->kW H.ty H.Wg (D i).vs w w':=fun i hi=>tT hAs hwg' fun h=>(aC.fH i _ hi h).2.1 rfl;have hti:TI H.Shun (JZ H.o j) (Bw H.o j D) (Bv H.o j D) H.Wg w.heap.size (t++MemOp.ofEvents 0 a.frame.fn a.frame.place es):=by
  refine hT.ti.group (aC.sep hA.pos) (g:=0) g_of_ofEvents (fun op hop=>?_) (fun op hop y hy=>?_)
  ·obtain⟨e,he,rfl⟩:=Go.Conc.mem_ofEvents hop;exact(hev e he).2.1
  ·obtain⟨e,he,rfl⟩:=Go.Conc.mem_ofEvents hop;exact⟨((hev e he).1 y hy).1,((hev e he).1 y hy).2.imp id fun h=>⟨h,rfl⟩⟩
 exact go0 hA hW aC hgo hrw (by rw[hAs.size];exact aC) (by rw[hAs.size];exact hT.app0 hA.pos hti fun e he=>(hev e he).2.2) qP (hF.to hk SH hr0 fun i c hi hc=>(hrw i hi).row c (aC.ov i c hi hc)) (fun hc=>hF.np (.inl hc))
  ⟨⟨sR,rR,xk,(hAs.block _ (Ne.symm n1)).trans hR⟩,⟨sD,rD,tK,(hAs.block _ (Ne.symm n2)).trans hD⟩,pU.rely hr0 fun b hb _=>hAs.block b (pU.2.2 b hb).1.1⟩ hwg' hmode hacq hlt
theorem idle0(hA:nu H.P H.o j gs a x q t)(hW:∀i,i<j->WS H i (D i) (x i) w)(aC:Sets H j D mine w.heap.size)(hT:qb H j D d0 w.heap.size t)(hF:Fl H j D tag got κ closed mine w)(hCH:CH H closed w)(hwg:WgAt H.ty H.Wg w st sm)(hmode:ConcN.Mode j (bJ D) tag.c st sm)(hacq:tag= .wt .ret->vV H j t)
  (hgo:stepG H.P true a w= .go a' w #[])(qP:SS H j mine got κ tag f' d0 a' w)(SH:tag.kin=0\/tag.kin=3)(hlt:f'<f0):Moves H gs w sl t 0 (meas H j D tag f0 q):=
 book0 (f':=f') hA hW aC hT hF hCH hgo (.refl _ w) hwg (fun e he=>by simp at he) qP rfl SH hmode (fun e=>by rw[kS,Array.append_empty];exact hacq e) (.inr ⟨rfl,hlt⟩)
theorem plain0(hA:nu H.P H.o j gs a x q t)(hW:∀i,i<j->WS H i (D i) (x i) w)(aC:Sets H j D mine w.heap.size)(hT:qb H j D 0 w.heap.size t)(hF:Fl H j D tag got κ closed mine w)(hCH:CH H closed w)(hwg:WgAt H.ty H.Wg w st sm)(hmode:ConcN.Mode j (bJ D) tag.c st sm)
  (hgo:stepG H.P true a w= .go a' w' es)(hst:GY H mine bH w w' es)(qP:SS H j bH got κ tag f' 0 a' w')(h3:tag.kin≠3)(hlt:f'<f0):Moves H gs w sl t 0 (meas H j D tag f0 q):=by
 obtain⟨hgW,hgR,Ov,n1,n2,n3⟩:=aC.yE;obtain⟨⟨sR,rR,xk,hR⟩,⟨sD,rD,tK,hD⟩,pU⟩:=hCH;have hsp:∀c,c=H.Wg\/c=H.R\/c=H.Dn->w'.heap[c]? =w.heap[c]? :=by
  intro c hc;refine hst.row c (by rcases hc with rfl|rfl|rfl<;>assumption) fun hm=>?_;have:=aC.mspec c hm;rcases hc with rfl|rfl|rfl
  ·exact this.2.1 rfl
  ·exact this.2.2.1 rfl
  ·exact this.2.2.2.1 rfl
 have hwg':WgAt H.ty H.Wg w' st sm:=(hsp _ (.inl rfl)).trans hwg;have hrw:∀i,i<j->kW H.ty H.Wg (D i).vs w w':=fun i hi=>⟨hst.size,fun b hb=>hst.row b (aC.fH i b hi hb).1 (aC.vm i b hi hb),fun _=>⟨st,sm,hwg'⟩,hst.tape,hst.os,hst.output,hst.nv⟩;have up:∀{b:Nat} {X:Prop},(b<w.heap.size/\X)->(b<w'.heap.size/\X):=fun x=>⟨Nat.lt_of_lt_of_le x.1 hst.size,x.2⟩;have hset':Sets H j D bH w'.heap.size:=by
  refine⟨fun b hb=>up (aC.gX b hb),fun b hb=>?_,fun b hb ho=>?_,fun i b hi hb=>up (aC.fH i b hi hb),aC.ov,fun i b hi hb hm=>?_,aC.om,aC.apart,aC.cv,aC.cold,aC.co,aC.cap,⟨Nat.lt_of_lt_of_le hgW hst.size,Nat.lt_of_lt_of_le hgR hst.size,Nat.lt_of_lt_of_le Ov hst.size,n1,n2,n3⟩,fun b k hb=>aC.fresh b k (Nat.le_trans hst.size hb)⟩
  ·rcases hst.new b hb with h|⟨h1,h2⟩
   ·exact up (aC.mspec b h)
   ·exact⟨h2,by omega,by omega,by omega,fun k=>aC.fresh b k h1⟩
  ·rcases hst.new b hb with h|⟨h1,h2⟩
   ·exact aC.Ob b h ho
   ·have:=(aC.gX b ho).1;omega
  ·rcases hst.new b hm with h|⟨h1,h2⟩
   ·exact aC.vm i b hi hb h
   ·have:=(aC.fH i b hi hb).1;omega
 have hev:∀e∈es,(MemAct.ofEvent e).low w'.heap.size/\e.loc≠.mark .disable/\e.loc≠.mark .enable/\(∀a,e.loc≠.mark (.release a))/\∀y,(MemAct.ofEvent e).touch? =some y->∃c i,y.loc= .cell ⟨c,i,none⟩/\y.kind= .plain/\(H.old c\/bH c)/\(y.write=true->bH c):=by
  intro e he;rcases hst.evs e he with⟨c,i,wr,rfl,h1,h2⟩|rfl|⟨f,rfl⟩
  ·refine⟨?_,by simp,by simp,by simp,fun y hy=>?_⟩
   ·show c<w'.heap.size;exact h1.elim (fun h=>(hset'.gX c h).1) fun h=>(hset'.mspec c h).1
   ·simp only[MemAct.ofEvent,MemAct.touch?,Option.some.injEq]at hy;subst hy;exact⟨c,i,rfl,rfl,h1,h2⟩
  iterate 2 (·exact⟨trivial,by simp,by simp,by simp,fun y hy=>by simp[MemAct.ofEvent,MemAct.touch?]at hy⟩)
 have hd0:deafBehind 0 es=0:=deafBehind_still (fun e he=>⟨(hev e he).2.1,(hev e he).2.2.1⟩) 0;have hti:TI H.Shun (JZ H.o j) (Bw H.o j D) (Bv H.o j D) H.Wg w'.heap.size (t++MemOp.ofEvents 0 a.frame.fn a.frame.place es):=by
  refine(hT.ti.grow (fun _ _ _ h=>.inl h) (fun _ _ _ h=>.inl h) (fun _ _ h=>h) (fun _ _ h=>h) hst.size).lead g_of_ofEvents (fun op hop=>?_) (fun op hop y hy=>?_)
  ·obtain⟨e,he,rfl⟩:=Go.Conc.mem_ofEvents hop;exact(hev e he).1
  ·obtain⟨e,he,rfl⟩:=Go.Conc.mem_ofEvents hop;obtain⟨c,i,h1,h2,h3,h4⟩:=(hev e he).2.2.2.2 y hy;refine⟨c,i,h1,h2,?_,?_,fun k _ ⟨i',hi',_,ho⟩=>?_,fun hw k _ ⟨i',hi',_,hv⟩=>hset'.vm i' c hi' hv (h4 hw)⟩
   ·exact h3.elim (fun h=>(hset'.gX c h).2.1) fun h=>(hset'.mspec c h).2.1
   ·rw[h1];exact h3.elim (fun h=>(hset'.gX c h).2.2.2.2 i) fun h=>(hset'.mspec c h).2.2.2.2 i
   ·exact h3.elim (hset'.om i' c hi' ho) (hset'.vm i' c hi' (hset'.ov i' c hi' ho))
 refine go0 (d0:=0) (Xg:=f') hA hW aC hgo hrw hset' (hT.app0 hA.pos hti fun e he=>(hev e he).2.2.2.1 _) (by rw[hd0];exact qP) ?_ (fun hc=>hF.np (.inl hc)) ⟨⟨sR,rR,xk,(hsp _ (.inr (.inl rfl))).trans hR⟩,⟨sD,rD,tK,(hsp _ (.inr (.inr rfl))).trans hD⟩,⟨⟨fun b hb=>(hst.row b (aC.gX b hb).1 fun hm=>aC.Ob b hm hb).trans (pU.1.1 b hb),hst.os.trans pU.1.2.1,hst.output.trans pU.1.2.2⟩,hst.nv pU.2.1,fun b hb=>⟨(pU.2.2 b hb).1,by
   obtain⟨o,h1,h2⟩:=(pU.2.2 b hb).2;exact⟨o,h1,(hst.row b (Array.getElem?_eq_some_iff.1 h2).1 fun hm=>(aC.mspec b hm).2.2.2.2 0 (pU.2.2 b hb).1.2.2.2).trans h2⟩⟩⟩⟩ hwg' hmode (fun e=>by subst e;exact absurd rfl h3) (.inr ⟨rfl,hlt⟩)
 refine⟨hF.jN,hF.gu,hF.np,fun i v hv=>?_,hF.none,hF.cnt,hF.sp,fun c e=>?_,hF.cl⟩
 ·obtain⟨h1,h2,h3⟩:=hF.some i v hv;exact⟨h1,h2,h3.rely fun c hc _=>(hrw i h1).row c (aC.ov i c h1 hc)⟩
 ·rcases e with rfl|rfl<;>exact absurd rfl h3
structure Now(H:Ph)(j:Nat)(D:Nat->WX)(mine:Nat->Prop)(got:Nat->Option Value)(κ:Goroutine)(closed:Bool)(tag:bT)(d0:Nat)(gs:Array Goroutine)(w:World)(t:Trace)(a:Goroutine)(x:Nat->Goroutine)(q:Nat->Nat)(st sm:Int):Prop where
 hA:nu H.P H.o j gs a x q t
 hW:∀i,i<j->WS H i (D i) (x i) w
 aC:Sets H j D mine w.heap.size
 hT:qb H j D d0 w.heap.size t
 hF:Fl H j D tag got κ closed mine w
 hCH:CH H closed w
 hwg:WgAt H.ty H.Wg w st sm
 hmode:ConcN.Mode j (bJ D) tag.c st sm
 hacq:tag= .wt .ret->vV H j t
theorem Now.to(h:Now H j D mine got κ closed tag d0 gs w t a x q st sm)(hk:tag'.kin=tag.kin)(SH:tag.kin=0\/tag.kin=3)(hm:ConcN.Mode j (bJ D) tag'.c st sm)(hr:tag'≠.wt .ret):Now H j D mine got κ closed tag' d0 gs w t a x q st sm:=
 ⟨h.hA,h.hW,h.aC,h.hT,h.hF.to hk SH (.refl w) fun _ _ _ _=>rfl,h.hCH,h.hwg,hm,fun e=>absurd e hr⟩
omit [Payload]in
theorem reopen{tag tag':bT}(hm:ConcN.Mode j (bJ D) tag.c st sm)(h:isOpen tag.c)(h':isOpen tag'.c)(hp:pend tag'.c=pend tag.c)(hw:∀vs,tag'.c≠.w2 vs):ConcN.Mode j (bJ D) tag'.c st sm:=hm.reopen h h' hp fun vs e=>absurd e (hw vs)
omit [Payload]in
theorem sH{Wg B:Nat}{m:Mark}(h:m= .disable\/m= .enable):∀e∈#[mk m],Pj Wg B e:=by
 intro e he;simp at he;subst he;rcases h with rfl|rfl
 iterate 2 (·exact⟨fun y hy=>by simp[mk,MemAct.ofEvent,MemAct.touch?]at hy,trivial,by simp[mk]⟩)
omit [Payload]in
theorem F5{Wg B:Nat}{m:Mark}(h:m= .read (smA Wg)\/m= .write (smA Wg))(hB:Wg<B):∀e∈#[mk m],Pj Wg B e:=by
 intro e he;simp at he;subst he;rcases h with rfl|rfl
 iterate 2 (·refine⟨fun y hy=>?_,hB,by simp[mk]⟩;simp only[mk,MemAct.ofEvent,MemAct.touch?,Option.some.injEq]at hy;subst hy;exact⟨⟨_,rfl,rfl⟩,.inr rfl⟩)
omit [Payload]in
theorem kK{Wg B:Nat}{es:Array Event}(h:∀e∈es,Bk Wg e)(hB:Wg<B):∀e∈es,Pj Wg B e:=fun e he=>(SL (h e he) hB).zero
omit [Payload]in
theorem bk_rw{Wg:Nat}:∀e∈#[rd (stA Wg),wr (stA Wg)],Bk Wg e:=by intro e he;simp at he;rcases he with rfl|rfl<;>exact bk_cell _ _ rfl
omit [Payload]in
theorem bk_rd{Wg:Nat}:∀e∈#[rd (stA Wg)],Bk Wg e:=by intro e he;simp at he;subst he;exact bk_cell _ _ rfl
section
variable (n:Now H j D mine got κ closed tag d0 gs w t a x q st sm)
include n
theorem KS{r:Nat}(ht:tag= .sp r 0)(hd:d0=0)(e:j+(r+1)=H.N)(h:aS H (AtGo H (H.N-(r+1)) (Ud H r)) f0 mine a w):Moves H gs w sl t 0 (meas H j D tag f0 q):=by
 subst ht;subst hd;have hj:H.N-(r+1)=j:=by omega
 rw[hj]at h;rcases h.cases with hstop|⟨n',rfl,hrun,g',w',es,bH,hgo,hst,hg'⟩
 ·obtain⟨hrun,g',child,d,bH,hsp,h22,hdf,hgu,hws,hno,hvs,hvm,hC,hCm,hmm,hnext⟩:=hstop;have hrun':=runT_crowd_spawn (P:=H.P) (sl:=sl) (i:=0) n.hA.z (show stepG H.P (0==0) a w=_ from hsp);rw[kS,n.hA.size]at hrun';have hops:((#[]:Array MemOp).push {g:=0,fn:=a.frame.fn,pos:=a.frame.place,act:=.go (H.o+j)}).push {g:=H.o+j,fn:=child.frame.fn,pos:=a.frame.place,act:=.start}=#[{g:=0,fn:=a.frame.fn,pos:=a.frame.place,act:=.go (H.o+j)},{g:=H.o+j,fn:=child.frame.fn,pos:=a.frame.place,act:=.start}]:=rfl;rw[hops]at hrun';generalize hux:({g:=0,fn:=a.frame.fn,pos:=a.frame.place,act:=.go (H.o+j)}:MemOp)=ux at hrun';generalize huy:({g:=H.o+j,fn:=child.frame.fn,pos:=a.frame.place,act:=.start}:MemOp)=uy at hrun';have hxg:ux.g=0/\ux.act= .go (H.o+j):=by subst hux;exact⟨rfl,rfl⟩
  have hyg:uy.g=H.o+j/\uy.act= .start:=by subst huy;exact⟨rfl,rfl⟩
  have hm2:∀op∈#[ux,uy],op=ux\/op=uy:=by intro op hop;simpa using hop
  have VB:∀op∈#[ux,uy],op.act≠.mark .disable/\op.act≠.mark .enable:=by
   intro op hop;rcases hm2 op hop with rfl|rfl
   ·rw[hxg.2];exact⟨by simp,by simp⟩
   ·rw[hyg.2];exact⟨by simp,by simp⟩
  obtain⟨hgW,hgR,Ov,n1,n2,n3⟩:=n.aC.yE;have hpos:=n.hA.pos;have hDj:∀i,i<j->upd D j d i=D i:=fun i hi=>upd_ne D _ (by omega);have Js:∀b,d.vs b->b<w.heap.size/\b≠H.Wg/\b≠H.R/\b≠H.Dn/\∀k,¬H.Shun (.cell ⟨b,k,none⟩):=fun b hb=>(hvs b hb).elim (n.aC.gX b) (n.aC.mspec b);have hset':Sets H (j+1) (upd D j d) bH w.heap.size:=by
   have c:∀i,i<j+1->(i<j/\upd D j d i=D i)\/(i=j/\upd D j d i=d):=fun i hi=>by
    by_cases e:i=j
    ·exact .inr ⟨e,by rw[e,upd_same]⟩
    ·exact .inl ⟨by omega,upd_ne D _ e⟩
   refine⟨n.aC.gX,fun b hb=>n.aC.mspec b (hmm b hb),fun b hb=>n.aC.Ob b (hmm b hb),fun i b hi hb=>?_,fun i b hi hb=>?_,fun i b hi hb hm=>?_,fun i b hi hb=>?_,fun i i' b hi hi' hne hb hb'=>?_,fun i hi=>?_,fun i hi=>?_,fun i hi=>?_,fun i i' hi hi' hne hb=>?_,n.aC.yE,n.aC.fresh⟩
   ·rcases c i hi with⟨h1,h2⟩|⟨h1,h2⟩<;>rw[h2]at hb
    ·exact n.aC.fH i b h1 hb
    ·exact Js b hb
   ·rcases c i hi with⟨h1,h2⟩|⟨h1,h2⟩<;>rw[h2]at hb⊢
    ·exact n.aC.ov i b h1 hb
    ·exact absurd hb (hno b)
   ·rcases c i hi with⟨h1,h2⟩|⟨h1,h2⟩<;>rw[h2]at hb
    ·exact n.aC.vm i b h1 hb (hmm b hm)
    ·exact hvm b hb hm
   ·rcases c i hi with⟨h1,h2⟩|⟨h1,h2⟩<;>rw[h2]at hb
    ·exact n.aC.om i b h1 hb
    ·exact absurd hb (hno b)
   ·rcases c i hi with⟨h1,h2⟩|⟨h1,h2⟩<;>rw[h2]at hb
    ·rcases c i' hi' with⟨h3,h4⟩|⟨h3,h4⟩<;>rw[h4]at hb'
     ·exact n.aC.apart i i' b h1 h3 hne hb hb'
     ·exact(hvs b hb').elim (n.aC.om i b h1 hb) (n.aC.vm i b h1 (n.aC.ov i b h1 hb))
    ·exact absurd hb (hno b)
   ·rcases c i hi with⟨h1,h2⟩|⟨h1,h2⟩<;>rw[h2]
    ·exact n.aC.cv i h1
    ·exact hC
   ·rcases c i hi with⟨h1,h2⟩|⟨h1,h2⟩<;>rw[h2]
    ·exact n.aC.cold i h1
    ·exact n.aC.Ob _ hCm
   ·rcases c i hi with⟨h1,h2⟩|⟨h1,h2⟩<;>rw[h2]
    ·exact n.aC.co i h1
    ·exact hno _
   ·rcases c i hi with⟨h1,h2⟩|⟨h1,h2⟩<;>rw[h2]at hb
    ·rcases c i' hi' with⟨h3,h4⟩|⟨h3,h4⟩<;>rw[h4]at hb
     ·exact n.aC.cap i i' h1 h3 hne hb
     ·exact(hvs _ hb).elim (n.aC.cold i h1) (n.aC.vm i _ h1 (n.aC.cv i h1))
    ·rcases c i' hi' with⟨h3,h4⟩|⟨h3,h4⟩
     ·rw[h4]at hb;exact n.aC.vm i' _ h3 hb hCm
     ·exact hne (h1.trans h3.symm)
  have hTI:TI H.Shun (JZ H.o (j+1)) (Bw H.o (j+1) (upd D j d)) (Bv H.o (j+1) (upd D j d)) H.Wg w.heap.size (t++ #[ux,uy]):=by
   have:=n.hT.ti.fork (n:=H.o+j) (YV:=d.vs) hxg hyg n.hT.deaf0 (n.hT.qy _ (Nat.le_refl _)) (fun⟨i,hi,e⟩=>by omega) (fun c i hc=>⟨(Js c hc).2.2.2.2 i,(Js c hc).2.1,fun k _ ⟨i',hi',_,ho⟩=>(hvs c hc).elim (n.aC.om i' c hi' ho) (n.aC.vm i' c hi' (n.aC.ov i' c hi' ho))⟩);have ew:(fun k=>JZ H.o j k\/k=H.o+j)=JZ H.o (j+1):=by
    funext k;apply propext;constructor
    ·rintro(⟨i,hi,rfl⟩|rfl)
     ·exact⟨i,by omega,rfl⟩
     ·exact⟨j,by omega,rfl⟩
    ·rintro⟨i,hi,rfl⟩;by_cases e:i=j
     ·exact .inr (by rw[e])
     ·exact .inl ⟨i,by omega,rfl⟩
   have eo:(fun k c=>k≠H.o+j/\Bw H.o j D k c)=Bw H.o (j+1) (upd D j d):=by
    funext k c;apply propext;constructor
    ·rintro⟨_,i,hi,rfl,h⟩;exact⟨i,by omega,rfl,by rw[hDj i hi];exact h⟩
    ·rintro⟨i,hi,rfl,h⟩;by_cases e:i=j
     ·subst e;rw[upd_same]at h;exact absurd h (hno c)
     ·rw[upd_ne D _ e]at h;exact⟨by omega,i,by omega,rfl,h⟩
   have ev:(fun k c=>(k≠H.o+j/\Bv H.o j D k c)\/(k=H.o+j/\d.vs c))=Bv H.o (j+1) (upd D j d):=by
    funext k c;apply propext;constructor
    ·rintro(⟨_,i,hi,rfl,h⟩|⟨rfl,h⟩)
     ·exact⟨i,by omega,rfl,by rw[hDj i hi];exact h⟩
     ·exact⟨j,by omega,rfl,by rw[upd_same];exact h⟩
    ·rintro⟨i,hi,rfl,h⟩;by_cases e:i=j
     ·subst e;rw[upd_same]at h;exact .inr ⟨rfl,h⟩
     ·rw[upd_ne D _ e]at h;exact .inl ⟨by omega,i,by omega,rfl,h⟩
   rw[ew,eo,ev]at this;exact this
  have hWk:∀i,i<j+1->WS H i (upd D j d i) (upd x j child i) w:=fun i hi=>by
   by_cases e:i=j
   ·subst e;rw[upd_same,upd_same];exact hws
   ·rw[upd_ne D _ e,upd_ne x _ e];exact n.hW i (by omega)
  have hTR:qb H (j+1) (upd D j d) 0 w.heap.size (t++ #[ux,uy]):=by
   refine⟨hTI,n.hT.FC.app fun op hop=>?_,fun i g hg hne hc=>?_,by rw[Deaf_still _ _ _ VB,n.hT.deaf0],fun i hi=>?_,fun k hk=>by rw[Deaf_still _ _ _ VB,n.hT.qy k (by omega)],fun i hi hw=>?_⟩
   ·rcases hm2 op hop with rfl|rfl
    ·rw[hxg.2];simp
    ·rw[hyg.2];simp
   ·have:=nZ (u:=#[ux,uy]) (Wk:=JZ H.o j) n.hT.over (fun op hop=>.inr (.inr (by
     rcases hm2 op hop with rfl|rfl
     ·rw[hxg.2];rfl
     ·rw[hyg.2];rfl))) i g hg hne hc
    exact this.imp (fun⟨i,hi,e⟩=>⟨i,by omega,e⟩) id
   ·rw[Deaf_still _ _ _ VB];by_cases e:i=j
    ·subst e;rw[upd_same,hdf];exact n.hT.qy _ (Nat.le_refl _)
    ·rw[upd_ne D _ e];exact n.hT.deafW i (by omega)
   ·by_cases e:i=j
    ·subst e;rw[upd_same]at hw;omega
    ·rw[upd_ne D _ e]at hw;obtain⟨r,hr⟩:=n.hT.rel i (by omega) hw;refine⟨r,hr.appNot fun op hop=>?_⟩;rcases hm2 op hop with rfl|rfl
     ·rw[hxg.1];omega
     ·rw[hyg.1];omega
  have zR:nu H.P H.o (j+1) ((gs.setIfInBounds 0 g').push child) g' (upd x j child) q (t++ #[ux,uy]):=(n.hA.set0 (u:=t) fun _ _ _=>rfl).push fun _ _ _=>Deaf_still _ _ _ VB;obtain⟨hcl,hgn⟩:=n.hF.sp r 0 rfl;have hwd:(upd (bJ D) j d.wd)=bJ (upd D j d):=(vW d).symm;have hd7:d.wd.stage=7:=by
   rcases hws.Fe with h|h
   ·exact h.2
   ·omega
  have hVc:Vc (j+1) (bJ (upd D j d))=Vc j (bJ D)+1:=by
   rw[<-hwd];simp only[Vc,sumTo,upd_same];rw[sumTo_congr (g:=fun i=>ConcN.cnt (bJ D i)) (fun i hi=>by rw[upd_ne (bJ D) _ (by omega)])];simp[ConcN.cnt,hd7]
  have hmode':∀tag':bT,isOpen tag'.c->pend tag'.c=0->(∀vs,tag'.c≠.w2 vs)->ConcN.Mode (j+1) (bJ (upd D j d)) tag'.c st sm:=by
   intro tag' h1 h2 h3;obtain⟨k1,k2,k3,_⟩:=n.hmode.open_inv trivial;have hp:pend (bT.sp r 0).c=1:=rfl;have:st=((Vc (j+1) (bJ (upd D j d))+pend tag'.c:Nat):Int)*KK:=by rw[hVc,h2,k2,hp]
   rw[this,k3];refine .opn h1 (fun i hi=>?_) (fun vs e=>absurd e (h3 vs));rw[<-hwd];by_cases e:i=j
   ·subst e;rw[upd_same];exact .inl hd7
   ·rw[upd_ne (bJ D) _ e];exact k1 i (by omega)
  have hFl:∀tag':bT,tag'.late=false->(∀k b,tag'= .col k b->k=H.N)->Fl H (j+1) (upd D j d) tag' got κ closed bH w:=by
   intro tag' hl hk;refine⟨by omega,fun i hi=>?_,fun hc=>?_,fun i v hv=>by(rw[hgn i]at hv;cases hv),fun hc i hi hn=>?_,fun k b e=>⟨hcl,?_⟩,fun r s e=>⟨hcl,hgn⟩,fun c e=>?_,fun e=>?_⟩
   ·by_cases e:i=j
    ·subst e;rw[upd_same,hgu];intro h;cases h
    ·rw[upd_ne D _ e];exact n.hF.gu i (by omega)
   ·rcases hc with hc|hc
    ·rw[hcl]at hc;cases hc
    ·rw[hl]at hc;cases hc
   ·by_cases e:i=j
    ·subst e;rw[upd_same];omega
    ·rw[upd_ne D _ e];exact n.hF.none hc i (by omega) hn
   ·rw[hk k b e];have:∀m,sumTo m (fun i=>if got i=none then 1 else 0)=m:=by
     intro m;induction m with
     |zero=>rfl
     |succ m ih=>simp[sumTo,ih,hgn m]
    exact this _
   ·rcases e with rfl|rfl<;>cases hl
   ·subst e;cases hl
  have hsumN:sumTo H.N (gG (j+1) (upd D j d))+30=sumTo H.N (gG j D)+22:=by
   have e:∀b,gG (j+1) (upd D j d) b=upd (gG j D) j 22 b:=by
    intro b;by_cases e:b=j
    ·subst e;simp[gG,upd_same,h22]
    ·simp only[gG,upd_ne D _ e,upd_ne (gG j D) _ e];by_cases h:b<j
     ·rw[if_pos (by omega),if_pos h]
     ·rw[if_neg (by omega),if_neg h]
   have h1:=sumTo_upd (gG j D) 22 id (show j<H.N by omega);simp only[id_eq]at h1;have h2:sumTo H.N (gG (j+1) (upd D j d))=sumTo H.N (fun a=>upd (gG j D) j 22 a):=sumTo_congr fun a _=>e a;have h3:gG j D j=30:=by simp[gG]
   rw[h2,<-h3];exact h1
  cases r with
  |zero=>
   obtain⟨m,Yz⟩:=hnext;have hss:SS H (j+1) bH got κ (.col H.N false) m 0 g' w:=.col (by omega) (by
    have hg:got=fun _=>none:=funext hgn;rw[hg];exact Yz)
   exact⟨_,_,meas H (j+1) (upd D j d) (.col H.N false) m q,hrun',gY (by simp only[meas,cK,Bool.false_eq_true,if_false];omega),_,w,sl,j+1,upd D j d,bH,got,κ,closed,.col H.N false,m,0,g',_,q,st,sm,rfl,zR,hss,hWk,hset',hTR,hFl _ rfl (fun k b e=>by simp only[bT.col.injEq]at e;exact e.1.symm),n.hCH,n.hwg,hmode' _ trivial rfl (by simp[bT.c]),(fun e=>by cases e),rfl⟩
  |succ r=>
   obtain⟨m,hspw⟩:=hnext;exact⟨_,_,meas H (j+1) (upd D j d) (.sp r 6) m q,hrun',gY (by simp only[meas,cK];omega),_,w,sl,j+1,upd D j d,bH,got,κ,closed,.sp r 6,m,0,g',_,q,st,sm,rfl,zR,.XF (by omega) hspw,hWk,hset',hTR,hFl _ rfl (fun k b e=>by cases e),n.hCH,n.hwg,hmode' _ trivial rfl (by simp[bT.c]),(fun e=>by cases e),rfl⟩
 ·exact plain0 n.hA n.hW n.aC n.hT n.hF n.hCH n.hwg n.hmode hgo hst (.sgo e (by rw[hj];exact hg')) (by simp[bT.kin]) (Nat.lt_succ_self _)
end
end
end Go.iw
namespace Go.iw
open Go.Conc Go.ConcN Go.bB Go.Ren
open Go.ConcR (KK wgBlock WgAt stA smA rd wr mk Payload Aside2 DC0 Bk g_of_ofEvents again_blocked bk_of_mute ofEvent_loc_mark ofEvent_cell ofEvent_mk)
section
variable [Payload] {H:Ph} {j:Nat} {D:Nat->WX} {mine bH:Nat->Prop} {got:Nat->Option Value} {κ:Goroutine} {closed:Bool} {tag tag':bT} {f0 f' d0:Nat} {gs:Array Goroutine} {w w':World} {sl:Option (Nat×Nat)} {t:Trace} {a a':Goroutine} {x:Nat->Goroutine} {q:Nat->Nat} {st sm st' sm':Int} {es:Array Event}
section
variable (n:Now H j D mine got κ closed tag d0 gs w t a x q st sm)
include n
theorem Now.idle(hgo:stepG H.P true a w= .go a' w #[])(qP:SS H j mine got κ tag f' d0 a' w)(SH:tag.kin=0\/tag.kin=3)(hlt:f'<f0):Moves H gs w sl t 0 (meas H j D tag f0 q):=
 idle0 n.hA n.hW n.aC n.hT n.hF n.hCH n.hwg n.hmode n.hacq hgo qP SH hlt
theorem Now.book(hgo:stepG H.P true a w= .go a' w' es)(hAs:Aside H.Wg w w')(hwg':WgAt H.ty H.Wg w' st' sm')(hev:∀e∈es,Pj H.Wg w.heap.size e){dd:Nat}(hdd:deafBehind d0 es=dd)(qP:SS H j mine got κ tag' f' dd a' w')(hk:tag'.kin=tag.kin)(SH:tag.kin=0\/tag.kin=3)
  (hmode:ConcN.Mode j (bJ D) tag'.c st' sm')(hacq:tag'= .wt .ret->vV H j (t++MemOp.ofEvents 0 a.frame.fn a.frame.place es))
  (hlt:cK H.N (Vc j (bJ D)) tag'<cK H.N (Vc j (bJ D)) tag):Moves H gs w sl t 0 (meas H j D tag f0 q):=by
 subst hdd;exact book0 n.hA n.hW n.aC n.hT n.hF n.hCH hgo hAs hwg' hev qP hk SH hmode hacq (.inl hlt)
theorem X6{r:Nat}{gK:Goroutine}(ht:tag= .sp r 1)(hd:d0=0)(e:j+(r+1)=H.N)(hK:gK.status= .running)(h:Goes H.P true (RS H.ty H.Wg) DC0 (isK gK) f0 a w)(hc:Cont H mine (NX H r mine gK) w):Moves H gs w sl t 0 (meas H j D tag f0 q):=by
 subst ht;subst hd;rcases Goes.cases h with hstop|⟨m',rfl,hstep⟩
 ·have ea:a=gK:=hstop w (RS.refl w);obtain⟨m,hm⟩:=hc w (.refl w);rw[<-ea]at hm;exact(KS (tag:=.sp r 0) (f0:=m) (n.to rfl (.inl rfl) (reopen (tag:=.sp r 1) n.hmode trivial trivial rfl (by simp[bT.c])) (by simp)) rfl rfl e hm).le (by simp only[meas,cK];omega)
 ·obtain⟨g',w1,es1,hgo,⟨rfl,rfl⟩,hg'⟩:=hstep w (RS.refl w);exact n.idle hgo (.kk e hK hg' hc) (.inl rfl) (Nat.lt_succ_self _)
theorem X7{r:Nat}{gK:Goroutine}(ht:tag= .sp r 2)(hd:d0=1)(e:j+(r+1)=H.N)(h:Goes H.P true (RS H.ty H.Wg) DC0 (jm H.P H.ty H.Wg .enable (isK gK)) f0 a w)(hc:Cont H mine (NX H r mine gK) w):Moves H gs w sl t 0 (meas H j D tag f0 q):=by
 subst ht;subst hd;rcases Goes.cases h with hstop|⟨m',rfl,hstep⟩
 ·obtain⟨_,g',hgo,m,hg'⟩:=hstop w (RS.refl w);have hK:gK.status= .running:=by
   obtain⟨m,hm⟩:=hc w (.refl w);exact hm.running fun _ _ _ y=>y.1
  exact n.book (tag':=.sp r 1) hgo (.refl _ w) n.hwg (sH (.inr rfl)) (dd:=0) rfl (.kk e hK hg' hc) rfl (.inl rfl) (reopen (tag:=.sp r 2) n.hmode trivial trivial rfl (by simp[bT.c])) (fun e=>by cases e) (by simp only[cK];omega)
 ·obtain⟨g',w1,es1,hgo,⟨rfl,rfl⟩,hg'⟩:=hstep w (RS.refl w);exact n.idle hgo (.ke e hg' hc) (.inl rfl) (Nat.lt_succ_self _)
theorem X5{r:Nat}{gK:Goroutine}(ht:tag= .sp r 3)(hd:d0=1)(e:j+(r+1)=H.N)(h:Goes H.P true (RS H.ty H.Wg) DC0 (jm H.P H.ty H.Wg (.read (smA H.Wg)) (jm H.P H.ty H.Wg .enable (isK gK))) f0 a w)(hc:Cont H mine (NX H r mine gK) w):Moves H gs w sl t 0 (meas H j D tag f0 q):=by
 subst ht;subst hd;rcases Goes.cases h with hstop|⟨m',rfl,hstep⟩
 ·obtain⟨_,g',hgo,m,hg'⟩:=hstop w (RS.refl w);exact n.book (tag':=.sp r 2) hgo (.refl _ w) n.hwg (F5 (.inl rfl) n.aC.yE.1) (dd:=1) rfl (.ke e hg' hc) rfl (.inl rfl) (reopen (tag:=.sp r 3) n.hmode trivial trivial rfl (by simp[bT.c])) (fun e=>by cases e) (by simp only[cK];omega)
 ·obtain⟨g',w1,es1,hgo,⟨rfl,rfl⟩,hg'⟩:=hstep w (RS.refl w);exact n.idle hgo (.rd e hg' hc) (.inl rfl) (Nat.lt_succ_self _)
theorem X9(O:nk H){r:Nat}{gK:Goroutine}(ht:tag= .sp r 4)(hd:d0=1)(e:j+(r+1)=H.N)(h:Goes H.P true (RS H.ty H.Wg) DC0 (G7 H.P H.ty H.Wg (jm H.P H.ty H.Wg (.read (smA H.Wg)) (jm H.P H.ty H.Wg .enable (isK gK))) (jm H.P H.ty H.Wg .enable (isK gK))) f0 a w)(hc:Cont H mine (NX H r mine gK) w):
  Moves H gs w sl t 0 (meas H j D tag f0 q):=by
 subst ht;subst hd;rcases Goes.cases h with hstop|⟨m',rfl,hstep⟩
 ·obtain⟨_,hall⟩:=hstop w (RS.refl w);obtain⟨h1,h2,h3,_⟩:=n.hmode.open_inv trivial;have hVj:=Vc_le j (bJ D);have hN:=O.hN;have hwg:WgAt H.ty H.Wg w ((Vc j (bJ D):Nat)*KK) 0:=by
   have:=n.hwg;rw[h2,h3]at this;exact this
  obtain⟨g',hgo,hz,hs⟩:=hall (Vc j (bJ D)) (by omega) hwg;have hAs:=aside_setCell w (stA H.Wg) (.int .u64 ((Vc j (bJ D)+1)*KK));have hc':Cont H mine (NX H r mine gK) (w.setCell (stA H.Wg) (.int .u64 ((Vc j (bJ D)+1)*KK))):=hc.rely (tT hAs (hwg.setSt _) fun h=>h.elim (fun h=>(n.aC.gX _ h).2.1 rfl) fun h=>(n.aC.mspec _ h).2.1 rfl);have hm:∀s,s<=3->ConcN.Mode j (bJ D) (bT.sp r s).c ((Vc j (bJ D)+1)*KK) 0:=by
   intro s hs3;have:=ConcN.Mode.opn (j:=j) (D:=bJ D) (tag:=.sp r s) trivial h1 (fun vs e=>by cases e);have hp:pend (.sp r s)=1:=by simp[pend,hs3]
   rw[hp,Int.natCast_add]at this;exact this
  by_cases hv:Vc j (bJ D)=0
  ·obtain⟨m,hg'⟩:=hz hv;exact n.book (tag':=.sp r 3) hgo hAs (hwg.setSt _) (kK bk_rw n.aC.yE.1) (dd:=1) rfl (.rd e hg' hc') rfl (.inl rfl) (hm 3 (by omega)) (fun e=>by cases e) (by simp only[cK];omega)
  ·obtain⟨m,hg'⟩:=hs hv;exact n.book (tag':=.sp r 2) hgo hAs (hwg.setSt _) (kK bk_rw n.aC.yE.1) (dd:=1) rfl (.ke e hg' hc') rfl (.inl rfl) (hm 2 (by omega)) (fun e=>by cases e) (by simp only[cK];omega)
 ·obtain⟨g',w1,es1,hgo,⟨rfl,rfl⟩,hg'⟩:=hstep w (RS.refl w);exact n.idle hgo (.a1 e hg' hc) (.inl rfl) (Nat.lt_succ_self _)
theorem QY{r:Nat}{gK:Goroutine}(ht:tag= .sp r 5)(hd:d0=0)(e:j+(r+1)=H.N)(h:Goes H.P true (RS H.ty H.Wg) DC0 (jm H.P H.ty H.Wg .disable (G7 H.P H.ty H.Wg (jm H.P H.ty H.Wg (.read (smA H.Wg)) (jm H.P H.ty H.Wg .enable (isK gK))) (jm H.P H.ty H.Wg .enable (isK gK)))) f0 a w)(hc:Cont H mine (NX H r mine gK) w):
  Moves H gs w sl t 0 (meas H j D tag f0 q):=by
 subst ht;subst hd;rcases Goes.cases h with hstop|⟨m',rfl,hstep⟩
 ·obtain⟨_,g',hgo,m,hg'⟩:=hstop w (RS.refl w);exact n.book (tag':=.sp r 4) hgo (.refl _ w) n.hwg (sH (.inl rfl)) (dd:=1) rfl (.a1 e hg' hc) rfl (.inl rfl) (reopen (tag:=.sp r 5) n.hmode trivial trivial rfl (by simp[bT.c])) (fun e=>by cases e) (by simp only[cK];omega)
 ·obtain⟨g',w1,es1,hgo,⟨rfl,rfl⟩,hg'⟩:=hstep w (RS.refl w);exact n.idle hgo (.kd e hg' hc) (.inl rfl) (Nat.lt_succ_self _)
theorem Vk{r:Nat}(ht:tag= .sp r 6)(hd:d0=0)(e:j+(r+1)=H.N)(h:aS H (AtCall H (NX H r)) f0 mine a w):Moves H gs w sl t 0 (meas H j D tag f0 q):=by
 subst ht;subst hd;rcases h.cases with hstop|⟨n',rfl,hrun,g',w',es,bH,hgo,hst,hg'⟩
 ·obtain⟨gK,⟨m,hm⟩,hc⟩:=hstop;exact(QY (tag:=.sp r 5) (f0:=m) (n.to rfl (.inl rfl) (reopen (tag:=.sp r 6) n.hmode trivial trivial rfl (by simp[bT.c])) (by simp)) rfl rfl e hm hc).le (by simp only[meas,cK];omega)
 ·exact plain0 n.hA n.hW n.aC n.hT n.hF n.hCH n.hwg n.hmode hgo hst (.XF e hg') (by simp[bT.kin]) (Nat.lt_succ_self _)
theorem Vm(ht:tag= .wt .acq)(hd:d0=0)(e:j=H.N/\κ.status= .running)(h:Goes H.P true (RS H.ty H.Wg) DC0 (jm H.P H.ty H.Wg (.acquire (stA H.Wg)) (isK κ)) f0 a w):Moves H gs w sl t 0 (meas H j D tag f0 q):=by
 subst ht;subst hd;rcases Goes.cases h with hstop|⟨m',rfl,hstep⟩
 ·obtain⟨_,g',hgo,m,hg'⟩:=hstop w (RS.refl w);obtain⟨hq,h1,h2⟩:=n.hmode.fin_inv trivial;refine n.book (tag':=.wt .ret) hgo (.refl _ w) n.hwg (fun e he=>?_) (dd:=0) rfl (.ret e hg') rfl (.inr rfl) (by rw[h1,h2];exact .fin trivial hq) (fun _=>?_) (by simp only[cK,phi];omega)
  ·simp at he;subst he;exact⟨fun y hy=>by simp[mk,MemAct.ofEvent,MemAct.touch?]at hy,n.aC.yE.1,by simp[mk]⟩
  ·have e1:MemOp.ofEvents 0 a.frame.fn a.frame.place #[mk (.acquire (stA H.Wg))]=#[{g:=0,fn:=a.frame.fn,pos:=a.frame.place,act:=.mark (.acquire (stA H.Wg))}]:=by rw[ofEvents_eq];simp[ofEvent_mk]
   have hy:(t++ #[({g:=0,fn:=a.frame.fn,pos:=a.frame.place,act:=.mark (.acquire (stA H.Wg))}:MemOp)])[t.size]? =some {g:=0,fn:=a.frame.fn,pos:=a.frame.place,act:=.mark (.acquire (stA H.Wg))}:=by simp
   refine⟨t.size,by rw[e1,act?_of hy],by rw[e1];simp[Trace.g?],by rw[e1];exact⟨0,by simp[Trace.g?],by rw[deaf_old (Nat.le_refl _)];exact n.hT.deaf0⟩,fun i hi=>?_⟩;have h1s:(D i).st=1:=hq i hi;have hws:(D i).ws<=6:=by rcases(n.hW i hi).Fe with h|h<;>omega
   obtain⟨r,hr⟩:=n.hT.rel i hi hws;have hpos:=n.hA.pos;exact⟨r,hr.appOther g_of_ofEvents (by omega),lt_of_act? hr.act⟩
 ·obtain⟨g',w1,es1,hgo,⟨rfl,rfl⟩,hg'⟩:=hstep w (RS.refl w);exact n.idle hgo (.acq e hg') (.inr rfl) (Nat.lt_succ_self _)
theorem Vj(ht:tag= .wt .ke)(hd:d0=1)(e:j=H.N/\κ.status= .running)(h:Goes H.P true (RS H.ty H.Wg) DC0 (Ends H.P H.ty H.Wg (isK κ)) f0 a w):Moves H gs w sl t 0 (meas H j D tag f0 q):=by
 subst ht;subst hd;rcases Goes.cases h with hstop|⟨m',rfl,hstep⟩
 ·obtain⟨_,g',hgo,m,hg'⟩:=hstop w (RS.refl w);obtain⟨hq,h1,h2⟩:=n.hmode.fin_inv trivial;exact n.book (tag':=.wt .acq) hgo (.refl _ w) n.hwg (sH (.inr rfl)) (dd:=0) rfl (.acq e hg') rfl (.inr rfl) (by rw[h1,h2];exact .fin trivial hq) (fun e=>by cases e) (by simp only[cK,phi];omega)
 ·obtain⟨g',w1,es1,hgo,⟨rfl,rfl⟩,hg'⟩:=hstep w (RS.refl w);exact n.idle hgo (.Xp e hg') (.inr rfl) (Nat.lt_succ_self _)
theorem X0(ht:tag= .wt .w4)(hd:d0=1)(e:j=H.N/\κ.status= .running)(h:Goes H.P true (RS H.ty H.Wg) DC0 (mU H.P H.ty H.Wg (Ends H.P H.ty H.Wg (isK κ))) f0 a w):Moves H gs w sl t 0 (meas H j D tag f0 q):=by
 subst ht;subst hd;rcases Goes.cases h with hstop|⟨m',rfl,hstep⟩
 ·obtain⟨_,hx⟩:=hstop w (RS.refl w);obtain⟨hq,h1,h2⟩:=n.hmode.fin_inv trivial;have hwg:=n.hwg;rw[h1,h2]at hwg;obtain⟨g',hgo,m,hg'⟩:=hx hwg;exact n.book (tag':=.wt .ke) hgo (.refl _ w) hwg (kK bk_rd n.aC.yE.1) (dd:=1) rfl (.Xp e hg') rfl (.inr rfl) (.fin trivial hq) (fun e=>by cases e) (by simp only[cK,phi];omega)
 ·obtain⟨g',w1,es1,hgo,⟨rfl,rfl⟩,hg'⟩:=hstep w (RS.refl w);exact n.idle hgo (.w4 e hg') (.inr rfl) (Nat.lt_succ_self _)
theorem X3{m:Nat}(ht:tag= .wt .w3)(hd:d0=1)(e:j=H.N/\κ.status= .running)(hf:f0=m+1)(h:Goes H.P true (RS H.ty H.Wg) DC0 (G6 H.P H.ty H.Wg (mU H.P H.ty H.Wg (Ends H.P H.ty H.Wg (isK κ)))) m a w):Moves H gs w sl t 0 (meas H j D tag f0 q):=by
 subst ht;subst hd;subst hf;rcases Goes.cases h with hstop|⟨m',rfl,hstep⟩
 ·obtain⟨hrun,hoff,hb,hs⟩:=hstop w (RS.refl w);have blocks:sm=0->ConcN.Mode j (bJ D) .blk st sm->Moves H gs w sl t 0 (meas H j D (.wt .w3) (m+1) q):=by
   intro h0 hm;subst h0;exact book0 (tag':=.wt .blk) (f':=0) n.hA n.hW n.aC n.hT n.hF n.hCH (hb ⟨st,n.hwg⟩) (.refl _ w) n.hwg (fun e he=>by simp at he) (.blk e hstop) rfl (.inr rfl) hm (fun e=>by cases e) (.inr ⟨rfl,Nat.succ_pos _⟩)
  have hmode:ConcN.Mode j (bJ D) .w3 st sm:=n.hmode;cases hmode with
  |opn h1 _ _=>exact h1.elim
  |reg _ h2 h3=>exact blocks rfl (.reg trivial h2 h3)
  |last L _ h2 h3 h4=>exact blocks rfl (.last L trivial h2 h3 h4)
  |sema h2=>
   obtain⟨g',hgo,m₂,hg'⟩:=hs n.hwg;refine n.book (tag':=.wt .w4) hgo (aside_setCell w (smA H.Wg) _) (n.hwg.setSm 0) (es:=semEvents (smA H.Wg)) (kK ?_ n.aC.yE.1) (dd:=1) (by simp[deafBehind,semEvents]) (.w4 e hg') rfl (.inr rfl) (.fin trivial h2) (fun e=>by cases e) (by simp only[cK,phi];omega);intro e he;simp[semEvents]at he;rcases he with rfl|rfl|rfl|rfl
   ·exact .inl rfl
   iterate 2 (·exact bk_cell _ _ rfl)
   ·exact .inr (.inl rfl)
  |fin h1 _=>exact h1.elim
 ·obtain⟨g',w1,es1,hgo,⟨rfl,rfl⟩,hg'⟩:=hstep w (RS.refl w);exact n.idle hgo (.w3 e hg') (.inr rfl) (by omega)
theorem XZ(ht:tag= .wm)(hd:d0=1)(e:j=H.N/\κ.status= .running)(h:Goes H.P true (RS H.ty H.Wg) DC0 (jm H.P H.ty H.Wg (.write (smA H.Wg)) (G6 H.P H.ty H.Wg (mU H.P H.ty H.Wg (Ends H.P H.ty H.Wg (isK κ))))) f0 a w):Moves H gs w sl t 0 (meas H j D tag f0 q):=by
 subst ht;subst hd;rcases Goes.cases h with hstop|⟨m',rfl,hstep⟩
 ·obtain⟨_,g',hgo,m,hg'⟩:=hstop w (RS.refl w);exact n.book (tag':=.wt .w3) hgo (.refl _ w) n.hwg (F5 (.inr rfl) n.aC.yE.1) (dd:=1) rfl (.w3 e hg') rfl (.inr rfl) n.hmode (fun e=>by cases e) (by simp only[cK,phi];omega)
 ·obtain⟨g',w1,es1,hgo,⟨rfl,rfl⟩,hg'⟩:=hstep w (RS.refl w);exact n.idle hgo (.wm e hg') (.inr rfl) (Nat.lt_succ_self _)
theorem X4(O:nk H){vs:Nat}(ht:tag= .wt (.w2 vs))(hd:d0=1)(e:j=H.N/\κ.status= .running)(h:Goes H.P true (RS H.ty H.Wg) DC0 (Um H.P H.ty H.Wg vs (jm H.P H.ty H.Wg (.write (smA H.Wg)) (G6 H.P H.ty H.Wg (mU H.P H.ty H.Wg (Ends H.P H.ty H.Wg (isK κ))))) (H.Anch κ)) f0 a w):
  Moves H gs w sl t 0 (meas H j D tag f0 q):=by
 subst ht;subst hd;rcases Goes.cases h with hstop|⟨m',rfl,hstep⟩
 ·obtain⟨_,hall⟩:=hstop w (RS.refl w);obtain⟨h1,h2,h3,h4⟩:=n.hmode.open_inv trivial;obtain⟨hv1,hv2⟩:=h4 vs rfl;have hVj:=Vc_le j (bJ D);have hN:=O.hN;have hwg:WgAt H.ty H.Wg w ((Vc j (bJ D):Nat)*KK) 0:=by
   have:=n.hwg;rw[h2,h3]at this;exact this
  obtain⟨hhit,hmiss⟩:=hall (Vc j (bJ D)) (by omega) hwg;by_cases hv:Vc j (bJ D)=vs
  ·obtain⟨g',hgo,m,hg'⟩:=hhit hv;exact n.book (tag':=.wm) hgo (aside_setCell w (stA H.Wg) _) (hwg.setSt _) (kK bk_rw n.aC.yE.1) (dd:=1) rfl (.wm e hg') rfl (.inr rfl) (.reg trivial h1 (by omega)) (fun e=>by cases e) (by simp only[cK,phi];omega)
  ·obtain⟨g',hgo,m,hg'⟩:=hmiss hv;exact n.book (tag':=.wt .anch) hgo (.refl _ w) n.hwg (kK bk_rd n.aC.yE.1) (dd:=1) rfl (.anch e hg') rfl (.inr rfl) (reopen (tag:=.wt (.w2 vs)) n.hmode trivial trivial rfl (by simp[bT.c])) (fun e=>by cases e) (by simp only[cK,phi];omega)
 ·obtain⟨g',w1,es1,hgo,⟨rfl,rfl⟩,hg'⟩:=hstep w (RS.refl w);exact n.idle hgo (.w2 e hg') (.inr rfl) (Nat.lt_succ_self _)
theorem QW(O:nk H)(ht:tag= .wt .w1)(hd:d0=1)(e:j=H.N/\κ.status= .running)(h:Goes H.P true (RS H.ty H.Wg) DC0 (Round H.P H.ty H.Wg (H.Anch κ) (isK κ)) f0 a w):Moves H gs w sl t 0 (meas H j D tag f0 q):=by
 subst ht;subst hd;rcases Goes.cases h with hstop|⟨m',rfl,hstep⟩
 ·obtain⟨_,hall⟩:=hstop w (RS.refl w);obtain⟨h1,h2,h3,_⟩:=n.hmode.open_inv trivial;have hVj:=Vc_le j (bJ D);have hN:=O.hN;have hwg:WgAt H.ty H.Wg w ((Vc j (bJ D):Nat)*KK) 0:=by
   have:=n.hwg;rw[h2,h3]at this;exact this
  obtain⟨g',hgo,hz,hs⟩:=hall (Vc j (bJ D)) (by omega) hwg;by_cases hv:Vc j (bJ D)=0
  ·obtain⟨m,hg'⟩:=hz hv;refine n.book (tag':=.wt .ke) hgo (.refl _ w) n.hwg (kK bk_rd n.aC.yE.1) (dd:=1) rfl (.Xp e hg') rfl (.inr rfl) ?_ (fun e=>by cases e) (by simp only[cK,phi];omega);have:st=0:=by rw[h2,hv];simp[bT.c,pend]
   rw[this,h3];exact .fin trivial (allQuit_of h1 hv)
  ·obtain⟨m,hg'⟩:=hs hv;refine n.book (tag':=.wt (.w2 (Vc j (bJ D)))) hgo (.refl _ w) n.hwg (kK bk_rd n.aC.yE.1) (dd:=1) rfl (.w2 e hg') rfl (.inr rfl) ?_ (fun e=>by cases e) (by simp only[cK,phi];omega);exact ConcN.Mode.reopen n.hmode trivial trivial rfl (fun vs e=>by simp only[bT.c,CTag.w2.injEq]at e;omega)
 ·obtain⟨g',w1,es1,hgo,⟨rfl,rfl⟩,hg'⟩:=hstep w (RS.refl w);exact n.idle hgo (.w1 e hg') (.inr rfl) (Nat.lt_succ_self _)
theorem Q0(O:nk H)(ht:tag= .wt .anch)(hd:d0=1)(e:j=H.N/\κ.status= .running)(h:Goes H.P true (RS H.ty H.Wg) DC0 (H.Anch κ) f0 a w):Moves H gs w sl t 0 (meas H j D tag f0 q):=by
 subst ht;subst hd;rcases Goes.cases h with hstop|⟨m',rfl,hstep⟩
 ·obtain⟨m,hm⟩:=O.round κ a w (hstop w (RS.refl w));exact(QW (tag:=.wt .w1) (f0:=m) (n.to rfl (.inr rfl) (reopen (tag:=.wt .anch) n.hmode trivial trivial rfl (by simp[bT.c])) (by simp)) O rfl rfl e hm).le (by simp only[meas,cK,phi];omega)
 ·obtain⟨g',w1,es1,hgo,⟨rfl,rfl⟩,hg'⟩:=hstep w (RS.refl w);exact n.idle hgo (.anch e hg') (.inr rfl) (Nat.lt_succ_self _)
theorem KR(ht:tag= .wt .kd)(hd:d0=0)(e:j=H.N/\κ.status= .running)(h:Goes H.P true (RS H.ty H.Wg) DC0 (jm H.P H.ty H.Wg .disable (H.Anch κ)) f0 a w):Moves H gs w sl t 0 (meas H j D tag f0 q):=by
 subst ht;subst hd;rcases Goes.cases h with hstop|⟨m',rfl,hstep⟩
 ·obtain⟨_,g',hgo,m,hg'⟩:=hstop w (RS.refl w);have hVj:=Vc_le j (bJ D);exact n.book (tag':=.wt .anch) hgo (.refl _ w) n.hwg (sH (.inl rfl)) (dd:=1) rfl (.anch e hg') rfl (.inr rfl) (reopen (tag:=.wt .kd) n.hmode trivial trivial rfl (by simp[bT.c])) (fun e=>by cases e) (by simp only[cK,phi];omega)
 ·obtain⟨g',w1,es1,hgo,⟨rfl,rfl⟩,hg'⟩:=hstep w (RS.refl w);exact n.idle hgo (.Zr e hg') (.inr rfl) (Nat.lt_succ_self _)
theorem QZ{ok:Bool}(hkin:tag.c= .kd)(hd:d0=0)(e:j=H.N)(hcl:closed= !ok)(RY:ok=true->∀i,i<H.N->got i≠none)(h:mR H ok got mine a w)(hlt:8*H.N+7<cK H.N (Vc j (bJ D)) tag):Moves H gs w sl t 0 (meas H j D tag f0 q):=by
 obtain⟨κ0,hκ,⟨m,hm⟩,hc⟩:=h;have hmode:ConcN.Mode j (bJ D) .kd st sm:=hkin▸n.hmode;have hFl:Fl H j D (.wt .kd) got κ0 closed mine w:=by
  refine⟨n.hF.jN,n.hF.gu,fun _ i hi ny=>?_,n.hF.some,n.hF.none,fun k b e=>by(cases e),fun r s e=>by(cases e),fun c _=>⟨ok,hcl,RY,hc⟩,fun e=>by(cases e)⟩;cases ok with
  |true=>
   cases e2:got i with
   |none=>exact RY rfl i (by omega) e2
   |some v'=>have:=(n.hF.some i v' e2).2.1;omega
  |false=>exact n.hF.np (.inl hcl) i hi ny
 exact(KR (tag:=.wt .kd) (f0:=m) ⟨n.hA,n.hW,n.aC,n.hT,hFl,n.hCH,n.hwg,hmode,fun e=>by cases e⟩ rfl hd ⟨e,hκ⟩ hm).le (by simp only[meas];simp only[cK,phi]at hlt⊢;omega)
theorem X8(ht:tag= .cl)(hd:d0=0)(e:j=H.N)(h:aS H (mR H false got) f0 mine a w):Moves H gs w sl t 0 (meas H j D tag f0 q):=by
 subst ht;subst hd;rcases h.cases with hstop|⟨n',rfl,hrun,g',w',es,bH,hgo,hst,hg'⟩
 ·exact QZ n (ok:=false) rfl rfl e (n.hF.cl rfl) (fun h=>by cases h) hstop (by simp only[cK];omega)
 ·exact plain0 n.hA n.hW n.aC n.hT n.hF n.hCH n.hwg n.hmode hgo hst (.cl e hg') (by simp[bT.kin]) (Nat.lt_succ_self _)
end
end
end Go.iw
