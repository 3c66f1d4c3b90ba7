import Derived.Test.YtmfpiodlecapiaaGreatDoorJ09
namespace Go.kg
section
open Go.Conc Go.ConcN Go.bn Go.Ren
open Go.ConcR (KK wgBlock WgAt stA smA rd wr mk Payload Aside2 DC0 Bk g_of_ofEvents again_blocked)
variable{i:Nat}{f:Goroutine->Goroutine}{g' g:Goroutine}
section
variable {H:Ph} {j:Nat} {D D':Nat->WX} {mine:Nat->Prop} {sz sz' d0:Nat} {t u:Trace}
theorem Sets.sep(h:Sets H j D mine sz)(ho:0<H.o):Sep H.Shun (Nn H.o j) (Em H.o j D) (Ej H.o j D) H.Wg sz:=by
 have inj:∀{i i' k:Nat},k=H.o+i->k=H.o+i'->i=i':=fun a b=>by omega
 refine⟨fun k c ⟨i,hi,e,h1⟩=>⟨i,hi,e,h.ov i c hi h1⟩,fun k k' c _ _ bd ⟨i,hi,e,h1⟩ ⟨i',bh,e',h2⟩=>?_,fun k c _ ⟨i,hi,e,h1⟩=>(h.gV i c hi h1).1,fun k c _ ⟨i,hi,e,h1⟩=>(h.gV i c hi h1).2.1,fun k c n _ ⟨i,hi,e,h1⟩=>(h.gV i c hi h1).2.2.2.2 n,fun k ⟨i,_,e⟩=>by omega⟩;exact h.apart i i' c hi bh (fun e2=>bd (by omega)) h1 h2
theorem Sets.congr(h:Sets H j D mine sz)(hd:∀i,i<j->(D' i).ow=(D i).ow/\(D' i).vs=(D i).vs/\(D' i).C=(D i).C)(hz:sz<=sz'):Sets H j D' mine sz':=by
 have up:∀{b:Nat} {X:Prop},(b<sz/\X)->(b<sz'/\X):=fun x=>⟨Nat.lt_of_lt_of_le x.1 hz,x.2⟩;refine⟨fun b hb=>up (h.iZ b hb),fun b hb=>up (h.mspec b hb),h.Qv,fun i b hi hb=>up (h.gV i b hi ((hd i hi).2.1▸hb)),fun i b hi hb=>by rw[(hd i hi).2.1];exact h.ov i b hi ((hd i hi).1▸hb),
  fun i b hi hb=>h.vm i b hi ((hd i hi).2.1▸hb),fun i b hi hb=>h.om i b hi ((hd i hi).1▸hb),fun i i' b hi bh bd hb cU=>h.apart i i' b hi bh bd ((hd i hi).1▸hb) ((hd i' bh).2.1▸cU),
  fun i hi=>by rw[(hd i hi).2.1,(hd i hi).2.2];exact h.cv i hi,fun i hi=>by rw[(hd i hi).2.2];exact h.cold i hi,fun i hi hb=>h.co i hi (by rw[(hd i hi).1,(hd i hi).2.2]at hb;exact hb),fun i i' hi bh bd hb=>h.cap i i' hi bh bd (by rw[(hd i' bh).2.1,(hd i hi).2.2]at hb;exact hb),?_,fun b k hb=>h.fresh b k (Nat.le_trans hz hb)⟩
 obtain⟨a,b,c,d⟩:=h.Ab;exact⟨by omega,by omega,by omega,d⟩
theorem pK{Wk:Nat->Prop}(h:∀i g,t.g? i=some g->g≠0->t.counts i->Wk g\/∃k,t.g? k=some 0/\HappensBefore t i k)(hu:∀op∈u,op.g=0\/Wk op.g\/op.act.touch? =none):
  ∀i g,(t++u).g? i=some g->g≠0->(t++u).counts i->Wk g\/∃k,(t++u).g? k=some 0/\HappensBefore (t++u) i k:=by
 intro i g hg bd hc;obtain⟨op,ho,hog⟩:=Option.map_eq_some_iff.1 hg;rcases getElem?_append_cases ho with⟨hi,gz⟩|⟨_,hou⟩
 .rcases h i g (by rw[<-g?_old (u:=u) hi];exact hg) bd ((counts_old hi).1 hc)with h1|⟨k,hk,hb⟩
  .exact .inl h1
  .have se:k<t.size:=by
    obtain⟨z,hz,_⟩:=Option.map_eq_some_iff.1 hk;exact lt_size_of_getElem? hz
   exact .inr ⟨k,by rw[g?_old se];exact hk,hb_app u hb⟩
 .rcases hu op hou with h1|h1|h1
  .exact absurd (hog.symm.trans h1) bd
  .exact .inl (hog▸h1)
  .obtain⟨x,hx,_⟩:=hc;obtain⟨y,hy,Ct⟩:=touch_of hx;rw[ho]at hy;obtain rfl:=Option.some.inj hy;rw[h1]at Ct;cases Ct
theorem qP.appW(h:qP H j D d0 sz t)(ho:0<H.o)(hi:i<j){d':WX}{fn:FuncId}{pos:String}{es:Array Event}(ti:TI H.Shun (Nn H.o j) (Em H.o j (upd D i d')) (Ej H.o j (upd D i d')) H.Wg sz' (t++MemOp.ofEvents (H.o+i) fn pos es))
  (qf:∀e∈es,e.loc≠.mark (.release (stA H.Wg)))(rm:deafBehind (D i).df es=d'.df)(hrel:d'.ws<=6->∃r,RelBy (stA H.Wg) (t++MemOp.ofEvents (H.o+i) fn pos es) (H.o+i) r):
  qP H j (upd D i d') d0 sz' (t++MemOp.ofEvents (H.o+i) fn pos es):=by
 refine⟨ti,h.IW.app (norel_of qf),pK h.over fun op a_=>?_,by rw[Deaf_other t (by omega) _ g_of_ofEvents,h.deaf0],fun i' bh=>?_,fun k hk=>by rw[Deaf_other t (by omega) _ g_of_ofEvents,h.rH k hk],fun i' bh hw=>?_⟩
 .rw[g_of_ofEvents op a_];exact .inr (.inl ⟨i,hi,rfl⟩)
 .by_cases e:i'=i
  .subst e;rw[Deaf_own,h.deafW i' bh,upd_same];exact rm
  .rw[Deaf_other t (by omega) _ g_of_ofEvents,h.deafW i' bh,upd_ne D _ e]
 .by_cases e:i'=i
  .subst e;rw[upd_same]at hw;exact hrel hw
  .rw[upd_ne D _ e]at hw;obtain⟨r,hr⟩:=h.rel i' bh hw;exact⟨r,hr.appOther g_of_ofEvents (by omega)⟩
theorem qP.app0(h:qP H j D d0 sz t)(ho:0<H.o){fn:FuncId}{pos:String}{es:Array Event}(ti:TI H.Shun (Nn H.o j) (Em H.o j D) (Ej H.o j D) H.Wg sz' (t++MemOp.ofEvents 0 fn pos es))
  (qf:∀e∈es,e.loc≠.mark (.release (stA H.Wg))):qP H j D (deafBehind d0 es) sz' (t++MemOp.ofEvents 0 fn pos es):=by
 refine⟨ti,h.IW.app (norel_of qf),pK h.over fun op a_=>.inl (g_of_ofEvents op a_),by rw[Deaf_own,h.deaf0],fun i hi=>by rw[Deaf_other t (by omega) _ g_of_ofEvents,h.deafW i hi],fun k hk=>by rw[Deaf_other t (by omega) _ g_of_ofEvents,h.rH k hk],fun i hi hw=>?_⟩;obtain⟨r,hr⟩:=h.rel i hi hw;exact⟨r,hr.appOther g_of_ofEvents (by omega)⟩
theorem qP.appC(h:qP H j D d0 sz t)(hu:∀op∈u,op.act.touch? =none/\op.act.low sz/\(∀m,op.act≠.mark m)):qP H j D d0 sz (t++u):=by
 have cg:∀op∈u,op.act≠.mark .disable/\op.act≠.mark .enable:=fun op a_=>⟨(hu op a_).2.2 _,(hu op a_).2.2 _⟩;refine⟨h.ti.mute (fun op a_=>(hu op a_).1) (fun op a_=>(hu op a_).2.1),h.IW.app fun op a_=>(hu op a_).2.2 _,pK h.over fun op a_=>.inr (.inr (hu op a_).1),by rw[Deaf_still _ _ _ cg,h.deaf0],fun i hi=>by rw[Deaf_still _ _ _ cg,h.deafW i hi],fun k hk=>by rw[Deaf_still _ _ _ cg,h.rH k hk],fun i hi hw=>?_⟩;obtain⟨r,hr⟩:=h.rel i hi hw;refine⟨r,hr.app fun k hk _ hc=>?_⟩;obtain⟨x,hx,_⟩:=hc;obtain⟨y,hy,Ct⟩:=touch_of hx;rcases getElem?_append_cases hy with⟨ai,_⟩|⟨_,Pt⟩
 .omega
 .rw[(hu y Pt).1]at Ct;cases Ct
theorem qP.upd(h:qP H j D d0 sz t){d':WX}(h1:d'.ow=(D i).ow)(h2:d'.vs=(D i).vs)(h3:d'.df=(D i).df)(h4:d'.ws<=6->(D i).ws<=6):qP H j (ConcN.upd D i d') d0 sz t:=by
 have e:∀a,(ConcN.upd D i d' a).ow=(D a).ow/\(ConcN.upd D i d' a).vs=(D a).vs/\(ConcN.upd D i d' a).df=(D a).df:=by
  intro a;by_cases e:a=i
  .subst e;rw[upd_same];exact⟨h1,h2,h3⟩
  .rw[upd_ne D _ e];exact⟨rfl,rfl,rfl⟩
 have eo:Em H.o j (ConcN.upd D i d')=Em H.o j D:=by funext k c;simp only[Em,(e _).1]
 have ev:Ej H.o j (ConcN.upd D i d')=Ej H.o j D:=by funext k c;simp only[Ej,(e _).2.1]
 refine⟨by rw[eo,ev];exact h.ti,h.IW,h.over,h.deaf0,fun a ha=>by rw[(e a).2.2];exact h.deafW a ha,h.rH,fun a ha hw=>?_⟩;by_cases ea:a=i
 .subst ea;rw[upd_same]at hw;exact h.rel a ha (h4 hw)
 .rw[upd_ne D _ ea]at hw;exact h.rel a ha hw
end
section
variable {P:Program} {o j:Nat} {gs:Array Goroutine} {a:Goroutine} {x:Nat->Goroutine} {q:Nat->Nat} {t u:Trace}
theorem oK.go0(h:oK P o j gs a x q t){a':Goroutine}{x':Nat->Goroutine}(hx:∀i,i<j->f (x i)=x' i)(hq:∀k d g,QuitsD P k d g->f g=g)(hd:∀i,0<i->i<o->Deaf u i=Deaf t i):oK P o j ((gs.map f).setIfInBounds 0 a') a' x' q u:=by
 have:=h.size;have:=h.pos
 refine⟨by simp[h.size],h.pos,get_map_set_same _ _ _ (by omega),fun i hi=>by rw[get_map_set _ _ _ _ (by omega),h.w i hi,Option.map_some,hx i hi],fun i g h0 hi hg=>?_⟩;rw[get_map_set _ _ _ _ (by omega)]at hg;obtain⟨y,hy,rfl⟩:=Option.map_eq_some_iff.1 hg;have hQ:=h.old i y h0 hi hy;rw[hq _ _ _ hQ,hd i h0 hi];exact hQ
theorem oK.goW(h:oK P o j gs a x q t)(hi:i<j){a':Goroutine}(ha:f a=a')(hx:∀i',i'<j->i'≠i->f (x i')=x i')(hq:∀k d g,QuitsD P k d g->f g=g)(hd:∀i,0<i->i<o->Deaf u i=Deaf t i):
  oK P o j ((gs.map f).setIfInBounds (o+i) g') a' (upd x i g') q u:=by
 have:=h.size;have:=h.pos
 refine⟨by simp[h.size],h.pos,by rw[get_map_set _ _ _ _ (by omega),h.z,Option.map_some,ha],fun i' bh=>?_,fun k g h0 hk hg=>?_⟩
 .by_cases e:i'=i
  .subst e;rw[upd_same];exact get_map_set_same _ _ _ (by omega)
  .rw[get_map_set _ _ _ _ (by omega),h.w i' bh,Option.map_some,hx i' bh e,upd_ne x _ e]
 .rw[get_map_set _ _ _ _ (by omega)]at hg;obtain⟨y,hy,rfl⟩:=Option.map_eq_some_iff.1 hg;have hQ:=h.old k y h0 hk hy;rw[hq _ _ _ hQ,hd k h0 hk];exact hQ
theorem oK.goL(h:oK P o j gs a x q t){k:Nat}(h0:0<i)(hi:i<o){a':Goroutine}(ha:f a=a')(hx:∀i',i'<j->f (x i')=x i')(hq:∀k d g,QuitsD P k d g->f g=g)(hd:∀i',0<i'->i'<o->i'≠i->Deaf u i'=Deaf t i')(hQ:QuitsD P k (Deaf u i) g'):
  oK P o j ((gs.map f).setIfInBounds i g') a' x (upd q i k) u:=by
 have:=h.size;refine⟨by simp[h.size],h.pos,by rw[get_map_set _ _ _ _ (by omega),h.z,Option.map_some,ha],fun i' bh=>by rw[get_map_set _ _ _ _ (by omega),h.w i' bh,Option.map_some,hx i' bh],fun k' g h0' hk hg=>?_⟩;by_cases e:k'=i
 .subst e;rw[get_map_set_same _ _ _ (by omega)]at hg;obtain rfl:=Option.some.inj hg;rw[upd_same];exact hQ
 .rw[get_map_set _ _ _ _ (fun x=>e x.symm)]at hg;obtain⟨y,hy,rfl⟩:=Option.map_eq_some_iff.1 hg;have hQ:=h.old k' y h0' hk hy;rw[hq _ _ _ hQ,hd k' h0' hk e,upd_ne q _ e];exact hQ
theorem oK.setW(h:oK P o j gs a x q t)(hi:i<j)(hd:∀i,0<i->i<o->Deaf u i=Deaf t i):oK P o j (gs.setIfInBounds (o+i) g') a (upd x i g') q u:=by
 have:=h.size;have:=h.pos
 refine⟨by simp[h.size],h.pos,by rw[Array.getElem?_setIfInBounds_ne (by omega)];exact h.z,fun i' bh=>?_,fun k g h0 hk hg=>?_⟩
 .by_cases e:i'=i
  .subst e;rw[upd_same,Array.getElem?_setIfInBounds_self_of_lt (by omega)]
  .rw[Array.getElem?_setIfInBounds_ne (by omega),h.w i' bh,upd_ne x _ e]
 .rw[Array.getElem?_setIfInBounds_ne (by omega)]at hg;rw[hd k h0 hk];exact h.old k g h0 hk hg
theorem oK.set0(h:oK P o j gs a x q t){a':Goroutine}(hd:∀i,0<i->i<o->Deaf u i=Deaf t i):oK P o j (gs.setIfInBounds 0 a') a' x q u:=by
 have:=h.size;have:=h.pos
 refine⟨by simp[h.size],h.pos,by rw[Array.getElem?_setIfInBounds_self_of_lt (by omega)],fun i hi=>by rw[Array.getElem?_setIfInBounds_ne (by omega)];exact h.w i hi,fun k g h0 hk hg=>?_⟩;rw[Array.getElem?_setIfInBounds_ne (by omega)]at hg;rw[hd k h0 hk];exact h.old k g h0 hk hg
theorem oK.push(h:oK P o j gs a x q t)(hd:∀i,0<i->i<o->Deaf u i=Deaf t i):oK P o (j+1) (gs.push g) a (upd x j g) q u:=by
 have hs:=h.size;have:=h.pos
 refine⟨by simp[h.size];omega,h.pos,by rw[Array.getElem?_push,if_neg (by omega)];exact h.z,fun i hi=>?_,fun k g' h0 hk hg=>?_⟩
 .rw[Array.getElem?_push];by_cases e:i=j
  .subst e;rw[upd_same,if_pos (by omega)]
  .rw[upd_ne x _ e,if_neg (by omega)];exact h.w i (by omega)
 .rw[Array.getElem?_push,if_neg (by omega)]at hg;rw[hd k h0 hk];exact h.old k g' h0 hk hg
theorem oK.cases(h:oK P o j gs a x q t)(hg:gs[i]? =some g):(i=0/\g=a)\/(0<i/\i<o)\/∃i',i'<j/\i=o+i'/\g=x i':=by
 have ai:i<gs.size:=(Array.getElem?_eq_some_iff.1 hg).1;rw[h.size]at ai;rcases Nat.eq_zero_or_pos i with rfl|h0
 .rw[h.z]at hg;exact .inl ⟨rfl,(Option.some.inj hg).symm⟩
 .rcases Nat.lt_or_ge i o with hi|hi
  .exact .inr (.inl ⟨h0,hi⟩)
  .have:=h.w (i-o) (by omega);rw[show o+(i-o)=i by omega,hg]at this;exact .inr (.inr ⟨i-o,by omega,by omega,Option.some.inj this⟩)
end
section
variable {H:Ph} {j:Nat} {D:Nat->WX} {tag tag':b_} {f0 Ze:Nat} {q:Nat->Nat}
theorem Qa(N:Nat){v v':Nat}(h:v'<=v)(tag:b_):dA N v' tag<=dA N v tag:=by
 cases tag<;>simp only[dA]<;>first|omega|exact phi_mono N h _
theorem Gl(hi:i<j)(d':WX)(hj:j<=H.N):sumTo H.N (iO j (upd D i d'))+(D i).ws=sumTo H.N (iO j D)+d'.ws:=by
 have e:∀a,iO j (upd D i d') a=upd (iO j D) i d'.ws a:=by
  intro a;by_cases e:a=i
  .subst e;simp[iO,upd_same,hi]
  .simp only[iO,upd_ne D _ e,upd_ne (iO j D) _ e]
 have h1:=sumTo_upd (iO j D) d'.ws id (Nat.lt_of_lt_of_le hi hj);simp only[id_eq]at h1;have h2:sumTo H.N (iO j (upd D i d'))=sumTo H.N (fun a=>upd (iO j D) i d'.ws a):=sumTo_congr fun a _=>e a;have h3:iO j D i=(D i).ws:=by simp[iO,hi]
 rw[h2,<-h3];exact h1
theorem V8(hi:i<j)(d':WX):Vc j (bJ (upd D i d'))+ConcN.cnt (D i).wd=Vc j (bJ D)+ConcN.cnt d'.wd:=by
 have e:bJ (upd D i d')=upd (bJ D) i d'.wd:=by
  funext a;by_cases e:a=i
  .subst e;simp[bJ,upd_same]
  .simp only[bJ,upd_ne D _ e,upd_ne (bJ D) _ e]
 rw[e];exact Vc_upd (bJ D) d'.wd hi
theorem yh(d':WX):bJ (upd D i d')=upd (bJ D) i d'.wd:=by
 funext a;by_cases e:a=i
 .subst e;simp[bJ,upd_same]
 .simp only[bJ,upd_ne D _ e,upd_ne (bJ D) _ e]
theorem jc{n:Nat}{a b:Ms}(h:a.1.1<b.1.1):LL n a b:=by
 obtain⟨a,a'⟩:=a;obtain⟨b,b'⟩:=b;exact Prod.Lex.left _ _ (.inl h)
theorem Uk(hi:i<j)(hj:j<=H.N){d':WX}(ht:tag'=tag\/(tag= .wt .blk/\tag'= .wt .w3))
  (h:(d'.ws<(D i).ws/\ConcN.cnt d'.wd<=ConcN.cnt (D i).wd)\/(d'.ws=(D i).ws/\ConcN.cnt d'.wd=ConcN.cnt (D i).wd/\Rk.Lt d'.rk (D i).rk)):LL H.N (meas H j (upd D i d') tag' Ze q) (meas H j D tag f0 q):=by
 have e1:=Gl (D:=D) hi d' hj;have e2:=V8 (D:=D) hi d';have hp:∀v,dA H.N v tag'=dA H.N v tag:=by
  intro v;rcases ht with rfl|⟨rfl,rfl⟩<;>rfl
 rcases h with⟨h1,h2⟩|⟨h1,h2,h3⟩
 .refine jc ?_;simp only[meas,hp];have:=Qa H.N (v':=Vc j (bJ (upd D i d'))) (v:=Vc j (bJ D)) (by omega) tag;omega
 .refine Prod.Lex.left _ _ (.inr ⟨?_,i,by omega,?_,?_⟩)
  .simp only[hp];have:Vc j (bJ (upd D i d'))=Vc j (bJ D):=by omega
   rw[this];omega
  .simp only[upd_same];exact h3
  .intro a ha;simp only[upd_ne D _ ha]
theorem meas_0(h:dA H.N (Vc j (bJ D)) tag'<dA H.N (Vc j (bJ D)) tag\/(dA H.N (Vc j (bJ D)) tag'=dA H.N (Vc j (bJ D)) tag/\Ze<f0)):LL H.N (meas H j D tag' Ze q) (meas H j D tag f0 q):=by
 rcases h with h|⟨h,h'⟩
 .exact jc (by simp only[meas];omega)
 .simp only[meas,h];exact Prod.Lex.right _ h'
end
section
variable [Payload] {H:Ph} {j:Nat} {D:Nat->WX} {mine bH:Nat->Prop} {got:Nat->Option Value} {Y:Goroutine} {closed:Bool} {tag tag':b_} {f0 Ze d0:Nat} {gs:Array Goroutine} {w w':World} {sl:Option (Nat×Nat)} {t:Trace} {a a':Goroutine} {x:Nat->Goroutine} {q:Nat->Nat} {st sm st' sm':Int} {es:Array Event}
theorem goW(xh:∀Y g w,H.Anch Y g w->g.status= .running)
  (hA:oK H.P H.o j gs a x q t)(hS:SS H j mine got Y tag f0 d0 a w)(hW:∀i,i<j->WS H i (D i) (x i) w)(aC:Sets H j D mine w.heap.size)(hF:Fl H j D tag got Y closed mine w)
  {i:Nat}(hi:i<j){g':Goroutine}{d':WX}(hgo:stepG H.P false (x i) w= .go g' w' es)
  (ff:mP H.ty H.Wg (nY H mine) w w')(pw:∀i',i'<j->i'≠i->mP H.ty H.Wg (D i').vs w w')(nB:WS H i d' g' w')(cV:Sets H j (upd D i d') mine w'.heap.size)
  (sr:qP H j (upd D i d') d0 w'.heap.size (t++MemOp.ofEvents (H.o+i) (x i).frame.fn (x i).frame.place es))
  (pC:d'.gu=true->closed=true)(er:∀v,got i=some v->d'.ws<=7/\YD d' (H.YC i v) w')(fw:closed=false->got i=none->17<=d'.ws)(vN:d'.ws≠17)
  (hCH:CH H closed w')(hwg:WgAt H.ty H.Wg w' st' sm')
  (hmode:∀tag',(tag'=tag\/(tag= .wt .blk/\tag'= .wt .w3))->(mayWake H.P (x i)=true->g'.status= .running->tag'≠.wt .blk)->ConcN.Mode j (upd (bJ D) i d'.wd) tag'.c st' sm')
  (hacq:tag= .wt .ret->yg H j (t++MemOp.ofEvents (H.o+i) (x i).frame.fn (x i).frame.place es))
  (ai:(d'.ws<(D i).ws/\ConcN.cnt d'.wd<=ConcN.cnt (D i).wd)\/(d'.ws=(D i).ws/\ConcN.cnt d'.wd=ConcN.cnt (D i).wd/\Rk.Lt d'.rk (D i).rk)):
  ∃m₁ ops μ',runT H.P (crowd gs w sl) (H.o+i)=(.next m₁,ops)/\LL H.N μ' (meas H j D tag f0 q)/\Inv H μ' m₁ (t++ops):=by
 obtain⟨⟨sR,rR,yT,hR⟩,⟨sD,rD,vw,hD⟩,qN⟩:=hCH;obtain⟨tag',f',sG,xv,hwk⟩:=hS.wokenBy xh ff hR (x i) g';have ht:tag'=tag\/(tag= .wt .blk/\tag'= .wt .w3):=xv.imp (fun x=>x.1) id;have ix:(H.o+i==0)=false:=by have:=hA.pos;simp;omega
 have ag:=runT_crowd_go (P:=H.P) (sl:=sl) (i:=H.o+i) (hA.w i hi) (by rw[ix];exact hgo);have hd:∀k,0<k->k<H.o->Deaf (t++MemOp.ofEvents (H.o+i) (x i).frame.fn (x i).frame.place es) k=Deaf t k:=fun k _ hk=>Deaf_other t (by omega) _ g_of_ofEvents;have ma:∀i',i'<j->i'≠i->WS H i' (D i') (x i') w':=fun i' bh e=>(hW i' bh).rely (pw i' bh e) (fun c hc=>aC.ov i' c bh hc) (aC.cv i' bh);have BZ:=hA.goW (f:=woken H.P (x i) g' w') (u:=t++MemOp.ofEvents (H.o+i) (x i).frame.fn (x i).frame.place es) (g':=g') hi rfl (fun i' bh e=>rJ ((ma i' bh e).again hR hD fun hc=>hF.np (.inl hc) i' bh)) (fun k d g hQ=>woken_quitsD hQ) hd;have cas:∀(i':Nat),upd D i d' i'=if i'=i then d' else D i':=fun i'=>rfl
 refine⟨_,_,_,ag,Uk (D:=D) (d':=d') hi hF.jN ht ai,_,w',sl,j,upd D i d',mine,got,Y,closed,tag',f',d0,_,upd x i g',q,st',sm',rfl,BZ,sG,fun i' bh=>?_,cV,sr,?_,⟨⟨sR,rR,yT,hR⟩,⟨sD,rD,vw,hD⟩,qN⟩,hwg,by rw[yh];exact hmode tag' ht hwk,?_,rfl⟩
 .by_cases e:i'=i
  .subst e;rw[upd_same,upd_same];exact nB
  .rw[upd_ne D _ e,upd_ne x _ e];exact ma i' bh e
 .have late:tag'.late=tag.late:=by rcases ht with rfl|⟨rfl,rfl⟩<;>rfl
  refine⟨hF.jN,fun i' bh=>?_,fun hc i' bh=>?_,fun i' v hv=>?_,fun hc i' bh hn=>?_,fun k b e=>?_,fun r s e=>?_,fun c e=>?_,fun e=>?_⟩
  .by_cases e:i'=i
   .subst e;rw[upd_same];exact pC
   .rw[upd_ne D _ e];exact hF.gu i' bh
  .by_cases e:i'=i
   .subst e;rw[upd_same];exact vN
   .rw[upd_ne D _ e];exact hF.np (late▸hc) i' bh
  .obtain⟨h1,h2,h3⟩:=hF.some i' v hv;by_cases e:i'=i
   .subst e;rw[upd_same];exact⟨h1,er v hv⟩
   .rw[upd_ne D _ e];exact⟨h1,h2,h3.rely fun c hc _=>(pw i' h1 e).row c (aC.ov i' c h1 hc)⟩
  .by_cases e:i'=i
   .subst e;rw[upd_same];exact fw hc hn
   .rw[upd_ne D _ e];exact hF.none hc i' bh hn
  .rcases ht with rfl|⟨rfl,rfl⟩
   .exact hF.cnt k b e
   .cases e
  .rcases ht with rfl|⟨rfl,rfl⟩
   .exact hF.sp r s e
   .cases e
  .have:∃c,tag= .wt c\/tag= .wm:=by
    rcases ht with rfl|⟨rfl,rfl⟩
    .exact⟨c,e⟩
    .exact⟨_,.inl rfl⟩
   obtain⟨c',e'⟩:=this;obtain⟨ok,h1,h2,h3⟩:=hF.wt c' e';exact⟨ok,h1,h2,h3.rely ff⟩
  .rcases ht with rfl|⟨rfl,rfl⟩
   .exact hF.cl e
   .cases e
 .intro e;rcases ht with rfl|⟨_,rfl⟩
  .exact hacq e
  .cases e
theorem go0(hA:oK H.P H.o j gs a x q t)(hW:∀i,i<j->WS H i (D i) (x i) w)(aC:Sets H j D mine w.heap.size)
  (hgo:stepG H.P true a w= .go a' w' es)(pw:∀i,i<j->mP H.ty H.Wg (D i).vs w w')(cV:Sets H j D bH w'.heap.size)
  (sr:qP H j D (deafBehind d0 es) w'.heap.size (t++MemOp.ofEvents 0 a.frame.fn a.frame.place es))(sG:SS H j bH got Y tag' Ze (deafBehind d0 es) a' w')(Gc:Fl H j D tag' got Y closed bH w')(DG:closed=true->∀i,i<j->(D i).ws≠17)
  (hCH:CH H closed w')(hwg:WgAt H.ty H.Wg w' st' sm')(hmode:ConcN.Mode j (bJ D) tag'.c st' sm')(hacq:tag'= .wt .ret->yg H j (t++MemOp.ofEvents 0 a.frame.fn a.frame.place es))
  (ai:dA H.N (Vc j (bJ D)) tag'<dA H.N (Vc j (bJ D)) tag\/(dA H.N (Vc j (bJ D)) tag'=dA H.N (Vc j (bJ D)) tag/\Ze<f0)):
  ∃m₁ ops μ',runT H.P (crowd gs w sl) 0=(.next m₁,ops)/\LL H.N μ' (meas H j D tag f0 q)/\Inv H μ' m₁ (t++ops):=by
 obtain⟨⟨sR,rR,yT,hR⟩,⟨sD,rD,vw,hD⟩,qN⟩:=hCH;have ag:=runT_crowd_go (P:=H.P) (sl:=sl) (i:=0) hA.z (show stepG H.P (0==0) a w=_ from hgo);have hd:∀k,0<k->k<H.o->Deaf (t++MemOp.ofEvents 0 a.frame.fn a.frame.place es) k=Deaf t k:=fun k hk _=>Deaf_other t (by omega) _ g_of_ofEvents;have ma:∀i',i'<j->WS H i' (D i') (x i') w':=fun i' bh=>(hW i' bh).rely (pw i' bh) (fun c hc=>aC.ov i' c bh hc) (aC.cv i' bh);have BZ:=hA.go0 (f:=woken H.P a a' w') (u:=t++MemOp.ofEvents 0 a.frame.fn a.frame.place es) (a':=a') (x':=x) (fun i' bh=>rJ ((ma i' bh).again hR hD fun hc=>DG hc i' bh)) (fun k d g hQ=>woken_quitsD hQ) hd;exact⟨_,_,_,ag,meas_0 ai,_,w',sl,j,D,bH,got,Y,closed,tag',Ze,_,a',x,q,st',sm',rfl,BZ,sG,ma,cV,sr,Gc,⟨⟨sR,rR,yT,hR⟩,⟨sD,rD,vw,hD⟩,qN⟩,hwg,hmode,hacq,rfl⟩
theorem goL(xh:∀Y g w,H.Anch Y g w->g.status= .running)
  (hA:oK H.P H.o j gs a x q t)(hS:SS H j mine got Y tag f0 d0 a w)(hW:∀i,i<j->WS H i (D i) (x i) w)(aC:Sets H j D mine w.heap.size)(hT:qP H j D d0 w.heap.size t)(hF:Fl H j D tag got Y closed mine w)
  (hCH:CH H closed w)(hwg:WgAt H.ty H.Wg w st sm)(hmode:ConcN.Mode j (bJ D) tag.c st sm)(hacq:tag= .wt .ret->yg H j t){i:Nat}(h0:0<i)(hi:i<H.o){g:Goroutine}(hg:gs[i]? =some g)(ag:g.status= .running):
  ∃m₁ ops μ',runT H.P (crowd gs w sl) i=(.next m₁,ops)/\LL H.N μ' (meas H j D tag f0 q)/\Inv H μ' m₁ (t++ops):=by
 obtain⟨⟨sR,rR,yT,hR⟩,⟨sD,rD,vw,hD⟩,qN⟩:=hCH;have hQ:=hA.old i g h0 hi hg;cases vq:q i with
 |zero=>rw[vq]at hQ;rw[hQ.1]at ag;cases ag
 |succ k=>
  rw[vq]at hQ;rcases hQ with⟨hf,_⟩|⟨_,g',es,hm,xx,sT⟩
  .rw[hf]at ag;cases ag
  have ix:(i==0)=false:=by simp;omega
  have hr:=runT_crowd_go (P:=H.P) (sl:=sl) (i:=i) hg (by rw[ix];exact xx w);obtain⟨tag',f',sG,xv,hwk⟩:=hS.wokenBy xh (.refl w) hR g g';have ht:tag'=tag\/(tag= .wt .blk/\tag'= .wt .w3):=xv.imp (fun x=>x.1) id;have tz:∀op∈MemOp.ofEvents i g.frame.fn g.frame.place es,op.g=i:=g_of_ofEvents;have qe:∀op∈MemOp.ofEvents i g.frame.fn g.frame.place es,op.act.touch? =none/\op.act.low w.heap.size/\op.act≠.mark (.release (stA H.Wg)):=by
   intro op a_;obtain⟨e,he,rfl⟩:=Go.Conc.mem_ofEvents a_;refine⟨touch_mute (hm e he),low_mute (hm e he) _,fun hh=>?_⟩;have hl:=Go.ConcR.loc_of_ofEvent hh;have:=hm e he;obtain⟨loc,wr,sy⟩:=e;simp only at hl;subst hl;simp[Event.mute]at this
  have BZ:=hA.goL (f:=woken H.P g g' w) (u:=t++MemOp.ofEvents i g.frame.fn g.frame.place es) (g':=g') (k:=k) h0 hi rfl (fun i' bh=>rJ ((hW i' bh).again hR hD fun hc=>hF.np (.inl hc) i' bh)) (fun k d g hQ=>woken_quitsD hQ)
   (fun i' _ _ e=>Deaf_other t e.symm _ g_of_ofEvents) (by rw[Deaf_own];exact sT)
  have late:tag'.late=tag.late:=by rcases ht with rfl|⟨rfl,rfl⟩<;>rfl
  have fc:sumTo H.o (upd q i k)+(k+1)=sumTo H.o q+k:=by
   have:=sumTo_upd q k id hi;simpa[vq]using this
  refine⟨_,_,_,hr,jc ?_,_,w,sl,j,D,mine,got,Y,closed,tag',f',d0,_,x,upd q i k,st,sm,rfl,BZ,sG,hW,aC,?_,?_,⟨⟨sR,rR,yT,hR⟩,⟨sD,rD,vw,hD⟩,qN⟩,hwg,?_,?_,rfl⟩
  .have hp:∀v,dA H.N v tag'=dA H.N v tag:=by
    intro v;rcases ht with rfl|⟨rfl,rfl⟩<;>rfl
   simp only[meas,hp];omega
  .refine⟨hT.ti.mute (fun op a_=>(qe op a_).1) (fun op a_=>(qe op a_).2.1),hT.IW.app fun op a_=>(qe op a_).2.2,pK hT.over fun op a_=>.inr (.inr (qe op a_).1),by rw[Deaf_other t (by omega) _ g_of_ofEvents,hT.deaf0],fun i' bh=>by rw[Deaf_other t (by omega) _ g_of_ofEvents,hT.deafW i' bh],fun k' dq=>by rw[Deaf_other t (by omega) _ g_of_ofEvents,hT.rH k' dq],fun i' bh hw=>?_⟩;obtain⟨r,hr⟩:=hT.rel i' bh hw;exact⟨r,hr.appOther g_of_ofEvents (by omega)⟩
  .refine⟨hF.jN,hF.gu,fun hc=>hF.np (late▸hc),hF.some,hF.none,fun k b e=>?_,fun r s e=>?_,fun c e=>?_,fun e=>?_⟩
   .rcases ht with rfl|⟨rfl,rfl⟩
    .exact hF.cnt k b e
    .cases e
   .rcases ht with rfl|⟨rfl,rfl⟩
    .exact hF.sp r s e
    .cases e
   .rcases ht with rfl|⟨rfl,rfl⟩
    .exact hF.wt c e
    .exact hF.wt _ (.inl rfl)
   .rcases ht with rfl|⟨rfl,rfl⟩
    .exact hF.cl e
    .cases e
  .rcases ht with rfl|⟨rfl,rfl⟩
   .exact hmode
   .exact hmode.retag (.inr ⟨rfl,rfl⟩)
  .intro e;rcases ht with rfl|⟨_,rfl⟩
   .obtain⟨p,h1,h2,h3,h4⟩:=hacq e;have hp:=lt_of_act? h1;refine⟨p,by rw[act?_old hp];exact h1,by rw[g?_old hp];exact h2,(heard_old hp).2 h3,fun i' bh=>?_⟩;obtain⟨r,hr,Mp⟩:=h4 i' bh;exact⟨r,hr.appOther g_of_ofEvents (by omega),Mp⟩
   .cases e
end
end
section
open Go.Conc Go.ConcN Go.bn Go.Ren
open Go.ConcR (KK wgBlock WgAt stA smA rd wr mk Payload Aside2 DC0 Bk g_of_ofEvents again_blocked bk_of_mute ofEvent_loc_mark)
variable{i k d c s r:Nat}{g:Goroutine}{b:Array Value}{cl tm:Bool}
structure oJ[Payload](H:Ph):Prop where
 cl:Closed H.P H.X H.A H.K
 ck:H.Cx.kind≠.early
 ar:∀Y g w,H.Anch Y g w->g.status= .running
 hN:H.N<2147483648
 node:∀i m ρ p f fs f' fs' w Next,n_ H.P H.X H.A H.K ρ p f fs f' fs' w->Ext (Array.range H.B0) ρ->H.Node i ⟨m,f,fs,p⟩ Next->∃z sh bj f1 JA f2 f2',(∀w,stepG H.P false (gZ H.Cx f' fs') w= .comm bj #[rcase H.Dn z] false sh w #[])/\
  bj.finishComm H.P #[rcase H.Dn z] sh (-1) undef false=gZ H.Cx JA fs'/\n_ H.P H.X H.A H.K ρ p f1 fs JA fs' w/\Next ⟨m,f1,fs,p⟩/\
  bj.finishComm H.P #[rcase H.Dn z] sh 0 z false=gZ H.Cx f2' fs'/\n_ H.P H.X H.A H.K ρ p f2 fs f2' fs' w/\Next ⟨1,f2,fs,p⟩
 stop:∀i (d:WX) ρ p f fs f' fs' w,n_ H.P H.X H.A H.K ρ p f fs f' fs' w->Ext (Array.range H.B0) ρ->H.Stop i ⟨if d.gu then 1 else 0,f,fs,p⟩->d.ow=Own ρ p->d.vs=CO ρ p->vZ d w->¬d.ow d.C->
  ∃v z0 z1 bj off,gZ H.Cx f' fs'= {bj with status:=.running,offers:=off}/\Bd H d v z0 z1 bj/\WU H i d v w
 round:∀Y g w,H.Anch Y g w->Walks H.P H.ty H.Wg (Round H.P H.ty H.Wg (H.Anch Y) (isK Y)) g w
section
variable [Payload] {H:Ph} {j:Nat} {D:Nat->WX} {mine:Nat->Prop} {got:Nat->Option Value} {Y:Goroutine} {closed:Bool} {tag:b_} {f0 d0:Nat} {gs:Array Goroutine} {w:World} {sl:Option (Nat×Nat)} {t:Trace} {a:Goroutine} {x:Nat->Goroutine} {q:Nat->Nat} {st sm:Int}
theorem SS.offT(O:oJ H)(h:SS H j mine got Y tag f0 d0 a w)(c:Nat):offersAt a c true= []:=by
 rcases h.status O.ar with⟨hs,_⟩|⟨_,ht⟩
 .exact offersAt_of_not_blocked (by rw[hs];simp) c true
 .cases h with
  |rcv e s h=>exact offersAt_parked_recv' _ _ _ _ _
  |blk e h=>have:=(h w (RS.refl w)).2.1;simp[offersAt,this]
  |_=>cases ht
theorem SS.offF(O:oJ H)(h:SS H j mine got Y tag f0 d0 a w)(hn:∀k,tag≠.col k true)(c:Nat):offersAt a c false= []:=by
 rcases h.status O.ar with⟨hs,_⟩|⟨_,ht⟩
 .exact offersAt_of_not_blocked (by rw[hs];simp) c false
 .cases h with
  |rcv e s h=>exact absurd rfl (hn _)
  |blk e h=>have:=(h w (RS.refl w)).2.1;simp[offersAt,this]
  |_=>cases ht
theorem WS.Z_{d:WX}(h:WS H i d g w)(WK:H.R≠H.Dn):offersAt g H.Dn true= []/\offersAt g H.R false= []:=by
 rcases h.status with hs|⟨vN,_⟩
 .have:g.status≠.blocked:=by rcases hs with hs|hs<;>rw[hs]<;>simp
  exact⟨offersAt_of_not_blocked this _ _,offersAt_of_not_blocked this _ _⟩
 .cases h with
  |uh v z0 z1 bj h1 h2 h3 h4 h5 h6=>rw[h3];exact⟨EZ (Ne.symm WK),xU (Ne.symm WK)⟩
  |born n gB rk h1=>omega
  |tree h1=>omega
  |sel v z0 z1 bj off h1=>omega
  |done h1=>omega
  |lib h1 h2 h3 h4=>omega
omit [Payload]in
theorem qK{P:Program}(h:QuitsD P k d g)(c:Nat)(b:Bool):offersAt g c b= []:=offersAt_of_not_blocked (by rcases h.status with hs|hs<;>rw[hs]<;>simp) c b
theorem TT(O:oJ H)(hA:oK H.P H.o j gs a x q t)(hS:SS H j mine got Y tag f0 d0 a w)(hW:∀i,i<j->WS H i (D i) (x i) w)(WK:H.R≠H.Dn)(k:Nat):partners (gs.setIfInBounds k ph) H.Dn true= []:=by
 refine partners_nil fun i g hg=>?_;by_cases e:k=i
 .subst e;by_cases hk:k<gs.size
  .rw[Array.getElem?_setIfInBounds_self_of_lt hk]at hg;obtain rfl:=Option.some.inj hg;rfl
  .rw[Array.getElem?_eq_none (by simpa using hk)]at hg;cases hg
 .rw[Array.getElem?_setIfInBounds_ne e]at hg;rcases hA.cases hg with⟨rfl,rfl⟩|⟨h0,hi⟩|⟨i',bh,rfl,rfl⟩
  .exact hS.offT O _
  .exact qK (hA.old i g h0 hi hg) _ _
  .exact((hW i' bh).Z_ WK).1
theorem TQ(O:oJ H)(hA:oK H.P H.o j gs a x q t)(hS:SS H j mine got Y tag f0 d0 a w)(hW:∀i,i<j->WS H i (D i) (x i) w)(WK:H.R≠H.Dn)(hn:∀k,tag≠.col k true)(k:Nat):partners (gs.setIfInBounds k ph) H.R false= []:=by
 refine partners_nil fun i g hg=>?_;by_cases e:k=i
 .subst e;by_cases hk:k<gs.size
  .rw[Array.getElem?_setIfInBounds_self_of_lt hk]at hg;obtain rfl:=Option.some.inj hg;rfl
  .rw[Array.getElem?_eq_none (by simpa using hk)]at hg;cases hg
 .rw[Array.getElem?_setIfInBounds_ne e]at hg;rcases hA.cases hg with⟨rfl,rfl⟩|⟨h0,hi⟩|⟨i',bh,rfl,rfl⟩
  .exact hS.offF O hn _
  .exact qK (hA.old i g h0 hi hg) _ _
  .exact((hW i' bh).Z_ WK).2
omit [Payload]in
theorem Fe{c:CTag}(d:WD)(hd:d.stage=(D i).st)(hm:ConcN.Mode j (bJ D) c st sm):ConcN.Mode j (upd (bJ D) i d) c st sm:=
 hm.congr fun a _=>by
  by_cases e:a=i
  .subst e;rw[upd_same];exact hd
  .rw[upd_ne (bJ D) _ e]
omit [Payload]in
theorem yu{d':WX}(h:Sets H j D mine w.heap.size)(h1:d'.ow=(D i).ow)(h2:d'.vs=(D i).vs)(h3:d'.C=(D i).C){w':World}(hz:w.heap.size<=w'.heap.size):Sets H j (upd D i d') mine w'.heap.size:=
 h.congr (fun a _=>by
  by_cases e:a=i
  .subst e;rw[upd_same];exact⟨h1,h2,h3⟩
  .rw[upd_ne D _ e];exact⟨rfl,rfl,rfl⟩) hz
theorem setW(hA:oK H.P H.o j gs a x q t)(hS:SS H j mine got Y tag f0 d0 a w)(hW:∀i,i<j->WS H i (D i) (x i) w)(aC:Sets H j D mine w.heap.size)(hT:qP H j D d0 w.heap.size t)(hF:Fl H j D tag got Y closed mine w)
  (hCH:CH H closed w)(hwg:WgAt H.ty H.Wg w st sm)(hmode:ConcN.Mode j (bJ D) tag.c st sm){i:Nat}(hi:i<j){g':Goroutine}{d':WX}{u:Trace}
  (ag:runT H.P (crowd gs w sl) (H.o+i)=(.next (crowd (gs.setIfInBounds (H.o+i) g') w sl),u))(hu:∀op∈u,op.act.touch? =none/\op.act.low w.heap.size/\(∀m,op.act≠.mark m))
  (nB:WS H i d' g' w)(h1:d'.ow=(D i).ow)(h2:d'.vs=(D i).vs)(h3:d'.C=(D i).C)(h4:d'.df=(D i).df)(h5:17<=(D i).ws)(h6:7<=d'.ws)(h7:d'.st=7)(pC:d'.gu=true->closed=true)
  (fw:closed=false->17<=d'.ws)(vN:d'.ws=17->¬(closed=true\/tag.late=true))(ai:d'.ws<(D i).ws\/(d'.ws=(D i).ws/\Rk.Lt d'.rk (D i).rk)):
  ∃m₁ ops μ',runT H.P (crowd gs w sl) (H.o+i)=(.next m₁,ops)/\LL H.N μ' (meas H j D tag f0 q)/\Inv H μ' m₁ (t++ops):=by
 have cg:(D i).st=7:=by rcases(hW i hi).IB with h|h;exact h.2;omega
 have me:∀op∈u,op.act≠.mark .disable/\op.act≠.mark .enable:=fun op a_=>⟨(hu op a_).2.2 _,(hu op a_).2.2 _⟩;have qf:tag≠.wt .ret:=fun e=>by
  subst e;exact hmode.not_ret hi (show(bJ D i).stage≠1 by simp only[bJ,WX.wd];omega) rfl
 have cn:ConcN.cnt d'.wd=ConcN.cnt (D i).wd:=by simp[ConcN.cnt,WX.wd,h7,cg]
 refine⟨_,_,_,ag,Uk (D:=D) (d':=d') hi hF.jN (.inl rfl) (ai.imp (fun h=>⟨h,Nat.le_of_eq cn⟩) fun h=>⟨h.1,cn,h.2⟩),_,w,sl,j,upd D i d',mine,got,Y,closed,tag,f0,d0,a,upd x i g',q,st,sm,rfl,
  hA.setW hi fun _ _ _=>Deaf_still _ _ _ me,hS,fun i' bh=>?_,yu aC h1 h2 h3 (Nat.le_refl _),(hT.appC hu).upd h1 h2 h4 (fun h=>by omega),?_,hCH,hwg,by rw[yh];exact Fe _ (by simp only[WX.wd];omega) hmode,fun e=>absurd e qf,rfl⟩
 .by_cases e:i'=i
  .subst e;rw[upd_same,upd_same];exact nB
  .rw[upd_ne D _ e,upd_ne x _ e];exact hW i' bh
 .refine⟨hF.jN,fun i' bh=>?_,fun hc i' bh=>?_,fun i' v hv=>?_,fun hc i' bh hn=>?_,hF.cnt,hF.sp,hF.wt,hF.cl⟩
  .by_cases e:i'=i
   .subst e;rw[upd_same];exact pC
   .rw[upd_ne D _ e];exact hF.gu i' bh
  .by_cases e:i'=i
   .subst e;rw[upd_same];exact fun h=>vN h hc
   .rw[upd_ne D _ e];exact hF.np hc i' bh
  .obtain⟨k1,k2,k3⟩:=hF.some i' v hv;by_cases e:i'=i
   .subst e;omega
   .rw[upd_ne D _ e];exact⟨k1,k2,k3⟩
  .by_cases e:i'=i
   .subst e;rw[upd_same];exact fw hc
   .rw[upd_ne D _ e];exact hF.none hc i' bh hn
omit [Payload]in
theorem jS{w:World}{cap:Nat}(h:k≠c):(w.setChan c cap b cl s r tm).heap[k]? =w.heap[k]? :=by
 simp[World.setChan,Array.getElem?_setIfInBounds_ne (Ne.symm h)]
omit [Payload]in
theorem FK{w:World}{cap:Nat}(h:c<w.heap.size):(w.setChan c cap b cl s r tm).heap[c]? =some (.chan cap b cl s r tm):=by
 simp[World.setChan,h]
omit [Payload]in
theorem ny{w:World}{cap:Nat}:(w.setChan c cap b cl s r tm).heap.size=w.heap.size:=by simp[World.setChan]
omit [Payload]in
theorem XL{w:World}{cap:Nat}(h:NV w):NV ((w.at d).setChan c cap b cl s r tm):=by
 intro k o hk;by_cases e:k=c
 .subst e;rcases Nat.lt_or_ge k w.heap.size with ai|eJ
  .have:=FK (w:=w.at d) (c:=k) (cap:=cap) (b:=b) (cl:=cl) (s:=s) (r:=r) (tm:=tm) ai;rw[this]at hk;obtain rfl:=Option.some.inj hk;exact trivial
  .rw[Array.getElem?_eq_none (by rw[ny];exact eJ)]at hk;cases hk
 .rw[jS e]at hk;exact h k o hk
omit [Payload]in
theorem Io{ty:TypeId}{Wg:Nat}{See:Nat->Prop}{w:World}{cap:Nat}(hs:¬See c)(hw:Wg≠c):mP ty Wg See w ((w.at d).setChan c cap b cl s r tm):=
 ⟨Nat.le_of_eq ny.symm,fun _ hk=>jS (fun e=>hs (e▸hk)),fun⟨st,sm,h⟩=>⟨st,sm,(jS hw).trans h⟩,rfl,rfl,rfl,fun h=>XL h⟩
theorem meet(hW:∀i,i<j->WS H i (D i) (x i) w)(aC:Sets H j D mine w.heap.size)(hT:qP H j D 0 w.heap.size t){b:Bool}(hF:Fl H j D (.col (k+1) b) got Y closed mine w)(AS:j=H.N)
  (hCH:CH H closed w)(hwg:WgAt H.ty H.Wg w st sm)(hmode:ConcN.Mode j (bJ D) .kd st sm){i:Nat}(hi:i<j){v z0 z1 z:Value}{bj gj:Goroutine}(vN:17<=(D i).ws)(gS:Bd H (D i) v z0 z1 bj)(Jj:WU H i (D i) v w)(e_:vZ (D i) w)(pC:(D i).gu=false)
  (fY:∀i v,i<H.N->got i=none->H.RZ i v->Cont H mine (fun af=>∃n,aO H (fun m g w=>qC H k (upd got i (some v)) m g w\/AtClose H (upd got i (some v)) m g w) n mine (gj.finishComm H.P #[rcase H.R z] (.recv false) 0 v true) af) w)
  {s r d c:Nat}{tm:Bool}{gs':Array Goroutine}{u:Trace}
  (ag:runT H.P (crowd gs w sl) c=(.next (crowd gs' ((w.at d).setChan H.R 0 #[] false s r tm) sl),u))(hu:∀op∈u,op.act.touch? =none/\op.act.low w.heap.size/\(∀m,op.act≠.mark m))
  (hgs:∀t',(∀k,Deaf t' k=Deaf t k)->oK H.P H.o j gs' (gj.finishComm H.P #[rcase H.R z] (.recv false) 0 v true) (upd x i (bj.finishComm H.P (two H.R H.Dn v z0 z1) .select 0 undef false)) q t'):
  ∃m₁ ops μ',runT H.P (crowd gs w sl) c=(.next m₁,ops)/\LL H.N μ' (meas H j D (.col (k+1) b) f0 q)/\Inv H μ' m₁ (t++ops):=by
 obtain⟨cF,eA⟩:=hF.cnt (k+1) b rfl;have fw:got i=none:=by
  cases e:got i with
  |none=>rfl
  |some v'=>have:=(hF.some i v' e).2.1;omega
 have cg:(D i).st=7:=by rcases(hW i hi).IB with h|h;exact h.2;omega
 obtain⟨pH,ox,QM,n1,n2,n3⟩:=aC.Ab;have hr:∀See:Nat->Prop,¬See H.R->mP H.ty H.Wg See w ((w.at d).setChan H.R 0 #[] false s r tm):=fun See hs=>Io hs n1;have ff:=hr (nY H mine) (fun h=>h.elim (fun h=>(aC.iZ _ h).2.2.1 rfl) fun h=>(aC.mspec _ h).2.2.1 rfl);have DI:∀i,i<j->mP H.ty H.Wg (D i).vs w ((w.at d).setChan H.R 0 #[] false s r tm):=fun i hi=>hr _ fun h=>(aC.gV i _ hi h).2.2.1 rfl;obtain⟨hshp,hkpt⟩:=Jj pC;obtain⟨n,hgo⟩:=fY i v (AS▸hi) fw hshp _ ff;have lj:WgLive H.ty H.Wg ((w.at d).setChan H.R 0 #[] false s r tm):=⟨st,sm,(jS n1).trans hwg⟩;have Lq:=e_.rely ((DI i hi).row _ (aC.cv i hi));obtain⟨n',hw7⟩:=gS.fin 0 undef false _ (.inl rfl) lj Lq.2;have me:∀op∈u,op.act≠.mark .disable/\op.act≠.mark .enable:=fun op a_=>⟨(hu op a_).2.2 _,(hu op a_).2.2 _⟩;have qn:(D i).df=0:=by
  have:=hW i hi;cases this with
  |done a1=>omega
  |lib a1 a2 a3 a4=>omega
  |born n gB rk a1 a2 a3=>exact(by cases hD:D i;rw[hD]at a3;simp only[WX.wd,WD.mk.injEq]at a3;exact a3.2.2)
  |tree a1 a3=>exact(by cases hD:D i;rw[hD]at a3;simp only[WX.wd,WD.mk.injEq]at a3;exact a3.2.2)
  |sel v z0 z1 bj off a1 a3=>exact(by cases hD:D i;rw[hD]at a3;simp only[WX.wd,WD.mk.injEq]at a3;exact a3.2.2)
  |uh v z0 z1 bj a1 a3=>exact(by cases hD:D i;rw[hD]at a3;simp only[WX.wd,WD.mk.injEq]at a3;exact a3.2.2)
 let d':WX:= {D i with ws:=7,rk:=.ofNat n',st:=7,fu:=n',df:=0}
 have sr:qP H j (upd D i d') 0 ((w.at d).setChan H.R 0 #[] false s r tm).heap.size (t++u):=by rw[ny];exact(hT.appC hu).upd rfl rfl qn.symm (fun h=>by simp[d']at h)
 have cn:ConcN.cnt d'.wd=ConcN.cnt (D i).wd:=by simp[ConcN.cnt,WX.wd,d',cg]
 have fc:=sumTo_upd got (some v) (fun y=>if y=none then 1 else 0) (Nat.lt_of_lt_of_le hi hF.jN);simp only[fw,if_true]at fc;refine⟨_,_,meas H j (upd D i d') (.col k false) n q,ag,jc ?_,gs',_,sl,j,upd D i d',mine,upd got i (some v),Y,closed,.col k false,n,0,_,_,q,st,sm,rfl,hgs _ fun _=>Deaf_still _ _ _ me,.col AS hgo,fun i' bh=>?_,(by rw[ny];exact yu (d':=d') (i:=i) (w':=w) aC rfl rfl rfl (Nat.le_refl _)),sr,?_,?_,(jS n1).trans hwg,by rw[yh];exact Fe _ (by simp only[WX.wd,d'];omega) hmode,(fun e=>by cases e),rfl⟩
 .have e1:=Gl (D:=D) hi d' hF.jN;have e2:=V8 (D:=D) hi d';have e3:d'.ws=7:=rfl;simp only[meas,dA];cases b<;>simp<;>omega
 .by_cases e:i'=i
  .subst e;rw[upd_same,upd_same];exact .done rfl rfl rfl rfl hw7
  .rw[upd_ne D _ e,upd_ne x _ e];exact(hW i' bh).rely (DI i' bh) (fun c hc=>aC.ov i' c bh hc) (aC.cv i' bh)
 .refine⟨hF.jN,fun i' bh=>?_,fun hc=>?_,fun i' v' hv=>?_,fun hc i' bh hn=>?_,fun k' b' e=>?_,fun r s e=>by(cases e),fun c e=>by(rcases e with e|e<;>cases e),fun e=>by(cases e)⟩
  .by_cases e:i'=i
   .subst e;rw[upd_same];exact fun h=>hF.gu i' bh h
   .rw[upd_ne D _ e];exact hF.gu i' bh
  .rcases hc with hc|hc
   .rw[cF]at hc;cases hc
   .cases hc
  .by_cases e:i'=i
   .subst e;rw[upd_same]at hv;obtain rfl:=Option.some.inj hv;rw[upd_same];exact⟨hi,Nat.le_refl _,YD.rely (d:=d') hkpt fun c hc _=>(DI i' hi).row c (aC.ov i' c hi hc)⟩
   .rw[upd_ne got _ e]at hv;obtain⟨k1,k2,k3⟩:=hF.some i' v' hv;rw[upd_ne D _ e];exact⟨k1,k2,k3.rely fun c hc _=>(DI i' k1).row c (aC.ov i' c k1 hc)⟩
  .by_cases e:i'=i
   .subst e;rw[upd_same]at hn;cases hn
   .rw[upd_ne got _ e]at hn;rw[upd_ne D _ e];exact hF.none hc i' bh hn
  .simp only[b_.col.injEq]at e;obtain⟨rfl,rfl⟩:=e;refine⟨cF,?_⟩;simp at fc;omega
 .obtain⟨⟨sR,rR,yT,hR⟩,⟨sD,rD,vw,hD⟩,qN⟩:=hCH;exact⟨⟨s,r,tm,FK (w:=w.at d) ox⟩,⟨sD,rD,vw,(jS (Ne.symm n3)).trans hD⟩,qN.rely ff fun b hb _=>(hr (· =b) fun e=>(qN.2.2 b hb).1.2.1 e.symm).row b rfl⟩
end
end
section
open Go.Conc Go.ConcN Go.bn Go.Ren
open Go.ConcR (KK wgBlock WgAt stA smA rd wr mk Payload Aside2 DC0 Bk g_of_ofEvents again_blocked bk_of_mute ofEvent_loc_mark ofEvent_cell)
section
variable [Payload] {H:Ph} {j:Nat} {D:Nat->WX} {mine:Nat->Prop} {got:Nat->Option Value} {Y:Goroutine} {closed:Bool} {tag:b_} {f0 d0:Nat} {gs:Array Goroutine} {w:World} {sl:Option (Nat×Nat)} {t:Trace} {a:Goroutine} {x:Nat->Goroutine} {q:Nat->Nat} {st sm:Int}
omit [Payload]in
theorem mK{g:Nat}{fn:FuncId}{pos:String}:MemOp.ofEvents g fn pos #[]=#[]:=by rw[ofEvents_eq];simp
omit [Payload]in
theorem Zt{d:WX}(h:d.wd=⟨7,0,0⟩):d.st=7/\d.fu=0/\d.df=0:=by
 cases d;simp only[WX.wd,WD.mk.injEq]at h;exact h
theorem NJ(O:oJ H)(hA:oK H.P H.o j gs a x q t)(hS:SS H j mine got Y tag f0 d0 a w)(hW:∀i,i<j->WS H i (D i) (x i) w)(aC:Sets H j D mine w.heap.size)(hT:qP H j D d0 w.heap.size t)(hF:Fl H j D tag got Y closed mine w)
  (hCH:CH H closed w)(hwg:WgAt H.ty H.Wg w st sm)(hmode:ConcN.Mode j (bJ D) tag.c st sm){i:Nat}(hi:i<j){v z0 z1:Value}{bj:Goroutine}{off:Option (Array CommCase×CommShape)}
  (H':18<=(D i).ws)(pT:(D i).wd=⟨7,0,0⟩)(hx:x i= {bj with status:=.running,offers:=off})(gS:Bd H (D i) v z0 z1 bj)(Jj:WU H i (D i) v w)(e_:vZ (D i) w):
  ∃m₁ ops μ',runT H.P (crowd gs w sl) (H.o+i)=(.next m₁,ops)/\LL H.N μ' (meas H j D tag f0 q)/\Inv H μ' m₁ (t++ops):=by
 obtain⟨⟨sR,rR,yT,hR⟩,⟨sD,rD,vw,hD⟩,qN⟩:=hCH;obtain⟨pH,ox,QM,n1,n2,n3⟩:=aC.Ab;have eL:=hA.pos;have ix:(H.o+i==0)=false:=by simp;omega
 have gh:stepG H.P (H.o+i==0) (x i) w= .comm bj (two H.R H.Dn v z0 z1) true .select w #[]:=by rw[ix,hx];exact gS.cm w off
 have ln:=hA.w i hi;have pD:=TT O hA hS hW n3 (H.o+i);obtain⟨cg,Nd,qn⟩:=Zt pT;have lj:WgLive H.ty H.Wg w:=⟨st,sm,hwg⟩;cases hc:closed with
 |true=>
  subst hc;have hn:∀k,tag≠.col k true:=fun k e=>by have:=(hF.cnt k true e).1;cases this
  have ag:=Ls (sl:=sl) ln gh hR hD (TQ O hA hS hW n3 hn (H.o+i)) pD;obtain⟨n,hg⟩:=gS.fin 1 z1 false w (.inr rfl) lj e_.2;refine setW (d':= {D i with ws:=7,rk:=.ofNat n,st:=7,fu:=n,df:=0}) hA hS hW aC hT hF ⟨⟨sR,rR,yT,hR⟩,⟨sD,rD,vw,hD⟩,qN⟩ hwg hmode hi ag ?_ (.done rfl rfl rfl rfl hg) rfl rfl rfl qn.symm (by omega) (Nat.le_refl _) rfl (fun _=>rfl) (fun e=>by cases e) (fun e=>by simp at e) (.inl (by simp only;omega));intro op a_;rw[mK]at a_;simp only[Array.empty_append,List.mem_toArray,List.mem_cons,List.not_mem_nil,or_false]at a_;subst a_;exact⟨rfl,QM,fun m e=>by cases e⟩
 |false=>
  subst hc;have pC:(D i).gu=false:=by
   cases e:(D i).gu with
   |false=>rfl
   |true=>have:=hF.gu i hi e;cases this
  by_cases hp:∃k,tag= .col k true
  .obtain⟨k0,rfl⟩:=hp;cases hS with
   |@rcv k _ z gj _ AS hgj fY=>
    have hp0:partners (gs.setIfInBounds (H.o+i) ph) H.R false= [(0,0)]:=by
     have h0:(gs.setIfInBounds (H.o+i) ph)[0]? =some (parked gj #[rcase H.R z] (.recv false)):=by rw[Array.getElem?_setIfInBounds_ne (by omega)];exact hA.z
     have hof:offersAt (parked gj #[rcase H.R z] (.recv false)) H.R false= [0]:=by rw[offersAt_parked_recv];simp
     have:=partners_one (r:=H.R) (send:=false) h0 (fun k g hk hg=>by
      by_cases e:H.o+i=k
      .subst e;rw[Array.getElem?_setIfInBounds_self_of_lt (by rw[hA.size];omega)]at hg;obtain rfl:=Option.some.inj hg;rfl
      .rw[Array.getElem?_setIfInBounds_ne e]at hg;rcases hA.cases hg with⟨rfl,rfl⟩|⟨h0,hi⟩|⟨i',bh,rfl,rfl⟩
       .exact absurd rfl hk
       .exact qK (hA.old k g h0 hi hg) _ _
       .exact((hW i' bh).Z_ n3).2)
     rw[this,hof];rfl
    have ag:=PO (sl:=sl) ln gh hR hD (j:=0) (by omega) hA.z hp0 pD;refine meet (d:=w.drawn) hW aC hT hF AS ⟨⟨sR,rR,yT,hR⟩,⟨sD,rD,vw,hD⟩,qN⟩ hwg hmode hi (by omega) gS Jj e_ pC fY ag ?_ fun t' hd=>?_
    .intro op a_;rw[mK]at a_;simp only[Array.empty_append,List.mem_toArray,List.mem_cons,List.not_mem_nil,or_false]at a_;rcases a_ with rfl|rfl|rfl|rfl
     iterate 4 (·exact⟨rfl,ox,fun m e=>by cases e⟩)
    .exact(hA.set0 (u:=t) fun _ _ _=>rfl).setW hi fun k _ _=>hd k
  .have hn:∀k,tag≠.col k true:=fun k e=>hp ⟨k,e⟩;have ag:=PN (sl:=sl) ln gh hR hD (TQ O hA hS hW n3 hn (H.o+i)) pD;have LO:tag.late=false:=by
    cases hl:tag.late with
    |false=>rfl
    |true=>
     exfalso;have wtc:(∃c,tag= .wt c\/tag= .wm)->False:=by
      rintro⟨c,e⟩;obtain⟨ok,h1,h2,_⟩:=hF.wt c e;have gw:ok=true:=by cases ok with
       |true=>rfl
       |false=>cases h1
      have:=h2 gw i (Nat.lt_of_lt_of_le hi hF.jN);cases e2:got i with
      |none=>exact this e2
      |some v'=>have:=(hF.some i v' e2).2.1;omega
     cases tag with
     |sp r s=>cases hl
     |col k b=>exact hn k (by simp only[b_.late]at hl;rw[hl])
     |cl=>have:=hF.cl rfl;cases this
     |wm=>exact wtc ⟨.kd,.inr rfl⟩
     |wt c=>exact wtc ⟨c,.inl rfl⟩
   refine setW (d':= {D i with ws:=17}) hA hS hW aC hT hF ⟨⟨sR,rR,yT,hR⟩,⟨sD,rD,vw,hD⟩,qN⟩ hwg hmode hi ag ?_ (.uh v z0 z1 bj rfl pT rfl ⟨gS.cm,gS.fin⟩ Jj e_) rfl rfl rfl rfl (by omega) (by simp) cg (fun e=>by simp only at e;rw[pC]at e;cases e) (fun _=>Nat.le_refl _) ?_ (.inl (by simp only;omega))
   .intro op a_;rw[mK]at a_;simp at a_
   .rintro _ (e|e)
    .cases e
    .rw[LO]at e;cases e
omit [Payload]in
theorem ev_low{ρ:Array Nat}{p:World}{e:Event}(h:EvF ρ p e){B:Nat}(hB:∀c,CO ρ p c->c<B):(MemAct.ofEvent e).low B/\e.loc≠.mark .disable/\e.loc≠.mark .enable/\(∀a,e.loc≠.mark (.release a))/\∀y,(MemAct.ofEvent e).touch? =some y->∃c i,y.loc= .cell ⟨c,i,none⟩/\y.kind= .plain/\CO ρ p c/\(y.write=true->Own ρ p c):=by
 rcases h with⟨c,i,wr,rfl,h1,h2⟩|rfl|⟨f,rfl⟩
 .refine⟨hB c h1,by simp,by simp,by simp,fun y hy=>?_⟩;simp only[MemAct.ofEvent,MemAct.touch?,Option.some.injEq]at hy;subst hy;exact⟨c,i,rfl,rfl,h1,h2⟩
 iterate 2 (·exact⟨trivial,by simp,by simp,by simp,fun y hy=>by simp[MemAct.ofEvent,MemAct.touch?]at hy⟩)
theorem Hw(O:oJ H)(hA:oK H.P H.o j gs a x q t)(hS:SS H j mine got Y tag f0 d0 a w)(hW:∀i,i<j->WS H i (D i) (x i) w)(aC:Sets H j D mine w.heap.size)(hT:qP H j D d0 w.heap.size t)(hF:Fl H j D tag got Y closed mine w)
  (hCH:CH H closed w)(hwg:WgAt H.ty H.Wg w st sm)(hmode:ConcN.Mode j (bJ D) tag.c st sm){i:Nat}(hi:i<j){rk:Rk}(X8:((D i).ws=20/\(D i).rk=rk)\/(D i).ws=22)(pT:(D i).wd=⟨7,0,0⟩)
  (Jc:sQ H i (D i) rk (x i) w)(e_:vZ (D i) w):
  ∃m₁ ops μ',runT H.P (crowd gs w sl) (H.o+i)=(.next m₁,ops)/\LL H.N μ' (meas H j D tag f0 q)/\Inv H μ' m₁ (t++ops):=by
 obtain⟨ρ,p,f,fs,f',fs',hx,yy,ID,sa,pr,rb⟩:=Jc;obtain⟨cg,Nd,qn⟩:=Zt pT;have H':18<=(D i).ws:=by rcases X8 with⟨h,_⟩|h<;>omega
 have bk:H.Stop i ⟨if(D i).gu then 1 else 0,f,fs,p⟩->∃m₁ ops μ',runT H.P (crowd gs w sl) (H.o+i)=(.next m₁,ops)/\LL H.N μ' (meas H j D tag f0 q)/\Inv H μ' m₁ (t++ops):=by
  intro hs;obtain⟨v,z0,z1,bj,off,e,gS,Jj⟩:=O.stop i (D i) ρ p f fs f' fs' w yy rb hs sa pr e_ (aC.co i hi);exact NJ O hA hS hW aC hT hF hCH hwg hmode hi H' pT (hx.trans e) gS Jj e_
 cases rk with
 |zero=>exact bk ID
 |mk F=>
  rcases ID with hs|hs|⟨Next,LF,hs⟩
  .exact bk hs
  .obtain⟨f1,fs1,p1,es,e,dm⟩:=hs w.tape w.drawn;obtain⟨jo,JA,FB,u1,es',hgo,L2,hz,rl,sY,kj,htp,lO,gx,ia,vt,L3,ee,Re,dt⟩:=yy.step (main:=false) O.cl O.ck e;obtain⟨pH,ox,QM,n1,n2,n3⟩:=aC.Ab;obtain⟨⟨sR,rR,yT,hR⟩,⟨sD,rD,vw,hD⟩,qN⟩:=hCH;have qT:∀c,¬(D i).ow c->c<w.heap.size->u1.heap[c]? =w.heap[c]? :=fun c hc ai=>rl c ai (by rw[sa]at hc;exact hc);have ri:∀c,c=H.Wg\/c=H.R\/c=H.Dn->c<w.heap.size/\u1.heap[c]? =w.heap[c]? :=by
    intro c hc;have ai:c<w.heap.size:=by rcases hc with rfl|rfl|rfl<;>assumption
    refine⟨ai,qT c ?_ ai⟩;intro ho;have:=aC.gV i c hi (aC.ov i c hi ho);rcases hc with rfl|rfl|rfl
    .exact this.2.1 rfl
    .exact this.2.2.1 rfl
    .exact this.2.2.2.1 rfl
   have eK:WgAt H.ty H.Wg u1 st sm:=(ri _ (.inl rfl)).2.trans hwg;have hr:∀See:Nat->Prop,(∀b,See b->b<w.heap.size/\¬(D i).ow b)->mP H.ty H.Wg See w u1:=fun See IP=>
    ⟨hz,fun b hb=>qT b (IP b hb).2 (IP b hb).1,fun _=>⟨st,sm,eK⟩,htp,sY,kj,Re⟩
   have ff:mP H.ty H.Wg (nY H mine) w u1:=hr _ fun b hb=>hb.elim (fun h=>⟨(aC.iZ b h).1,fun ho=>aC.om i b hi ho h⟩) fun h=>⟨(aC.mspec b h).1,fun ho=>aC.vm i b hi (aC.ov i b hi ho) h⟩;have pw:∀i',i'<j->i'≠i->mP H.ty H.Wg (D i').vs w u1:=fun i' bh bd=>hr _ fun b hb=>⟨(aC.gV i' b bh hb).1,fun ho=>aC.apart i i' b hi bh (Ne.symm bd) ho hb⟩;let d':WX:= {D i with ws:=20,rk:=F ⟨if(D i).gu then 1 else 0,f1,fs1,p1⟩,ow:=Own jo p1,vs:=CO jo p1}
   have US:(D i).C<w.heap.size:=(aC.gV i _ hi (aC.cv i hi)).1;have hvs':∀c,(upd D i d' i).vs c->(D i).vs c\/w.heap.size<=c:=fun c hc=>by rw[upd_same]at hc;rw[pr];exact lO c hc
   have how':∀c,(upd D i d' i).ow c->(D i).ow c\/w.heap.size<=c:=fun c hc=>by rw[upd_same]at hc;rw[sa];exact gx c hc
   have AH:∀i' c,i'<j->(upd D i d' i').vs c->(D i').vs c\/(i'=i/\w.heap.size<=c):=fun i' c bh hc=>by
    by_cases e:i'=i
    .subst e;exact(hvs' c hc).imp id fun h=>⟨rfl,h⟩
    .rw[upd_ne D _ e]at hc;exact .inl hc
   have sb:∀i' c,i'<j->(upd D i d' i').ow c->(D i').ow c\/(i'=i/\w.heap.size<=c):=fun i' c bh hc=>by
    by_cases e:i'=i
    .subst e;exact(how' c hc).imp id fun h=>⟨rfl,h⟩
    .rw[upd_ne D _ e]at hc;exact .inl hc
   have di:∀i',(upd D i d' i').C=(D i').C:=fun i'=>by
    by_cases e:i'=i
    .subst e;rw[upd_same]
    .rw[upd_ne D _ e]
   have cV:Sets H j (upd D i d') mine u1.heap.size:=by
    refine⟨fun b hb=>⟨Nat.lt_of_lt_of_le (aC.iZ b hb).1 hz,(aC.iZ b hb).2⟩,fun b hb=>⟨Nat.lt_of_lt_of_le (aC.mspec b hb).1 hz,(aC.mspec b hb).2⟩,aC.Qv,fun i' b bh hb=>?_,fun i' b bh hb=>?_,fun i' b bh hb hm=>?_,fun i' b bh hb ho=>?_,fun i1 i2 b h1 h2 bd hb cU=>?_,fun i' bh=>?_,fun i' bh=>by rw[di];exact aC.cold i' bh,fun i' bh hb=>?_,fun i1 i2 h1 h2 bd hb=>?_,⟨by omega,by omega,by omega,n1,n2,n3⟩,fun b k hb=>aC.fresh b k (Nat.le_trans hz hb)⟩
    .rcases AH i' b bh hb with h|⟨rfl,h⟩
     .exact⟨Nat.lt_of_lt_of_le (aC.gV i' b bh h).1 hz,(aC.gV i' b bh h).2⟩
     .rw[upd_same]at hb;exact⟨ee b hb,by omega,by omega,by omega,fun k=>aC.fresh b k h⟩
    .by_cases e:i'=i
     .subst e;rw[upd_same]at hb⊢;exact Own.vis hb
     .rw[upd_ne D _ e]at hb⊢;exact aC.ov i' b bh hb
    .rcases AH i' b bh hb with h|⟨rfl,h⟩
     .exact aC.vm i' b bh h hm
     .have:=(aC.mspec b hm).1;omega
    .rcases sb i' b bh hb with h|⟨rfl,h⟩
     .exact aC.om i' b bh h ho
     .have:=(aC.iZ b ho).1;omega
    .rcases sb i1 b h1 hb with h|⟨rfl,h⟩
     .rcases AH i2 b h2 cU with h'|⟨rfl,h'⟩
      .exact aC.apart i1 i2 b h1 h2 bd h h'
      .have:=(aC.gV i1 b h1 (aC.ov i1 b h1 h)).1;omega
     .rcases AH i2 b h2 cU with h'|⟨rfl,h'⟩
      .have:=(aC.gV i2 b h2 h').1;omega
      .exact bd rfl
    .rw[di];by_cases e:i'=i
     .subst e;rw[upd_same];exact ia _ (by rw[<-pr];exact aC.cv i' bh)
     .rw[upd_ne D _ e];exact aC.cv i' bh
    .rw[di]at hb;rcases sb i' _ bh hb with h|⟨rfl,h⟩
     .exact aC.co i' bh h
     .omega
    .rw[di]at hb;rcases AH i2 _ h2 hb with h|⟨rfl,h⟩
     .exact aC.cap i1 i2 h1 h2 bd h
     .have:=(aC.gV i1 _ h1 (aC.cv i1 h1)).1;omega
   have U4:=fun e (he:e∈es')=>ev_low (dt e he) (B:=u1.heap.size) ee;have LR:TI H.Shun (Nn H.o j) (Em H.o j (upd D i d')) (Ej H.o j (upd D i d')) H.Wg u1.heap.size t:=by
    refine hT.ti.grow (fun k c _ ⟨i',bh,e,h⟩=>?_) (fun k c _ ⟨i',bh,e,h⟩=>?_) (fun k c ⟨i',bh,e,h⟩=>⟨i',bh,e,?_⟩) (fun k c ⟨i',bh,e,h⟩=>⟨i',bh,e,?_⟩) hz
    .exact(sb i' c bh h).imp (fun h=>⟨i',bh,e,h⟩) fun h=>h.2
    .exact(AH i' c bh h).imp (fun h=>⟨i',bh,e,h⟩) fun h=>h.2
    .by_cases e:i'=i
     .subst e;rw[upd_same];exact vt c (by rw[<-sa];exact h)
     .rw[upd_ne D _ e];exact h
    .by_cases e:i'=i
     .subst e;rw[upd_same];exact ia c (by rw[<-pr];exact h)
     .rw[upd_ne D _ e];exact h
   have sE:TI H.Shun (Nn H.o j) (Em H.o j (upd D i d')) (Ej H.o j (upd D i d')) H.Wg u1.heap.size (t++MemOp.ofEvents (H.o+i) (x i).frame.fn (x i).frame.place es'):=by
    refine LR.work (cV.sep hA.pos) (k:=H.o+i) ⟨i,hi,rfl⟩ g_of_ofEvents (fun op a_=>?_) (fun op a_ y hy=>?_)
    .obtain⟨e,he,rfl⟩:=Go.Conc.mem_ofEvents a_;exact(U4 e he).1
    .obtain⟨e,he,rfl⟩:=Go.Conc.mem_ofEvents a_;obtain⟨c,k,h1,h2,h3,h4⟩:=(U4 e he).2.2.2.2 y hy;exact⟨c,k,h1,h2,⟨i,hi,rfl,by rw[upd_same];exact h3⟩,fun hw=>⟨i,hi,rfl,by rw[upd_same];exact h4 hw⟩⟩
   have qf:tag≠.wt .ret:=fun e=>by
    subst e;exact hmode.not_ret hi (show(bJ D i).stage≠1 by simp only[bJ,WX.wd];omega) rfl
   refine goW O.ar hA hS hW aC hF hi (d':=d') (by rw[hx];exact hgo) ff pw ?_ cV (hT.appW hA.pos hi sE (fun e he=>(U4 e he).2.2.2.1 _) (by rw[deafBehind_still (fun e he=>⟨(U4 e he).2.1,(U4 e he).2.2.1⟩)]) (fun h=>by simp[d']at h)) (fun h=>hF.gu i hi h) (fun v hv=>by have:=(hF.some i v hv).2.1;omega) (fun _ _=>by simp[d']) (by simp[d'])
    ⟨⟨sR,rR,yT,(ri _ (.inr (.inl rfl))).2.trans hR⟩,⟨sD,rD,vw,(ri _ (.inr (.inr rfl))).2.trans hD⟩,qN.rely ff fun b hb ai=>qT b (fun ho=>(aC.gV i b hi (aC.ov i b hi ho)).2.2.2.2 0 (qN.2.2 b hb).1.2.2.2) ai⟩ eK (fun tag' ht _=>?_) (fun e=>absurd e qf) ?_
   .exact .tree rfl pT ⟨jo,p1,f1,fs1,JA,FB,rfl,L2,dm,rfl,rfl,rb.trans L3⟩ (e_.rely (qT _ (aC.co i hi) US))
   .have:ConcN.Mode j (upd (bJ D) i d'.wd) tag.c st sm:=Fe _ (by simp only[WX.wd,d']) hmode;rcases ht with rfl|⟨rfl,rfl⟩
    .exact this
    .exact this.retag (.inr ⟨rfl,rfl⟩)
   .rcases X8 with⟨h,h'⟩|h
    .exact .inr ⟨h.symm,rfl,by rw[h'];exact⟨F,_,rfl,rfl⟩⟩
    .exact .inl ⟨by rw[h];show 20<22;omega,Nat.le_refl _⟩
  .obtain⟨z,sh,bj,f1,JA,f2,f2',gh,e1,hf1,ta,e2,Ng,kq⟩:=O.node i _ ρ p f fs f' fs' w Next yy rb LF;obtain⟨pH,ox,QM,n1,n2,n3⟩:=aC.Ab;have K8:=hCH;obtain⟨⟨sR,rR,yT,hR⟩,⟨sD,rD,vw,hD⟩,qN⟩:=hCH;have eL:=hA.pos;have ix:(H.o+i==0)=false:=by simp;omega
   have ln:=hA.w i hi;have Ki:stepG H.P (H.o+i==0) (x i) w= .comm bj #[rcase H.Dn z] false sh w #[]:=by rw[ix,hx];exact gh w
   have pD:=TT O hA hS hW n3 (H.o+i);cases hc:closed with
   |false=>
    subst hc;have ag:=crowd_default (sl:=sl) ln Ki (fun cc di=>by
     simp only[List.mem_toArray,List.mem_cons,List.not_mem_nil,or_false]at di;subst di;exact qJ hD pD)
    rw[e1]at ag;refine setW (d':= {D i with ws:=20,rk:=F ⟨if(D i).gu then 1 else 0,f1,fs,p⟩}) hA hS hW aC hT hF K8 hwg hmode hi ag (fun op a_=>by rw[mK]at a_;simp at a_) (.tree rfl pT ⟨ρ,p,f1,fs,JA,fs',rfl,hf1,hs _ ta,sa,pr,rb⟩ e_) rfl rfl rfl rfl (by omega) (by simp) cg (fun h=>hF.gu i hi h) (fun _=>by simp) (fun h=>by simp at h) ?_;rcases X8 with⟨h,h'⟩|h
    .exact .inr ⟨by simp[h],by rw[h'];exact⟨F,_,rfl,rfl⟩⟩
    .exact .inl (by simp[h])
   |true=>
    subst hc;have ag:=crowd_recv_closed (sl:=sl) ln Ki hD pD;rw[e2]at ag;refine setW (d':= {D i with ws:=20,rk:=F ⟨1,f2,fs,p⟩,gu:=true}) hA hS hW aC hT hF K8 hwg hmode hi ag (fun op a_=>?_) (.tree rfl pT ⟨ρ,p,f2,fs,f2',fs',rfl,Ng,hs _ kq,sa,pr,rb⟩ e_) rfl rfl rfl rfl (by omega) (by simp) cg (fun _=>rfl) (fun h=>by cases h) (fun h=>by simp at h) ?_
    .rw[mK]at a_;simp only[Array.empty_append,List.mem_toArray,List.mem_cons,List.not_mem_nil,or_false]at a_;subst a_;exact⟨rfl,QM,fun m e=>by cases e⟩
    .rcases X8 with⟨h,h'⟩|h
     .exact .inr ⟨by simp[h],by rw[h'];exact⟨F,_,rfl,rfl⟩⟩
     .exact .inl (by simp[h])
end
end
