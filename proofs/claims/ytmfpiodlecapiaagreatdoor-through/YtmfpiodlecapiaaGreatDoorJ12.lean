import Derived.Test.YtmfpiodlecapiaaGreatDoorJ11
import Derived.Conc.CompanyWords
import Derived.Test.YtmfpiodlecapiaaGreatDoorProg
import Derived.Conc.WgWords
set_option maxHeartbeats 4000000
set_option maxRecDepth 100000
namespace Go.kg
section
open Go.Conc Go.ConcN Go.bn Go.Ren
open Go.ConcR (KK wgBlock WgAt stA smA rd wr mk Payload Aside2 DC0 Bk g_of_ofEvents again_blocked bk_of_mute ofEvent_loc_mark ofEvent_cell ofEvent_mk)
variable{g:Goroutine}{k:Nat}
theorem LP{P:Program}{g':Goroutine}{cs cs':Array CommCase}{sh sh':CommShape}(h:parked g cs sh=parked g' cs' sh')(k:Int)(v:Value)(ok:Bool)(c2:Array CommCase)(s2:CommShape):g.finishComm P c2 s2 k v ok=g'.finishComm P c2 s2 k v ok/\cs=cs'/\sh=sh':=by
 obtain⟨f,c,s,d,o⟩:=g;obtain⟨f',c',s',d',o'⟩:=g';simp only[parked,Goroutine.mk.injEq,Option.some.injEq,Prod.mk.injEq,true_and]at h;obtain⟨rfl,rfl,rfl,rfl,rfl⟩:=h;exact⟨rfl,rfl,rfl⟩
section
variable [Payload] {H:Ph} {j:Nat} {D:Nat->WX} {mine bH:Nat->Prop} {got:Nat->Option Value} {Y:Goroutine} {closed:Bool} {tag tag':b_} {f0 f' d0:Nat} {gs:Array Goroutine} {w w':World} {sl:Option (Nat×Nat)} {t:Trace} {a a':Goroutine} {x:Nat->Goroutine} {q:Nat->Nat} {st sm st' sm':Int} {es:Array Event}
omit [Payload]in
theorem qP.cong{D D':Nat->WX}{sz:Nat}(h:qP H j D d0 sz t)(hd:∀i,i<j->(D' i).ow=(D i).ow/\(D' i).vs=(D i).vs/\(D' i).df=(D i).df/\((D' i).ws<=6->(D i).ws<=6)):qP H j D' d0 sz t:=by
 have eo:Em H.o j D'=Em H.o j D:=by
  funext k c;exact propext ⟨fun⟨i,hi,e,h⟩=>⟨i,hi,e,(hd i hi).1▸h⟩,fun⟨i,hi,e,h⟩=>⟨i,hi,e,(hd i hi).1.symm▸h⟩⟩
 have ev:Ej H.o j D'=Ej H.o j D:=by
  funext k c;exact propext ⟨fun⟨i,hi,e,h⟩=>⟨i,hi,e,(hd i hi).2.1▸h⟩,fun⟨i,hi,e,h⟩=>⟨i,hi,e,(hd i hi).2.1.symm▸h⟩⟩
 exact⟨by rw[eo,ev];exact h.ti,h.IW,h.over,h.deaf0,fun i hi=>by rw[(hd i hi).2.2.1];exact h.deafW i hi,h.rH,fun i hi hw=>h.rel i hi ((hd i hi).2.2.2 hw)⟩
def wake(d:WX):WX:=if d.ws=17 then {d with ws:=18}else d
omit [Payload]in
theorem d_(d:WX):(wake d).ow=d.ow/\(wake d).vs=d.vs/\(wake d).C=d.C/\(wake d).df=d.df/\(wake d).wd=d.wd/\(wake d).gu=d.gu/\(wake d).zv=d.zv/\(wake d).ws≠17/\d.ws<=(wake d).ws/\(wake d).ws<=d.ws+1:=by
 unfold wake;split
 .rename_i h;exact⟨rfl,rfl,rfl,rfl,rfl,rfl,rfl,by simp,by simp[h],by simp[h]⟩
 .rename_i h;exact⟨rfl,rfl,rfl,rfl,rfl,rfl,rfl,h,Nat.le_refl _,Nat.le_succ _⟩
theorem WS.wake{i:Nat}{d:WX}(h:WS H i d g w){s r:Nat}{tm:Bool}(hD:w.heap[H.Dn]? =some (.chan 0 #[] true s r tm)):WS H i (kg.wake d) (g.again w) w:=by
 by_cases vN:d.ws=17
 .cases h with
  |uh v z0 z1 bj h1 h2 h3 h4 h5 h6=>
   have e:kg.wake d= {d with ws:=18}:=by simp[kg.wake,vN]
   rw[e,h3,vW hD];exact .sel v z0 z1 bj (some (two H.R H.Dn v z0 z1,.select)) rfl h2 rfl ⟨h4.cm,h4.fin⟩ h5 h6
  |born n gB rk h1=>omega
  |tree h1=>omega
  |sel v z0 z1 bj off h1=>omega
  |done h1=>omega
  |lib h1 h2 h3 h4=>omega
 .have e:kg.wake d=d:=by simp[kg.wake,vN]
  rw[e];rcases h.status with hs|⟨h',_⟩
  .rw[again_running w hs];exact h
  .exact absurd h' vN
omit [Payload]in
theorem Tc(N j:Nat)(D:Nat->WX):sumTo N (iO j fun i=>wake (D i))<=sumTo N (iO j D)+N:=by
 induction N with
 |zero=>simp[sumTo]
 |succ N ih=>
  simp only[sumTo];have:iO j (fun i=>wake (D i)) N<=iO j D N+1:=by
   simp only[iO];split
   .exact(d_ (D N)).2.2.2.2.2.2.2.2.2
   .omega
  omega
section
variable (n:Now H j D mine got Y closed tag d0 gs w t a x q st sm)
include n
theorem Qu(ht:tag= .col k false)(hd:d0=0)(e:j=H.N)(h:AtClose H got mine a w):Moves H gs w sl t 0 (meas H j D tag f0 q):=by
 subst ht;subst hd;obtain⟨cF,_⟩:=n.hF.cnt k false rfl;subst cF;obtain⟨⟨sR,rR,yT,hR⟩,⟨sD,rD,vw,hD⟩,qN⟩:=n.hCH;obtain⟨ag,cG⟩:=h;obtain⟨g',es,hgo,vy,hg's,dt,fY⟩:=cG sD rD vw hD;obtain⟨pH,ox,QM,n1,n2,n3⟩:=n.aC.Ab;let w':=w.setChan H.Dn 0 #[] true sD rD vw
 have lp:w'=(w.at w.drawn).setChan H.Dn 0 #[] true sD rD vw:=rfl;have xN:∀See:Nat->Prop,¬See H.Dn->mP H.ty H.Wg See w w':=fun See hs=>by rw[lp];exact Io hs n2
 have ff:=xN (nY H mine) (fun h=>h.elim (fun h=>(n.aC.iZ _ h).2.2.2.1 rfl) fun h=>(n.aC.mspec _ h).2.2.2.1 rfl);have DI:∀i,i<j->mP H.ty H.Wg (D i).vs w w':=fun i hi=>xN _ fun h=>(n.aC.gV i _ hi h).2.2.2.1 rfl;obtain⟨m,cE⟩:=fY w' ff;have hD':w'.heap[H.Dn]? =some (.chan 0 #[] true sD rD vw):=FK QM;have hR':w'.heap[H.R]? =some (.chan 0 #[] false sR rR yT):=(jS n3).trans hR;have eN:=runT_crowd_go (P:=H.P) (sl:=sl) (i:=0) n.hA.z (show stepG H.P (0==0) a w=_ from hgo);have ma:∀i',i'<j->WS H i' (D i') (x i') w':=fun i' bh=>(n.hW i' bh).rely (DI i' bh) (fun c hc=>n.aC.ov i' c bh hc) (n.aC.cv i' bh);have hd:∀k,0<k->k<H.o->Deaf (t++MemOp.ofEvents 0 a.frame.fn a.frame.place es) k=Deaf t k:=fun k hk _=>Deaf_other t (by omega) _ g_of_ofEvents;have BZ:=n.hA.go0 (f:=woken H.P a g' w') (u:=t++MemOp.ofEvents 0 a.frame.fn a.frame.place es) (a':=g') (x':=fun i=>(x i).again w') (fun i' _=>by simp[Go.Conc.woken,vy,hg's]) (fun k d g hQ=>woken_quitsD hQ) hd;have cC:w'.heap.size=w.heap.size:=ny;have hdz:deafBehind 0 es=0:=deafBehind_still (fun e he=>⟨(dt e he).2.2.1,(dt e he).2.2.2.1⟩) 0;have N4:qP H j (fun i=>wake (D i)) 0 w'.heap.size (t++MemOp.ofEvents 0 a.frame.fn a.frame.place es):=by
  rw[cC];refine qP.cong (D:=D) ?_ fun i _=>⟨(d_ (D i)).1,(d_ (D i)).2.1,(d_ (D i)).2.2.2.1,fun h=>Nat.le_trans (d_ (D i)).2.2.2.2.2.2.2.2.1 h⟩;have:=n.hT.app0 (sz':=w.heap.size) (es:=es) (fn:=a.frame.fn) (pos:=a.frame.place) n.hA.pos (n.hT.ti.objs g_of_ofEvents (fun op a_=>by obtain⟨e,he,rfl⟩:=Go.Conc.mem_ofEvents a_;exact(dt e he).2.1) (fun op a_=>by obtain⟨e,he,rfl⟩:=Go.Conc.mem_ofEvents a_;exact(dt e he).1)) (fun e he=>(dt e he).2.2.2.2);rw[hdz]at this;exact this
 have hVc:Vc j (bJ fun i=>wake (D i))=Vc j (bJ D):=sumTo_congr fun i _=>by simp only[bJ,(d_ (D i)).2.2.2.2.1]
 have fc:=Tc H.N j D;have hmode:ConcN.Mode j (bJ fun i=>wake (D i)) .kd st sm:=ConcN.Mode.congr (fun i _=>by simp only[bJ,(d_ (D i)).2.2.2.2.1]) n.hmode;refine⟨_,_,meas H j (fun i=>wake (D i)) .cl m q,eN,jc ?_,_,w',sl,j,fun i=>wake (D i),mine,got,Y,true,.cl,m,0,g',fun i=>(x i).again w',q,st,sm,rfl,BZ,.cl e cE,fun i hi=>(ma i hi).wake hD',?_,N4,?_,⟨⟨sR,rR,yT,hR'⟩,⟨sD,rD,vw,hD'⟩,qN.rely ff fun b hb _=>(xN (· =b) fun e=>(qN.2.2 b hb).1.2.2.1 e.symm).row b rfl⟩,(jS n2).trans n.hwg,hmode,(fun e=>by cases e),rfl⟩
 .simp only[meas,dA,Bool.false_eq_true,if_false];omega
 .rw[cC];exact n.aC.congr (fun i _=>⟨(d_ (D i)).1,(d_ (D i)).2.1,(d_ (D i)).2.2.1⟩) (Nat.le_refl _)
 .refine⟨n.hF.jN,fun i hi _=>rfl,fun _ i _=>(d_ (D i)).2.2.2.2.2.2.2.1,fun i v hv=>?_,fun hc=>by(cases hc),fun k b e=>by(cases e),fun r s e=>by(cases e),fun c e=>by(rcases e with e|e<;>cases e),fun _=>rfl⟩;obtain⟨h1,h2,F,k1,k2,k3⟩:=n.hF.some i v hv;have e:wake (D i)=D i:=by simp[wake,show(D i).ws≠17 by omega]
  rw[e];exact⟨h1,h2,F,k1,k1 w w' (fun c hc _=>(DI i h1).row c (n.aC.ov i c h1 hc)) k2,k3⟩
theorem Uf(ht:tag= .col (k+1) false)(hd:d0=0)(e:j=H.N)(h:qC H (k+1) got mine a w):Moves H gs w sl t 0 (meas H j D tag f0 q):=by
 subst ht;subst hd;obtain⟨cF,eA⟩:=n.hF.cnt (k+1) false rfl;subst cF;have hCH:=n.hCH;obtain⟨⟨sR,rR,yT,hR⟩,⟨sD,rD,vw,hD⟩,qN⟩:=hCH;obtain⟨ag,z,gh,fY⟩:=h;obtain⟨pH,ox,QM,n1,n2,n3⟩:=n.aC.Ab;have eL:=n.hA.pos;have LQ:∀i,i<j->(D i).ws=17->∃v z0 z1 gj,x i=parked gj (two H.R H.Dn v z0 z1) .select/\Bd H (D i) v z0 z1 gj/\WU H i (D i) v w/\vZ (D i) w:=by
  intro i hi vN;cases n.hW i hi with
  |uh v z0 z1 bj h1 h2 h3 h4 h5 h6=>exact⟨v,z0,z1,bj,h3,h4,h5,h6⟩
  |born n gB rk h1=>omega
  |tree h1=>omega
  |sel v z0 z1 bj off h1=>omega
  |done h1=>omega
  |lib h1 h2 h3 h4=>omega
 by_cases hp:partners (gs.setIfInBounds 0 ph) H.R true= []
 .have gA:∀i,i<j->(D i).ws≠17:=by
   intro i hi vN;obtain⟨v,z0,z1,gj,hx,_⟩:=LQ i hi vN;have:(H.o+i,0)∈partners (gs.setIfInBounds 0 ph) H.R true:=mem_partners.2 ⟨x i,by rw[Array.getElem?_setIfInBounds_ne (by omega)];exact n.hA.w i hi,by rw[hx,ou];simp⟩;rw[hp]at this;cases this
  have eN:=crowd_waits (sl:=sl) n.hA.z (show stepG H.P (0==0) a w=_ from gh w) (fun cc di=>by
   simp only[List.mem_toArray,List.mem_cons,List.not_mem_nil,or_false]at di;subst di;exact qJ hR hp)
  rw[mK]at eN;refine⟨_,_,meas H j D (.col (k+1) true) 0 q,eN,jc (by simp[meas,dA]),_,w,sl,j,D,mine,got,Y,false,.col (k+1) true,0,0,_,x,q,st,sm,rfl,(n.hA.set0 fun _ _ _=>by rw[Array.append_empty]),.rcv e ag fY,n.hW,n.aC,by rw[Array.append_empty];exact n.hT,?_,n.hCH,n.hwg,n.hmode,(fun e=>by cases e),rfl⟩;exact⟨n.hF.jN,n.hF.gu,fun _=>gA,n.hF.some,n.hF.none,fun k' b e=>by(simp only[b_.col.injEq]at e;exact⟨rfl,e.1▸eA⟩),fun r s e=>by(cases e),fun c e=>by(rcases e with e|e<;>cases e),fun e=>by(cases e)⟩
 .have cG:∀b c,(b,c)∈partners (gs.setIfInBounds 0 ph) H.R true->c=0/\b≠0/\∃gj vj z0 z1,gs[b]? =some (parked gj (two H.R H.Dn vj z0 z1) .select):=by
   intro b c hm;obtain⟨g,hg,hc⟩:=mem_partners.1 hm;by_cases e:0=b
   .subst e;rw[Array.getElem?_setIfInBounds_self_of_lt (by rw[n.hA.size];omega)]at hg;obtain rfl:=Option.some.inj hg;simp[offersAt_ph]at hc
   .rw[Array.getElem?_setIfInBounds_ne e]at hg;rcases n.hA.cases hg with⟨rfl,_⟩|⟨h0,hi⟩|⟨i,hi,rfl,rfl⟩
    .exact absurd rfl e
    .rw[qK (n.hA.old b g h0 hi hg)]at hc;cases hc
    .by_cases vN:(D i).ws=17
     .obtain⟨v,z0,z1,gj,hx,_⟩:=LQ i hi vN;rw[hx,ou]at hc;simp at hc;exact⟨hc,by omega,gj,v,z0,z1,hx▸hg⟩
     .rcases(n.hW i hi).status with hs|⟨h',_⟩
      .rw[offersAt_of_not_blocked (by rcases hs with hs|hs<;>rw[hs]<;>simp)]at hc;cases hc
      .exact absurd h' vN
  obtain⟨b,gj,vj,z0,z1,d,du,M3,eN⟩:=LA (sl:=sl) n.hA.z (show stepG H.P (0==0) a w=_ from gh w) hR hp cG;rcases n.hA.cases M3 with⟨rfl,_⟩|⟨h0,hi⟩|⟨i,hi,rfl,ln⟩
  .exact absurd rfl du
  .have:=(n.hA.old b _ h0 hi M3).status;rcases this with h|h<;>simp[parked]at h
  .have vN:(D i).ws=17:=by
    rcases(n.hW i hi).status with hs|⟨h',_⟩
    .rw[<-ln]at hs;rcases hs with h|h<;>simp[parked]at h
    .exact h'
   obtain⟨v',z0',z1',gj',lE,gS,Jj,e_⟩:=LQ i hi vN;have he:=LP (P:=H.P) (ln.trans lE) 0 undef false (two H.R H.Dn vj z0 z1) .select;have X9:=he.2.1;have e1:vj=v'/\z0=z0'/\z1=z1':=by
    simp only[two,scase,rcase,Array.mk.injEq,List.cons.injEq,CommCase.mk.injEq,Option.some.injEq]at X9;exact⟨X9.1.2.1,X9.1.2.2,X9.2.1.2.2⟩
   obtain⟨rfl,rfl,rfl⟩:=e1;rw[he.1,mK]at eN;have pC:(D i).gu=false:=by
    cases e:(D i).gu with
    |false=>rfl
    |true=>have:=n.hF.gu i hi e;cases this
   refine meet n.hW n.aC n.hT n.hF e n.hCH n.hwg n.hmode hi (by omega) gS Jj e_ pC fY eN ?_ fun t' hd=>?_
   .intro op a_;simp only[Array.empty_append,List.mem_toArray,List.mem_cons,List.not_mem_nil,or_false]at a_;rcases a_ with rfl|rfl|rfl|rfl
    iterate 4 (·exact⟨rfl,ox,fun m e=>by cases e⟩)
   .exact(n.hA.setW (u:=t) hi fun _ _ _=>rfl).set0 fun k _ _=>hd k
theorem XT(ht:tag= .col k false)(hd:d0=0)(e:j=H.N)(h:aO H (fun m g w=>qC H k got m g w\/AtClose H got m g w) f0 mine a w):Moves H gs w sl t 0 (meas H j D tag f0 q):=by
 rcases h.cases with(bk|bk)|⟨n',rfl,ag,g',w',es,bH,hgo,cg,cE⟩
 .cases k with
  |zero=>
   subst ht;obtain⟨cF,eA⟩:=n.hF.cnt 0 false rfl;refine Uh n (ok:=true) rfl hd e cF (fun _ i hi hn=>?_) bk (by simp only[dA,Bool.false_eq_true,if_false];omega);have:=le_sumTo (f:=fun i=>if got i=none then 1 else 0) hi;simp only[hn,if_true]at this;omega
  |succ k=>exact Uf n ht hd e bk
 .exact Qu n ht hd e bk
 .subst ht;subst hd;exact plain0 n.hA n.hW n.aC n.hT n.hF n.hCH n.hwg n.hmode hgo cg (.col e cE) (by simp[b_.kin]) (Nat.lt_succ_self _)
def Zo(Y:Goroutine)(tag:b_)(a:Goroutine):Prop:=tag= .wt .ret/\a=Y
theorem Hy(O:oJ H)(h:SS H j mine got Y tag f0 d0 a w)(ag:a.status= .running):Zo Y tag a\/Moves H gs w sl t 0 (meas H j D tag f0 q):=by
 cases h with
 |ZL e h=>exact .inr (XR n rfl rfl e h)
 |kd e h c=>exact .inr (Ug n rfl rfl e h c)
 |a1 e h c=>exact .inr (moveA1 n O rfl rfl e h c)
 |rd e h c=>exact .inr (moveRd n rfl rfl e h c)
 |ke e h c=>exact .inr (moveKe n rfl rfl e h c)
 |kk e s h c=>exact .inr (moveKk n rfl rfl e s h c)
 |sgo e h=>exact .inr (Oc n rfl rfl e h)
 |col e h=>exact .inr (XT n rfl rfl e h)
 |rcv e s h=>cases ag
 |cl e h=>exact .inr (moveCl n rfl rfl e h)
 |wkd e h=>exact .inr (Ob n rfl rfl e h)
 |anch e h=>exact .inr (Ui n O rfl rfl e h)
 |w1 e h=>exact .inr (Ue n O rfl rfl e h)
 |w2 e h=>exact .inr (moveW2 n O rfl rfl e h)
 |wm e h=>exact .inr (moveWm n rfl rfl e h)
 |w3 e h=>exact .inr (moveW3 n rfl rfl e rfl h)
 |blk e h=>cases ag
 |w4 e h=>exact .inr (moveW4 n rfl rfl e h)
 |Zr e h=>exact .inr (XQ n rfl rfl e h)
 |acq e h=>exact .inr (XU n rfl rfl e h)
 |ret e h=>
  rcases Goes.cases h with bk|⟨m',rfl,aq⟩
  .exact .inl ⟨rfl,bk w (RS.refl w)⟩
  .obtain⟨g',w1,es1,hgo,⟨rfl,rfl⟩,cE⟩:=aq w (RS.refl w);exact .inr (n.idle hgo (.ret e cE) (.inr rfl) (Nat.lt_succ_self _))
theorem someone(O:oJ H)(h:SS H j mine got Y tag f0 d0 a w):∃(i:Nat) (g:Goroutine),gs[i]? =some g/\g.status= .running:=by
 have run:∀i,i<j->7<=(D i).ws->(D i).ws≠17->(x i).status= .running:=by
  intro i hi h7 vN;cases n.hW i hi with
  |uh v z0 z1 bj h1=>exact absurd h1 vN
  |born n gB rk h1 h2 h3 h0=>exact h0
  |tree h1 h2 h3 h4=>
   obtain⟨ρ,p,f,fs,f',fs',e,_⟩:=h3;rw[e];exact qm _ _ _
  |sel v z0 z1 bj off h1 h2 h3=>rw[h3]
  |done h1 h2 h3 h4 h5=>exact Goes.running (fun _ _ x=>x.1) w (RW.refl w) h5
  |lib h1 h2 h3 h4=>omega
 rcases h.status O.ar with⟨hs,_⟩|⟨_,ht⟩
 .exact⟨0,a,n.hA.z,hs⟩
 .cases h with
  |@rcv k _ z bj _ e s hc=>
   obtain⟨cF,eA⟩:=n.hF.cnt (k+1) true rfl;have:∃i,i<H.N/\got i=none:=by
    apply Classical.byContradiction;intro bd;have h0:sumTo H.N (fun i=>if got i=none then 1 else 0)=sumTo H.N (fun _=>0):=sumTo_congr fun i hi=>by
     have:got i≠none:=fun h=>bd ⟨i,hi,h⟩;simp[this]
    have h1:∀m,sumTo m (fun _=>0)=0:=by
     intro m;induction m with
     |zero=>rfl
     |succ m ih=>simp[sumTo,ih]
    rw[h0,h1]at eA;cases eA
   obtain⟨i,hi,hn⟩:=this;have pB:i<j:=by omega
   have vN:=n.hF.none cF i pB hn;exact⟨H.o+i,x i,n.hA.w i pB,run i pB (by omega) (n.hF.np (.inr rfl) i pB)⟩
  |@blk m g _ e hb=>
   have np:=n.hF.np (.inr rfl);have hmode:ConcN.Mode j (bJ D) .blk st sm:=n.hmode;have stg:∀i,i<j->(D i).st≠1->(x i).status= .running:=by
    intro i hi h1;rcases(n.hW i hi).IB with h|h
    .exact run i hi (by omega) (np i hi)
    .by_cases h7:(D i).ws=7
     .exact run i hi (by omega) (np i hi)
     .cases n.hW i hi with
      |lib k1 k2 k3 k4=>exact(by
       cases cg:(D i).st with
       |zero=>rw[cg]at k4;cases k4
       |succ s=>
        generalize (D i).st=s' at*;generalize (D i).fu=fu' at*;generalize (D i).df=df' at*;cases k4 with
        |r0 h=>omega
        |k1 h=>exact Goes.running (fun _ _ x=>x.1) w (RW.refl w) h
        |d1 h=>exact Goes.running (fun _ _ x=>x.1) w (RW.refl w) h
        |d2 h=>exact Goes.running (fun _ _ x=>x.1) w (RW.refl w) h
        |d3 h=>exact Goes.running (fun _ _ x=>x.1) w (RW.refl w) h
        |d4 h=>exact Goes.running (fun _ _ x=>x.1) w (RW.refl w) h
        |quit h=>exact absurd rfl h1)
      |uh v z0 z1 bj h1=>omega
      |born n gB rk h1=>omega
      |tree h1=>omega
      |sel v z0 z1 bj off h1=>omega
      |done h1=>omega
   have key:∃i,i<j/\(D i).st≠1:=by
    cases hmode with
    |opn h1 _ _=>exact h1.elim
    |reg _ h2 h3=>
     apply Classical.byContradiction;intro bd;have h0:Vc j (bJ D)=sumTo j (fun _=>0):=sumTo_congr fun i hi=>by
      have:(bJ D i).stage=1:=Classical.byContradiction fun h=>bd ⟨i,hi,h⟩;simp[ConcN.cnt,this]
     have h1:∀m,sumTo m (fun _=>0)=0:=by
      intro m;induction m with
      |zero=>rfl
      |succ m ih=>simp[sumTo,ih]
     rw[h0,h1]at h3;omega
    |last L _ h2 h3 _=>exact⟨L,h2,fun h1=>by have h5:(bJ D L).stage=1:=h1;omega⟩
    |fin h1 _=>exact h1.elim
   obtain⟨i,hi,h1⟩:=key;exact⟨H.o+i,x i,n.hA.w i hi,stg i hi h1⟩
  |_=>cases ht
end
def Tgt(H:Ph)(m:Machine)(t:Trace):Prop:=
 ∃(gs:Array Goroutine) (w:World) (sl:Option (Nat×Nat)) (got:Nat->Option Value) (Y:Goroutine) (mine:Nat->Prop) (ok:Bool) (q:Nat->Nat),m=crowd gs w sl/\gs.size=H.o+H.N/\gs[0]? =some Y/\(∀i g,0<i->gs[i]? =some g->QuitsD H.P (q i) (Deaf t i) g)/\(∀k,gs.size<=k->Deaf t k=0)/\
  Past (fun l=>H.Shun l\/V7 H.Wg l) w.heap.size t/\H.Fin ok got mine Y w/\(Bas H w/\WgLive H.ty H.Wg w/\∀b,mine b->b<w.heap.size/\b≠H.Wg/\b≠H.R/\b≠H.Dn/\∀k,¬H.Shun (.cell ⟨b,k,none⟩))/\(ok=true->∀i,i<H.N->got i≠none)/\∀i v,got i=some v->H.YC i v w
theorem Xw(O:oJ H)(J:Ms)(m:Machine)(t:Trace)(h:Inv H J m t):Tgt H m t\/∃m' ops μ',stepT H.P m=(.next m',ops)/\LL H.N μ' J/\Inv H μ' m' (t++ops):=by
 obtain⟨gs,w,sl,j,D,mine,got,Y,closed,tag,f0,d0,a,x,q,st,sm,rfl,hA,hS,hW,aC,hT,hF,hCH,hwg,hmode,hacq,rfl⟩:=h;have hn:Now H j D mine got Y closed tag d0 gs w t a x q st sm:=⟨hA,hW,aC,hT,hF,hCH,hwg,hmode,hacq⟩;by_cases X_:Zo Y tag a
 .refine .inl ?_;obtain⟨rfl,rfl⟩:=X_;obtain⟨hq,_,_⟩:=hmode.fin_inv trivial;have AS:j=H.N:=by cases hS with|ret e _=>exact e.1
  obtain⟨p,h1,h2,h3,h4⟩:=hacq rfl;obtain⟨ok,k1,k2,k3⟩:=hF.wt .ret (.inl rfl);refine⟨gs,w,sl,got,_,mine,ok,fun i=>if i<H.o then q i else(D (i-H.o)).fu,rfl,by rw[hA.size,AS],hA.z,fun i g h0 hg=>?_,fun k hk=>hT.rH k (by rw[hA.size]at hk;exact hk),?_,k3 w (.refl w),⟨hCH.2.2,⟨st,sm,hwg⟩,aC.mspec⟩,k2,fun i v hv=>?_⟩
  .rcases hA.cases hg with⟨rfl,_⟩|⟨_,hi⟩|⟨i',bh,rfl,rfl⟩
   .omega
   .show QuitsD H.P (if i<H.o then q i else(D (i-H.o)).fu) _ _;rw[if_pos hi];exact hA.old i g h0 hi hg
   .show QuitsD H.P (if H.o+i'<H.o then q (H.o+i')else(D (H.o+i'-H.o)).fu) _ _;rw[if_neg (by omega),show H.o+i'-H.o=i' by omega,hT.deafW i' bh];have cg:(D i').st=1:=hq i' bh;cases hW i' bh with
    |lib a1 a2 a3 a4=>
     rw[cg]at a4;exact a4.quits rfl
    |uh v z0 z1 bj a1 a2=>have:=Zt a2;omega
    |born n gB rk a1 a2 a3=>have:=Zt a3;omega
    |tree a1 a2=>have:=Zt a2;omega
    |sel v z0 z1 bj off a1 a2=>have:=Zt a2;omega
    |done a1 a2=>omega
  .refine hT.ti.past (q:=p) (fun k ⟨i,hi,e⟩=>e▸h4 i hi) hT.IW h1 h2 h3 ?_ hT.over;cases hS;exact hT.deaf0
  .obtain⟨_,_,F,f1,f2,f3⟩:=hF.some i v hv;exact f3 w f2
 .refine .inr ?_;have SZ:∀g∈gs,awake g:=by
   intro g hg tm;obtain⟨i,hi⟩:=Array.mem_iff_getElem?.1 hg;rcases hA.cases hi with⟨rfl,rfl⟩|⟨h0,bh⟩|⟨i',bh,rfl,rfl⟩
   .rcases hS.status O.ar with⟨hs,_⟩|⟨hs,_⟩<;>rw[hs]<;>simp
   .rcases(hA.old i g h0 bh hi).status with hs|hs<;>rw[hs]<;>simp
   .rcases(hW i' bh).status with(hs|hs)|⟨_,hs⟩<;>rw[hs]<;>simp
  obtain⟨i,g,d,sl',hg,ag,aq⟩:=crowd_pick (P:=H.P) (w:=w) (sl:=sl) SZ (someone hn O hS);rw[aq];have tn:=hS.rely (mP.at w d);have ma:∀i,i<j->WS H i (D i) (x i) (w.at d):=fun i hi=>(hW i hi).rely (mP.at w d) (fun c hc=>aC.ov i c hi hc) (aC.cv i hi);have Gc:Fl H j D tag got Y closed mine (w.at d):=by
   refine⟨hF.jN,hF.gu,hF.np,fun i v hv=>?_,hF.none,hF.cnt,hF.sp,fun c e=>?_,hF.cl⟩
   .obtain⟨h1,h2,h3⟩:=hF.some i v hv;exact⟨h1,h2,h3.rely fun _ _ _=>rfl⟩
   .obtain⟨ok,h1,h2,h3⟩:=hF.wt c e;exact⟨ok,h1,h2,h3.rely (mP.at w d)⟩
  have kv:Now H j D mine got Y closed tag d0 gs (w.at d) t a x q st sm:=⟨hA,ma,aC,hT,Gc,hCH,hwg,hmode,hacq⟩;rcases hA.cases hg with⟨rfl,rfl⟩|⟨h0,hi⟩|⟨i',bh,rfl,rfl⟩
  .exact(Hy (sl:=sl') kv O tn ag).resolve_left X_
  .exact goL O.ar hA tn ma aC hT Gc hCH hwg hmode hacq h0 hi hg ag
  .exact ZJ O hA tn ma aC hT Gc hCH hwg hmode hacq bh ag
theorem Xx(O:oJ H)(J:Ms):∀(m:Machine) (t:Trace),Inv H J m t->∃k m' t',runNT H.P k m t=(.next m',t')/\Tgt H m' t':=by
 induction J using(ll_wf H.N).induction with
 |_ J ih=>
  intro m t h;rcases Xw O J m t h with h|⟨m',ops,μ',h1,h2,h3⟩
  .exact⟨0,m,t,rfl,h⟩
  .obtain⟨k,m2,t2,h4,h5⟩:=ih μ' h2 m' _ h3;exact⟨k+1,m2,t2,by simp only[runNT,h1];exact h4,h5⟩
end
end
section
open Go.Conc Go.ConcN Go.Ren
variable{c i:Nat}{o:Oper}{b:Frame}{a:Act}{k:List Item}{x y:Code}
theorem JU.quiet{H:Ph}{mine:Nat->Prop}(w:World):JU H mine mine w w #[]:=⟨Nat.le_refl _,fun _ _ _=>rfl,fun _ h=>.inl h,rfl,rfl,rfl,id,fun e he=>by simp at he⟩
theorem JU.nothing{H:Ph}{mine:Nat->Prop}{w:World}{es:Array Event}(h:es=#[]):JU H mine mine w w es:=h▸ .quiet w
theorem JU.reads{H:Ph}{mine:Nat->Prop}{w:World}{es:Array Event}(h:∀e∈es,e=⟨.cell ⟨c,i,none⟩,false,false⟩)(hc:H.old c\/mine c):JU H mine mine w w es:=
 ⟨Nat.le_refl _,fun _ _ _=>rfl,fun _ h=>.inl h,rfl,rfl,rfl,id,fun e he=>.inl ⟨c,i,false,h e he,hc,fun h=>by cases h⟩⟩
theorem JU.writes{H:Ph}{mine:Nat->Prop}{w:World}{es:Array Event}{v:Value}(h:∀e∈es,e=⟨.cell ⟨c,i,none⟩,true,false⟩)(hc:mine c):JU H mine mine w (w.setCell ⟨c,i,none⟩ v) es:=by
 refine⟨by simp[World.setCell],fun b _ hb=>?_,fun _ h=>.inl h,rfl,rfl,rfl,fun h=>vI h,fun e he=>?_⟩
 .have bd:¬c=b:=fun e=>hb (e▸hc);simp[World.setCell,Array.getElem?_modify,bd]
 .exact .inl ⟨c,i,true,h e he,.inr hc,fun _=>hc⟩
theorem JU.turns{H:Ph}{mine:Nat->Prop}{w w':World}{es:Array Event}(ha:Aside c w w')(hc:mine c)(h:∀e∈es,∃i wr,e=⟨.cell ⟨c,i,none⟩,wr,false⟩)(Re:NV w->NV w'):JU H mine mine w w' es:=by
 refine⟨Nat.le_of_eq ha.size.symm,fun b _ hb=>ha.block b fun e=>hb (e▸hc),fun _ h=>.inl h,ha.tape,ha.os,ha.output,Re,fun e he=>?_⟩;obtain⟨i,wr,e⟩:=h e he;exact .inl ⟨c,i,wr,e,.inr hc,fun _=>hc⟩
theorem JU.makes{H:Ph}{mine:Nat->Prop}{w:World}{es:Array Event}{o:Obj}(h:∀e∈es,e=⟨.mark .noRoom,false,true⟩)(ho:plainO o:=by exact trivial):JU H mine (fun b=>mine b\/b=w.heap.size) w (w.alloc o) es:=by
 have e0:(w.alloc o).heap=w.heap.push o:=rfl;refine⟨by rw[e0];simp,fun b hb _=>?_,fun b hb=>?_,rfl,rfl,rfl,fun h=>L9 h ho,fun e he=>.inr (.inl (h e he))⟩
 .rw[e0,Array.getElem?_push,if_neg (by omega)]
 .rcases hb with hb|rfl
  .exact .inl hb
  .exact .inr ⟨Nat.le_refl _,by rw[e0];simp⟩
section
variable {H:Ph} {Stop:(Nat->Prop)->Goroutine->World->Prop} {n:Nat} {mine:Nat->Prop} {w:World} {g g':Goroutine}
theorem aO.one:∀{n:Nat} {mine:Nat->Prop} {g:Goroutine} {w:World},aO H Stop n mine g w->aO H Stop (n+1) mine g w
 |0,_,_,_,h=>.inl h
 |_+1,_,_,_,h=>h.imp id fun x=>⟨x.1,fun af aa=>let⟨g',w',es,bH,h1,h2,h3⟩:=x.2 af aa;⟨g',w',es,bH,h1,h2,aO.one h3⟩⟩
theorem aO.more{n m:Nat}(h:aO H Stop n mine g w)(hm:n<=m):aO H Stop m mine g w:=by
 induction hm with
 |refl=>exact h
 |step _ ih=>exact ih.one
theorem aO.stop(h:∀af,mP H.ty H.Wg (nY H mine) w af->Stop mine g af):aO H Stop n mine g w:=by
 cases n with
 |zero=>exact h
 |succ n=>exact .inl h
theorem aO.ctl{P:Program}(hP:H.P=P)(hs:g.status= .running)(h:∀af,stepG P true g af= .go g' af #[])(hn:aO H Stop n mine g' w):aO H Stop (n+1) mine g w:=
 .inr ⟨hs,fun af aa=>⟨g',af,#[],mine,by rw[hP];exact h af,.quiet af,hn.rely aa⟩⟩
theorem aO.op{P:Program}(hP:H.P=P){cs:List Frame}{ops:Array Oper}{rest:List Nat}(ho:ops[i]? =some o)(hw:Region.wanted o (yielded ops a.tmps)=true)(hk:b.kind≠.early)
  (h:∀af,mP H.ty H.Wg (nY H mine) w af->∃bH,∀K':Act->World->Prop,(∀a' w',(JU H mine bH af w' (listed P b.fn a o af)/\aO H Stop n bH (G (b.at a' (.inRegion ops rest::k)) cs) w')->K' a' w')->uponK o a K' ((execOp a.eval o).run P af)):
  aO H Stop (n+1) mine (G (b.at a (.inRegion ops (i::rest)::k)) cs) w:=by
 subst hP;refine .inr ⟨rfl,fun af aa=>?_⟩;obtain⟨bH,hm⟩:=h af aa;have:=goes_oper_k (P:=H.P) (main:=true) (b:=b) (a:=a) (k:=k) (cs:=cs) (w:=af) (K:=fun g' w' es=>JU H mine bH af w' es/\aO H Stop n bH g' w') ho hw hk hm;revert this;cases stepG H.P true (G (b.at a (.inRegion ops (i::rest)::k)) cs) af with
 |go g' w' es=>exact fun hh=>⟨g',w',es,bH,rfl,hh.1,hh.2⟩
 |_=>exact fun hh=>hh.elim
theorem aO.reg{P:Program}(hP:H.P=P){cs:List Frame}{id:Nat}{ops:Array Oper}{todo:List Nat}(ht:List.range ops.size=todo)(hn:aO H Stop n mine (G (b.at a (.inRegion ops todo::k)) cs) w):aO H Stop (n+1) mine (G (b.at a (.code (.region id ops false)::k)) cs) w:=
 aO.ctl hP rfl (fun _=>stepG_region) (ht▸hn)
theorem aO.yes{P:Program}(hP:H.P=P){cs:List Frame}{c:Operand}(hc:a.eval c= .bool true)(hn:aO H Stop n mine (G (b.at a (.code x::k)) cs) w):aO H Stop (n+1) mine (G (b.at a (.code (.cond c x y)::k)) cs) w:=
 aO.ctl hP rfl (fun _=>stepG_cond hc) hn
theorem aO.no{P:Program}(hP:H.P=P){cs:List Frame}{c:Operand}(hc:a.eval c= .bool false)(hn:aO H Stop n mine (G (b.at a (.code y::k)) cs) w):aO H Stop (n+1) mine (G (b.at a (.code (.cond c x y)::k)) cs) w:=
 aO.ctl hP rfl (fun _=>stepG_cond hc) hn
theorem aO.call{P:Program}(hP:H.P=P){cs:List Frame}{ops:Array Oper}{rest:List Nat}{f:FuncId}{fn:Func}{c:Code}{args:Array Operand}{ats:Array TypeId}(ho:ops[i]? =some o)(hw:Region.wanted o (yielded ops a.tmps)=true)(hk:b.kind≠.early)(a_:o.op= .call {callee:=.value (.func f),args,argTypes:=ats})
  (hf:P.funcs[f]? =some fn)(de:(fn.name== "runtime.NumGoroutine")=false)(hb:fn.body=some c)
  (hn:aO H Stop n mine (G ((base f).at {tmps:=args.map a.eval++Array.replicate (fn.ntmps-(args.map a.eval).size) undef,defers:= []} [.code c]) (b.at a (.inRegion ops (i::rest)::k)::cs)) w):
  aO H Stop (n+1) mine (G (b.at a (.inRegion ops (i::rest)::k)) cs) w:=by
 refine aO.ctl hP rfl (fun af=>?_) hn;have:=goes_call (P:=P) (main:=true) (w:=af) (K:=fun g' w' es=>g'=G ((base f).at {tmps:=args.map a.eval++Array.replicate (fn.ntmps-(args.map a.eval).size) undef,defers:= []} [.code c]) (b.at a (.inRegion ops (i::rest)::k)::cs)/\w'=af/\es=#[]) (k:=k) (cs:=cs) (b:=b) (a:=a) ho hw hk a_ hf de hb ⟨rfl,rfl,rfl⟩;revert this;cases stepG P true (G (b.at a (.inRegion ops (i::rest)::k)) cs) af with
 |go g' w' es=>rintro⟨rfl,rfl,rfl⟩;rfl
 |_=>exact fun h=>h.elim
end
end
end Go.kg
namespace Go.Proofs.YtmfpiodlecapiaaGreatDoor
open Go.Proofs.Tryz
section
open Go.Conc.Lib
abbrev link:WgLink:= {add:=88,done:=90,wait:=93,relMerge:=134,disable:=135,enable:=136,inBubble:=137,associate:=138,fatal:=139,uOr:=140,uAdd:=141,raceRead:=142,uLoad:=143,uStore:=144,disassociate:=145,semrelease:=146,acquire:=151,isAssociated:=152,uCas:=153,raceWrite:=154,semacquire:=155,orU64:=183,addU64:=184,loadU64:=185,storeU64:=186,casU64:=189,tWgP:=203,tUP:=205,tAssoc:=206,tWg:=157,tAU:=154,tU64:=152,tUint:=123,tU32:=155,tPU32:=210,tPAU:=247,tPU64:=249,tNoCopy:=149,tANoCopy:=150,tAlign64:=151}
theorem qW:WgLib prog link:=
 ⟨func88,func90,func93,func134,func135,func136,func137,func138,func139,func140,func141,func142,func143,func144,func145,func146,func151,func152,func153,func154,func155,func183,func184,func185,func186,func189,underlying203,Tryz.runUnderlying203,sizeOf203,isAgg203,zeroValue203,underlying205,Tryz.runUnderlying205,sizeOf205,isAgg205,zeroValue205,underlying206,Tryz.runUnderlying206,sizeOf206,isAgg206,zeroValue206,underlying157,Tryz.runUnderlying157,sizeOf157,isAgg157,zeroValue157,underlying154,Tryz.runUnderlying154,sizeOf154,isAgg154,zeroValue154,underlying152,Tryz.runUnderlying152,sizeOf152,isAgg152,zeroValue152,underlying123,Tryz.runUnderlying123,sizeOf123,isAgg123,zeroValue123,underlying155,Tryz.runUnderlying155,sizeOf155,isAgg155,zeroValue155,underlying210,Tryz.runUnderlying210,sizeOf210,isAgg210,zeroValue210,underlying247,Tryz.runUnderlying247,sizeOf247,isAgg247,zeroValue247,underlying249,Tryz.runUnderlying249,sizeOf249,isAgg249,zeroValue249,underlying0,Tryz.runUnderlying0,sizeOf0,isAgg0,zeroValue0,underlying3,Tryz.runUnderlying3,sizeOf3,isAgg3,zeroValue3,underlying4,Tryz.runUnderlying4,sizeOf4,isAgg4,zeroValue4,underlying9,Tryz.runUnderlying9,sizeOf9,isAgg9,zeroValue9,underlying20,Tryz.runUnderlying20,sizeOf20,isAgg20,zeroValue20,underlying21,Tryz.runUnderlying21,sizeOf21,isAgg21,zeroValue21,by kernel_rfl,by kernel_rfl⟩
open Go.Conc Go.ConcN Go.RowKit Go.Conc.Lib Go.ConcR.Gen Go.ConcN.Gen
open Go.ConcR (KK wgBlock WgAt stA smA rd wr mk Payload Aside2 DC0)
def vF:Code->Code
 | .seq _ b=>b
 |c=>c
def Yr:Code->Code
 | .seq a _=>a
 |c=>c
def aX:Code->Array Oper
 | .region _ ops _=>ops
 |_=>#[]
def lQ(f:Func):Code:=Yr (vF (vF (vF (f.body.getD .skip))))
def jV(f:Func):Code:=vF (vF (vF (vF (f.body.getD .skip))))
def bot(n:Nat):Frame:= {(default:Frame)with fn:=n,defers:= [],mode:=.panicking [goexitEntry]}
abbrev Nw:FuncId:=89
abbrev Gv:Frame:=baseD Nw
theorem Nv(T:Array Value)(todo:List Item):QuitsD prog 2 0 (G {Gv.at ⟨T,[]⟩ todo with mode:=.returning} [bot prog.funcs.size]):=by
 refine QuitsD.ctl (g':=G (bot prog.funcs.size) []) rfl (fun w=>?_) ?_
 .simp[G,stepG,unwind,doReturn,results,Frame.at,baseD,bot,func89,f89,seen,GStep.after,goexitEntry]
 refine QuitsD.ctl (g':= {G (bot prog.funcs.size) []with status:=.finished}) rfl (fun w=>?_) ⟨rfl,rfl⟩;simp[G,stepG,unwind,bot,goexitEntry,Frame.catches];rfl
end
section
open Go.Conc Go.Conc.Lib Go.bn
variable{bb bo cR cD b t:Nat}{pa:Nat->Option Addr}{w:World}{x v:Value}{cS:Addr}
def Idle(P:Program)(main:Bool):Nat->Goroutine->Goroutine->Prop
 |0,g,g'=>g=g'
 |n+1,g,g'=>g.status= .running/\∃g1,(∀w,stepG P main g w= .go g1 w #[])/\Idle P main n g1 g'
def CS(ps:Array Addr):Deferred:= {target:=.fn (.func Nw) (ps.map fun a=>.pointer (some a)),args:=#[]}
def Gu(n:Nat)(k:List Item)(g:Addr):Ctx:= {k:=k,defers:= [dcall link.done #[.pointer (some g)]],kind:=.deferred,callers:= [bot n]}
def mJ(f:Func):Code:=vF (f.body.getD .skip)
theorem Zu(a0 a1 a2 a3 a4 a5:Addr):Idle prog false 5 (born prog (CS #[a0,a1,a2,a3,a4,a5]))
  (gZ (Gu prog.funcs.size [.code (mJ f89)] a0) ⟨Nw,#[.pointer (some a0),.pointer (some a1),.pointer (some a2),.pointer (some a3),.pointer (some a4),.pointer (some a5)]++Array.replicate 19 undef,[],false⟩ []):=by
 refine⟨rfl,G (Gv.at ⟨#[.pointer (some a0),.pointer (some a1),.pointer (some a2),.pointer (some a3),.pointer (some a4),.pointer (some a5)]++Array.replicate 19 undef,[]⟩ [.code (f89.body.getD .skip)]) [bot prog.funcs.size],fun w=>?_,?_⟩
 .simp[born,CS,stepG,unwind,callDeferred,invoke,callFunc,func89,f89,seen,GStep.after,G,Frame.enter,Frame.at,baseD,bot]
 simp only[f89,Option.getD_some,mJ,vF];refine⟨rfl,_,fun w=>stepG_seq,rfl,_,fun w=>stepG_region,?_⟩;simp only[List.size_toArray,List.length_cons,List.length_nil,Nat.zero_add,List.range,List.range.loop];refine⟨rfl,_,fun w=>stepG_defer rfl rfl (by decide) rfl,rfl,_,fun w=>stepG_region_end,?_⟩;simp[Idle,gZ,Fr.base,Gu,G,Frame.at,Fr.mode,Act.put,Act.eval,baseD]
open Go.Conc Go.ConcN Go.RowKit Go.Conc.Lib Go.ConcR.Gen Go.ConcN.Gen Go.kg
open Go.ConcR (KK wgBlock WgAt stA smA rd wr mk Payload Aside2 DC0)
def aI:Nat->Code->Code
 |0,.seq a _=>a
 |n+1,.seq _ b=>aI n b
 |_,c=>c
def bI:Nat->Code->Code
 |0,c=>c
 |n+1,.seq _ b=>bI n b
 |_,c=>c
def sU:Code->Code
 | .block _ c=>c
 |c=>c
def dJ:Code->Code
 | .block _ (.loop c)=>c
 |c=>c
theorem Nu(n:Int)(h0:0<=n)(h1:n<9223372036854775808):IntKind.i64.wrap n=n:=by
 simp[IntKind.wrap,IntKind.bits,IntKind.signed];omega
structure FS(H:Ph)(bb bo N:Nat)(pa:Nat->Option Addr)(pl pc:Nat->Nat)(cR cD:Nat)(w:World):Prop where
 live:WgLive H.ty H.Wg w
 cell:∀z,z<N->w.cell? ⟨bb,bo+z,none⟩=some (.slice (pa z) (pl z) (pc z))
 chR:w.cell? ⟨cR,0,none⟩=some (.chan (some H.R))
 chD:w.cell? ⟨cD,0,none⟩=some (.chan (some H.Dn))
 ob:H.old bb
 oR:H.old cR
 oD:H.old cD
 lo:bb<w.heap.size/\cR<w.heap.size/\cD<w.heap.size/\H.Wg<w.heap.size
 b0:H.B0<=w.heap.size
 WL:∀b,H.old b->b<w.heap.size/\w.heap[b]? =H.row0 b
theorem FS.rely{H:Ph}{N:Nat}{pl pc:Nat->Nat}{mine:Nat->Prop}{af:World}(h:FS H bb bo N pa pl pc cR cD w)(r:mP H.ty H.Wg (nY H mine) w af):FS H bb bo N pa pl pc cR cD af:=
 ⟨r.live h.live,fun z hz=>(cell_of_block (r.row _ (.inl h.ob)) _).trans (h.cell z hz),(cell_of_block (r.row _ (.inl h.oR)) _).trans h.chR,(cell_of_block (r.row _ (.inl h.oD)) _).trans h.chD,h.ob,h.oR,h.oD,by have:=h.lo;have:=r.size;omega,Nat.le_trans h.b0 r.size,fun b hb=>⟨Nat.lt_of_lt_of_le (h.WL b hb).1 r.size,(r.row b (.inl hb)).trans (h.WL b hb).2⟩⟩
theorem FS.alloc{H:Ph}{N:Nat}{pl pc:Nat->Nat}(h:FS H bb bo N pa pl pc cR cD w)(o:Obj):FS H bb bo N pa pl pc cR cD (w.alloc o):=by
 have e0:(w.alloc o).heap=w.heap.push o:=rfl;have e1:∀b,b<w.heap.size->(w.alloc o).heap[b]? =w.heap[b]? :=fun b hb=>by rw[e0,Array.getElem?_push,if_neg (by omega)]
 obtain⟨l1,l2,l3,l4⟩:=h.lo;exact⟨let⟨st,sm,hl⟩:=h.live;⟨st,sm,(e1 _ l4).trans hl⟩,fun z hz=>(cell_of_block (e1 _ l1) _).trans (h.cell z hz),(cell_of_block (e1 _ l2) _).trans h.chR,(cell_of_block (e1 _ l3) _).trans h.chD,h.ob,h.oR,h.oD,by rw[e0];simp;omega,by have:=h.b0;rw[e0];simp;omega,fun b hb=>⟨by have:=(h.WL b hb).1;rw[e0];simp;omega,(e1 b (h.WL b hb).1).trans (h.WL b hb).2⟩⟩
theorem yx(w:World)(o:Obj):(w.alloc o).heap[w.heap.size]? =some o:=by
 have e0:(w.alloc o).heap=w.heap.push o:=rfl;rw[e0];simp
theorem qI{o x:Obj}(h:w.heap[b]? =some x):(w.alloc o).heap[b]? =some x:=by
 have e0:(w.alloc o).heap=w.heap.push o:=rfl;have hb:b<w.heap.size:=(Array.getElem?_eq_some_iff.1 h).1;rw[e0,Array.getElem?_push,if_neg (by omega)];exact h
theorem FS.set{H:Ph}{N:Nat}{pl pc:Nat->Nat}(h:FS H bb bo N pa pl pc cR cD w)(a:Addr)(v:Value)(hb:a.block≠bb)(hR:a.block≠cR)(hD:a.block≠cD)(hW:a.block≠H.Wg)(ho:¬H.old a.block):FS H bb bo N pa pl pc cR cD (w.setCell a v):=by
 have e1:∀b,a.block≠b->(w.setCell a v).heap[b]? =w.heap[b]? :=fun b hb=>by simp[World.setCell,Array.getElem?_modify,hb]
 exact⟨let⟨st,sm,hl⟩:=h.live;⟨st,sm,(e1 _ hW).trans hl⟩,fun z hz=>(cell_of_block (e1 _ hb) _).trans (h.cell z hz),(cell_of_block (e1 _ hR) _).trans h.chR,(cell_of_block (e1 _ hD) _).trans h.chD,h.ob,h.oR,h.oD,by simpa[World.setCell]using h.lo,by simpa[World.setCell]using h.b0,fun b hb=>⟨by simpa[World.setCell]using(h.WL b hb).1,(e1 b fun e=>ho (e▸hb)).trans (h.WL b hb).2⟩⟩
theorem NT(h:w.heap[b]? =some (.cells #[x] t)):(w.setCell ⟨b,0,none⟩ v).heap[b]? =some (.cells #[v] t):=by
 simp[World.setCell,Array.getElem?_modify,h]
theorem Dj{c:Nat}(hc:c≠b)(h:w.heap[b]? =some (.cells #[x] t)):(w.setCell ⟨c,0,none⟩ v).heap[b]? =some (.cells #[x] t):=by
 simp[World.setCell,Array.getElem?_modify,h,hc]
theorem Il(h:w.heap[b]? =some (.cells #[x] t)):w.cell? ⟨b,0,none⟩=some x/\w.frozen? ⟨b,0,none⟩=false:=by
 simp[World.cell?,World.frozen?,h]
theorem adds'{Wg:Nat}{b₀:Frame}{a₀:Act}{ops₀:Array Oper}{i₀:Nat}{rest₀:List Nat}{k₀:List Item}{cs:List Frame}(w:World)(hF:WgLive link.tWg Wg w){args:Array Operand}(ha:args.map a₀.eval=#[.pointer (some ⟨Wg,0,none⟩),.int .i64 1]):
  Adds prog link.tWg Wg (fun g _=>g=G (b₀.at (a₀.put ((ops₀[i₀]?).bind (·.dst)) (.tuple #[])) (.inRegion ops₀ rest₀::k₀)) cs)
   (G ((base link.add).at {tmps:=args.map a₀.eval++Array.replicate ((addFn link).ntmps-(args.map a₀.eval).size) undef,defers:= []} [.code (body_add link)]) (b₀.at a₀ (.inRegion ops₀ (i₀::rest₀)::k₀)::cs)) w:=by
 have hA:=adds (P:=prog) (L:=link) (b₀:=b₀) (a₀:=a₀) (ops₀:=ops₀) (i₀:=i₀) (rest₀:=rest₀) (k₀:=k₀) (cs:=cs) qW w hF;rw[enter_at _ qW.f_add rfl]at hA;rw[ha];exact hA
structure FZ(H:Ph)(bb cR cD cz cp z:Nat)(pz:Value)(w:World):Prop where
 z:w.heap[cz]? =some (.cells #[.int .i64 z] 3)
 p:w.heap[cp]? =some (.cells #[pz] 25)
 zp:cz≠cp
 zn:cz≠bb/\cz≠cR/\cz≠cD/\cz≠H.Wg
 pn:cp≠bb/\cp≠cR/\cp≠cD/\cp≠H.Wg
 zo:¬H.old cz/\H.B0<=cz
 po:¬H.old cp/\H.B0<=cp
theorem PX{H:Ph}(hP:H.P=prog)(nj:H.ty=link.tWg){Next:(Nat->Prop)->Goroutine->World->Prop}{mine:Nat->Prop}{cs:List Frame}{N cap z:Nat}{pl pc:Nat->Nat}(hz:z<N){v0 j1 j2 j4 j5 j9 c7 b3 b9 c1 b7 c8 d5 c6 c9 d6 c5 c4 c3 b6 a8 c0 a7 a9 b8 b2 b4 b5 b1 a6:Value}(vn:v0= .slice (some ⟨bb,bo,none⟩) N cap)
  (vh:∀(cz cp:Nat) (w:World),FS H bb bo N pa pl pc cR cD w->FZ H bb cR cD cz cp z (.slice (pa z) (pl z) (pc z)) w->Next (fun b=>(mine b\/b=cz)\/b=cp) (G ((base 46).at ⟨#[v0,j1,j2,.pointer (some cS),j4,j5,.pointer (some ⟨cR,0,none⟩),.pointer (some ⟨cD,0,none⟩),.pointer (some ⟨H.Wg,0,none⟩),.pointer (some ⟨cz,0,none⟩),.pointer (some ⟨cp,0,none⟩),b3,b9,c1,b7,v0,.int .i64 N,.int .i64 z,.bool true,.int .i64 z,.pointer (some ⟨bb,bo+z,none⟩),.slice (pa z) (pl z) (pc z),.tuple #[],c5,c4,c3,b6,a8,c0,a7,a9,b8,b2,b4,b5,b1,a6],[]⟩ [.inRegion (aX (aI 1 (sU (aI 2 (dJ (aI 1 (aI 4 (f46.body.getD .skip)))))))) [],.code (bI 2 (sU (aI 2 (dJ (aI 1 (aI 4 (f46.body.getD .skip))))))),.inBlock 1,.code (bI 3 (dJ (aI 1 (aI 4 (f46.body.getD .skip))))),.inLoop (dJ (aI 1 (aI 4 (f46.body.getD .skip)))),.inBlock 0,.code (bI 5 (f46.body.getD .skip))]) cs) w){w:World}(hF:FS H bb bo N pa pl pc cR cD w):
  ∃n,aO H (AtCall H Next) n mine (G ((base 46).at ⟨#[v0,j1,j2,.pointer (some cS),j4,j5,.pointer (some ⟨cR,0,none⟩),.pointer (some ⟨cD,0,none⟩),.pointer (some ⟨H.Wg,0,none⟩),j9,c7,b3,b9,c1,b7,v0,.int .i64 N,.int .i64 z,c8,d5,c6,c9,d6,c5,c4,c3,b6,a8,c0,a7,a9,b8,b2,b4,b5,b1,a6],[]⟩ [.code (dJ (aI 1 (aI 4 (f46.body.getD .skip)))),.inLoop (dJ (aI 1 (aI 4 (f46.body.getD .skip)))),.inBlock 0,.code (bI 5 (f46.body.getD .skip))]) cs) w:=by
 refine⟨40,?_⟩;subst vn;simp only[f46,Option.getD_some,aI,bI,dJ,sU,aX]at vh⊢;have hzi:(z:Int)<(N:Int):=by omega
 refine aO.ctl hP rfl (fun _=>stepG_seq) ?_;refine aO.reg hP (todo:= [0]) rfl ?_;refine aO.op hP rfl rfl (by decide) (fun w aa=>⟨mine,fun K hK=>?_⟩);replace hF:=FS.rely hF aa;clear aa;go_simp;refine hK _ _ ⟨.nothing (listed_nil (by simp[go_sem])),?_⟩;clear hK;try walk_nrm
 refine aO.ctl hP rfl (fun _=>stepG_region_end) ?_;refine aO.ctl hP rfl (fun _=>stepG_seq) ?_;refine aO.yes hP (by first|rfl|simp[Act.eval]) ?_;refine aO.ctl hP rfl (fun _=>stepG_skip) ?_;refine aO.ctl hP rfl (fun _=>stepG_seq) ?_;refine aO.ctl hP rfl (fun _=>stepG_block) ?_;refine aO.ctl hP rfl (fun _=>stepG_seq) ?_;refine aO.reg hP (todo:= [0,1,2,3,4,5,6]) rfl ?_;refine aO.op hP rfl rfl (by decide) (fun w aa=>⟨mine,fun K hK=>?_⟩);replace hF:=FS.rely hF aa;clear aa;go_simp;refine hK _ _ ⟨.nothing (listed_nil (by simp[go_sem])),?_⟩;clear hK;try walk_nrm
 refine aO.op hP rfl rfl (by decide) (fun w aa=>⟨mine,fun K hK=>?_⟩);replace hF:=FS.rely hF aa;clear aa;go_simp;refine hK _ _ ⟨.nothing (listed_nil (by simp[go_sem,hzi])),?_⟩;clear hK;try walk_nrm
 refine aO.op hP rfl rfl (by decide) (fun w aa=>⟨mine,fun K hK=>?_⟩);replace hF:=FS.rely hF aa;clear aa;have hc:=hF.cell z hz;go_simp;refine hK _ _ ⟨.reads (c:=bb) (i:=bo+z) (fun e he=>by have hm:=mem_listed he;simp[go_sem,hc]at hm;exact hm) (.inl hF.ob),?_⟩;clear hK;try walk_nrm
 refine aO.op hP rfl rfl (by decide) (fun w aa=>⟨fun b=>mine b\/b=w.heap.size,fun K hK=>?_⟩);replace hF:=FS.rely hF aa;clear aa;go_simp;refine hK _ _ ⟨.makes (fun e he=>by have hm:=mem_listed he;simp[go_sem]at hm),?_⟩;clear hK;have hl:=hF.lo;have oE:=hF.WL;have oY:=hF.b0;have hZ:=yx w (.cells #[.int .i64 0] 3);replace hF:=FS.alloc hF (.cells #[.int .i64 0] 3);generalize w.alloc (.cells #[.int .i64 0] 3)=w0 at hF hZ⊢;obtain⟨cz,eR⟩:∃cz,cz=w.heap.size:=⟨_,rfl⟩;rw[<-eR]at hZ⊢;have AF:cz≠bb/\cz≠cR/\cz≠cD/\cz≠H.Wg:=by omega
 have hzo:¬H.old cz/\H.B0<=cz:=⟨fun h=>by have:=(oE cz h).1;omega,by omega⟩;clear hl eR oE oY;try walk_nrm
 refine aO.op hP rfl rfl (by decide) (fun w aa=>⟨fun b=>(mine b\/b=cz)\/b=w.heap.size,fun K hK=>?_⟩);replace hF:=FS.rely hF aa;replace hZ:=(aa.row cz (.inr (.inr rfl))).trans hZ;clear aa;go_simp;refine hK _ _ ⟨.makes (fun e he=>by have hm:=mem_listed he;simp[go_sem]at hm),?_⟩;clear hK;have hl:=hF.lo;have oE:=hF.WL;have oY:=hF.b0;have hlz:cz<w.heap.size:=(Array.getElem?_eq_some_iff.1 hZ).1;have hQ:=yx w (.cells #[.slice none 0 0] 25);replace hZ:=qI (o:=.cells #[.slice none 0 0] 25) hZ;replace hF:=FS.alloc hF (.cells #[.slice none 0 0] 25);generalize w.alloc (.cells #[.slice none 0 0] 25)=w0 at hF hZ hQ⊢;obtain⟨cp,la⟩:∃cp,cp=w.heap.size:=⟨_,rfl⟩;rw[<-la]at hQ⊢;have mz:cp≠bb/\cp≠cR/\cp≠cD/\cp≠H.Wg:=by omega
 have AE:cz≠cp:=by omega
 have hpo:¬H.old cp/\H.B0<=cp:=⟨fun h=>by have:=(oE cp h).1;omega,by omega⟩;clear hl hlz la oE oY;try walk_nrm
 refine aO.op hP rfl rfl (by decide) (fun w aa=>⟨fun b=>(mine b\/b=cz)\/b=cp,fun K hK=>?_⟩);replace hF:=FS.rely hF aa;replace hZ:=(aa.row cz (.inr (.inl (.inr rfl)))).trans hZ;replace hQ:=(aa.row cp (.inr (.inr rfl))).trans hQ;clear aa;obtain⟨dr,ef⟩:=Il hZ;go_simp;try (unfold stored;go_simp)
 refine hK _ _ ⟨.writes (c:=cz) (i:=0) (fun e he=>by have hm:=mem_listed he;simp[go_sem,dr,ef]at hm;exact hm) (.inl (.inr rfl)),?_⟩;clear hK dr ef;replace hF:=FS.set hF ⟨cz,0,none⟩ (.int .i64 z) AF.1 AF.2.1 AF.2.2.1 AF.2.2.2 hzo.1;replace hQ:=Dj (v:=.int .i64 z) AE hQ;replace hZ:=NT (v:=.int .i64 z) hZ;generalize w.setCell ⟨cz,0,none⟩ (.int .i64 z)=w0 at hF hZ hQ⊢;try walk_nrm
 refine aO.op hP rfl rfl (by decide) (fun w aa=>⟨fun b=>(mine b\/b=cz)\/b=cp,fun K hK=>?_⟩);replace hF:=FS.rely hF aa;replace hZ:=(aa.row cz (.inr (.inl (.inr rfl)))).trans hZ;replace hQ:=(aa.row cp (.inr (.inr rfl))).trans hQ;clear aa;obtain⟨dr,ef⟩:=Il hQ;go_simp;try (unfold stored;go_simp)
 refine hK _ _ ⟨.writes (c:=cp) (i:=0) (fun e he=>by have hm:=mem_listed he;simp[go_sem,dr,ef]at hm;exact hm) (.inr rfl),?_⟩;clear hK dr ef;replace hF:=FS.set hF ⟨cp,0,none⟩ (.slice (pa z) (pl z) (pc z)) mz.1 mz.2.1 mz.2.2.1 mz.2.2.2 hpo.1;replace hZ:=Dj (v:=.slice (pa z) (pl z) (pc z)) (Ne.symm AE) hZ;replace hQ:=NT (v:=.slice (pa z) (pl z) (pc z)) hQ;generalize w.setCell ⟨cp,0,none⟩ (.slice (pa z) (pl z) (pc z))=w0 at hF hZ hQ⊢;try walk_nrm
 refine aO.ctl hP rfl (fun _=>stepG_region_end) ?_;refine aO.ctl hP rfl (fun _=>stepG_seq) ?_;refine aO.reg hP (todo:= [0]) rfl ?_;refine aO.call hP rfl rfl (by decide) rfl qW.f_add (nm_add link) rfl ?_;refine aO.stop (fun w aa=>?_);replace hF:=FS.rely hF aa;replace hZ:=(aa.row cz (.inr (.inl (.inr rfl)))).trans hZ;replace hQ:=(aa.row cp (.inr (.inr rfl))).trans hQ;clear aa;refine⟨_,by rw[hP,nj];exact adds' w (nj▸hF.live) (by simp[Act.eval]),fun w aa=>?_⟩;replace hF:=FS.rely hF aa;replace hZ:=(aa.row cz (.inr (.inl (.inr rfl)))).trans hZ;replace hQ:=(aa.row cp (.inr (.inr rfl))).trans hQ;clear aa;try walk_nrm
 exact vh cz cp w hF ⟨hZ,hQ,AE,AF,mz,hzo,hpo⟩
theorem NP[Payload]{H:Ph}{r k:Nat}{mine:Nat->Prop}{g1 g2:Goroutine}(h:∀Stop n,aO H Stop n mine g2 w->aO H Stop (n+k) mine g1 w)(hs:Wh H r mine g2 w):Wh H r mine g1 w:=by
 cases r with
 |zero=>obtain⟨n,hn⟩:=hs;exact⟨n+k,h _ _ hn⟩
 |succ r=>obtain⟨n,hn⟩:=hs;exact⟨n+k,h _ _ hn⟩
def Born[Payload](H:Ph)(cR cD:Nat)(cS:Addr)(z cz cp:Nat)(w:World):Prop:=
 ∃d:WX,d.ws=22/\d.df=0/\d.gu=false/\WS H z d (born H.P (CS #[⟨H.Wg,0,none⟩,⟨cp,0,none⟩,cS,⟨cD,0,none⟩,⟨cR,0,none⟩,⟨cz,0,none⟩])) w/\(∀c,¬d.ow c)/\(∀c,d.vs c->H.old c\/c=cz\/c=cp)/\d.vs d.C/\d.C=cz
theorem starts[Payload]{H:Ph}(hP:H.P=prog)(nj:H.ty=link.tWg){cs:List Frame}{cap:Nat}{pl pc:Nat->Nat}(hN:H.N<2147483648){v0:Value}(vn:v0= .slice (some ⟨bb,bo,none⟩) H.N cap)
  (rp:∀(z cz cp:Nat) (w:World),z<H.N->FS H bb bo H.N pa pl pc cR cD w->FZ H bb cR cD cz cp z (.slice (pa z) (pl z) (pc z)) w->Born H cR cD cS z cz cp w)
  (yW:∀(j1 j2 j4 j5 j9 c7 b3 b9 c1 b7 c8 d5 c6 c9 d6 c5 c4 c3 b6 a8 c0 a7 a9 b8 b2 b4 b5 b1 a6:Value) (w:World),FS H bb bo H.N pa pl pc cR cD w->∃n,aO H (fun m g w=>qC H H.N (fun _=>none) m g w\/AtClose H (fun _=>none) m g w) n (fun _=>False) (G ((base 46).at ⟨#[v0,j1,j2,.pointer (some cS),j4,j5,.pointer (some ⟨cR,0,none⟩),.pointer (some ⟨cD,0,none⟩),.pointer (some ⟨H.Wg,0,none⟩),j9,c7,b3,b9,c1,b7,v0,.int .i64 H.N,.int .i64 H.N,c8,d5,c6,c9,d6,c5,c4,c3,b6,a8,c0,a7,a9,b8,b2,b4,b5,b1,a6],[]⟩ [.code (dJ (aI 1 (aI 4 (f46.body.getD .skip)))),.inLoop (dJ (aI 1 (aI 4 (f46.body.getD .skip)))),.inBlock 0,.code (bI 5 (f46.body.getD .skip))]) cs) w):
  ∀(r z:Nat),z+r=H.N->∀(j1 j2 j4 j5 j9 c7 b3 b9 c1 b7 c8 d5 c6 c9 d6 c5 c4 c3 b6 a8 c0 a7 a9 b8 b2 b4 b5 b1 a6:Value) (w:World),FS H bb bo H.N pa pl pc cR cD w->Wh H r (fun _=>False) (G ((base 46).at ⟨#[v0,j1,j2,.pointer (some cS),j4,j5,.pointer (some ⟨cR,0,none⟩),.pointer (some ⟨cD,0,none⟩),.pointer (some ⟨H.Wg,0,none⟩),j9,c7,b3,b9,c1,b7,v0,.int .i64 H.N,.int .i64 z,c8,d5,c6,c9,d6,c5,c4,c3,b6,a8,c0,a7,a9,b8,b2,b4,b5,b1,a6],[]⟩ [.code (dJ (aI 1 (aI 4 (f46.body.getD .skip)))),.inLoop (dJ (aI 1 (aI 4 (f46.body.getD .skip)))),.inBlock 0,.code (bI 5 (f46.body.getD .skip))]) cs) w:=by
 subst vn;intro r;induction r with
 |zero=>
  intro z hz j1 j2 j4 j5 j9 c7 b3 b9 c1 b7 c8 d5 c6 c9 d6 c5 c4 c3 b6 a8 c0 a7 a9 b8 b2 b4 b5 b1 a6 w hF;obtain rfl:z=H.N:=by omega
  exact yW j1 j2 j4 j5 j9 c7 b3 b9 c1 b7 c8 d5 c6 c9 d6 c5 c4 c3 b6 a8 c0 a7 a9 b8 b2 b4 b5 b1 a6 w hF
 |succ r ih=>
  intro z hz j1 j2 j4 j5 j9 c7 b3 b9 c1 b7 c8 d5 c6 c9 d6 c5 c4 c3 b6 a8 c0 a7 a9 b8 b2 b4 b5 b1 a6 w hF;have WG:z<H.N:=by omega
  refine PX hP nj WG rfl (fun cz cp w hF hZ=>?_) hF;have hjz:H.N-(r+1)=z:=by omega
  rw[hjz];simp only[f46,Option.getD_some,aI,bI,dJ,sU,aX]at ih⊢;refine⟨5,?_⟩;refine aO.ctl hP rfl (fun _=>stepG_region_end) ?_;refine aO.reg hP (todo:= [0,1]) rfl ?_;refine aO.op hP rfl rfl (by decide) (fun w aa=>⟨fun b=>(False\/b=cz)\/b=cp,fun K hK=>?_⟩);replace hF:=FS.rely hF aa;replace hZ:FZ H bb cR cD cz cp z (.slice (pa z) (pl z) (pc z)) w:=⟨(aa.row cz (.inr (.inl (.inr rfl)))).trans hZ.z,(aa.row cp (.inr (.inr rfl))).trans hZ.p,hZ.zp,hZ.zn,hZ.pn,hZ.zo,hZ.po⟩;clear aa;go_simp;refine hK _ _ ⟨.nothing (listed_nil (by simp[go_sem])),?_⟩;clear hK;try walk_nrm
  refine aO.stop (fun w aa=>?_);replace hF:=FS.rely hF aa;replace hZ:FZ H bb cR cD cz cp z (.slice (pa z) (pl z) (pc z)) w:=⟨(aa.row cz (.inr (.inl (.inr rfl)))).trans hZ.z,(aa.row cp (.inr (.inr rfl))).trans hZ.p,hZ.zp,hZ.zn,hZ.pn,hZ.zo,hZ.po⟩;clear aa;obtain⟨d,h1,h2,h3,h4,h5,h6,h7,h8⟩:=rp z cz cp w WG hF hZ;rw[hP]at h4;refine⟨rfl,(G ((base 46).at ⟨#[.slice (some ⟨bb,bo,none⟩) H.N cap,j1,j2,.pointer (some cS),j4,j5,.pointer (some ⟨cR,0,none⟩),.pointer (some ⟨cD,0,none⟩),.pointer (some ⟨H.Wg,0,none⟩),.pointer (some ⟨cz,0,none⟩),.pointer (some ⟨cp,0,none⟩),b3,b9,c1,b7,.slice (some ⟨bb,bo,none⟩) H.N cap,.int .i64 H.N,.int .i64 z,.bool true,.int .i64 z,.pointer (some ⟨bb,bo+z,none⟩),.slice (pa z) (pl z) (pc z),.tuple #[],.func (.func 89) #[] #[.pointer (some ⟨H.Wg,0,none⟩),.pointer (some ⟨cp,0,none⟩),.pointer (some cS),.pointer (some ⟨cD,0,none⟩),.pointer (some ⟨cR,0,none⟩),.pointer (some ⟨cz,0,none⟩)],c4,c3,b6,a8,c0,a7,a9,b8,b2,b4,b5,b1,a6],[]⟩ [.inRegion (aX (bI 2 (sU (aI 2 (dJ (aI 1 (aI 4 (f46.body.getD .skip)))))))) [],.inBlock 1,.code (bI 3 (dJ (aI 1 (aI 4 (f46.body.getD .skip))))),.inLoop (dJ (aI 1 (aI 4 (f46.body.getD .skip)))),.inBlock 0,.code (bI 5 (f46.body.getD .skip))]) cs),born prog (CS #[⟨H.Wg,0,none⟩,⟨cp,0,none⟩,cS,⟨cD,0,none⟩,⟨cR,0,none⟩,⟨cz,0,none⟩]),d,fun _=>False,?_,h1,h2,h3,h4,h5,fun c hc=>(h6 c hc).imp id fun h=>h.elim (fun h=>.inl (.inr h)) .inr,fun _ _ h=>h,h7,by rw[h8];exact .inl (.inr rfl),fun _ h=>h.elim,?_⟩
  .rw[hP];refine Eq.trans (stepG_spawn (d:=CS #[⟨H.Wg,0,none⟩,⟨cp,0,none⟩,cS,⟨cD,0,none⟩,⟨cR,0,none⟩,⟨cz,0,none⟩]) (w':=w) rfl rfl (by decide) (by simp[go_sem,CS]) rfl) ?_;rw[listed_nil (by simp[go_sem])];rfl
  .have dm:IntKind.i64.wrap ((z:Int)+1)=(z:Int)+1:=Nu _ (by omega) (by omega);refine NP (k:=7) (fun Stop n hh=>?_) (ih (z+1) (by omega) (j1) (j2) (j4) (j5) (.pointer (some ⟨cz,0,none⟩)) (.pointer (some ⟨cp,0,none⟩)) (b3) (b9) (c1) (b7) (.bool true) (.int .i64 z) (.pointer (some ⟨bb,bo+z,none⟩)) (.slice (pa z) (pl z) (pc z)) (.tuple #[]) (.func (.func 89) #[] #[.pointer (some ⟨H.Wg,0,none⟩),.pointer (some ⟨cp,0,none⟩),.pointer (some cS),.pointer (some ⟨cD,0,none⟩),.pointer (some ⟨cR,0,none⟩),.pointer (some ⟨cz,0,none⟩)]) (.int .i64 ((z:Int)+1)) (c3) (b6) (a8) (c0) (a7) (a9) (b8) (b2) (b4) (b5) (b1) (a6) w hF);refine aO.ctl hP rfl (fun _=>stepG_region_end) ?_;refine aO.ctl hP rfl (fun _=>stepG_inBlock) ?_;refine aO.reg hP (todo:= [0,1]) rfl ?_;refine aO.op hP rfl rfl (by decide) (fun w aa=>⟨fun _=>False,fun K hK=>?_⟩);replace hh:=aO.rely hh aa;clear aa;go_simp;refine hK _ _ ⟨.nothing (listed_nil (by simp[go_sem])),?_⟩;clear hK;try walk_nrm
   refine aO.op hP rfl rfl (by decide) (fun w aa=>⟨fun _=>False,fun K hK=>?_⟩);replace hh:=aO.rely hh aa;clear aa;go_simp;refine hK _ _ ⟨.nothing (listed_nil (by simp[go_sem])),?_⟩;clear hK;try walk_nrm
   refine aO.ctl hP rfl (fun _=>stepG_region_end) ?_;refine aO.ctl hP rfl (fun _=>stepG_inLoop) ?_;exact hh
end
