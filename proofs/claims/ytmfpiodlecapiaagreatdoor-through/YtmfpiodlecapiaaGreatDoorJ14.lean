import Derived.Test.YtmfpiodlecapiaaGreatDoorJ13
import Derived.Conc.AppendWalk
set_option maxHeartbeats 4000000
set_option maxRecDepth 100000
namespace Go.Proofs.YtmfpiodlecapiaaGreatDoor
open Go.Proofs.Tryz
section
open Go.Conc Go.ConcN Go.RowKit Go.Conc.Lib Go.ConcR.Gen Go.ConcN.Gen Go.kg Go.bn Go.Ren
open Go.ConcR (KK wgBlock WgAt stA smA rd wr mk Payload Aside2 DC0)
def mE(R Dn:Nat)(ops:Array Oper)(tl:Code)(vY:Nat->World->Option Addr->Nat->Nat->Bool->Prop)(z:Nat)(s:nA Nat):Prop:=
 s.fs= []/\∃T:Array Value,s.f=⟨Nw,T,[.inRegion ops [0,1,2,3],.code tl],false⟩/\T.size=25/\T[15]? =some (.chan (some R))/\T[20]? =some (.chan (some Dn))/\
  ∃da dl dc wh,T[19]? =some (.agg #[.int .i64 z,.slice da dl dc,.bool wh])/\(s.m=0->vY z s.w da dl dc wh)
theorem Tf{P:Program}{main:Bool}(fr:Frame)(cs:List Frame)(off:Option (Array CommCase×CommShape))(w:World):stepG P main {G fr cs with status:=.running,offers:=off} w=stepG P main (G fr cs) w:=by
 unfold stepG;rfl
theorem all3{ρ:Array Nat}{z:Nat}{da:Option Addr}{dl dc:Nat}{wh:Bool}{v:Value}(h:CR ρ 1 (.agg #[.int .i64 z,.slice da dl dc,.bool wh]) v):∃JY,v= .agg #[.int .i64 z,.slice JY dl dc,.bool wh]/\SV ρ (.slice da dl dc) (.slice JY dl dc):=by
 obtain⟨c,c',⟨e,e'⟩|⟨e,_⟩,hc⟩:=h
 .simp only[Value.agg.injEq]at e;subst e e';obtain⟨x0,h0,s0⟩:=hc.get (i:=0) rfl;obtain⟨x1,h1,s1⟩:=hc.get (i:=1) rfl;obtain⟨x2,h2,s2⟩:=hc.get (i:=2) rfl;have hs:c'.size=3:=hc.1.symm;have ec:c'=#[x0,x1,x2]:=by
   apply Array.ext_getElem?;intro i;match i with
   |0=>rw[h0];rfl
   |1=>rw[h1];rfl
   |2=>rw[h2];rfl
   |i+3=>rw[Array.getElem?_eq_none (by omega)];simp
  cases s0;cases s2;cases s1 with
  |Gg=>exact⟨none,by rw[ec],.Gg _ _⟩
  |sl _ _ ha=>exact⟨_,by rw[ec],.sl _ _ ha⟩
 .cases e
theorem cres2(R Dn:Nat)(v z0 z1:Value)(k:Int)(b:Value)(ok:Bool):∃x,commResult (two R Dn v z0 z1) .select k b ok= .tuple #[.int .i64 k,.bool ok,x]:=by
 by_cases h:(1:Int)=k
 .exact⟨b,by simp[commResult,two,scase,rcase,goInt,h]⟩
 .exact⟨z1,by simp[commResult,two,scase,rcase,goInt,h]⟩
theorem Xn[Payload]{H:Ph}(hP:H.P=prog)(nj:H.ty=link.tWg)(hK:H.K=jX)(UI:H.Cx=Gu prog.funcs.size [] ⟨H.Wg,0,none⟩)(hB:H.Dn<H.B0/\H.R<H.B0){vY:Nat->World->Option Addr->Nat->Nat->Bool->Prop}(Ve:∀i v,Wi i v->H.RZ i v)
  {z:Nat}{d:WX}{ρ:Array Nat}{p w:World}{f f':Fr}{fs fs':List Fr}(h:n_ H.P H.X H.A H.K ρ p f fs f' fs' w)(hx:Ext (Array.range H.B0) ρ)
  (hs:mE H.R H.Dn (aX (lQ f89)) (jV f89) vY z ⟨if d.gu then 1 else 0,f,fs,p⟩)
  (hRes:∀da dl dc wh JY,vY z p da dl dc wh->SV ρ (.slice da dl dc) (.slice JY dl dc)->YD d (H.YC z (.agg #[.int .i64 z,.slice JY dl dc,.bool wh])) w):
  ∃v z0 z1 bj off,gZ H.Cx f' fs'= {bj with status:=.running,offers:=off}/\Bd H d v z0 z1 bj/\WU H z d v w:=by
 obtain⟨rfl,T,rfl,hT25,hT15,hT20,da,dl,dc,wh,hT19,hR⟩:=hs;have E':fs'= []:=(h.st.XP).1 rfl;subst E';have hh:=h.st.head;have eF:f'.todo= [.inRegion (aX (lQ f89)) [0,1,2,3],.code (jV f89)]:=hh.todo;have il:f'.ret=false:=hh.ret;have cH:f'.fn=Nw:=hh.fn;have xj:=Ag (t:=15) h hx hB.2 (by rw[hK];rfl) hT15;have Pa:=Ag (t:=20) h hx hB.1 (by rw[hK];rfl) hT20;have cC:f'.tmps.size=25:=by rw[<-hh.tmps.1];exact hT25
 have e19:f'.tmps[19]? =some (f'.tmps[19]'(by omega)):=Array.getElem?_eq_getElem _;have zc:=hh.tmps.2 19 _ _ hT19 e19;rw[hK]at zc;obtain⟨JY,ev,hsl⟩:=all3 (ρ:=ρ) (zc:CR ρ 1 _ _);rw[ev]at e19;clear zc ev;let v:Value:=.agg #[.int .i64 z,.slice JY dl dc,.bool wh]
 have U7:gZ H.Cx f' []=G (Gv.at ⟨f'.tmps,[dcall link.done #[.pointer (some ⟨H.Wg,0,none⟩)]]⟩ [.inRegion (aX (lQ f89)) [0,1,2,3],.code (jV f89)]) [bot prog.funcs.size]:=by
  rw[UI];simp[gZ,Fr.base,Gu,Fr.mode,il,eF,cH,Frame.at,baseD]
 refine⟨v,.agg #[.int .i64 0,.slice none 0 0,.bool false],.agg #[],gZ H.Cx f' [],none,?_,⟨fun w off=>?_,fun k b ok w hk hl hc=>?_⟩,fun hg=>⟨Ve _ _ ⟨_,_,_,_,rfl⟩,hRes da dl dc wh JY (hR (by simp[hg])) hsl⟩⟩
 .rw[U7];rfl
 .rw[U7,hP,Tf];refine Eq.trans (stepG_comm (cases:=two H.R H.Dn v (.agg #[.int .i64 0,.slice none 0 0,.bool false]) (.agg #[])) (blocking:=true) (shape:=.select) (w':=w) rfl rfl (by decide) ?_) ?_
  .simp only[aX,lQ,Yr,vF,f89,Option.getD_some];have g15:f'.tmps[15]?.getD undef= .chan (some H.R):=by rw[xj];rfl
   have g20:f'.tmps[20]?.getD undef= .chan (some H.Dn):=by rw[Pa];rfl
   have g19:f'.tmps[19]?.getD undef=v:=by rw[e19];rfl
   simp[go_sem,two,scase,rcase,g15,g19,g20]
  .rw[listed_nil (by simp[go_sem,aX,lQ,Yr,vF,f89])]
 .obtain⟨x,ir⟩:=cres2 H.R H.Dn v (.agg #[.int .i64 0,.slice none 0 0,.bool false]) (.agg #[]) k b ok;have cY:(gZ H.Cx f' []).finishComm H.P (two H.R H.Dn v (.agg #[.int .i64 0,.slice none 0 0,.bool false]) (.agg #[])) .select k b ok=G (Gv.at ⟨f'.tmps.setIfInBounds 21 (.tuple #[.int .i64 k,.bool ok,x]),[dcall link.done #[.pointer (some ⟨H.Wg,0,none⟩)]]⟩ [.inRegion (aX (lQ f89)) [1,2,3],.code (jV f89)]) [bot prog.funcs.size]:=by
   rw[U7,Goroutine.finishComm,ir];simp only[G,Frame.finish_at];rfl
  rw[cY,hP,nj];rw[nj]at hl;exact w_end (k:=1) (n:=1) (Low:=0) (by simp[cC]) hk (by rw[Array.getElem?_setIfInBounds_self_of_lt (by omega)]) w ⟨hl,hc⟩
end
section
open Go.Conc Go.ConcN Go.RowKit Go.Conc.Lib Go.ConcR.Gen Go.ConcN.Gen Go.kg
open Go.ConcR (KK wgBlock WgAt stA smA rd wr mk Payload Aside2 DC0)
variable{Wg:Nat}{g Y:Goroutine}{w:World}
def xL(Wg:Nat)(Y g:Goroutine)(w:World):Prop:=
 ∃(b₀:Frame) (a₀:Act) (ops₀:Array Oper) (i₀:Nat) (rest₀:List Nat) (k₀:List Item) (cs:List Frame),Y=G (b₀.at (a₀.put ((ops₀[i₀]?).bind (·.dst)) (.tuple #[])) (.inRegion ops₀ rest₀::k₀)) cs/\OJ link Wg (b₀.at a₀ (.inRegion ops₀ (i₀::rest₀)::k₀)) cs g w
theorem kP{P:Program}{ty:TypeId}{S S':Goroutine->World->Prop}(hs:∀g w,S g w->S' g w)(h:Walks P ty Wg S g w):Walks P ty Wg S' g w:=by
 have key:∀(m:Nat) (g:Goroutine) (w:World),Goes P true (RS ty Wg) DC0 S m g w->Goes P true (RS ty Wg) DC0 S' m g w:=by
  intro m;induction m with
  |zero=>exact fun g w h af aa=>hs _ _ (h af aa)
  |succ m ih=>
   intro g w h;refine h.imp (fun x af aa=>hs _ _ (x af aa)) (fun x=>⟨x.1,fun af aa=>?_⟩);have:=x.2 af aa;revert this;cases stepG P true g af with
   |go g' w' es=>exact fun y=>⟨y.1,ih _ _ y.2⟩
   |_=>exact id
 obtain⟨m,h⟩:=h;exact⟨m,key m g w h⟩
theorem CJ(h:xL Wg Y g w):g.status= .running:=by
 obtain⟨_,_,_,_,_,_,_,_,T,rfl,_⟩:=h;rfl
theorem JO(h:xL Wg Y g w):Walks prog link.tWg Wg (Round prog link.tWg Wg (xL Wg Y) (isK Y)) g w:=by
 obtain⟨b₀,a₀,ops₀,i₀,rest₀,k₀,cs,rfl,h⟩:=h;refine kP (fun g w h=>?_) (waitRound qW g w h);obtain⟨h1,h2⟩:=h;refine⟨h1,fun v hv hw=>?_⟩;obtain⟨g',e,hz,hm⟩:=h2 v hv hw;refine⟨g',e,hz,fun vn=>kP (fun g w h=>?_) (hm vn)⟩;obtain⟨k1,k2⟩:=h;refine⟨k1,fun v hv hw=>?_⟩;obtain⟨a1,a2⟩:=k2 v hv hw;refine⟨a1,fun bd=>?_⟩;obtain⟨g',e,hg⟩:=a2 bd;exact⟨g',e,kP (fun g w h=>⟨b₀,a₀,ops₀,i₀,rest₀,k₀,cs,rfl,h⟩) hg⟩
theorem wait'{b₀:Frame}{a₀:Act}{ops₀:Array Oper}{i₀:Nat}{rest₀:List Nat}{k₀:List Item}{cs:List Frame}(w:World)(hF:WgLive link.tWg Wg w){args:Array Operand}(ha:args.map a₀.eval=#[.pointer (some ⟨Wg,0,none⟩)]):
  Walks prog link.tWg Wg (ko prog link.tWg Wg .disable (xL Wg (G (b₀.at (a₀.put ((ops₀[i₀]?).bind (·.dst)) (.tuple #[])) (.inRegion ops₀ rest₀::k₀)) cs)))
   (G ((base link.wait).at {tmps:=args.map a₀.eval++Array.replicate ((waitFn link).ntmps-(args.map a₀.eval).size) undef,defers:= []} [.code (body_wait link)]) (b₀.at a₀ (.inRegion ops₀ (i₀::rest₀)::k₀)::cs)) w:=by
 have hA:=waitStart (P:=prog) (L:=link) (b₀:=b₀) (a₀:=a₀) (ops₀:=ops₀) (i₀:=i₀) (rest₀:=rest₀) (k₀:=k₀) (cs:=cs) qW w hF;rw[enter_at _ qW.f_wait rfl]at hA;rw[ha];refine kP (fun g w h=>?_) hA;obtain⟨h1,g',e,h2⟩:=h;exact⟨h1,g',e,kP (fun g w h=>⟨b₀,a₀,ops₀,i₀,rest₀,k₀,cs,rfl,h⟩) h2⟩
def YE(N:Nat)(items:List Item)(cs:List Frame)(ok:Bool)(got:Nat->Option Value)(mine:Nat->Prop)(Y:Goroutine)(w:World):Prop:=
 ∃T:Array Value,T.size=37/\Y=G ((base 46).at ⟨T,[]⟩ items) cs/\T[12]? =some (.bool ok)/\(ok=false->T[11]? =some (.slice none 0 0)/\∃i da dl dc,i<N/\got i=some (.agg #[.int .i64 i,.slice da dl dc,.bool false]))/\
  (ok=true->∃cP,T[11]? =some (.slice (some ⟨cP,0,none⟩) N N)/\mine cP/\∃parts:Array Value,w.heap[cP]? =some (.cells parts 28)/\parts.size=N/\∀i v,got i=some v->∃da dl dc,v= .agg #[.int .i64 i,.slice da dl dc,.bool true]/\parts[i]? =some (.slice da dl dc))
theorem Tryz.infoBytes:(prog.info? 28).map (fun i=>(i.zero,i.size,i.bytes))=some (some (.slice none 0 0),1,24):=by kernel_rfl
theorem Xa{H:Ph}(hP:H.P=prog)(nj:H.ty=link.tWg)(UX:H.Anch=xL H.Wg):∃n,∀(cs:List Frame) (bb bo cap cR cD:Nat) (cS:Addr) (j1 j2 j4 j5 j9 a6 a8 b9 c9 b7 c7 a5 c0 c8 a9 c2 d0 a3 b8 a7 b1 b2 a4 a0:Value) (ok:Bool) (pv:Value) (got:Nat->Option Value) (mine:Nat->Prop) (w:World),WgLive H.ty H.Wg w->
  (∀T:Array Value,T.size=37->T[11]? =some pv->T[12]? =some (.bool ok)->Cont H mine (H.Fin ok got mine (G ((base 46).at ⟨T,[]⟩ [.inRegion (aX (aI 6 (f46.body.getD .skip))) [],.code (bI 7 (f46.body.getD .skip))]) cs)) w)->
  aO H (og H ok got) n mine (G (((base 46).at ⟨#[.slice (some ⟨bb,bo,none⟩) H.N cap,j1,j2,.pointer (some cS),j4,j5,.pointer (some ⟨cR,0,none⟩),.pointer (some ⟨cD,0,none⟩),.pointer (some ⟨H.Wg,0,none⟩),j9,a6,a8,b9,c9,b7,.slice (some ⟨bb,bo,none⟩) H.N cap,.int .i64 H.N,.int .i64 H.N,.bool false,c7,a5,c0,c8,a9,c2,d0,.chan (some H.R),.chan (some H.Dn),.slice (some ⟨bb,bo,none⟩) H.N cap,.int .i64 H.N,a3,b8,a7,b1,b2,a4,a0],[]⟩ [.inRegion (aX (aI 5 (f46.body.getD .skip))) [4,5,6,7,8,9],.code (bI 6 (f46.body.getD .skip))]).finish (.tuple #[pv,.bool ok])) cs) w:=by
 refine⟨20,fun cs bb bo cap cR cD cS j1 j2 j4 j5 j9 a6 a8 b9 c9 b7 c7 a5 c0 c8 a9 c2 d0 a3 b8 a7 b1 b2 a4 a0 ok pv got mine w hl hk=>?_⟩;rw[Frame.finish_at];simp only[f46,Option.getD_some,aI,bI,aX]at hk⊢;walk_nrm
 iterate 5 (refine aO.op hP rfl rfl (by decide) (fun w aa=>⟨mine,fun K hK=>?_⟩);replace hl:=aa.live hl;have hk:=fun T h1 h2 h3=>(hk T h1 h2 h3).rely aa;clear aa;go_simp;refine hK _ _ ⟨.nothing (listed_nil (by simp[go_sem])),?_⟩;clear hK;try walk_nrm)
 refine aO.ctl hP rfl (fun _=>stepG_region_end) ?_;refine aO.ctl hP rfl (fun _=>stepG_seq) ?_;refine aO.reg hP (todo:= [0]) rfl ?_;refine aO.call hP rfl rfl (by decide) rfl qW.f_wait (nm_wait link) rfl ?_;refine aO.stop (fun w aa=>?_);replace hl:=aa.live hl;have hk:=fun T h1 h2 h3=>(hk T h1 h2 h3).rely aa;clear aa;refine⟨_,?_,by rw[hP,nj,UX];exact wait' w (nj▸hl) (by simp[Act.eval]),?_⟩
 .rfl
 .try walk_nrm
  exact hk _ rfl rfl rfl
theorem Rl[Payload]{H:Ph}(hP:H.P=prog)(nj:H.ty=link.tWg){cs:List Frame}{bb bo cap cR cD:Nat}{cS:Addr}{pa:Nat->Option Addr}{pl pc:Nat->Nat}(UX:H.Anch=xL H.Wg)(Vf:H.Fin=YE H.N [.inRegion (aX (aI 6 (f46.body.getD .skip))) [],.code (bI 7 (f46.body.getD .skip))] cs)
  (hN:H.N<2147483648)(hN0:0<H.N)(Ve:∀i v,H.RZ i v->Wi i v)(j1 j2 j4 j5 j9 a6 a8 b9 c9 b7 d9 c7 a5 c0 c8 a9 c2 d0 d8 d7 e0 d1 a3 b8 a7 b1 b2 a4 a0:Value)(w:World)(hF:FS H bb bo H.N pa pl pc cR cD w):∃n,aO H (fun m g w=>qC H H.N (fun _=>none) m g w\/AtClose H (fun _=>none) m g w) n (fun _=>False) (G ((base 46).at ⟨#[.slice (some ⟨bb,bo,none⟩) H.N cap,j1,j2,.pointer (some cS),j4,j5,.pointer (some ⟨cR,0,none⟩),.pointer (some ⟨cD,0,none⟩),.pointer (some ⟨H.Wg,0,none⟩),j9,a6,a8,b9,c9,b7,.slice (some ⟨bb,bo,none⟩) H.N cap,.int .i64 H.N,.int .i64 H.N,d9,c7,a5,c0,c8,a9,c2,d0,d8,d7,e0,d1,a3,b8,a7,b1,b2,a4,a0],[]⟩ [.code (dJ (aI 1 (aI 4 (f46.body.getD .skip)))),.inLoop (dJ (aI 1 (aI 4 (f46.body.getD .skip)))),.inBlock 0,.code (bI 5 (f46.body.getD .skip))]) cs) w:=by
 have hcN:¬((H.N:Int)<(H.N:Int)):=by omega
 obtain⟨n0,hW⟩:=Xa hP nj UX;have UF:H.ty≠28:=by rw[nj];decide
 obtain⟨n1,hL⟩:=VH hP Ve (cf:=((base 46).at ⟨#[.slice (some ⟨bb,bo,none⟩) H.N cap,j1,j2,.pointer (some cS),j4,j5,.pointer (some ⟨cR,0,none⟩),.pointer (some ⟨cD,0,none⟩),.pointer (some ⟨H.Wg,0,none⟩),j9,a6,a8,b9,c9,b7,.slice (some ⟨bb,bo,none⟩) H.N cap,.int .i64 H.N,.int .i64 H.N,.bool false,c7,a5,c0,c8,a9,c2,d0,.chan (some H.R),.chan (some H.Dn),.slice (some ⟨bb,bo,none⟩) H.N cap,.int .i64 H.N,a3,b8,a7,b1,b2,a4,a0],[]⟩ [.inRegion (aX (aI 5 (f46.body.getD .skip))) [4,5,6,7,8,9],.code (bI 6 (f46.body.getD .skip))])) (cs:=cs) UF hN ⟨n0,fun cP got mine w hI cG=>hW cs bb bo cap cR cD cS j1 j2 j4 j5 j9 a6 a8 b9 c9 b7 c7 a5 c0 c8 a9 c2 d0 a3 b8 a7 b1 b2 a4 a0 true _ got mine w hI.live (fun T h1 h2 h3 af aa=>by rw[Vf];obtain⟨parts,p1,p2,p3⟩:=hI.row;exact⟨T,h1,rfl,h3,(fun h=>by cases h),fun _=>⟨cP,h2,hI.own,parts,(aa.row cP (.inr hI.own)).trans p1,p2,p3⟩⟩)⟩ ⟨n0,fun cP got mine w hI hg=>hW cs bb bo cap cR cD cS j1 j2 j4 j5 j9 a6 a8 b9 c9 b7 c7 a5 c0 c8 a9 c2 d0 a3 b8 a7 b1 b2 a4 a0 false _ got mine w hI.live (fun T h1 h2 h3 af aa=>by rw[Vf];exact⟨T,h1,rfl,h3,fun _=>⟨h2,hg⟩,fun h=>by cases h⟩)⟩ H.N;obtain⟨i0,ix,ep,cJ,cW⟩:=info_parts Tryz.infoBytes;have Ek:=fun w=>run_make (P:=prog) w 25 28 i0 (.slice none 0 0) underlying25 ix ep .i64 .i64 H.N H.N (by omega) (by omega) (by rw[cW];omega) (by omega);have Rr:=fun w es=>events_make (P:=prog) w 25 28 i0 (.slice none 0 0) underlying25 ix ep .i64 .i64 H.N H.N (by omega) (by omega) (by rw[cW];omega) (by omega) (by rw[cW];omega) es;refine⟨n1+60,?_⟩;simp only[f46,Option.getD_some,aI,bI,dJ,aX]at hL⊢;refine aO.ctl hP rfl (fun _=>stepG_seq) ?_;refine aO.reg hP (todo:= [0]) rfl ?_;refine aO.op hP rfl rfl (by decide) (fun w aa=>⟨(fun _=>False),fun K hK=>?_⟩);replace hF:=FS.rely hF aa;clear aa;go_simp;refine hK _ _ ⟨.nothing (listed_nil (by simp[go_sem])),?_⟩;clear hK;try walk_nrm
 refine aO.ctl hP rfl (fun _=>stepG_region_end) ?_;refine aO.ctl hP rfl (fun _=>stepG_seq) ?_;refine aO.no hP (by first|rfl|simp[Act.eval]) ?_;refine aO.ctl hP rfl (fun _=>stepG_exit rfl) ?_;refine aO.ctl hP rfl (fun _=>stepG_seq) ?_;refine aO.reg hP (todo:= [0,1,2,3,4,5,6,7,8,9]) rfl ?_;refine aO.op hP rfl rfl (by decide) (fun w aa=>⟨(fun _=>False),fun K hK=>?_⟩);replace hF:=FS.rely hF aa;clear aa;have hc:=hF.chR;go_simp;refine hK _ _ ⟨.reads (c:=cR) (i:=0) (fun e he=>by have hm:=mem_listed he;simp[go_sem,hc]at hm;exact hm) (.inl hF.oR),?_⟩;clear hK;try walk_nrm
 clear hc;refine aO.op hP rfl rfl (by decide) (fun w aa=>⟨(fun _=>False),fun K hK=>?_⟩);replace hF:=FS.rely hF aa;clear aa;have hc:=hF.chD;go_simp;refine hK _ _ ⟨.reads (c:=cD) (i:=0) (fun e he=>by have hm:=mem_listed he;simp[go_sem,hc]at hm;exact hm) (.inl hF.oD),?_⟩;clear hK;try walk_nrm
 clear hc;refine aO.op hP rfl rfl (by decide) (fun w aa=>⟨(fun _=>False),fun K hK=>?_⟩);replace hF:=FS.rely hF aa;clear aa;go_simp;refine hK _ _ ⟨.nothing (listed_nil (by simp[go_sem])),?_⟩;clear hK;try walk_nrm
 refine aO.op hP rfl rfl (by decide) (fun w aa=>⟨(fun _=>False),fun K hK=>?_⟩);replace hF:=FS.rely hF aa;clear aa;go_simp;refine hK _ _ ⟨.nothing (listed_nil (by simp[go_sem])),?_⟩;clear hK;try walk_nrm
 refine aO.call hP rfl rfl (by decide) rfl func92 rfl rfl ?_;simp only[f92];try walk_nrm
 refine aO.ctl hP rfl (fun _=>stepG_seq) ?_;refine aO.reg hP (todo:= [0,1]) rfl ?_;refine aO.op hP rfl rfl (by decide) (fun w aa=>⟨(fun _=>False),fun K hK=>?_⟩);replace hF:=FS.rely hF aa;clear aa;go_simp;refine hK _ _ ⟨.nothing (listed_nil (by simp[go_sem])),?_⟩;clear hK;try walk_nrm
 refine aO.op hP rfl rfl (by decide) (fun w aa=>⟨(fun _=>False),fun K hK=>?_⟩);replace hF:=FS.rely hF aa;clear aa;go_simp;refine hK _ _ ⟨.nothing (listed_nil (by simp[go_sem])),?_⟩;clear hK;try walk_nrm
 refine aO.ctl hP rfl (fun _=>stepG_region_end) ?_;refine aO.ctl hP rfl (fun _=>stepG_seq) ?_;refine aO.reg hP (todo:= [0,1,2]) rfl ?_;refine aO.op hP rfl rfl (by decide) (fun w aa=>⟨(fun _=>False),fun K hK=>?_⟩);replace hF:=FS.rely hF aa;clear aa;go_simp;refine hK _ _ ⟨.nothing (listed_nil (by simp[go_sem])),?_⟩;clear hK;try walk_nrm
 refine aO.op hP rfl rfl (by decide) (fun w aa=>⟨fun b=>False\/b=w.heap.size,fun K hK=>?_⟩);replace hF:=FS.rely hF aa;clear aa;go_simp;refine hK _ _ ⟨.makes (fun e he=>by have hm:=mem_listed he;simp[go_sem,Rr]at hm),?_⟩;clear hK;have hI:PI H w.heap.size (fun _=>none) (fun b=>False\/b=w.heap.size) (w.alloc (.cells (madeCells #[.slice none 0 0] H.N) 28)):=⟨⟨_,yx _ _,size_madeCells _ _,fun i v hv=>by cases hv⟩,.inr rfl,let⟨st,sm,hl⟩:=hF.live;⟨st,sm,qI hl⟩⟩;generalize w.alloc (.cells (madeCells #[.slice none 0 0] H.N) 28)=w0 at hI⊢;obtain⟨cP,hcP⟩:∃cP,cP=w.heap.size:=⟨_,rfl⟩;rw[<-hcP]at hI⊢;clear hcP Ek Rr hF;try walk_nrm
 refine aO.op hP rfl rfl (by decide) (fun w aa=>⟨fun b=>False\/b=cP,fun K hK=>?_⟩);replace hI:PI H cP (fun _=>none) (fun b=>False\/b=cP) w:=⟨by rw[aa.row cP (.inr hI.own)];exact hI.row,hI.own,aa.live hI.live⟩;clear aa;go_simp;refine hK _ _ ⟨.nothing (listed_nil (by simp[go_sem])),?_⟩;clear hK;try walk_nrm
 refine aO.ctl hP rfl (fun _=>stepG_region_end) ?_;refine aO.ctl hP rfl (fun _=>stepG_seq) ?_;refine aO.ctl hP rfl (fun _=>stepG_seq) ?_;refine aO.reg hP (todo:= [0,1]) rfl ?_;refine aO.op hP rfl rfl (by decide) (fun w aa=>⟨fun b=>False\/b=cP,fun K hK=>?_⟩);replace hI:PI H cP (fun _=>none) (fun b=>False\/b=cP) w:=⟨by rw[aa.row cP (.inr hI.own)];exact hI.row,hI.own,aa.live hI.live⟩;clear aa;go_simp;refine hK _ _ ⟨.nothing (listed_nil (by simp[go_sem])),?_⟩;clear hK;try walk_nrm
 refine aO.op hP rfl rfl (by decide) (fun w aa=>⟨fun b=>False\/b=cP,fun K hK=>?_⟩);replace hI:PI H cP (fun _=>none) (fun b=>False\/b=cP) w:=⟨by rw[aa.row cP (.inr hI.own)];exact hI.row,hI.own,aa.live hI.live⟩;clear aa;go_simp;refine hK _ _ ⟨.nothing (listed_nil (by simp[go_sem])),?_⟩;clear hK;try walk_nrm
 refine aO.ctl hP rfl (fun _=>stepG_region_end) ?_;refine aO.ctl hP rfl (fun _=>stepG_block) ?_;refine aO.ctl hP rfl (fun _=>stepG_loop) ?_;simp only[f92,Option.getD_some,aI,bI]at hL;have hs:∀m,sumTo m (fun i=>if(fun _=>(none:Option Value)) i=none then 1 else 0)=m:=by
  intro m;induction m with
  |zero=>rfl
  |succ m ih=>rw[sumTo,ih,if_pos rfl]
 exact aO.more (hL cP 0 (undef) (undef) (undef) (.slice none 0 0) (.bool false) (undef) (.int .i64 H.N) (.slice (some ⟨cP,0,none⟩) H.N H.N) (undef) (undef) (undef) (undef) (undef) (undef) (undef) (undef) (undef) (undef) (undef) (undef) (undef) (undef) (undef) (fun _=>none) _ w (by omega) hI (fun h=>by omega) (hs _)) (by omega)
end
end Go.Proofs.YtmfpiodlecapiaaGreatDoor
namespace Go.kg
open Go.Conc Go.ConcN Go.bn Go.Ren
open Go.ConcR (KK wgBlock WgAt stA smA rd wr mk Payload Aside2 DC0 Bk g_of_ofEvents)
variable{t:Trace}{w:World}{sl:Option (Nat×Nat)}{a:Goroutine}{q:Nat->Nat}
def noWX:WX:=⟨0,.zero,0,0,0,fun _=>False,fun _=>False,0,undef,false⟩
theorem OW{B:Nat}(h:∀op∈t,op.act.low B){i:Nat}{a:Touch}(ha:touchAt t i=some a){x:Addr}(e:a.loc= .cell x):x.block<B:=by
 obtain⟨op,ho,mA⟩:=touch_of ha;have hl:=h op (Array.mem_of_getElem? ho);revert hl mA;cases op.act with
 |access ev=>
  intro mA hl;simp only[MemAct.touch?,Option.some.injEq]at mA;subst mA;simp only at e;simp only[MemAct.low,e,Loc.low]at hl;exact hl
 |mark m=>
  intro mA hl;cases m<;>simp only[MemAct.touch?,Option.some.injEq]at mA<;>first
   |cases mA;done
   |(subst mA
     simp only[Loc.cell.injEq]at e;subst e;exact hl)
 |_=>intro mA;cases mA
theorem Inv.start[Payload]{H:Ph}{gs:Array Goroutine}(hN:0<H.N)(cC:gs.size=H.o)(h0:gs[0]? =some a)(hL:Leavers H.P t gs q)(hP:Past H.Shun H.Wg t)
  (hold:∀b,H.old b->b<w.heap.size/\b≠H.Wg/\b≠H.R/\b≠H.Dn/\∀k,¬H.Shun (.cell ⟨b,k,none⟩))(U1:H.Wg<w.heap.size/\H.R<w.heap.size/\H.Dn<w.heap.size/\H.Wg≠H.R/\H.Wg≠H.Dn/\H.R≠H.Dn)(pL:∀b k,w.heap.size<=b->¬H.Shun (.cell ⟨b,k,none⟩))
  (hCH:CH H false w)(hwg:WgAt H.ty H.Wg w 0 0)(hs:Wh H H.N (fun _=>False) a w):∃J,Inv H J (crowd gs w sl) t:=by
 have eL:0<H.o:=by
  have:=(Array.getElem?_eq_some_iff.1 h0).1;omega
 obtain⟨r,hr⟩:∃r,H.N=r+1:=⟨H.N-1,by omega⟩;rw[hr]at hs;obtain⟨m,hs⟩:=hs;have noW:∀k,¬Nn H.o 0 k:=fun k ⟨i,hi,_⟩=>by omega
 refine⟨_,gs,w,sl,0,fun _=>noWX,fun _=>False,fun _=>none,a,false,.sp r 6,m,0,a,fun _=>a,q,0,0,rfl,?_,.ZL (by omega) hs,fun i hi=>by omega,?_,?_,?_,hCH,hwg,?_,(fun e=>by cases e),rfl⟩
 .exact⟨by omega,eL,h0,fun i hi=>by omega,fun i g h1 _ hg=>hL.old i g h1 hg⟩
 .exact⟨hold,fun b hb=>hb.elim,fun b hb=>hb.elim,fun i b hi=>by omega,fun i b hi=>by omega,fun i b hi=>by omega,fun i b hi=>by omega,fun i i' b hi=>by omega,fun i hi=>by omega,fun i hi=>by omega,fun i hi=>by omega,fun i i' hi=>by omega,U1,pL⟩
 .refine⟨⟨hP.clean,fun k c i hk=>absurd hk (noW k),fun k c i hk=>absurd hk (noW k),fun i x hx hm=>?_,fun i x hx hw=>?_,fun op a_=>MemAct.low_mono (by omega) (hP.seen op a_)⟩,fun i hi=>?_,fun i g hg bd hc=>.inr ?_,hP.hears,fun i hi=>by omega,fun k hk=>hL.above k (by omega),fun i hi=>by omega⟩
  .rcases hP.known i x hx hm with h|h
   .exact .inl h
   .exact .inr (.inl ⟨.inl h.1,h.2⟩)
  .obtain⟨y,hy,Pu⟩:=hw;have:=OW hP.seen hx hy;omega
  .unfold Trace.act? at hi;obtain⟨op,ho,mA⟩:=Option.map_eq_some_iff.1 hi;have:=hP.seen op (Array.mem_of_getElem? ho);rw[mA]at this;have h2:(stA H.Wg).block<H.Wg:=this;exact Nat.lt_irrefl _ h2
  .obtain⟨k,hk,hb⟩:=hP.over i g hg bd hc;exact⟨k,hk,hb⟩
 .refine⟨by omega,fun i hi=>by omega,fun _ i hi=>by omega,fun i v hv=>by(cases hv),fun _ i hi=>by omega,fun k b e=>by(cases e),fun r s _=>⟨rfl,fun _=>rfl⟩,fun c e=>by(rcases e with e|e<;>cases e),fun e=>by(cases e)⟩
 .have:=ConcN.Mode.opn (j:=0) (D:=bJ fun _=>noWX) (tag:=.sp r 6) trivial (fun i hi=>by omega) (fun vs e=>by cases e);have e:((Vc 0 (bJ fun _=>noWX)+pend (.sp r 6):Nat):Int)*KK=0:=by simp[Vc,sumTo,pend]
  rw[e]at this;exact this
theorem phase[Payload]{H:Ph}(O:oJ H){gs:Array Goroutine}(hN:0<H.N)(cC:gs.size=H.o)(h0:gs[0]? =some a)(hL:Leavers H.P t gs q)(hP:Past H.Shun H.Wg t)
  (hold:∀b,H.old b->b<w.heap.size/\b≠H.Wg/\b≠H.R/\b≠H.Dn/\∀k,¬H.Shun (.cell ⟨b,k,none⟩))(U1:H.Wg<w.heap.size/\H.R<w.heap.size/\H.Dn<w.heap.size/\H.Wg≠H.R/\H.Wg≠H.Dn/\H.R≠H.Dn)(pL:∀b k,w.heap.size<=b->¬H.Shun (.cell ⟨b,k,none⟩))
  (hCH:CH H false w)(hwg:WgAt H.ty H.Wg w 0 0)(hs:Wh H H.N (fun _=>False) a w):∃k m' t',runNT H.P k (crowd gs w sl) t=(.next m',t')/\Tgt H m' t':=by
 obtain⟨J,hI⟩:=Inv.start (sl:=sl) hN cC h0 hL hP hold U1 pL hCH hwg hs;exact Xx O J _ _ hI
end Go.kg
namespace Go.Proofs.YtmfpiodlecapiaaGreatDoor
open Go.Proofs.Tryz
section
open Go.Conc Go.ConcN Go.RowKit Go.Conc.Lib Go.ConcR.Gen Go.ConcN.Gen Go.kg Go.bn Go.Ren
open Go.ConcR (KK wgBlock WgAt stA smA rd wr mk Payload Aside2 DC0)
variable{wz:Nat->Bool}{Dz:Nat->List Nat}
def vY(B0:Nat)(wz:Nat->Bool)(Dz:Nat->List Nat)(z:Nat)(p:World)(da:Option Addr)(dl _dc:Nat)(wh:Bool):Prop:=
 wh=wz z/\(wh=true->dl=(Dz z).length/\(dl≠0->∃b o,da=some ⟨b,o,none⟩/\B0<=b/\Wr p b/\∀j,j<dl->p.cell? ⟨b,o+j,none⟩=some (.int .u8 ((Dz z)[j]?.getD 0:Nat))))
def ResT(B0:Nat)(wz:Nat->Bool)(Dz:Nat->List Nat)(z:Nat)(v:Value)(w:World):Prop:=
 ∃da dl dc,v= .agg #[.int .i64 z,.slice da dl dc,.bool (wz z)]/\(wz z=true->dl=(Dz z).length/\(dl≠0->∃b o,da=some ⟨b,o,none⟩/\B0<=b/\∀j,j<dl->w.cell? ⟨b,o+j,none⟩=some (.int .u8 ((Dz z)[j]?.getD 0:Nat))))
theorem ZQ{B0:Nat}{z:Nat}{d:WX}{ρ:Array Nat}{p w:World}(hw:WR ρ (p.re w.tape w.drawn) w)(hx:Ext (Array.range B0) ρ)(sa:d.ow=Own ρ p)(Ss:¬d.ow d.C){da:Option Addr}{dl dc:Nat}{wh:Bool}{JY:Option Addr}(h:vY B0 wz Dz z p da dl dc wh)(hs:SV ρ (.slice da dl dc) (.slice JY dl dc)):
  YD d (ResT B0 wz Dz z (.agg #[.int .i64 z,.slice JY dl dc,.bool wh])) w:=by
 obtain⟨rfl,h⟩:=h;by_cases dm:wz z=true/\dl≠0
 .obtain⟨h1,h2⟩:=h dm.1;obtain⟨b,o,rfl,hB,h3,h4⟩:=h2 dm.2;cases hs with
  |sl _ _ ha=>
   rename_i a';obtain⟨c,o',sp⟩:=a';obtain⟨kA,ho,kO⟩:=ha;simp only at kA ho kO;subst ho kO;have Kh:d.ow c:=by rw[sa];exact⟨b,kA,h3⟩
   have bd:c≠d.C:=fun e=>Ss (e▸Kh);have hcB:B0<=c:=by
    rcases Nat.lt_or_ge c B0 with ai|eJ
    .have e1:=hx c c (fU ai);have:=hw.inj b c c kA e1;omega
    .exact eJ
   refine⟨fun w=>∀j,j<dl->w.cell? ⟨c,o'+j,none⟩=some (.int .u8 ((Dz z)[j]?.getD 0:Nat)),fun w w' hk hF j hj=>(cell_of_block (hk c Kh bd) _).trans (hF j hj),fun j hj=>?_,fun w hF=>⟨_,_,_,rfl,fun _=>⟨h1,fun _=>⟨c,o',rfl,hcB,hF⟩⟩⟩⟩;obtain⟨c',v',e1,e2,e3⟩:=hw.cell b (o'+j) _ (h4 j hj);rw[kA]at e1;obtain rfl:=Option.some.inj e1;cases e3;exact e2
 .refine⟨fun _=>True,fun _ _ _ _=>trivial,trivial,fun w _=>⟨_,_,_,rfl,fun rL=>?_⟩⟩;obtain⟨h1,_⟩:=h rL;exact⟨h1,fun hd=>absurd ⟨rL,hd⟩ dm⟩
structure IsB(H:Ph)(wz:Nat->Bool)(Dz:Nat->List Nat)(cs:List Frame):Prop where
 P:H.P=prog
 X:H.X=aQ
 A:H.A=aZ
 K:H.K=jX
 ty:H.ty=link.tWg
 Cx:H.Cx=Gu prog.funcs.size [] ⟨H.Wg,0,none⟩
 Node:H.Node=fun _=>bS H.Dn (aX (aI 2 (f187.body.getD .skip)))
 Stop:H.Stop=mE H.R H.Dn (aX (lQ f89)) (jV f89) (vY H.B0 wz Dz)
 YC:H.YC=ResT H.B0 wz Dz
 RZ:H.RZ=Wi
 Anch:H.Anch=xL H.Wg
 Fin:H.Fin=YE H.N [.inRegion (aX (aI 6 (f46.body.getD .skip))) [],.code (bI 7 (f46.body.getD .skip))] cs
 hN:0<H.N/\H.N<2147483648
 hB:H.Dn<H.B0/\H.R<H.B0
theorem ph_ok[Payload]{H:Ph}{cs:List Frame}(I:IsB H wz Dz cs):oJ H:=by
 have jz:H.Cx.kind≠.early:=by rw[I.Cx];simp[Gu]
 refine⟨by rw[I.P,I.X,I.A,I.K];exact closed2,jz,fun Y g w h=>?_,I.hN.2,fun i m ρ p f fs f' fs' w Next h hx hn=>?_,fun i d ρ p f fs f' fs' w h hx hs sa pr e_ Ss=>?_,fun Y g w h=>?_⟩
 .rw[I.Anch]at h;exact CJ h
 .rw[I.Node]at hn;exact XM I.P I.K jz I.hB.1 h hx hn
 .rw[I.Stop]at hs;refine Xn I.P I.ty I.K I.Cx I.hB (fun i v h=>by rw[I.RZ];exact h) h hx hs (fun da dl dc wh JY hr QP=>?_);rw[I.YC];exact ZQ h.wr hx sa Ss hr QP
 .rw[I.Anch]at h⊢;rw[I.P,I.ty];exact JO h
end
section
open Go.Conc Go.ConcN Go.RowKit Go.Conc.Lib Go.ConcR.Gen Go.ConcN.Gen Go.kg Go.bn Go.Ren
open Go.ConcR (KK wgBlock WgAt stA smA rd wr mk Payload Aside2 DC0)
variable{bb bo cR cD:Nat}{cS:Addr}{j1 j2 j4 j5 j9 a6 a8 b9 c9 b7 e6 e5 e4 c7 c8 e0 b8 a7 b1 b2:Value}
theorem Xb[Payload]{H:Ph}(hP:H.P=prog){cs:List Frame}{cap:Nat}{d9 a5 c0 a9 c2 d0 d8 d7 d1 a3 a4 a0:Value}{r:Nat}{w:World}(hs:Wh H r (fun _=>False) (G ((base 46).at ⟨#[.slice (some ⟨bb,bo,none⟩) H.N cap,j1,j2,.pointer (some cS),j4,j5,.pointer (some ⟨cR,0,none⟩),.pointer (some ⟨cD,0,none⟩),.pointer (some ⟨H.Wg,0,none⟩),j9,a6,a8,b9,c9,b7,.slice (some ⟨bb,bo,none⟩) H.N cap,.int .i64 H.N,.int .i64 (0:Nat),d9,c7,a5,c0,c8,a9,c2,d0,d8,d7,e0,d1,a3,b8,a7,b1,b2,a4,a0],[]⟩ [.code (dJ (aI 1 (aI 4 (f46.body.getD .skip)))),.inLoop (dJ (aI 1 (aI 4 (f46.body.getD .skip)))),.inBlock 0,.code (bI 5 (f46.body.getD .skip))]) cs) w):
  Wh H r (fun _=>False) (G ((base 46).at ⟨#[.slice (some ⟨bb,bo,none⟩) H.N cap,j1,j2,.pointer (some cS),j4,j5,.pointer (some ⟨cR,0,none⟩),.pointer (some ⟨cD,0,none⟩),.pointer (some ⟨H.Wg,0,none⟩),j9,a6,a8,b9,c9,b7,e6,e5,e4,d9,c7,a5,c0,c8,a9,c2,d0,d8,d7,e0,d1,a3,b8,a7,b1,b2,a4,a0],[]⟩ [.inRegion (aX (aI 3 (f46.body.getD .skip))) [],.code (bI 4 (f46.body.getD .skip))]) cs) w:=by
 refine NP (k:=10) (fun Stop n hh=>?_) hs;simp only[f46,Option.getD_some,aI,bI,dJ,aX]at hh⊢;refine aO.ctl hP rfl (fun _=>stepG_region_end) ?_;refine aO.ctl hP rfl (fun _=>stepG_seq) ?_;refine aO.ctl hP rfl (fun _=>stepG_seq) ?_;refine aO.reg hP (todo:= [0,1,2]) rfl ?_;refine aO.op hP rfl rfl (by decide) (fun w aa=>⟨fun _=>False,fun K hK=>?_⟩);replace hh:=aO.rely hh aa;clear aa;go_simp;refine hK _ _ ⟨.nothing (listed_nil (by simp[go_sem])),?_⟩;clear hK;try walk_nrm
 iterate 2 (refine aO.op hP rfl rfl (by decide) (fun w aa=>⟨fun _=>False,fun K hK=>?_⟩);replace hh:=aO.rely hh aa;clear aa;go_simp;refine hK _ _ ⟨.nothing (listed_nil (by simp[go_sem])),?_⟩;clear hK;try walk_nrm)
 refine aO.ctl hP rfl (fun _=>stepG_region_end) ?_;refine aO.ctl hP rfl (fun _=>stepG_block) ?_;refine aO.ctl hP rfl (fun _=>stepG_loop) ?_;exact hh
theorem FM[Payload]{H:Ph}{wz:Nat->Bool}{Dz:Nat->List Nat}{cs:List Frame}(I:IsB H wz Dz cs){cap:Nat}{pa:Nat->Option Addr}{pl pc:Nat->Nat}{d9 a5 c0 a9 c2 d0 d8 d7 d1 a3 a4 a0:Value}
  {gs:Array Goroutine}{w:World}{sl:Option (Nat×Nat)}{t:Trace}{q:Nat->Nat}(cC:gs.size=H.o)(h0:gs[0]? =some (G ((base 46).at ⟨#[.slice (some ⟨bb,bo,none⟩) H.N cap,j1,j2,.pointer (some cS),j4,j5,.pointer (some ⟨cR,0,none⟩),.pointer (some ⟨cD,0,none⟩),.pointer (some ⟨H.Wg,0,none⟩),j9,a6,a8,b9,c9,b7,e6,e5,e4,d9,c7,a5,c0,c8,a9,c2,d0,d8,d7,e0,d1,a3,b8,a7,b1,b2,a4,a0],[]⟩ [.inRegion (aX (aI 3 (f46.body.getD .skip))) [],.code (bI 4 (f46.body.getD .skip))]) cs))(hL:Leavers H.P t gs q)(Mj:Past H.Shun H.Wg t)
  (hold:∀b,H.old b->b<w.heap.size/\b≠H.Wg/\b≠H.R/\b≠H.Dn/\∀k,¬H.Shun (.cell ⟨b,k,none⟩))(U1:H.Wg<w.heap.size/\H.R<w.heap.size/\H.Dn<w.heap.size/\H.Wg≠H.R/\H.Wg≠H.Dn/\H.R≠H.Dn)(pL:∀b k,w.heap.size<=b->¬H.Shun (.cell ⟨b,k,none⟩))
  (hCH:CH H false w)(hwg:WgAt H.ty H.Wg w 0 0)(hF:FS H bb bo H.N pa pl pc cR cD w)
  (rp:∀(z cz cp:Nat) (w:World),z<H.N->FS H bb bo H.N pa pl pc cR cD w->FZ H bb cR cD cz cp z (.slice (pa z) (pl z) (pc z)) w->Born H cR cD cS z cz cp w):
  ∃k m' t',runNT H.P k (crowd gs w sl) t=(.next m',t')/\Tgt H m' t':=by
 refine phase (ph_ok I) I.hN.1 cC h0 hL Mj hold U1 pL hCH hwg (Xb I.P ?_);exact starts I.P I.ty (cs:=cs) (cap:=cap) I.hN.2 rfl rp (fun j1 j2 j4 j5 j9 a6 a8 b9 c9 b7 d9 c7 a5 c0 c8 a9 c2 d0 d8 d7 e0 d1 a3 b8 a7 b1 b2 a4 a0 w hF=>Rl I.P I.ty I.Anch I.Fin I.hN.2 I.hN.1 (fun i v h=>by rw[I.RZ]at h;exact h) j1 j2 j4 j5 j9 a6 a8 b9 c9 b7 d9 c7 a5 c0 c8 a9 c2 d0 d8 d7 e0 d1 a3 b8 a7 b1 b2 a4 a0 w hF) H.N 0 (by omega) j1 j2 j4 j5 j9 a6 a8 b9 c9 b7 d9 c7 a5 c0 c8 a9 c2 d0 d8 d7 e0 d1 a3 b8 a7 b1 b2 a4 a0 w hF
end
end Go.Proofs.YtmfpiodlecapiaaGreatDoor
namespace Go.fE
open Go.Ren Go.bn
variable{f:FuncId}{w:World}
variable {P:Program}
theorem tF:∀(n:Nat) (a:Addr) (acc:ByteArray),Tm P (Extern.Bytes.loadBytes a n acc)
 |0,_,_=>ay _
 |n+1,a,acc=>by
  unfold Extern.Bytes.loadBytes;refine au (tH _ _) fun v=>?_;split
  .exact tF n _ _
  .exact aA
theorem qG(v:Value):Tm P (Extern.Bytes.bytesOf v):=by
 unfold Extern.Bytes.bytesOf;split
 iterate 2 (·exact ay _)
 .exact tF _ _ _
 .exact aA
theorem G9(v:Value):Tm P (Extern.Bytes.asByte v):=by
 unfold Extern.Bytes.asByte;split
 .exact ay _
 .exact aA
theorem Pj(xs:Array Value):Tm P (Extern.BytealgCount.count xs):=by
 obtain⟨l⟩:=xs;match l with
 | []=>exact aA
 | [_]=>exact aA
 | [_,_]=>exact au (qG _) fun _=>au (G9 _) fun _=>ay _
 |_::_::_::_=>exact aA
theorem Bw(xs:Array Value):Tm P (Extern.BytealgIndexByte.indexByte xs):=by
 obtain⟨l⟩:=xs;match l with
 | []=>exact aA
 | [_]=>exact aA
 |[_,_]=>
  refine au (qG _) fun _=>au (G9 _) fun _=>?_;split<;>exact ay _
 |_::_::_::_=>exact aA
theorem KL(s:String):Tm P (globalAddr s):=by
 unfold globalAddr;refine tq ?_;split
 .exact ay _
 .exact aA
theorem KF:Tm P Extern.BytealgIndex.maxLen:=by
 unfold Extern.BytealgIndex.maxLen;exact au (KL _) fun _=>au (tH _ _) fun _=>kT _
theorem O8(xs:Array Value):Tm P (Extern.BytealgIndex.index xs):=by
 obtain⟨l⟩:=xs;match l with
 | []=>exact aA
 | [_]=>exact aA
 |[_,_]=>
  refine au (qG _) fun _=>au (qG _) fun _=>au KF fun _=>?_;repeat' first
   |with_reducible exact ay _
   |exact aV (by intro g h;cases h)
   |refine nD ?_ ?_
   |refine au ?_ (fun _=>?_)
   |split
 |_::_::_::_=>exact aA
theorem SA(xs:Array Value):Tm P (Extern.AbiNoEscape.same xs):=by
 obtain⟨l⟩:=xs;match l with
 | []=>exact aA
 | [_]=>exact ay _
 |_::_::_=>exact aA
theorem ext_tm{fn:Func}(cH:P.funcs[f]? =some fn)(h1:(fn.name== "runtime.NumGoroutine")=false)(h2:fn.body.isNone=true)(h3:Extern.findNext fn=none){e:Array Value->Sem Value}(h4:Extern.find fn=some e)(he:∀xs,Tm P (e xs))(xs:Array Value):Tm P (callFunc f xs):=by
 unfold callFunc;refine tq ?_;rw[cH];simp only[h1,h2,Bool.false_eq_true,if_false,if_true,h3,h4];exact .mark _ trivial (aU (he xs))
theorem TK{α:Type}{f:Program->Sem α}:(program >>= f).run P w=(f P).run P w:=rfl
theorem Ul{α:Type}{m:Mark}{f:Unit->Sem α}:(mark m >>= f).run P w=(f ()).run P w:=rfl
theorem Vv{fn:Func}(cH:P.funcs[f]? =some fn)(h1:(fn.name== "runtime.NumGoroutine")=false)(h2:fn.body.isNone=true)(h3:Extern.findNext fn=none){e:Array Value->Sem Value}(h4:Extern.find fn=some e)(xs:Array Value)(w:World)(n:Next)(w':World)(hr:(callFunc f xs).run P w= .ok n w'):∃v,n= .value v:=by
 unfold callFunc at hr;rw[TK,cH]at hr;simp only[h1,h2,h3,h4,Bool.false_eq_true,if_false,if_true,Ul]at hr;exact mQ (g:=fun x=>x) hr
theorem Ao{fn:Func}(cH:P.funcs[f]? =some fn)(h1:(fn.name== "runtime.NumGoroutine")=false)(h2:fn.body.isNone=true)(h3:Extern.findNext fn=none){e:Array Value->Sem Value}(h4:Extern.find fn=some e)(he:∀xs,Tm P (e xs)):(∀xs:Array Value,Tm P (callFunc f xs))/\∀(xs:Array Value) (w:World) (n:Next) (w':World),(callFunc f xs).run P w= .ok n w'->∃v,n= .value v:=
 ⟨ext_tm cH h1 h2 h3 h4 he,Vv cH h1 h2 h3 h4⟩
end Go.fE
namespace Go.Proofs.YtmfpiodlecapiaaGreatDoor
open Go.Proofs.Tryz
open Go.Ren Go.bn Go.fE
def um(f:FuncId):Bool:= [156,175,217,199,172].contains f
def lstT:List FuncId:= [8,11,12,13,14,15,16,17,20,22,26,28,29,30,31,32,33,34,35,37,39,40,41,42,43,44,47,48,49,51,53,55,56,57,58,59,60,61,62,63,64,65,66,67,68,69,71,72,73,74,75,76,77,78,81,82,83,84,85,94,95,96,97,98,99,100,101,102,103,104,105,106,107,108,109,110,111,112,113,114,115,116,117,118,120,121,122,123,124,125,127,128,129,130,132,147,157,158,159,160,161,162,163,164,165,166,167,168,169,170,171,173,174,176,177,179,181,182,190,191,192,193,194,195,196,197,198,200,201,202,203,204,205,206,207,208,209,210,211,212,213,214,215,216,218,219,220,221,222,223,224,225,38,79,80,126,178,19,50]
def Fj(f:FuncId):Bool:=lstT.contains f
def dT(f:FuncId):List Nat:=if f=20 then [8]else if f=22 then [4]else []
def fnOk(P:Program)(X A:FuncId->Bool)(D:FuncId->List Nat)(f:FuncId):Bool:=match P.funcs[f]? with|some fn=>funD P X A D f fn|none=>false
theorem XB:lstT.all (fnOk prog um Fj dT)=true:=by kernel_rfl
theorem Hz(g:Nat)(hg:4<=g):prog.stepOf g=none:=by
 have h:prog.funcs.toList.all (fun f=>(f.body.map readies).all fun l=>l.all fun x=>decide (x<4))=true:=by kernel_rfl
 unfold Program.stepOf;rw[Array.findIdx?_eq_none_iff];intro f hf;have h1:=List.all_eq_true.1 h f (by simpa using hf);unfold fnOk at h1;cases hb:f.body with
 |none=>rfl
 |some c=>
  rw[hb]at h1;simp only[Option.map_some,Option.any_some,Option.all_some,List.all_eq_true,decide_eq_true_eq]at h1⊢;cases hc:(readies c).contains g with
  |false=>rfl
  |true=>
   have:=h1 g (by simpa using hc);omega
theorem extT{f:FuncId}(hf:um f=true):(∀xs:Array Value,Tm prog (callFunc f xs))/\∀(xs:Array Value) (w:World) (n:Next) (w':World),(callFunc f xs).run prog w= .ok n w'->∃v,n= .value v:=by
 simp only[um,List.contains_eq_mem,List.mem_cons,List.not_mem_nil,or_false,decide_eq_true_eq]at hf;rcases hf with rfl|rfl|rfl|rfl|rfl
 .exact Ao func156 (by kernel_rfl) (by kernel_rfl) DY DX fun xs=>Bv _ _ _
 .exact Ao func175 (by kernel_rfl) (by kernel_rfl) rfl (e:=Extern.BytealgCount.count) rfl Pj
 .exact Ao func217 (by kernel_rfl) (by kernel_rfl) rfl (e:=Extern.BytealgIndexByte.indexByte) rfl Bw
 .exact Ao func199 (by kernel_rfl) (by kernel_rfl) rfl (e:=Extern.BytealgIndex.index) rfl O8
 .exact Ao func172 (by kernel_rfl) (by kernel_rfl) rfl (e:=Extern.AbiNoEscape.same) rfl SA
theorem ak:bX prog um Fj dT:=by
 refine⟨fun f hf=>(extT hf).1,fun f hf=>(extT hf).2,fun f hf=>?_,by kernel_rfl,Hz⟩;have h1:=List.all_eq_true.1 XB f (by simpa[Fj]using hf);unfold fnOk at h1;cases he:prog.funcs[f]? with
 |none=>rw[he]at h1;cases h1
 |some fn=>rw[he]at h1;exact⟨fn,rfl,h1⟩
end Go.Proofs.YtmfpiodlecapiaaGreatDoor
namespace Go.fE
open Go.Ren Go.bn Go.Conc
variable{Sh:Nat->Prop}{u p:World}{b:Nat}
theorem P8(hr:∀b,Sh b->∃c e fz,u.heap[b]? =some (.cells c e fz))(hv:NV u):∃p,PS Sh p u:=by
 classical
 let emp:Obj->Obj:=fun o=>match o with| .cells _ e fz=>.cells #[] e fz|o=>o
 refine⟨{u with heap:=u.heap.mapIdx fun b o=>if Sh b then emp o else o},by simp,fun b hb=>?_,fun b hb=>?_,fun b o hb=>?_,rfl,rfl,rfl,rfl⟩
 .simp[hb]
 .obtain⟨c,e,fz,h⟩:=hr b hb;exact⟨e,fz,fz,c,by simp[h,hb,emp],h⟩
 .simp only[Array.getElem?_mapIdx]at hb;cases ho:u.heap[b]? with
  |none=>rw[ho]at hb;cases hb
  |some o'=>
   rw[ho]at hb;have hp:=hv b o' ho;simp only[Option.map_some,Option.some.injEq]at hb;subst hb;split
   .cases o'<;>first|exact hp|exact trivial
   .exact hp
def Live(o:Obj):Prop:=∀e fz,o≠.cells #[] e fz
theorem PS.live(h:PS Sh p u){o:Obj}(hb:p.heap[b]? =some o)(hl:Live o):¬Sh b:=fun hs=>by
 obtain⟨e,fz,_,_,h1,_⟩:=h.rows b hs;rw[h1]at hb;exact hl e fz (Option.some.inj hb).symm
theorem PS.nv(h:PS Sh p u):NV u:=fun b o hb=>by
 by_cases hs:Sh b
 .obtain⟨e,fz,xD,c,_,h2⟩:=h.rows b hs;rw[h2]at hb;obtain rfl:=Option.some.inj hb;exact trivial
 .rw[h.same b hs]at hb;exact h.views b o hb
theorem Ro{i:Nat}{v:Value}(h:p.cell? ⟨b,i,none⟩=some v):∃c e fz,p.heap[b]? =some (.cells c e fz)/\c[i]? =some v/\Live (.cells c e fz):=by
 simp only[World.cell?]at h;cases ho:p.heap[b]? with
 |none=>rw[ho]at h;cases h
 |some o=>
  rw[ho]at h;cases o with
  |cells c e fz=>
   have hv:c[i]? =some v:=by simpa using h
   refine⟨c,e,fz,rfl,hv,fun e' xD he=>?_⟩;simp only[Obj.cells.injEq]at he;rw[he.1]at hv;simp at hv
  |_=>simp at h
end Go.fE
namespace Go.Proofs.YtmfpiodlecapiaaGreatDoor
open Go.Proofs.Tryz
open Go.Conc Go.ConcN Go.RowKit Go.Conc.Lib Go.ConcR.Gen Go.ConcN.Gen Go.kg Go.bn Go.Ren Go.fE
open Go.ConcR (KK wgBlock WgAt stA smA rd wr mk Payload Aside2 DC0)
def ResQ(B0:Nat)(Dz:Nat->List Nat)(z:Nat)(v:Value)(p:World):Prop:=
 ∃da dl dc,v= .slice da dl dc/\dl=(Dz z).length/\(dl≠0->∃b o,da=some ⟨b,o,none⟩/\B0<=b/\∀j,j<dl->p.cell? ⟨b,o+j,none⟩=some (.int .u8 ((Dz z)[j]?.getD 0:Nat)))
structure Wz(Sh:Nat->Prop)(p:World)(R Dn N:Nat)(wz:Nat->Bool)(Dz:Nat->List Nat)(ok:Bool)(T:Array Value)(p':World):Prop where
 size:T.size=37
 flag:T[12]? =some (.bool ok)
 grown:p.heap.size<p'.heap.size
 views:∀(b:Nat) o,p'.heap[b]? =some o->Go.Ren.IL b o
 keep:∀b o,p.heap[b]? =some o->Live o->b≠R->b≠Dn->p'.heap[b]? =some o
 old:∀b,b<p.heap.size->¬Sh b->b≠R->b≠Dn->p'.heap[b]? =p.heap[b]?
 os:p'.os=p.os
 output:p'.output=p.output
 no:ok=false->T[11]? =some (.slice none 0 0)/\∃z,z<N/\wz z=false
 yes:ok=true->(∀z,z<N->wz z=true)/\∃cP,T[11]? =some (.slice (some ⟨cP,0,none⟩) N N)/\∃parts:Array Value,p'.heap[cP]? =some (.cells parts 28)/\parts.size=N/\∀z,z<N->∃v,parts[z]? =some v/\ResQ (p.heap.size+1) Dz z v p'
theorem Qb{Sh:Nat->Prop}{Post:(Nat->Prop)->Goroutine->World->Prop}{p:World}{cs:List Frame}{N bb bo cap cR cD R Dn sR rR sD rD:Nat}{tR tD:Bool}{cS:Addr}{pa:Nat->Option Addr}{pl pc:Nat->Nat}{j1 j2 j4 j5 j8 j9 a6 a8 b9 c9 b7 e6 e5 e4 d9 c7 a5 c0 c8 a9 c2 d0 d8 d7 e0 d1 a3 b8 a7 b1 b2 a4 a0:Value}{wz:Nat->Bool}{Dz:Nat->List Nat}
  (hN:0<N/\N<2147483648)(WJ:∀b,Sh b->b<p.heap.size)(hR:p.heap[R]? =some (.chan 0 #[] false sR rR tR))(hD:p.heap[Dn]? =some (.chan 0 #[] false sD rD tD))(bd:R≠Dn)
  (wc:p.cell? ⟨cR,0,none⟩=some (.chan (some R)))(we:p.cell? ⟨cD,0,none⟩=some (.chan (some Dn)))(oE:∀z,z<N->p.cell? ⟨bb,bo+z,none⟩=some (.slice (pa z) (pl z) (pc z)))(Fw:cS.block<p.heap.size)
  (Jc:∀(z cz cp:Nat) (w:World),z<N->(∀b i v,p.cell? ⟨b,i,none⟩=some v->w.heap[b]? =p.heap[b]?)->p.heap.size+1<=w.heap.size->w.heap[cz]? =some (.cells #[.int .i64 z] 3)->w.heap[cp]? =some (.cells #[.slice (pa z) (pl z) (pc z)] 25)->p.heap.size+1<=cz->p.heap.size+1<=cp->cz≠cp->
   ∃Keep:Nat->Bool,Keep cz=true/\(∀b i v,Keep b=true->w.cell? ⟨b,i,none⟩=some v->SV (Array.range w.heap.size) v v)/\(∀b,Keep b=true->b<w.heap.size->∃c e fz,w.heap[b]? =some (.cells c e fz))/\(∀b,Keep b=true->(∃i v,p.cell? ⟨b,i,none⟩=some v)\/b=cz\/b=cp)/\
    WT prog (bS Dn (aX (aI 2 (f187.body.getD .skip)))) (mE R Dn (aX (lQ f89)) (jV f89) (vY (p.heap.size+1) wz Dz) z) ⟨0,⟨Nw,oU ⟨p.heap.size,0,none⟩ ⟨cp,0,none⟩ cS ⟨cD,0,none⟩ ⟨cR,0,none⟩ ⟨cz,0,none⟩,[.code (mJ f89)],false⟩,[],priv Keep w⟩)
  (Lo:∀(ok:Bool) (T:Array Value) (p':World),Wz Sh p R Dn N wz Dz ok T p'->aj prog (fun b=>Sh b\/b=p.heap.size) (G ((base 46).at ⟨T,[]⟩ [.inRegion (aX (aI 6 (f46.body.getD .skip))) [],.code (bI 7 (f46.body.getD .skip))]) cs) p' Post):
  aj prog Sh (G ((base 46).at ⟨#[.slice (some ⟨bb,bo,none⟩) N cap,j1,j2,.pointer (some cS),j4,j5,.pointer (some ⟨cR,0,none⟩),.pointer (some ⟨cD,0,none⟩),j8,j9,a6,a8,b9,c9,b7,e6,e5,e4,d9,c7,a5,c0,c8,a9,c2,d0,d8,d7,e0,d1,a3,b8,a7,b1,b2,a4,a0],[]⟩ [.inRegion (aX (aI 3 (f46.body.getD .skip))) [0],.code (bI 4 (f46.body.getD .skip))]) cs) p Post:=by
 refine .YM rfl fun u cL=>?_;have hz:u.heap.size=p.heap.size:=cL.size;have eW:stepG prog true (G ((base 46).at ⟨#[.slice (some ⟨bb,bo,none⟩) N cap,j1,j2,.pointer (some cS),j4,j5,.pointer (some ⟨cR,0,none⟩),.pointer (some ⟨cD,0,none⟩),j8,j9,a6,a8,b9,c9,b7,e6,e5,e4,d9,c7,a5,c0,c8,a9,c2,d0,d8,d7,e0,d1,a3,b8,a7,b1,b2,a4,a0],[]⟩ [.inRegion (aX (aI 3 (f46.body.getD .skip))) [0],.code (bI 4 (f46.body.getD .skip))]) cs) u= .go (G ((base 46).at ⟨#[.slice (some ⟨bb,bo,none⟩) N cap,j1,j2,.pointer (some cS),j4,j5,.pointer (some ⟨cR,0,none⟩),.pointer (some ⟨cD,0,none⟩),.pointer (some ⟨p.heap.size,0,none⟩),j9,a6,a8,b9,c9,b7,e6,e5,e4,d9,c7,a5,c0,c8,a9,c2,d0,d8,d7,e0,d1,a3,b8,a7,b1,b2,a4,a0],[]⟩ [.inRegion (aX (aI 3 (f46.body.getD .skip))) [],.code (bI 4 (f46.body.getD .skip))]) cs) (u.alloc (wgBlock link.tWg 0 0)) #[]:=by
  simp only[f46,Option.getD_some,aI,bI,aX];have:=goes_oper_k (P:=prog) (main:=true) (w:=u) (cs:=cs) (k:= [.code (bI 4 (f46.body.getD .skip))]) (b:=base 46) (a:=⟨#[.slice (some ⟨bb,bo,none⟩) N cap,j1,j2,.pointer (some cS),j4,j5,.pointer (some ⟨cR,0,none⟩),.pointer (some ⟨cD,0,none⟩),j8,j9,a6,a8,b9,c9,b7,e6,e5,e4,d9,c7,a5,c0,c8,a9,c2,d0,d8,d7,e0,d1,a3,b8,a7,b1,b2,a4,a0],[]⟩) (ops:=aX (aI 3 (f46.body.getD .skip))) (i:=0) (rest:= []) (o:=(aX (aI 3 (f46.body.getD .skip)))[0]) (K:=fun g' w' es=>g'=G ((base 46).at ⟨#[.slice (some ⟨bb,bo,none⟩) N cap,j1,j2,.pointer (some cS),j4,j5,.pointer (some ⟨cR,0,none⟩),.pointer (some ⟨cD,0,none⟩),.pointer (some ⟨p.heap.size,0,none⟩),j9,a6,a8,b9,c9,b7,e6,e5,e4,d9,c7,a5,c0,c8,a9,c2,d0,d8,d7,e0,d1,a3,b8,a7,b1,b2,a4,a0],[]⟩ [.inRegion (aX (aI 3 (f46.body.getD .skip))) [],.code (bI 4 (f46.body.getD .skip))]) cs/\w'=u.alloc (wgBlock link.tWg 0 0)/\es=#[]) rfl rfl (by decide) (fun K hK=>by
    simp only[f46,Option.getD_some,aI,aX];go_simp;refine hK _ _ ⟨?_,?_,?_⟩
    .first|rfl|(rw[hz];rfl)
    .rfl
    .exact listed_nil (by simp[go_sem,aX,aI,f46]))
  simp only[f46,Option.getD_some,aI,bI,aX]at this;revert this;cases stepG prog true _ u with
  |go g' w' es=>rintro⟨rfl,rfl,rfl⟩;rfl
  |_=>exact fun h=>h.elim
 let blk:=wgBlock link.tWg 0 0
 have xT:PS Sh ((p.alloc blk).re (u.alloc blk).tape (u.alloc blk).drawn) (u.alloc blk):=cL.new (fun b hb=>WJ b hb) (o:=blk) trivial;refine⟨_,p.alloc blk,u.alloc blk,#[],eW,xT,by rw[Go.Ren.size_alloc];omega,fun e he=>by simp at he,fun gs1 sl1 t1 q1 hb mT=>?_⟩;have mT:=mT rfl;rw[hz]at mT;have YL:(u.alloc blk).heap.size=p.heap.size+1:=by rw[Go.Ren.size_alloc,hz]
 have Xr:∀b o,p.heap[b]? =some o->Live o->(u.alloc blk).heap[b]? =some o/\¬Sh b/\b<p.heap.size:=fun b o h1 h2=>by
  have hn:¬Sh b:=PS.live (p:=p.re u.tape u.drawn) cL h1 h2;have ai:b<p.heap.size:=(Array.getElem?_eq_some_iff.1 h1).1;have e:=cL.same b hn;refine⟨?_,hn,ai⟩;rw[Go.Ren.heap_alloc_old (by rw[hz];exact ai),e];exact h1
 have oldU:∀b,b<p.heap.size->¬Sh b->(u.alloc blk).heap[b]? =p.heap[b]? :=fun b ai hn=>by
  rw[Go.Ren.heap_alloc_old (by rw[hz];exact ai)];exact cL.same b hn
 obtain⟨hRu,hRn,Tu⟩:=Xr R _ hR (fun _ _ h=>by cases h);obtain⟨hDu,hDn,hDl⟩:=Xr Dn _ hD (fun _ _ h=>by cases h);have Eb:∀b i v,p.cell? ⟨b,i,none⟩=some v->(u.alloc blk).heap[b]? =p.heap[b]?/\(u.alloc blk).cell? ⟨b,i,none⟩=some v/\¬Sh b/\b<p.heap.size/\b≠R/\b≠Dn:=fun b i v h=>by
  obtain⟨c,e,fz,h1,h2,h3⟩:=Ro h;obtain⟨k1,k2,k3⟩:=Xr b _ h1 h3;refine⟨k1.trans h1.symm,?_,k2,k3,fun hh=>?_,fun hh=>?_⟩
  .simp[World.cell?,k1,h2]
  .subst hh;rw[hR]at h1;cases h1
  .subst hh;rw[hD]at h1;cases h1
 let H:Ph:= {P:=prog,X:=aQ,A:=aZ,K:=jX,ty:=link.tWg,Wg:=p.heap.size,R:=R,Dn:=Dn,o:=gs1.size,N:=N,B0:=p.heap.size+1,Shun:=Wj Sh,old:=(fun b=>b<p.heap.size/\¬Sh b/\b≠R/\b≠Dn),aux:=Sh,row0:=(fun b=>(u.alloc blk).heap[b]?),w0:=u,Cx:=Gu prog.funcs.size [] ⟨p.heap.size,0,none⟩,Node:=(fun _=>bS Dn (aX (aI 2 (f187.body.getD .skip)))),Stop:=mE R Dn (aX (lQ f89)) (jV f89) (vY (p.heap.size+1) wz Dz),YC:=ResT (p.heap.size+1) wz Dz,RZ:=Wi,Anch:=xL p.heap.size,Fin:=YE N [.inRegion (aX (aI 6 (f46.body.getD .skip))) [],.code (bI 7 (f46.body.getD .skip))] cs}
 have I:IsB H wz Dz cs:=⟨rfl,rfl,rfl,rfl,rfl,rfl,rfl,rfl,rfl,rfl,rfl,rfl,hN,⟨show Dn<p.heap.size+1 by omega,show R<p.heap.size+1 by omega⟩⟩;letI:Payload:=⟨3⟩
 have IH:WgAt link.tWg p.heap.size (u.alloc blk) 0 0:=by
  have:=Go.Ren.heap_alloc_new (w:=u) (o:=blk);rw[hz]at this;exact this
 have hbas:Bas H (u.alloc blk):=by
  refine⟨⟨fun b _=>rfl,rfl,rfl⟩,L9 (PS.nv cL) trivial,fun b hs=>?_⟩;obtain⟨e,fz,xD,c,_,h2⟩:=cL.rows b hs;have ai:=WJ b hs;have cj:(u.alloc blk).heap[b]? =some (.cells c e xD):=by rw[Go.Ren.heap_alloc_old (by rw[hz];exact ai)];exact h2
  exact⟨⟨by show b≠p.heap.size;omega,fun e=>hRn (by rw[<-show b=R from e];exact hs),fun e=>hDn (by rw[<-show b=Dn from e];exact hs),hs⟩,_,cj,cj⟩
 have hFS:FS H bb bo N pa pl pc cR cD (u.alloc blk):=by
  obtain⟨_,r2,r3,r4,r5,r6⟩:=Eb cR 0 _ wc;obtain⟨_,d2,d3,d4,d5,d6⟩:=Eb cD 0 _ we;obtain⟨_,_,b3,b4,b5,b6⟩:=Eb bb (bo+0) _ (oE 0 hN.1);refine⟨⟨0,0,IH⟩,fun z hz=>(Eb bb _ _ (oE z hz)).2.1,r2,d2,⟨b4,b3,b5,b6⟩,⟨r4,r3,r5,r6⟩,⟨d4,d3,d5,d6⟩,?_,?_,fun b hb=>⟨?_,rfl⟩⟩
  .rw[YL];show bb<p.heap.size+1/\cR<p.heap.size+1/\cD<p.heap.size+1/\p.heap.size<p.heap.size+1;omega
  .rw[YL];exact Nat.le_refl _
  .have:b<p.heap.size:=hb.1;rw[YL];omega
 obtain⟨k,m',t',ag,X_⟩:=FM (H:=H) (sl:=sl1) (cS:=cS) (cap:=cap) I rfl hb.zero hb.leave mT
  (fun b hb=>by
   obtain⟨o1,o2,o3,o4⟩:=hb;exact⟨by rw[YL];omega,by show b≠p.heap.size;omega,o3,o4,fun _ h=>o2 h⟩)
  ⟨by rw[YL];show p.heap.size<_;omega,by rw[YL];show R<_;omega,by rw[YL];show Dn<_;omega,by show p.heap.size≠R;omega,by show p.heap.size≠Dn;omega,bd⟩
  (fun b k hb h=>by
   have:=WJ b h;rw[YL]at hb;omega)
  ⟨⟨_,_,_,hRu⟩,⟨_,_,_,hDu⟩,hbas⟩ IH hFS
  (fun z cz cp w WG hF hZ=>by
   obtain⟨Keep,k1,k2,k3,k4,k5⟩:=Jc z cz cp w WG (fun b i v h=>by
     obtain⟨c1,_,c3,c4,c5,c6⟩:=Eb b i v h;exact((hF.WL b ⟨c4,c3,c5,c6⟩).2).trans c1) hF.b0 hZ.z hZ.p hZ.zo.2 hZ.po.2 hZ.zp
   refine Yx (H:=H) rfl rfl rfl rfl rfl rfl Keep hF.b0 hZ.z k1 ⟨hF.lo.2.2.2,(Array.getElem?_eq_some_iff.1 hZ.p).1,?_,hF.lo.2.2.1,hF.lo.2.1⟩ k2 k3 (fun b hb=>?_) k5
   .have:=hF.b0;have:p.heap.size+1<=w.heap.size:=this;omega
   .rcases k4 b hb with⟨i,v,h⟩|h|h
    .obtain⟨_,_,c3,c4,c5,c6⟩:=Eb b i v h;exact .inl ⟨c4,c3,c5,c6⟩
    .exact .inr (.inl h)
    .exact .inr (.inr h))
 obtain⟨gs2,w2,sl2,got,Y,mine,ok,q2,rfl,hsz2,cW,Ln,rm,zW,cY,⟨DN,⟨st2,sm2,As⟩,hms⟩,L1,dp⟩:=X_;obtain⟨T,hT37,rfl,hT12,gA,W1⟩:=(show YE N [.inRegion (aX (aI 6 (f46.body.getD .skip))) [],.code (bI 7 (f46.body.getD .skip))] cs ok got mine Y w2 from cY);have hW2:w2.heap[p.heap.size]? =some (wgBlock link.tWg st2 sm2):=As;have hW2l:p.heap.size<w2.heap.size:=(Array.getElem?_eq_some_iff.1 hW2).1;obtain⟨p2,uG⟩:=P8 (Sh:=fun b=>Sh b\/b=p.heap.size) (u:=w2) (fun b hb=>by
   rcases hb with hb|rfl
   .obtain⟨_,o,h1,h2⟩:=DN.2.2 b hb;obtain⟨e,fz,xD,c,_,h3⟩:=cL.rows b hb;have ai:=WJ b hb;have cj:(u.alloc blk).heap[b]? =some (.cells c e xD):=by rw[Go.Ren.heap_alloc_old (by rw[hz];exact ai)];exact h3
    have:(some o:Option Obj)=some (.cells c e xD):=h1.symm.trans cj;exact⟨c,e,xD,h2.trans this⟩
   .exact⟨_,_,_,hW2⟩) DN.2.1
 have cC:w2.heap.size=p2.heap.size:=uG.size;have MO:Zn prog (fun b=>Sh b\/b=p.heap.size) (G ((base 46).at ⟨T,[]⟩ [.inRegion (aX (aI 6 (f46.body.getD .skip))) [],.code (bI 7 (f46.body.getD .skip))]) cs) p2 gs2 w2 t' q2:=by
  refine⟨cW,by rw[uG.yw];exact uG,⟨Ln,rm⟩,⟨zW.clean,fun i a h1 h2=>(zW.known i a h1 h2).imp id fun x=>⟨?_,x.2⟩,zW.over,zW.hears,zW.seen⟩⟩;rcases x.1 with h|⟨c,h,hc⟩
  .revert h;show Wj Sh a.loc->Wj _ a.loc;cases a.loc with
   |cell c=>exact fun h=>.inl h
   |_=>exact id
  .rw[h];exact .inr hc
 have rl:∀b o,p.heap[b]? =some o->Live o->b≠R->b≠Dn->p2.heap[b]? =some o:=fun b o h1 h2 h3 h4=>by
  obtain⟨k1,k2,k3⟩:=Xr b o h1 h2;have e:=uG.same b (by rintro(h|h);exact k2 h;omega);rw[<-e];exact(DN.1.1 b ⟨k3,k2,h3,h4⟩).trans k1
 have Lz:∀b,b<p.heap.size->¬Sh b->b≠R->b≠Dn->p2.heap[b]? =p.heap[b]? :=fun b h1 h2 h3 h4=>by
  have e:=uG.same b (by rintro(h|h);exact h2 h;omega);rw[<-e];exact(DN.1.1 b ⟨h1,h2,h3,h4⟩).trans (oldU b h1 h2)
 have hA:Wz Sh p R Dn N wz Dz ok T p2:=by
  refine⟨hT37,hT12,by omega,uG.views,rl,Lz,?_,?_,fun h=>?_,fun h=>?_⟩
  .rw[<-uG.os,DN.1.2.1];exact cL.os
  .rw[<-uG.output,DN.1.2.2];exact cL.output
  .obtain⟨h1,i,da,dl,dc,hi,hg⟩:=gA h;refine⟨h1,i,hi,?_⟩;obtain⟨JY,dl',dc',e,_⟩:=dp i _ hg;simp only[Value.agg.injEq,Array.mk.injEq,List.cons.injEq,Value.bool.injEq]at e;exact e.2.2.1.symm
  .obtain⟨cP,h1,h2,parts,h3,h4,h5⟩:=W1 h;have cG:=L1 h;have cJ:∀z,z<N->∃da dl dc,got z=some (.agg #[.int .i64 z,.slice da dl dc,.bool true])/\parts[z]? =some (.slice da dl dc)/\wz z=true/\dl=(Dz z).length/\(dl≠0->∃b o,da=some ⟨b,o,none⟩/\p.heap.size+1<=b/\∀j,j<dl->w2.cell? ⟨b,o+j,none⟩=some (.int .u8 ((Dz z)[j]?.getD 0:Nat))):=by
    intro z WG;cases hg:got z with
    |none=>exact absurd hg (cG z WG)
    |some v=>
     obtain⟨da,dl,dc,rfl,h6⟩:=h5 z v hg;obtain⟨JY,dl',dc',e,h7⟩:=dp z _ hg;simp only[Value.agg.injEq,Array.mk.injEq,List.cons.injEq,Value.bool.injEq,Value.slice.injEq]at e;obtain⟨_,⟨rfl,rfl,rfl⟩,e,_⟩:=e;obtain⟨k1,k2⟩:=h7 e.symm;exact⟨da,dl,dc,rfl,h6,e.symm,k1,k2⟩
   refine⟨fun z WG=>(cJ z WG).choose_spec.choose_spec.choose_spec.2.2.1,cP,h1,parts,?_,h4,fun z WG=>?_⟩
   .have hm:=hms cP h2;rw[<-uG.same cP (by rintro(h|h);exact hm.2.2.2.2 0 h;exact hm.2.1 h)];exact h3
   .obtain⟨da,dl,dc,_,h6,_,h7,h8⟩:=cJ z WG;refine⟨_,h6,da,dl,dc,rfl,h7,fun hd=>?_⟩;obtain⟨b,o,rfl,hB,hc⟩:=h8 hd;refine⟨b,o,rfl,hB,fun j hj=>?_⟩;have hn:¬(Sh b\/b=p.heap.size):=by
     rintro(h|h)
     .have:=WJ b h;omega
     .omega
    have e:=uG.same b hn;have:=hc j hj;simp only[World.cell?,e]at this;exact this
 obtain⟨M,Sh3,g3,p3,gs3,u3,sl3,t3,q3,ib,cQ,px⟩:=Lo ok T p2 hA gs2 w2 sl2 t' q2 MO;exact⟨k+M,Sh3,g3,p3,gs3,u3,sl3,t3,q3,by rw[runNT_add,ag];exact ib,cQ,px⟩
