import Derived.Test.YtmfpiodlecapiaaGreatDoorJ27
import Derived.Conc.WgWords
set_option maxHeartbeats 4000000
set_option maxRecDepth 100000
namespace Go.Proofs.YtmfpiodlecapiaaGreatDoor
open Go.Conc Go.Conc.Lib Go.bB
def Idle(P:Program)(main:Bool):Nat->Goroutine->Goroutine->Prop
 |0,g,g'=>g=g'
 |n+1,g,g'=>g.status= .running/\∃g1,(∀w,stepG P main g w= .go g1 w #[])/\Idle P main n g1 g'
def Af(ps:Array Addr):Deferred:= {target:=.fn (.func J8) (ps.map fun a=>.pointer (some a)),args:=#[]}
def DT(n:Nat)(k:List Item)(g:Addr):Ctx:= {k:=k,defers:= [dcall link.done #[.pointer (some g)]],kind:=.deferred,callers:= [bot n]}
def kR(f:Func):Code:=tO (f.body.getD .skip)
theorem Xr(a0 a1 a2 a3 a4 a5:Addr):Idle Tryz.prog false 5 (born Tryz.prog (Af #[a0,a1,a2,a3,a4,a5]))
  (bP (DT Tryz.prog.funcs.size [.code (kR Tryz.f89)] a0) ⟨J8,#[.pointer (some a0),.pointer (some a1),.pointer (some a2),.pointer (some a3),.pointer (some a4),.pointer (some a5)]++Array.replicate 19 undef,[],false⟩ []):=by
 refine⟨rfl,G (DU.at ⟨#[.pointer (some a0),.pointer (some a1),.pointer (some a2),.pointer (some a3),.pointer (some a4),.pointer (some a5)]++Array.replicate 19 undef,[]⟩ [.code (Tryz.f89.body.getD .skip)]) [bot Tryz.prog.funcs.size],fun w=>?_,?_⟩
 ·simp[born,Af,stepG,unwind,callDeferred,invoke,callFunc,Tryz.func89,Tryz.f89,seen,GStep.after,G,Frame.enter,Frame.at,baseD,bot]
 simp only[Tryz.f89,Option.getD_some,kR,tO];refine⟨rfl,_,fun w=>stepG_seq,rfl,_,fun w=>stepG_region,?_⟩;simp only[List.size_toArray,List.length_cons,List.length_nil,Nat.zero_add,List.range,List.range.loop];refine⟨rfl,_,fun w=>stepG_defer rfl rfl (by decide) rfl,rfl,_,fun w=>stepG_region_end,?_⟩;simp[Idle,bP,Fr.base,DT,G,Frame.at,Fr.mode,Act.put,Act.eval,baseD]
open Go.Conc Go.ConcN Go.RowKit Go.Conc.Lib Go.ConcR.Gen Go.ConcN.Gen Go.iw
open Go.ConcR (KK wgBlock WgAt stA smA rd wr mk Payload Aside2 DC0)
def aN:Nat->Code->Code
 |0,.seq a _=>a
 |n+1,.seq _ b=>aN n b
 |_,c=>c
def bI:Nat->Code->Code
 |0,c=>c
 |n+1,.seq _ b=>bI n b
 |_,c=>c
def rz:Code->Code
 | .block _ c=>c
 |c=>c
def dx:Code->Code
 | .block _ (.loop c)=>c
 |c=>c
theorem J6(n:Int)(h0:0<=n)(h1:n<9223372036854775808):IntKind.i64.wrap n=n:=by
 simp[IntKind.wrap,IntKind.bits,IntKind.signed];omega
structure FS(H:Ph)(bb bo N:Nat)(pa:Nat->Option Addr)(pl pc:Nat->Nat)(cR cD:Nat)(w:World):Prop where
 live:WgLive H.ty H.Wg w
 cell:∀z,z<N->w.cell? ⟨bb,bo+z,none⟩=some (.slice (pa z) (pl z) (pc z))
 chR:w.cell? ⟨cR,0,none⟩=some (.chan (some H.R))
 chD:w.cell? ⟨cD,0,none⟩=some (.chan (some H.Dn))
 ob:H.old bb
 oR:H.old cR
 oD:H.old cD
 lo:bb<w.heap.size/\cR<w.heap.size/\cD<w.heap.size/\H.Wg<w.heap.size
 b0:H.B0<=w.heap.size
 Uz:∀b,H.old b->b<w.heap.size/\w.heap[b]? =H.row0 b
theorem FS.rely{H:Ph}{bb bo N:Nat}{pa:Nat->Option Addr}{pl pc:Nat->Nat}{cR cD:Nat}{mine:Nat->Prop}{w w₁:World}(h:FS H bb bo N pa pl pc cR cD w)(r:kW H.ty H.Wg (mO H mine) w w₁):FS H bb bo N pa pl pc cR cD w₁:=
 ⟨r.live h.live,fun z hz=>(cell_of_block (r.row _ (.inl h.ob)) _).trans (h.cell z hz),(cell_of_block (r.row _ (.inl h.oR)) _).trans h.chR,(cell_of_block (r.row _ (.inl h.oD)) _).trans h.chD,h.ob,h.oR,h.oD,by have:=h.lo;have:=r.size;omega,Nat.le_trans h.b0 r.size,fun b hb=>⟨Nat.lt_of_lt_of_le (h.Uz b hb).1 r.size,(r.row b (.inl hb)).trans (h.Uz b hb).2⟩⟩
theorem FS.alloc{H:Ph}{bb bo N:Nat}{pa:Nat->Option Addr}{pl pc:Nat->Nat}{cR cD:Nat}{w:World}(h:FS H bb bo N pa pl pc cR cD w)(o:Obj):FS H bb bo N pa pl pc cR cD (w.alloc o):=by
 have e0:(w.alloc o).heap=w.heap.push o:=rfl;have e1:∀b,b<w.heap.size->(w.alloc o).heap[b]? =w.heap[b]? :=fun b hb=>by rw[e0,Array.getElem?_push,if_neg (by omega)]
 obtain⟨l1,l2,l3,l4⟩:=h.lo;exact⟨let⟨st,sm,hl⟩:=h.live;⟨st,sm,(e1 _ l4).trans hl⟩,fun z hz=>(cell_of_block (e1 _ l1) _).trans (h.cell z hz),(cell_of_block (e1 _ l2) _).trans h.chR,(cell_of_block (e1 _ l3) _).trans h.chD,h.ob,h.oR,h.oD,by rw[e0];simp;omega,by have:=h.b0;rw[e0];simp;omega,fun b hb=>⟨by have:=(h.Uz b hb).1;rw[e0];simp;omega,(e1 b (h.Uz b hb).1).trans (h.Uz b hb).2⟩⟩
theorem wo(w:World)(o:Obj):(w.alloc o).heap[w.heap.size]? =some o:=by
 have e0:(w.alloc o).heap=w.heap.push o:=rfl;rw[e0];simp
theorem pI{w:World}{o x:Obj}{b:Nat}(h:w.heap[b]? =some x):(w.alloc o).heap[b]? =some x:=by
 have e0:(w.alloc o).heap=w.heap.push o:=rfl;have hb:b<w.heap.size:=(Array.getElem?_eq_some_iff.1 h).1;rw[e0,Array.getElem?_push,if_neg (by omega)];exact h
theorem FS.set{H:Ph}{bb bo N:Nat}{pa:Nat->Option Addr}{pl pc:Nat->Nat}{cR cD:Nat}{w:World}(h:FS H bb bo N pa pl pc cR cD w)(a:Addr)(v:Value)(hb:a.block≠bb)(hR:a.block≠cR)(hD:a.block≠cD)(hW:a.block≠H.Wg)(ho:¬H.old a.block):FS H bb bo N pa pl pc cR cD (w.setCell a v):=by
 have e1:∀b,a.block≠b->(w.setCell a v).heap[b]? =w.heap[b]? :=fun b hb=>by simp[World.setCell,Array.getElem?_modify,hb]
 exact⟨let⟨st,sm,hl⟩:=h.live;⟨st,sm,(e1 _ hW).trans hl⟩,fun z hz=>(cell_of_block (e1 _ hb) _).trans (h.cell z hz),(cell_of_block (e1 _ hR) _).trans h.chR,(cell_of_block (e1 _ hD) _).trans h.chD,h.ob,h.oR,h.oD,by simpa[World.setCell]using h.lo,by simpa[World.setCell]using h.b0,fun b hb=>⟨by simpa[World.setCell]using(h.Uz b hb).1,(e1 b fun e=>ho (e▸hb)).trans (h.Uz b hb).2⟩⟩
theorem KF{w:World}{b t:Nat}{x v:Value}(h:w.heap[b]? =some (.cells #[x] t)):(w.setCell ⟨b,0,none⟩ v).heap[b]? =some (.cells #[v] t):=by
 simp[World.setCell,Array.getElem?_modify,h]
theorem AA{w:World}{b c t:Nat}{x v:Value}(hc:c≠b)(h:w.heap[b]? =some (.cells #[x] t)):(w.setCell ⟨c,0,none⟩ v).heap[b]? =some (.cells #[x] t):=by
 simp[World.setCell,Array.getElem?_modify,h,hc]
theorem EU{w:World}{b t:Nat}{x:Value}(h:w.heap[b]? =some (.cells #[x] t)):w.cell? ⟨b,0,none⟩=some x/\w.frozen? ⟨b,0,none⟩=false:=by
 simp[World.cell?,World.frozen?,h]
theorem adds'{Wg:Nat}{b₀:Frame}{a₀:Act}{ops₀:Array Oper}{i₀:Nat}{rest₀:List Nat}{k₀:List Item}{cs:List Frame}(w:World)(hF:WgLive link.tWg Wg w){args:Array Operand}(ha:args.map a₀.eval=#[.pointer (some ⟨Wg,0,none⟩),.int .i64 1]):
  Adds Tryz.prog link.tWg Wg (fun g _=>g=G (b₀.at (a₀.put ((ops₀[i₀]?).bind (·.dst)) (.tuple #[])) (.inRegion ops₀ rest₀::k₀)) cs)
   (G ((base link.add).at {tmps:=args.map a₀.eval++Array.replicate ((addFn link).ntmps-(args.map a₀.eval).size) undef,defers:= []} [.code (body_add link)]) (b₀.at a₀ (.inRegion ops₀ (i₀::rest₀)::k₀)::cs)) w:=by
 have hA:=adds (P:=Tryz.prog) (L:=link) (b₀:=b₀) (a₀:=a₀) (ops₀:=ops₀) (i₀:=i₀) (rest₀:=rest₀) (k₀:=k₀) (cs:=cs) qh w hF;rw[enter_at _ qh.f_add rfl]at hA;rw[ha];exact hA
structure FZ(H:Ph)(bb cR cD cz cp z:Nat)(pz:Value)(w:World):Prop where
 z:w.heap[cz]? =some (.cells #[.int .i64 z] 3)
 p:w.heap[cp]? =some (.cells #[pz] 25)
 zp:cz≠cp
 zn:cz≠bb/\cz≠cR/\cz≠cD/\cz≠H.Wg
 pn:cp≠bb/\cp≠cR/\cp≠cD/\cp≠H.Wg
 zo:¬H.old cz/\H.B0<=cz
 po:¬H.old cp/\H.B0<=cp
theorem Nu{H:Ph}(hP:H.P=Tryz.prog)(hty:H.ty=link.tWg){Next:(Nat->Prop)->Goroutine->World->Prop}{mine:Nat->Prop}{cs:List Frame}{bb bo N cap cR cD z:Nat}{cS:Addr}{pa:Nat->Option Addr}{pl pc:Nat->Nat}(hz:z<N){v0 j1 j2 j4 j5 j9 c8 a8 b2 b9 b7 c9 c7 c6 c5 d0 c4 c3 a7 a9 c2 b1 b3 b6 c1 b4 b8 c0 a6 b5:Value}(hv0:v0= .slice (some ⟨bb,bo,none⟩) N cap)
  (hNext:∀(cz cp:Nat) (w:World),FS H bb bo N pa pl pc cR cD w->FZ H bb cR cD cz cp z (.slice (pa z) (pl z) (pc z)) w->Next (fun b=>(mine b\/b=cz)\/b=cp) (G ((base 46).at ⟨#[v0,j1,j2,.pointer (some cS),j4,j5,.pointer (some ⟨cR,0,none⟩),.pointer (some ⟨cD,0,none⟩),.pointer (some ⟨H.Wg,0,none⟩),.pointer (some ⟨cz,0,none⟩),.pointer (some ⟨cp,0,none⟩),a8,b2,b9,b7,v0,.int .i64 N,.int .i64 z,.bool true,.int .i64 z,.pointer (some ⟨bb,bo+z,none⟩),.slice (pa z) (pl z) (pc z),.tuple #[],c4,c3,a7,a9,c2,b1,b3,b6,c1,b4,b8,c0,a6,b5],[]⟩ [.inRegion (aZ (aN 1 (rz (aN 2 (dx (aN 1 (aN 4 (Tryz.f46.body.getD .skip)))))))) [],.code (bI 2 (rz (aN 2 (dx (aN 1 (aN 4 (Tryz.f46.body.getD .skip))))))),.inBlock 1,.code (bI 3 (dx (aN 1 (aN 4 (Tryz.f46.body.getD .skip))))),.inLoop (dx (aN 1 (aN 4 (Tryz.f46.body.getD .skip)))),.inBlock 0,.code (bI 5 (Tryz.f46.body.getD .skip))]) cs) w){w:World}(hF:FS H bb bo N pa pl pc cR cD w):
  ∃n,aS H (AtCall H Next) n mine (G ((base 46).at ⟨#[v0,j1,j2,.pointer (some cS),j4,j5,.pointer (some ⟨cR,0,none⟩),.pointer (some ⟨cD,0,none⟩),.pointer (some ⟨H.Wg,0,none⟩),j9,c8,a8,b2,b9,b7,v0,.int .i64 N,.int .i64 z,c9,c7,c6,c5,d0,c4,c3,a7,a9,c2,b1,b3,b6,c1,b4,b8,c0,a6,b5],[]⟩ [.code (dx (aN 1 (aN 4 (Tryz.f46.body.getD .skip)))),.inLoop (dx (aN 1 (aN 4 (Tryz.f46.body.getD .skip)))),.inBlock 0,.code (bI 5 (Tryz.f46.body.getD .skip))]) cs) w:=by
 refine⟨40,?_⟩;subst hv0;simp only[Tryz.f46,Option.getD_some,aN,bI,dx,rz,aZ]at hNext⊢;have hzi:(z:Int)<(N:Int):=by omega
 refine aS.ctl hP rfl (fun _=>stepG_seq) ?_;refine aS.reg hP (todo:= [0]) rfl ?_;refine aS.op hP rfl rfl (by decide) (fun w h₁=>⟨mine,fun K hK=>?_⟩);replace hF:=FS.rely hF h₁;clear h₁;go_simp;refine hK _ _ ⟨.nothing (listed_nil (by simp[go_sem])),?_⟩;clear hK;try walk_nrm
 refine aS.ctl hP rfl (fun _=>stepG_region_end) ?_;refine aS.ctl hP rfl (fun _=>stepG_seq) ?_;refine aS.yes hP (by first|rfl|simp[Act.eval]) ?_;refine aS.ctl hP rfl (fun _=>stepG_skip) ?_;refine aS.ctl hP rfl (fun _=>stepG_seq) ?_;refine aS.ctl hP rfl (fun _=>stepG_block) ?_;refine aS.ctl hP rfl (fun _=>stepG_seq) ?_;refine aS.reg hP (todo:= [0,1,2,3,4,5,6]) rfl ?_;refine aS.op hP rfl rfl (by decide) (fun w h₁=>⟨mine,fun K hK=>?_⟩);replace hF:=FS.rely hF h₁;clear h₁;go_simp;refine hK _ _ ⟨.nothing (listed_nil (by simp[go_sem])),?_⟩;clear hK;try walk_nrm
 refine aS.op hP rfl rfl (by decide) (fun w h₁=>⟨mine,fun K hK=>?_⟩);replace hF:=FS.rely hF h₁;clear h₁;go_simp;refine hK _ _ ⟨.nothing (listed_nil (by simp[go_sem,hzi])),?_⟩;clear hK;try walk_nrm
 refine aS.op hP rfl rfl (by decide) (fun w h₁=>⟨mine,fun K hK=>?_⟩);replace hF:=FS.rely hF h₁;clear h₁;have hc:=hF.cell z hz;go_simp;refine hK _ _ ⟨.reads (c:=bb) (i:=bo+z) (fun e he=>by have hm:=mem_listed he;simp[go_sem,hc]at hm;exact hm) (.inl hF.ob),?_⟩;clear hK;try walk_nrm
 refine aS.op hP rfl rfl (by decide) (fun w h₁=>⟨fun b=>mine b\/b=w.heap.size,fun K hK=>?_⟩);replace hF:=FS.rely hF h₁;clear h₁;go_simp;refine hK _ _ ⟨.makes (fun e he=>by have hm:=mem_listed he;simp[go_sem]at hm),?_⟩;clear hK;have hl:=hF.lo;have hbb:=hF.Uz;have hB0:=hF.b0;have hZ:=wo w (.cells #[.int .i64 0] 3);replace hF:=FS.alloc hF (.cells #[.int .i64 0] 3);generalize w.alloc (.cells #[.int .i64 0] 3)=w0 at hF hZ⊢;obtain⟨cz,hcz⟩:∃cz,cz=w.heap.size:=⟨_,rfl⟩;rw[<-hcz]at hZ⊢;have hzn:cz≠bb/\cz≠cR/\cz≠cD/\cz≠H.Wg:=by omega
 have hzo:¬H.old cz/\H.B0<=cz:=⟨fun h=>by have:=(hbb cz h).1;omega,by omega⟩;clear hl hcz hbb hB0;try walk_nrm
 refine aS.op hP rfl rfl (by decide) (fun w h₁=>⟨fun b=>(mine b\/b=cz)\/b=w.heap.size,fun K hK=>?_⟩);replace hF:=FS.rely hF h₁;replace hZ:=(h₁.row cz (.inr (.inr rfl))).trans hZ;clear h₁;go_simp;refine hK _ _ ⟨.makes (fun e he=>by have hm:=mem_listed he;simp[go_sem]at hm),?_⟩;clear hK;have hl:=hF.lo;have hbb:=hF.Uz;have hB0:=hF.b0;have hlz:cz<w.heap.size:=(Array.getElem?_eq_some_iff.1 hZ).1;have hQ:=wo w (.cells #[.slice none 0 0] 25);replace hZ:=pI (o:=.cells #[.slice none 0 0] 25) hZ;replace hF:=FS.alloc hF (.cells #[.slice none 0 0] 25);generalize w.alloc (.cells #[.slice none 0 0] 25)=w0 at hF hZ hQ⊢;obtain⟨cp,hcp⟩:∃cp,cp=w.heap.size:=⟨_,rfl⟩;rw[<-hcp]at hQ⊢;have hpn:cp≠bb/\cp≠cR/\cp≠cD/\cp≠H.Wg:=by omega
 have hzp:cz≠cp:=by omega
 have hpo:¬H.old cp/\H.B0<=cp:=⟨fun h=>by have:=(hbb cp h).1;omega,by omega⟩;clear hl hlz hcp hbb hB0;try walk_nrm
 refine aS.op hP rfl rfl (by decide) (fun w h₁=>⟨fun b=>(mine b\/b=cz)\/b=cp,fun K hK=>?_⟩);replace hF:=FS.rely hF h₁;replace hZ:=(h₁.row cz (.inr (.inl (.inr rfl)))).trans hZ;replace hQ:=(h₁.row cp (.inr (.inr rfl))).trans hQ;clear h₁;obtain⟨hc1,hc2⟩:=EU hZ;go_simp;try (unfold stored;go_simp)
 refine hK _ _ ⟨.writes (c:=cz) (i:=0) (fun e he=>by have hm:=mem_listed he;simp[go_sem,hc1,hc2]at hm;exact hm) (.inl (.inr rfl)),?_⟩;clear hK hc1 hc2;replace hF:=FS.set hF ⟨cz,0,none⟩ (.int .i64 z) hzn.1 hzn.2.1 hzn.2.2.1 hzn.2.2.2 hzo.1;replace hQ:=AA (v:=.int .i64 z) hzp hQ;replace hZ:=KF (v:=.int .i64 z) hZ;generalize w.setCell ⟨cz,0,none⟩ (.int .i64 z)=w0 at hF hZ hQ⊢;try walk_nrm
 refine aS.op hP rfl rfl (by decide) (fun w h₁=>⟨fun b=>(mine b\/b=cz)\/b=cp,fun K hK=>?_⟩);replace hF:=FS.rely hF h₁;replace hZ:=(h₁.row cz (.inr (.inl (.inr rfl)))).trans hZ;replace hQ:=(h₁.row cp (.inr (.inr rfl))).trans hQ;clear h₁;obtain⟨hc1,hc2⟩:=EU hQ;go_simp;try (unfold stored;go_simp)
 refine hK _ _ ⟨.writes (c:=cp) (i:=0) (fun e he=>by have hm:=mem_listed he;simp[go_sem,hc1,hc2]at hm;exact hm) (.inr rfl),?_⟩;clear hK hc1 hc2;replace hF:=FS.set hF ⟨cp,0,none⟩ (.slice (pa z) (pl z) (pc z)) hpn.1 hpn.2.1 hpn.2.2.1 hpn.2.2.2 hpo.1;replace hZ:=AA (v:=.slice (pa z) (pl z) (pc z)) (Ne.symm hzp) hZ;replace hQ:=KF (v:=.slice (pa z) (pl z) (pc z)) hQ;generalize w.setCell ⟨cp,0,none⟩ (.slice (pa z) (pl z) (pc z))=w0 at hF hZ hQ⊢;try walk_nrm
 refine aS.ctl hP rfl (fun _=>stepG_region_end) ?_;refine aS.ctl hP rfl (fun _=>stepG_seq) ?_;refine aS.reg hP (todo:= [0]) rfl ?_;refine aS.call hP rfl rfl (by decide) rfl qh.f_add (nm_add link) rfl ?_;refine aS.stop (fun w h₁=>?_);replace hF:=FS.rely hF h₁;replace hZ:=(h₁.row cz (.inr (.inl (.inr rfl)))).trans hZ;replace hQ:=(h₁.row cp (.inr (.inr rfl))).trans hQ;clear h₁;refine⟨_,by rw[hP,hty];exact adds' w (hty▸hF.live) (by simp[Act.eval]),fun w h₁=>?_⟩;replace hF:=FS.rely hF h₁;replace hZ:=(h₁.row cz (.inr (.inl (.inr rfl)))).trans hZ;replace hQ:=(h₁.row cp (.inr (.inr rfl))).trans hQ;clear h₁;try walk_nrm
 exact hNext cz cp w hF ⟨hZ,hQ,hzp,hzn,hpn,hzo,hpo⟩
theorem KD[Payload]{H:Ph}{r k:Nat}{mine:Nat->Prop}{g1 g2:Goroutine}{w:World}(h:∀Stop n,aS H Stop n mine g2 w->aS H Stop (n+k) mine g1 w)(hs:Ud H r mine g2 w):Ud H r mine g1 w:=by
 cases r with
 |zero=>obtain⟨n,hn⟩:=hs;exact⟨n+k,h _ _ hn⟩
 |succ r=>obtain⟨n,hn⟩:=hs;exact⟨n+k,h _ _ hn⟩
def Born[Payload](H:Ph)(cR cD:Nat)(cS:Addr)(z cz cp:Nat)(w:World):Prop:=
 ∃d:WX,d.ws=22/\d.df=0/\d.gu=false/\WS H z d (born H.P (Af #[⟨H.Wg,0,none⟩,⟨cp,0,none⟩,cS,⟨cD,0,none⟩,⟨cR,0,none⟩,⟨cz,0,none⟩])) w/\(∀c,¬d.ow c)/\(∀c,d.vs c->H.old c\/c=cz\/c=cp)/\d.vs d.C/\d.C=cz
theorem starts[Payload]{H:Ph}(hP:H.P=Tryz.prog)(hty:H.ty=link.tWg){cs:List Frame}{bb bo cap cR cD:Nat}{cS:Addr}{pa:Nat->Option Addr}{pl pc:Nat->Nat}(hN:H.N<2147483648){v0:Value}(hv0:v0= .slice (some ⟨bb,bo,none⟩) H.N cap)
  (hborn:∀(z cz cp:Nat) (w:World),z<H.N->FS H bb bo H.N pa pl pc cR cD w->FZ H bb cR cD cz cp z (.slice (pa z) (pl z) (pc z)) w->Born H cR cD cS z cz cp w)
  (Yz:∀(j1 j2 j4 j5 j9 c8 a8 b2 b9 b7 c9 c7 c6 c5 d0 c4 c3 a7 a9 c2 b1 b3 b6 c1 b4 b8 c0 a6 b5:Value) (w:World),FS H bb bo H.N pa pl pc cR cD w->∃n,aS H (fun m g w=>oW H H.N (fun _=>none) m g w\/AtClose H (fun _=>none) m g w) n (fun _=>False) (G ((base 46).at ⟨#[v0,j1,j2,.pointer (some cS),j4,j5,.pointer (some ⟨cR,0,none⟩),.pointer (some ⟨cD,0,none⟩),.pointer (some ⟨H.Wg,0,none⟩),j9,c8,a8,b2,b9,b7,v0,.int .i64 H.N,.int .i64 H.N,c9,c7,c6,c5,d0,c4,c3,a7,a9,c2,b1,b3,b6,c1,b4,b8,c0,a6,b5],[]⟩ [.code (dx (aN 1 (aN 4 (Tryz.f46.body.getD .skip)))),.inLoop (dx (aN 1 (aN 4 (Tryz.f46.body.getD .skip)))),.inBlock 0,.code (bI 5 (Tryz.f46.body.getD .skip))]) cs) w):
  ∀(r z:Nat),z+r=H.N->∀(j1 j2 j4 j5 j9 c8 a8 b2 b9 b7 c9 c7 c6 c5 d0 c4 c3 a7 a9 c2 b1 b3 b6 c1 b4 b8 c0 a6 b5:Value) (w:World),FS H bb bo H.N pa pl pc cR cD w->Ud H r (fun _=>False) (G ((base 46).at ⟨#[v0,j1,j2,.pointer (some cS),j4,j5,.pointer (some ⟨cR,0,none⟩),.pointer (some ⟨cD,0,none⟩),.pointer (some ⟨H.Wg,0,none⟩),j9,c8,a8,b2,b9,b7,v0,.int .i64 H.N,.int .i64 z,c9,c7,c6,c5,d0,c4,c3,a7,a9,c2,b1,b3,b6,c1,b4,b8,c0,a6,b5],[]⟩ [.code (dx (aN 1 (aN 4 (Tryz.f46.body.getD .skip)))),.inLoop (dx (aN 1 (aN 4 (Tryz.f46.body.getD .skip)))),.inBlock 0,.code (bI 5 (Tryz.f46.body.getD .skip))]) cs) w:=by
 subst hv0;intro r;induction r with
 |zero=>
  intro z hz j1 j2 j4 j5 j9 c8 a8 b2 b9 b7 c9 c7 c6 c5 d0 c4 c3 a7 a9 c2 b1 b3 b6 c1 b4 b8 c0 a6 b5 w hF;obtain rfl:z=H.N:=by omega
  exact Yz j1 j2 j4 j5 j9 c8 a8 b2 b9 b7 c9 c7 c6 c5 d0 c4 c3 a7 a9 c2 b1 b3 b6 c1 b4 b8 c0 a6 b5 w hF
 |succ r ih=>
  intro z hz j1 j2 j4 j5 j9 c8 a8 b2 b9 b7 c9 c7 c6 c5 d0 c4 c3 a7 a9 c2 b1 b3 b6 c1 b4 b8 c0 a6 b5 w hF;have Ur:z<H.N:=by omega
  refine Nu hP hty Ur rfl (fun cz cp w hF hZ=>?_) hF;have hjz:H.N-(r+1)=z:=by omega
  rw[hjz];simp only[Tryz.f46,Option.getD_some,aN,bI,dx,rz,aZ]at ih⊢;refine⟨5,?_⟩;refine aS.ctl hP rfl (fun _=>stepG_region_end) ?_;refine aS.reg hP (todo:= [0,1]) rfl ?_;refine aS.op hP rfl rfl (by decide) (fun w h₁=>⟨fun b=>(False\/b=cz)\/b=cp,fun K hK=>?_⟩);replace hF:=FS.rely hF h₁;replace hZ:FZ H bb cR cD cz cp z (.slice (pa z) (pl z) (pc z)) w:=⟨(h₁.row cz (.inr (.inl (.inr rfl)))).trans hZ.z,(h₁.row cp (.inr (.inr rfl))).trans hZ.p,hZ.zp,hZ.zn,hZ.pn,hZ.zo,hZ.po⟩;clear h₁;go_simp;refine hK _ _ ⟨.nothing (listed_nil (by simp[go_sem])),?_⟩;clear hK;try walk_nrm
  refine aS.stop (fun w h₁=>?_);replace hF:=FS.rely hF h₁;replace hZ:FZ H bb cR cD cz cp z (.slice (pa z) (pl z) (pc z)) w:=⟨(h₁.row cz (.inr (.inl (.inr rfl)))).trans hZ.z,(h₁.row cp (.inr (.inr rfl))).trans hZ.p,hZ.zp,hZ.zn,hZ.pn,hZ.zo,hZ.po⟩;clear h₁;obtain⟨d,h1,h2,h3,h4,h5,h6,h7,h8⟩:=hborn z cz cp w Ur hF hZ;rw[hP]at h4;refine⟨rfl,(G ((base 46).at ⟨#[.slice (some ⟨bb,bo,none⟩) H.N cap,j1,j2,.pointer (some cS),j4,j5,.pointer (some ⟨cR,0,none⟩),.pointer (some ⟨cD,0,none⟩),.pointer (some ⟨H.Wg,0,none⟩),.pointer (some ⟨cz,0,none⟩),.pointer (some ⟨cp,0,none⟩),a8,b2,b9,b7,.slice (some ⟨bb,bo,none⟩) H.N cap,.int .i64 H.N,.int .i64 z,.bool true,.int .i64 z,.pointer (some ⟨bb,bo+z,none⟩),.slice (pa z) (pl z) (pc z),.tuple #[],.func (.func 89) #[] #[.pointer (some ⟨H.Wg,0,none⟩),.pointer (some ⟨cp,0,none⟩),.pointer (some cS),.pointer (some ⟨cD,0,none⟩),.pointer (some ⟨cR,0,none⟩),.pointer (some ⟨cz,0,none⟩)],c3,a7,a9,c2,b1,b3,b6,c1,b4,b8,c0,a6,b5],[]⟩ [.inRegion (aZ (bI 2 (rz (aN 2 (dx (aN 1 (aN 4 (Tryz.f46.body.getD .skip)))))))) [],.inBlock 1,.code (bI 3 (dx (aN 1 (aN 4 (Tryz.f46.body.getD .skip))))),.inLoop (dx (aN 1 (aN 4 (Tryz.f46.body.getD .skip)))),.inBlock 0,.code (bI 5 (Tryz.f46.body.getD .skip))]) cs),born Tryz.prog (Af #[⟨H.Wg,0,none⟩,⟨cp,0,none⟩,cS,⟨cD,0,none⟩,⟨cR,0,none⟩,⟨cz,0,none⟩]),d,fun _=>False,?_,h1,h2,h3,h4,h5,fun c hc=>(h6 c hc).imp id fun h=>h.elim (fun h=>.inl (.inr h)) .inr,fun _ _ h=>h,h7,by rw[h8];exact .inl (.inr rfl),fun _ h=>h.elim,?_⟩
  ·rw[hP];refine Eq.trans (stepG_spawn (d:=Af #[⟨H.Wg,0,none⟩,⟨cp,0,none⟩,cS,⟨cD,0,none⟩,⟨cR,0,none⟩,⟨cz,0,none⟩]) (w':=w) rfl rfl (by decide) (by simp[go_sem,Af]) rfl) ?_;rw[listed_nil (by simp[go_sem])];rfl
  ·have hw1:IntKind.i64.wrap ((z:Int)+1)=(z:Int)+1:=J6 _ (by omega) (by omega);refine KD (k:=7) (fun Stop n hh=>?_) (ih (z+1) (by omega) (j1) (j2) (j4) (j5) (.pointer (some ⟨cz,0,none⟩)) (.pointer (some ⟨cp,0,none⟩)) (a8) (b2) (b9) (b7) (.bool true) (.int .i64 z) (.pointer (some ⟨bb,bo+z,none⟩)) (.slice (pa z) (pl z) (pc z)) (.tuple #[]) (.func (.func 89) #[] #[.pointer (some ⟨H.Wg,0,none⟩),.pointer (some ⟨cp,0,none⟩),.pointer (some cS),.pointer (some ⟨cD,0,none⟩),.pointer (some ⟨cR,0,none⟩),.pointer (some ⟨cz,0,none⟩)]) (.int .i64 ((z:Int)+1)) (a7) (a9) (c2) (b1) (b3) (b6) (c1) (b4) (b8) (c0) (a6) (b5) w hF);refine aS.ctl hP rfl (fun _=>stepG_region_end) ?_;refine aS.ctl hP rfl (fun _=>stepG_inBlock) ?_;refine aS.reg hP (todo:= [0,1]) rfl ?_;refine aS.op hP rfl rfl (by decide) (fun w h₁=>⟨fun _=>False,fun K hK=>?_⟩);replace hh:=aS.rely hh h₁;clear h₁;go_simp;refine hK _ _ ⟨.nothing (listed_nil (by simp[go_sem])),?_⟩;clear hK;try walk_nrm
   refine aS.op hP rfl rfl (by decide) (fun w h₁=>⟨fun _=>False,fun K hK=>?_⟩);replace hh:=aS.rely hh h₁;clear h₁;go_simp;refine hK _ _ ⟨.nothing (listed_nil (by simp[go_sem])),?_⟩;clear hK;try walk_nrm
   refine aS.ctl hP rfl (fun _=>stepG_region_end) ?_;refine aS.ctl hP rfl (fun _=>stepG_inLoop) ?_;exact hh
end Go.Proofs.YtmfpiodlecapiaaGreatDoor
namespace Go.Proofs.YtmfpiodlecapiaaGreatDoor
open Go.Ren Go.bB
def bn(f:FuncId):Bool:=inside f|| [91,150,187].contains f
def aW(f:FuncId):Bool:=outside f||f==1000000
theorem NZ:gH Tryz.prog aW bn (jf 91) Tryz.f91=true:=by kernel_rfl
theorem NW:gH Tryz.prog aW bn (jf 150) Tryz.f150=true:=by kernel_rfl
theorem Fv:gH Tryz.prog aW bn (jf 187) Tryz.f187=true:=by kernel_rfl
theorem CS:gH Tryz.prog aW bn (jf 170) Tryz.f170=true:=by kernel_rfl
theorem Jc:gH Tryz.prog aW bn (jf 171) Tryz.f171=true:=by kernel_rfl
theorem N7:gH Tryz.prog aW bn (jf 147) Tryz.f147=true:=by kernel_rfl
theorem NU:gH Tryz.prog aW bn (jf 148) Tryz.f148=true:=by kernel_rfl
theorem CQ:gH Tryz.prog aW bn (jf 149) Tryz.f149=true:=by kernel_rfl
theorem NY:gH Tryz.prog aW bn (jf 188) Tryz.f188=true:=by kernel_rfl
theorem Fz:gH Tryz.prog aW bn (jf 113) Tryz.f113=true:=by kernel_rfl
theorem U9:gH Tryz.prog aW bn (jf 112) Tryz.f112=true:=by kernel_rfl
theorem U_:gH Tryz.prog aW bn (jf 168) Tryz.f168=true:=by kernel_rfl
theorem Jb:gH Tryz.prog aW bn (jf 169) Tryz.f169=true:=by kernel_rfl
theorem QO:gH Tryz.prog aW bn (jf 94) Tryz.f94=true:=by kernel_rfl
theorem bA:outside far=false:=rfl
theorem Tf:Tryz.prog.funcs[(1000000:Nat)]? =none:=by kernel_rfl
theorem closed2:Closed Tryz.prog aW bn jf:=by
 refine⟨fun f hf ρ xs ys ha=>?_,fun f hf fn hfn=>?_,fun f hf=>?_⟩
 ·simp only[aW,Bool.or_eq_true,beq_iff_eq]at hf;rcases hf with hf|rfl
  ·exact closed.ext f hf ρ xs ys ha
  ·unfold callFunc;refine f_ ?_;rw[Tf];exact aH
 ·simp only[bn,inside,Bool.or_eq_true,List.contains_eq_mem,List.mem_cons,List.not_mem_nil,or_false,decide_eq_true_eq]at hf;rcases hf with(rfl|rfl|rfl|rfl|rfl|rfl|rfl|rfl|rfl|rfl|rfl)|(rfl|rfl|rfl)
  ·rw[Tryz.func94]at hfn;obtain rfl:=Option.some.inj hfn;exact QO
  ·rw[Tryz.func170]at hfn;obtain rfl:=Option.some.inj hfn;exact CS
  ·rw[Tryz.func171]at hfn;obtain rfl:=Option.some.inj hfn;exact Jc
  ·rw[Tryz.func147]at hfn;obtain rfl:=Option.some.inj hfn;exact N7
  ·rw[Tryz.func148]at hfn;obtain rfl:=Option.some.inj hfn;exact NU
  ·rw[Tryz.func149]at hfn;obtain rfl:=Option.some.inj hfn;exact CQ
  ·rw[Tryz.func188]at hfn;obtain rfl:=Option.some.inj hfn;exact NY
  ·rw[Tryz.func113]at hfn;obtain rfl:=Option.some.inj hfn;exact Fz
  ·rw[Tryz.func112]at hfn;obtain rfl:=Option.some.inj hfn;exact U9
  ·rw[Tryz.func168]at hfn;obtain rfl:=Option.some.inj hfn;exact U_
  ·rw[Tryz.func169]at hfn;obtain rfl:=Option.some.inj hfn;exact Jb
  ·rw[Tryz.func91]at hfn;obtain rfl:=Option.some.inj hfn;exact NZ
  ·rw[Tryz.func150]at hfn;obtain rfl:=Option.some.inj hfn;exact NW
  ·rw[Tryz.func187]at hfn;obtain rfl:=Option.some.inj hfn;exact Fv
 ·simp only[bn,Bool.or_eq_true]at hf;rcases hf with hf|hf
  ·exact closed.has f hf
  ·simp only[List.contains_eq_mem,List.mem_cons,List.not_mem_nil,or_false,decide_eq_true_eq]at hf;rcases hf with rfl|rfl|rfl
   ·exact⟨_,Tryz.func91⟩
   ·exact⟨_,Tryz.func150⟩
   ·exact⟨_,Tryz.func187⟩
end Go.Proofs.YtmfpiodlecapiaaGreatDoor
namespace Go.bB
open Go.Ren
def Xf:Obj->Obj
 | .cells c e _=>.cells c e (0,c.size)
 |o=>o
def priv(Keep:Nat->Bool)(w:World):World:= {w with heap:=w.heap.mapIdx fun b o=>if Keep b then Xf o else .cells #[] 0}
theorem iF{n b c:Nat}(h:(Array.range n)[b]? =some c):c=b/\b<n:=by
 rcases Nat.lt_or_ge b n with hlt|hge
 ·rw[Array.getElem?_range]at h;simp[hlt]at h;exact⟨h.symm,hlt⟩
 ·rw[Array.getElem?_eq_none (by simpa using hge)]at h;cases h
theorem eZ{n b:Nat}(h:b<n):(Array.range n)[b]? =some b:=by rw[Array.getElem?_range];simp[h]
section
variable {Keep:Nat->Bool} {w:World}
theorem nR(b:Nat):(priv Keep w).heap[b]? =(w.heap[b]?).map fun o=>if Keep b then Xf o else .cells #[] 0:=by
 simp[priv]
theorem lC{b i:Nat}{v:Value}(h:(priv Keep w).cell? ⟨b,i,none⟩=some v):Keep b=true/\w.cell? ⟨b,i,none⟩=some v/\(priv Keep w).frozen? ⟨b,i,none⟩=true/\b<w.heap.size:=by
 simp only[World.cell?,nR]at h;cases ho:w.heap[b]? with
 |none=>rw[ho]at h;simp at h
 |some o=>
  rw[ho]at h;simp only[Option.map_some]at h;cases hk:Keep b with
  |false=>rw[hk]at h;simp at h
  |true=>
   rw[hk]at h;simp only[if_true]at h;cases o with
   |cells c e fz=>
    simp only[Xf]at h;have hv:c[i]? =some v:=by simpa using h
    have hi:i<c.size:=(Array.getElem?_eq_some_iff.1 hv).1;refine⟨rfl,by simp[World.cell?,ho,hv],?_,(Array.getElem?_eq_some_iff.1 ho).1⟩;simp[World.frozen?,nR,ho,hk,Xf,hi]
   |_=>simp[Xf]at h
theorem KI(hk:∀b i v,Keep b=true->w.cell? ⟨b,i,none⟩=some v->SV (Array.range w.heap.size) v v)(hrow:∀b,Keep b=true->b<w.heap.size->∃c e fz,w.heap[b]? =some (.cells c e fz)):WR (Array.range w.heap.size) (priv Keep w) w:=by
 have hs:(priv Keep w).heap.size=w.heap.size:=by simp[priv]
 refine⟨by simp[hs],fun b hb=>?_,fun b b' c h h'=>by rw[<-(iF h).1,<-(iF h').1],fun b c h=>by rw[(iF h).1];exact(iF h).2,fun b i v h=>?_,fun b i c h h' _=>?_,rfl,rfl⟩
 ·rw[hs]at hb;rw[nR];cases hkb:Keep b with
  |true=>
   obtain⟨c,e,fz,ho⟩:=hrow b hkb hb;exact⟨c,e,(0,c.size),by rw[ho];simp[Xf]⟩
  |false=>exact⟨#[],0,(0,0),by rw[Array.getElem?_eq_getElem hb];simp⟩
 ·obtain⟨h1,h2,_,h4⟩:=lC h;exact⟨b,v,eZ h4,h2,hk b i v h1 h2⟩
 ·obtain⟨v,hv⟩:=Option.isSome_iff_exists.1 h;rw[(lC hv).2.2.1]at h';cases h'
theorem QC{c:Nat}(h:Ac (Array.range w.heap.size) (priv Keep w) c):Keep c=true:=by
 obtain⟨b,i,h1,h2⟩:=h;obtain⟨v,hv⟩:=Option.isSome_iff_exists.1 h2;rw[(iF h1).1];exact(lC hv).1
theorem QD{c:Nat}(h:Own (Array.range w.heap.size) (priv Keep w) c):False:=by
 obtain⟨b,_,i,h2,h3⟩:=h;obtain⟨v,hv⟩:=Option.isSome_iff_exists.1 h2;rw[(lC hv).2.2.1]at h3;cases h3
theorem NC{c:Nat}{v:Value}(hk:Keep c=true)(h:w.cell? ⟨c,0,none⟩=some v):Ac (Array.range w.heap.size) (priv Keep w) c:=by
 have hlt:c<w.heap.size:=by
  simp only[World.cell?]at h;cases ho:w.heap[c]? with
  |none=>rw[ho]at h;cases h
  |some o=>exact(Array.getElem?_eq_some_iff.1 ho).1
 refine⟨c,0,eZ hlt,?_⟩;simp only[World.cell?,nR]at h⊢;cases ho:w.heap[c]? with
 |none=>rw[ho]at h;cases h
 |some o=>
  rw[ho]at h;cases o with
  |cells c e fz=>simp[hk,Xf]at h⊢;exact(Array.getElem?_eq_some_iff.1 h).1
  |_=>simp at h
end
end Go.bB
namespace Go.Proofs.YtmfpiodlecapiaaGreatDoor
open Go.Conc Go.ConcN Go.RowKit Go.Conc.Lib Go.ConcR.Gen Go.ConcN.Gen Go.iw Go.bB Go.Ren
open Go.ConcR (KK wgBlock WgAt stA smA rd wr mk Payload Aside2 DC0)
theorem Rx{P:Program}:∀{n:Nat} {g g':Goroutine},Idle P false n g g'->Idl P n g g'
 |0,_,_,h=>h
 |_+1,_,_,⟨h1,g1,h2,h3⟩=>⟨h1,g1,h2,Rx h3⟩
def nI(a0 a1 a2 a3 a4 a5:Addr):Array Value:=#[.pointer (some a0),.pointer (some a1),.pointer (some a2),.pointer (some a3),.pointer (some a4),.pointer (some a5)]++Array.replicate 19 undef
theorem Kq{n:Nat}{a0 a1 a2 a3 a4 a5:Addr}(l0:a0.block<n)(l1:a1.block<n)(l2:a2.block<n)(l3:a3.block<n)(l4:a4.block<n)(l5:a5.block<n):TR (Array.range n) (jf J8) (nI a0 a1 a2 a3 a4 a5) (nI a0 a1 a2 a3 a4 a5):=by
 have vr:∀a:Addr,a.block<n->VR (Array.range n) (.pointer (some a)) (.pointer (some a)):=fun a h=>.ptr ⟨eZ h,rfl,rfl⟩;refine⟨rfl,fun i v v' h h'=>?_⟩;rw[h]at h';obtain rfl:=Option.some.inj h';clear h';unfold nI at h;rcases Nat.lt_or_ge i 6 with hi|hi
 ·rw[Array.getElem?_append_left (by simpa using hi)]at h;match i,h,hi with
  |0,h,_=>obtain rfl:=Option.some.inj h;exact vr _ l0
  |1,h,_=>obtain rfl:=Option.some.inj h;exact vr _ l1
  |2,h,_=>obtain rfl:=Option.some.inj h;exact vr _ l2
  |3,h,_=>obtain rfl:=Option.some.inj h;exact vr _ l3
  |4,h,_=>obtain rfl:=Option.some.inj h;exact vr _ l4
  |5,h,_=>obtain rfl:=Option.some.inj h;exact vr _ l5
 ·rw[Array.getElem?_append_right (by simpa using hi),Array.getElem?_replicate]at h;split at h
  ·obtain rfl:=Option.some.inj h;exact CR.undef _
  ·cases h
theorem V6[Payload]{H:Ph}(hP:H.P=Tryz.prog)(hX:H.X=aW)(hA:H.A=bn)(hK:H.K=jf)(hCx:H.Cx=DT Tryz.prog.funcs.size [] ⟨H.Wg,0,none⟩)(hety:Payload.ety=3)
  {w:World}{cR cD z cz cp:Nat}{cS:Addr}(Keep:Nat->Bool)(hB:H.B0<=w.heap.size)(hz:w.heap[cz]? =some (.cells #[.int .i64 z] 3))(hKz:Keep cz=true)
  (hlt:H.Wg<w.heap.size/\cp<w.heap.size/\cS.block<w.heap.size/\cD<w.heap.size/\cR<w.heap.size)
  (hk:∀b i v,Keep b=true->w.cell? ⟨b,i,none⟩=some v->SV (Array.range w.heap.size) v v)(hrow:∀b,Keep b=true->b<w.heap.size->∃c e fz,w.heap[b]? =some (.cells c e fz))(hold:∀b,Keep b=true->H.old b\/b=cz\/b=cp)
  (FU:WT Tryz.prog (H.Node z) (H.Stop z) ⟨0,⟨J8,nI ⟨H.Wg,0,none⟩ ⟨cp,0,none⟩ cS ⟨cD,0,none⟩ ⟨cR,0,none⟩ ⟨cz,0,none⟩,[.code (kR Tryz.f89)],false⟩,[],priv Keep w⟩):Born H cR cD cS z cz cp w:=by
 obtain⟨l1,l2,l3,l4,l5⟩:=hlt;have l6:cz<w.heap.size:=(Array.getElem?_eq_some_iff.1 hz).1;obtain⟨rk,ZW⟩:=FU.XL;have hcz:w.cell? ⟨cz,0,none⟩=some (.int .i64 z):=by simp[World.cell?,hz]
 let d:WX:=⟨22,.ofNat 5,7,0,0,Own (Array.range w.heap.size) (priv Keep w),Ac (Array.range w.heap.size) (priv Keep w),cz,.int .i64 z,false⟩
 have hst:ze H.P H.X H.A H.K (Array.range w.heap.size) ⟨J8,nI ⟨H.Wg,0,none⟩ ⟨cp,0,none⟩ cS ⟨cD,0,none⟩ ⟨cR,0,none⟩ ⟨cz,0,none⟩,[.code (kR Tryz.f89)],false⟩ [] ⟨J8,nI ⟨H.Wg,0,none⟩ ⟨cp,0,none⟩ cS ⟨cD,0,none⟩ ⟨cR,0,none⟩ ⟨cz,0,none⟩,[.code (kR Tryz.f89)],false⟩ []:=by
  rw[hP,hX,hA,hK];refine .one ⟨rfl,rfl,rfl,?_,?_⟩
  ·exact Kq l1 l2 l3 l4 l5 l6
  ·intro x hx;simp only[List.mem_singleton]at hx;subst hx;kernel_rfl
 have htr:qX H z d rk (bP H.Cx ⟨J8,nI ⟨H.Wg,0,none⟩ ⟨cp,0,none⟩ cS ⟨cD,0,none⟩ ⟨cR,0,none⟩ ⟨cz,0,none⟩,[.code (kR Tryz.f89)],false⟩ []) w:=by
  refine⟨Array.range w.heap.size,priv Keep w,_,[],_,[],rfl,⟨hst,KI hk hrow⟩,by rw[hP];exact ZW,rfl,rfl,fun b c h=>?_⟩;obtain⟨rfl,h2⟩:=iF h;exact eZ (by omega)
 refine⟨d,rfl,rfl,rfl,?_,fun c hc=>QD hc,fun c hc=>hold c (QC hc),NC hKz hcz,rfl⟩;have hpay:uG d w:=⟨⟨#[.int .i64 z],by rw[hety];exact hz,rfl⟩,hcz⟩;refine .born 5 _ rk rfl rfl rfl rfl ?_ htr hpay;rw[hP,hCx];exact Rx (Xr _ _ _ _ _ _)
end Go.Proofs.YtmfpiodlecapiaaGreatDoor
