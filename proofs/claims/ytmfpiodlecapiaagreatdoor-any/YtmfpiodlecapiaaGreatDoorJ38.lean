import Derived.Test.YtmfpiodlecapiaaGreatDoorJ37
set_option linter.unusedSimpArgs false
set_option maxHeartbeats 4000000
set_option maxRecDepth 100000
namespace Go.Proofs.YtmfpiodlecapiaaGreatDoor
open Go.Conc Go.ConcN Go.RowKit Go.bB Go.Ren Go.eO Go.Deep Go.iw
attribute [local go_sem↓] Go.wp_at_zero Go.wp_at_succ
theorem MP{Sh:Nat->Prop}{Post:(Nat->Prop)->Goroutine->World->Prop}{p:World}{ds:List Frame}{gn N vS gh M Gz sz ms V:Nat}{Kz:Nat->Nat}{pa:Nat->Nat->Option Addr}{v0 v1 v2:Value}(hN:N<=256)(hK:∀z,z<N->Kz z+V<=40)(hM:n_ Kz V N=M)
  (hn:∀z,z<N->p.cell? ⟨gn,z,none⟩=some (.int .i64 (Kz z:Nat)))(hh:∀z,z<N->∀j,j<Kz z+V->p.cell? ⟨gh,n_ Kz V z+j,none⟩=some (.bool (pa z j).isSome))
  (hend:∀h16 ny h18 h23 Lx Lu Ls h27 SG SF SE h31 h32 Xd Xc Xb Xa h37 Lr Lp Lm Ll Lj h43 Lh h45 h46 h47 h48 SC h50 SB SA Sz Sv Sr Sn h57 Sm h59 h60 h61 h62 h63 h64 W_ W9 WZ,aj Tryz.prog Sh (G ((base 21).at ⟨#[v0,v1,v2,.slice (some ⟨gn,0,none⟩) N vS,.agg #[.int .i64 sz,.int .i64 ms,.int .i64 V],.slice (some ⟨gh,0,none⟩) M Gz,undef,undef,undef,undef,.pointer (some ⟨p.heap.size,0,none⟩),undef,.bool false,.int .i64 M,.int .i64 (kN Kz V pa N:Nat),.int .i64 (nN Kz V pa N:Nat),h16,ny,h18,undef,undef,undef,undef,h23,Lx,Lu,Ls,h27,SG,SF,SE,h31,h32,Xd,Xc,Xb,Xa,h37,Lr,Lp,Lm,Ll,Lj,h43,Lh,h45,h46,h47,h48,SC,h50,SB,SA,Sz,Sv,Sr,Sn,h57,Sm,h59,h60,h61,h62,h63,h64,W_,W9,WZ,undef,undef,undef,undef,undef,undef,undef,undef,undef,undef,undef,undef,undef,undef,undef,undef,undef,undef,undef,undef,undef,undef,undef,undef,undef,undef,undef,undef,undef,undef,undef,undef,undef,undef,undef,undef,undef,undef,undef,undef,undef,undef,undef,undef,undef,undef,undef,undef,undef,undef,undef,undef,undef,undef,undef,undef,undef,undef,undef,undef,undef,undef,undef,undef,undef,undef],[]⟩ [.code (dP [1,1,1,1,1] (Tryz.f21.body.getD .skip))]) ds) (p.alloc (.cells #[.int .i64 sz,.int .i64 ms,.int .i64 V] 35)) Post):
  aj Tryz.prog Sh (G ((base 21).at ⟨#[v0,v1,v2,.slice (some ⟨gn,0,none⟩) N vS,.agg #[.int .i64 sz,.int .i64 ms,.int .i64 V],.slice (some ⟨gh,0,none⟩) M Gz,undef,undef,undef,undef,undef,undef,undef,undef,undef,undef,undef,undef,undef,undef,undef,undef,undef,undef,undef,undef,undef,undef,undef,undef,undef,undef,undef,undef,undef,undef,undef,undef,undef,undef,undef,undef,undef,undef,undef,undef,undef,undef,undef,undef,undef,undef,undef,undef,undef,undef,undef,undef,undef,undef,undef,undef,undef,undef,undef,undef,undef,undef,undef,undef,undef,undef,undef,undef,undef,undef,undef,undef,undef,undef,undef,undef,undef,undef,undef,undef,undef,undef,undef,undef,undef,undef,undef,undef,undef,undef,undef,undef,undef,undef,undef,undef,undef,undef,undef,undef,undef,undef,undef,undef,undef,undef,undef,undef,undef,undef,undef,undef,undef,undef,undef,undef,undef,undef,undef,undef,undef,undef,undef,undef,undef,undef,undef,undef],[]⟩ [.code (Tryz.f21.body.getD .skip)]) ds) p Post:=by
 have HE:=hide hend;have Hn:=hide hn;have Hh:=hide hh;have HK:=hide hK;have HM:=hide hM
 clear hend hn hh hK hM;conv=>arg 3;simp only[Tryz.f21,Option.getD_some]
 refine aj.seq (aj.bC ak (by kernel_rfl) fun τ d=>?_);go_wp2;rw[show(p.re τ d).heap.size=p.heap.size from rfl];refine aj.re (p:=p.alloc (.cells #[.int .i64 sz,.int .i64 ms,.int .i64 V] 35)) ?_ τ d;refine aj.seq (aj.bC ak (by kernel_rfl) fun τ d=>?_);go_wp2;refine aj.re ?_ _ _;refine aj.seq (aj.bC ak (by kernel_rfl) fun τ d=>?_);go_wp2;refine aj.re ?_ _ _;refine aj.seq (aj.bC ak (by kernel_rfl) fun τ d=>?_);go_wp2;refine aj.re ?_ _ _;refine aj.seq (aj.XH ak (by kernel_rfl) fun τ d=>?_);refine H6 gn N vS gh M Gz p.heap.size V Kz pa hN HK.out HM.out _ (fun z hz=>?_) (fun z hz j hj=>?_) ?_ (fun wz hz h16 ny h18 h23 Lx Lu Ls h27 SG SF SE h31 h32 Xd Xc Xb Xa h37 Lr Lp Lm Ll Lj h43 Lh h45 h46 h47 h48 SC h50 SB SA Sz Sv Sr Sn h57 Sm h59 h60 h61 h62 h63 h64 W_ W9 WZ=>?_)
 ·have:=Hn.out z hz;rw[<-this];exact World.cell?_of_block (w:=p) (blk_alloc_lt _ _ _ (bG this))
 ·have:=Hh.out z hz j hj;rw[<-this];exact World.cell?_of_block (w:=p) (blk_alloc_lt _ _ _ (bG this))
 ·exact(aP p #[.int .i64 sz,.int .i64 ms,.int .i64 V] 35).cell 2 _ rfl
 ·obtain⟨nq,rfl⟩:=hz;refine aj.re (p:=p.alloc (.cells #[.int .i64 sz,.int .i64 ms,.int .i64 V] 35)) ?_ τ (d+nq);exact HE.out h16 ny h18 h23 Lx Lu Ls h27 SG SF SE h31 h32 Xd Xc Xb Xa h37 Lr Lp Lm Ll Lj h43 Lh h45 h46 h47 h48 SC h50 SB SA Sz Sv Sr Sn h57 Sm h59 h60 h61 h62 h63 h64 W_ W9 WZ
theorem PO{Sh:Nat->Prop}{Post:(Nat->Prop)->Goroutine->World->Prop}{p:World}{ds:List Frame}{t2 t3 t4 t5 t6 t7 t8 t9 n6 d3 m1 f5 n5 n4 a9 h5 b9 n7 n8 l7 k9 j9 b4 l2 l9 l3 k4 e0 m2 d0 l4 l5 b3 m5 m7 m3 d5 c3 c1 f7 i0 c5 f2 e6 c8 k7 h7 d6 d8 j5 a6 d1 d7 i5 e1 e2 d9 e8 i6 e3 b6 f9 d4 e7 l1 g6 n2 n3 n0 m8 m9 n1 f1 d2 l0 k5 b7 g2 f3 i7 f0 e4 a7 g3 e5 i8 m6 j6 g4 j8 g9 j7 j4 i9 c9 m0 g8 m4 a5 j2 f6 g7 c6 h8 i2 g1 i1 h9 j0 f8 h6 j1 g5 g0 k6 c4 h4 a4 k8 e9 a8 l6 f4 l8 i3 b8 k0 c7 b5 j3 i4 c0:Value}{lb mr ob id len sz ms bb N V s cap clock:Nat}{es:Array MapEntry}{l:List (Nat×Nat)}{Kz:Nat->Nat}{pb:Nat->Nat}{pa:Nat->Nat->Option Addr}{pl pc:Nat->Nat->Nat}{blk:Nat->List Nat}
  (zQ:p.heap[lb]? =some (.cells #[.map (some mr)] 82))(hmap:p.heap[mr]? =some (.map es clock))(hm:iA es.toList l)(hg:getM l id=some ob)(lG:p.heap[ob]? =some (.cells #[.int .i64 len,.int .i64 sz,.int .i64 ms,.int .i64 V,.slice (some ⟨bb,0,none⟩) N cap] 101))(hO:Wp p bb N V s Kz pb pa pl pc blk)(hlen:len<=((List.range N).map blk).flatten.length)
  (hend:∀(S:Nat->Prop) (q:World) (v v2:Value) (ok:Bool) (e:Int),zm Sh S p q N V Kz pa blk v ok->(ok=false->v2= .slice none 0 0/\e=7)->(ok=true->e=0/\∃g c,v2= .slice (some ⟨g,0,none⟩) len c/\len<=c/\∀j,j<len->q.cell? ⟨g,j,none⟩=some (.int .u8 ((((List.range N).map blk).flatten[j]?.getD 0:Nat):Int)))->
   aj Tryz.prog S (G ((base 21).at ⟨#[.pointer (some ⟨lb,0,none⟩),.int .i64 id,t2,t3,t4,t5,t6,t7,t8,t9,n6,d3,m1,f5,n5,n4,a9,h5,b9,v2,.int .i64 e,l7,k9,j9,b4,l2,l9,l3,k4,e0,m2,d0,l4,l5,b3,m5,m7,m3,d5,c3,c1,f7,i0,c5,f2,e6,c8,k7,h7,d6,d8,j5,a6,d1,d7,i5,e1,e2,d9,e8,i6,e3,b6,f9,d4,e7,l1,g6,.tuple #[v2,.int .i64 e],.pointer (some ⟨lb,0,none⟩),.int .i64 id,.tuple #[v2,.int .i64 e],v2,.int .i64 e,f1,d2,l0,k5,b7,g2,f3,i7,f0,e4,a7,g3,e5,i8,m6,j6,g4,j8,g9,j7,j4,i9,c9,m0,g8,m4,a5,j2,f6,g7,c6,h8,i2,g1,i1,h9,j0,f8,h6,j1,g5,g0,k6,c4,h4,a4,k8,e9,a8,l6,f4,l8,i3,b8,k0,c7,b5,j3,i4,c0],[]⟩ [.code (dP [1,1,1,1,1,1] (Tryz.f21.body.getD .skip))]) ds) q Post):
  aj Tryz.prog Sh (G ((base 21).at ⟨#[.pointer (some ⟨lb,0,none⟩),.int .i64 id,t2,t3,t4,t5,t6,t7,t8,t9,n6,d3,m1,f5,n5,n4,a9,h5,b9,n7,n8,l7,k9,j9,b4,l2,l9,l3,k4,e0,m2,d0,l4,l5,b3,m5,m7,m3,d5,c3,c1,f7,i0,c5,f2,e6,c8,k7,h7,d6,d8,j5,a6,d1,d7,i5,e1,e2,d9,e8,i6,e3,b6,f9,d4,e7,l1,g6,n2,n3,n0,m8,m9,n1,f1,d2,l0,k5,b7,g2,f3,i7,f0,e4,a7,g3,e5,i8,m6,j6,g4,j8,g9,j7,j4,i9,c9,m0,g8,m4,a5,j2,f6,g7,c6,h8,i2,g1,i1,h9,j0,f8,h6,j1,g5,g0,k6,c4,h4,a4,k8,e9,a8,l6,f4,l8,i3,b8,k0,c7,b5,j3,i4,c0],[]⟩ [.code (dP [1,1,1,1,1] (Tryz.f21.body.getD .skip))]) ds) p Post:=by
 have HO:=hide hO;have HE:=hide hend
 clear hO hend;conv=>arg 3;simp only[Tryz.f21,Option.getD_some,dP]
 refine aj.seq (aj.reg (todo:= [0,1,2,3,4,5,6,7]) rfl ?_);refine aj.pv ak fun τ d K hK=>?_;go_simp;refine hK _ ?_;clear hK;try walk_nrm
 refine aj.pv ak fun τ d K hK=>?_;go_simp;refine hK _ ?_;clear hK;try walk_nrm
 refine aj.dM rfl rfl (by decide) rfl Tryz.func24 rfl rfl (T':=#[.pointer (some ⟨lb,0,none⟩),.int .i64 id,undef,undef,undef,undef,undef,undef,undef,undef,undef,undef,undef,undef,undef,undef,undef,undef,undef,undef,undef,undef,undef,undef,undef,undef,undef,undef,undef,undef,undef,undef,undef,undef,undef,undef,undef,undef]) (by simp[Act.eval,Tryz.f24]) ?_;refine xV (o:=?o) ?ho zQ hmap hm hg lG HO.out hlen (fun S q v v2 ok e h1 h2 h3=>?hend)
 case ho=>rfl
 case hend=>
 try walk_nrm
 iterate 5 (refine aj.pv ak fun τ d K hK=>?_;go_simp;refine hK _ ?_;clear hK;try walk_nrm)
 refine aj.aR ?_;exact HE.out S q v v2 ok e h1 h2 h3
theorem MO{Sh:Nat->Prop}{Post:(Nat->Prop)->Goroutine->World->Prop}{q:World}{cfn:FuncId}{ca:Act}{bg:Array Oper}{ci:Nat}{aT:List Nat}{ck:List Item}{cs:List Frame}{o:Oper}(ho:bg[ci]? =some o){t4 t5 t6 t7 t8 t9 d3 m1 f5 a9 h5 b9 l7 k9 j9 b4 l2 l9 l3 k4 e0 m2 d0 l4 l5 b3 m5 m7 m3 d5 c3 c1 f7 i0 c5 f2 e6 c8 k7 h7 d6 d8 j5 a6 d1 d7 i5 e1 e2 d9 e8 i6 e3 b6 f9 d4 e7 l1 g6 n2 n3 n0 m8 m9 n1 f1 d2 l0 k5 b7 g2 f3 i7 f0 e4 a7 g3 e5 i8 m6 j6 g4 j8 g9 j7 j4 i9 c9 m0 g8 m4 a5 j2 f6 g7 c6 h8 i2 g1 i1 h9 j0 f8 h6 j1 g5 g0 k6 c4 h4 a4 k8 e9 a8 l6 f4 l8 i3 b8 k0 c7 b5 j3 i4 c0:Value}{lb id gb go len OQ gn N vS pl sz ms V sm wh:Nat}(hw:wh<N)
  (oH:∀τ d,Calls Tryz.prog 42 #[.pointer (some ⟨lb,0,none⟩),.int .i64 id] (q.re τ d) fun e w'=>e= .returned (.tuple #[.agg #[.int .i64 (len:Nat),.int .i64 (sz:Nat),.int .i64 (ms:Nat),.int .i64 (V:Nat),.int .i64 (sm:Nat),.int .i64 (N:Nat),.int .i64 (wh:Nat)],.int .i64 0])/\Below q.heap.size (q.re τ d) w')
  (h0:q.cell? ⟨pl,0,none⟩=some (.int .i64 sz))(h1:q.cell? ⟨pl,1,none⟩=some (.int .i64 ms))(h2:q.cell? ⟨pl,2,none⟩=some (.int .i64 V))
  (hend:∀τ d q',Below q.heap.size (q.re τ d) q'->aj Tryz.prog Sh (G ((base cfn).at (ca.put o.dst (.bool true)) (.inRegion bg aT::ck)) cs) q' Post):
  aj Tryz.prog Sh (G ((base 21).at ⟨#[.pointer (some ⟨lb,0,none⟩),.int .i64 id,.slice (some ⟨gb,go,none⟩) len OQ,.slice (some ⟨gn,0,none⟩) N vS,t4,t5,t6,t7,t8,t9,.pointer (some ⟨pl,0,none⟩),d3,m1,f5,.int .i64 (wh:Nat),.int .i64 (sm:Nat),a9,h5,b9,.slice none 0 0,.int .i64 7,l7,k9,j9,b4,l2,l9,l3,k4,e0,m2,d0,l4,l5,b3,m5,m7,m3,d5,c3,c1,f7,i0,c5,f2,e6,c8,k7,h7,d6,d8,j5,a6,d1,d7,i5,e1,e2,d9,e8,i6,e3,b6,f9,d4,e7,l1,g6,n2,n3,n0,m8,m9,n1,f1,d2,l0,k5,b7,g2,f3,i7,f0,e4,a7,g3,e5,i8,m6,j6,g4,j8,g9,j7,j4,i9,c9,m0,g8,m4,a5,j2,f6,g7,c6,h8,i2,g1,i1,h9,j0,f8,h6,j1,g5,g0,k6,c4,h4,a4,k8,e9,a8,l6,f4,l8,i3,b8,k0,c7,b5,j3,i4,c0],[]⟩ [.code (dP [1,1,1,1,1,1] (Tryz.f21.body.getD .skip))]) ((base cfn).at ca (.inRegion bg (ci::aT)::ck)::cs)) q Post:=by
 have HE:=hide hend;have HL:=hide oH
 clear hend oH;conv=>arg 3;simp only[Tryz.f21,Option.getD_some,dP]
 refine aj.bC ak (by kernel_rfl) fun τ d=>?_;have hLk:=hide (HL.out τ d);have hpl:pl<q.heap.size:=bG h0;have Sl:Hid (∀w5:World,Below q.heap.size (q.re τ d) w5->w5.cell? ⟨pl,0,none⟩=some (.int .i64 sz)/\w5.cell? ⟨pl,1,none⟩=some (.int .i64 ms)/\w5.cell? ⟨pl,2,none⟩=some (.int .i64 V)/\pl<w5.heap.size):=fun w5 hb=>⟨by rw[hb.cell (show pl<q.heap.size from hpl)];exact h0,by rw[hb.cell (show pl<q.heap.size from hpl)];exact h1,by rw[hb.cell (show pl<q.heap.size from hpl)];exact h2,Nat.lt_of_lt_of_le hpl hb.size⟩;have YH:Hid (∀w5:World,pl<w5.heap.size->∀o k,(w5.alloc o).cell? ⟨pl,k,none⟩=w5.cell? ⟨pl,k,none⟩):=fun w5 hl o k=>World.cell?_alloc_old _ _ _ (show pl≠w5.heap.size by omega);have hwi:(wh:Int)<(N:Int):=by omega
 go_wp2_with (go_at_call 42;refine hLk.out.mono ?_;rintro _ w5 ⟨rfl,hb5⟩;obtain⟨a0,a1,a2,a3⟩:=Sl.out w5 hb5;have b0:=(YH.out w5 a3 (.cells #[.int .i64 (len:Nat),.int .i64 (sz:Nat),.int .i64 (ms:Nat),.int .i64 (V:Nat),.int .i64 (sm:Nat),.int .i64 (N:Nat),.int .i64 (wh:Nat)] 93) 0).trans a0;have b1:=(YH.out w5 a3 (.cells #[.int .i64 (len:Nat),.int .i64 (sz:Nat),.int .i64 (ms:Nat),.int .i64 (V:Nat),.int .i64 (sm:Nat),.int .i64 (N:Nat),.int .i64 (wh:Nat)] 93) 1).trans a1;have b2:=(YH.out w5 a3 (.cells #[.int .i64 (len:Nat),.int .i64 (sz:Nat),.int .i64 (ms:Nat),.int .i64 (V:Nat),.int .i64 (sm:Nat),.int .i64 (N:Nat),.int .i64 (wh:Nat)] 93) 2).trans a2;replace hb5:=hide hb5)
 intro todo;exact aj.back ho Tryz.func21 (v:=.bool true) (by simp[results,Tryz.f21,go_sem]) (by simp[results,Tryz.f21]) (HE.out τ d _ (hb5.out.alloc hb5.out.size _))
theorem HZ{Sh:Nat->Prop}{Post:(Nat->Prop)->Goroutine->World->Prop}{q:World}{cfn:FuncId}{ca:Act}{bg:Array Oper}{ci:Nat}{aT:List Nat}{ck:List Item}{cs:List Frame}{o:Oper}(ho:bg[ci]? =some o){t4 t5 t6 t7 t8 t9 d3 m1 f5 a9 h5 b9 l7 k9 j9 b4 l2 l9 l3 k4 e0 m2 d0 l4 l5 b3 m5 m7 m3 d5 c3 c1 f7 i0 c5 f2 e6 c8 k7 h7 d6 d8 j5 a6 d1 d7 i5 e1 e2 d9 e8 i6 e3 b6 f9 d4 e7 l1 g6 n2 n3 n0 m8 m9 n1 f1 d2 l0 k5 b7 g2 f3 i7 f0 e4 a7 g3 e5 i8 m6 j6 g4 j8 g9 j7 j4 i9 c9 m0 g8 m4 a5 j2 f6 g7 c6 h8 i2 g1 i1 h9 j0 f8 h6 j1 g5 g0 k6 c4 h4 a4 k8 e9 a8 l6 f4 l8 i3 b8 k0 c7 b5 j3 i4 c0:Value}{lb id gb go g c2 len OQ gn N vS pl sz ms V sm wh:Nat}(hw:wh=N)(bs:List Nat)(hl:Hid (bs.length=len))(hg1:∀j,j<len->q.cell? ⟨g,j,none⟩=some (.int .u8 ((bs[j]?.getD 0:Nat):Int)))(hg2:∀j,j<len->q.cell? ⟨gb,go+j,none⟩=some (.int .u8 ((bs[j]?.getD 0:Nat):Int)))
  (oH:∀τ d,Calls Tryz.prog 42 #[.pointer (some ⟨lb,0,none⟩),.int .i64 id] (q.re τ d) fun e w'=>e= .returned (.tuple #[.agg #[.int .i64 (len:Nat),.int .i64 (sz:Nat),.int .i64 (ms:Nat),.int .i64 (V:Nat),.int .i64 (sm:Nat),.int .i64 (N:Nat),.int .i64 (wh:Nat)],.int .i64 0])/\Below q.heap.size (q.re τ d) w')
  (h0:q.cell? ⟨pl,0,none⟩=some (.int .i64 sz))(h1:q.cell? ⟨pl,1,none⟩=some (.int .i64 ms))(h2:q.cell? ⟨pl,2,none⟩=some (.int .i64 V))
  (hend:∀τ d q',Below q.heap.size (q.re τ d) q'->aj Tryz.prog Sh (G ((base cfn).at (ca.put o.dst (.bool true)) (.inRegion bg aT::ck)) cs) q' Post):
  aj Tryz.prog Sh (G ((base 21).at ⟨#[.pointer (some ⟨lb,0,none⟩),.int .i64 id,.slice (some ⟨gb,go,none⟩) len OQ,.slice (some ⟨gn,0,none⟩) N vS,t4,t5,t6,t7,t8,t9,.pointer (some ⟨pl,0,none⟩),d3,m1,f5,.int .i64 (wh:Nat),.int .i64 (sm:Nat),a9,h5,b9,.slice (some ⟨g,0,none⟩) len c2,.int .i64 0,l7,k9,j9,b4,l2,l9,l3,k4,e0,m2,d0,l4,l5,b3,m5,m7,m3,d5,c3,c1,f7,i0,c5,f2,e6,c8,k7,h7,d6,d8,j5,a6,d1,d7,i5,e1,e2,d9,e8,i6,e3,b6,f9,d4,e7,l1,g6,n2,n3,n0,m8,m9,n1,f1,d2,l0,k5,b7,g2,f3,i7,f0,e4,a7,g3,e5,i8,m6,j6,g4,j8,g9,j7,j4,i9,c9,m0,g8,m4,a5,j2,f6,g7,c6,h8,i2,g1,i1,h9,j0,f8,h6,j1,g5,g0,k6,c4,h4,a4,k8,e9,a8,l6,f4,l8,i3,b8,k0,c7,b5,j3,i4,c0],[]⟩ [.code (dP [1,1,1,1,1,1] (Tryz.f21.body.getD .skip))]) ((base cfn).at ca (.inRegion bg (ci::aT)::ck)::cs)) q Post:=by
 have HE:=hide hend;have HL:=hide oH
 clear hend oH;conv=>arg 3;simp only[Tryz.f21,Option.getD_some,dP]
 refine aj.bC ak (by kernel_rfl) fun τ d=>?_;have hLk:=hide (HL.out τ d);have hpl:pl<q.heap.size:=bG h0;have Sl:Hid (∀w5:World,Below q.heap.size (q.re τ d) w5->w5.cell? ⟨pl,0,none⟩=some (.int .i64 sz)/\w5.cell? ⟨pl,1,none⟩=some (.int .i64 ms)/\w5.cell? ⟨pl,2,none⟩=some (.int .i64 V)/\pl<w5.heap.size):=fun w5 hb=>⟨by rw[hb.cell (show pl<q.heap.size from hpl)];exact h0,by rw[hb.cell (show pl<q.heap.size from hpl)];exact h1,by rw[hb.cell (show pl<q.heap.size from hpl)];exact h2,Nat.lt_of_lt_of_le hpl hb.size⟩;have YH:Hid (∀w5:World,pl<w5.heap.size->∀o k,(w5.alloc o).cell? ⟨pl,k,none⟩=w5.cell? ⟨pl,k,none⟩):=fun w5 hl o k=>World.cell?_alloc_old _ _ _ (show pl≠w5.heap.size by omega);have hwi:¬(wh:Int)<(N:Int):=by omega
 replace hw:=hide hw;have hCv:Hid (∀w5:World,Below q.heap.size (q.re τ d) w5->∀o,(convert 28 9 (.slice (some ⟨g,0,none⟩) len c2)).run Tryz.prog (w5.alloc o)= .ok (.string (strOfNums (bs.map (fun n:Nat=>(n:Int))))) (w5.alloc o)/\(convert 28 9 (.slice (some ⟨gb,go,none⟩) len OQ)).run Tryz.prog (w5.alloc o)= .ok (.string (strOfNums (bs.map (fun n:Nat=>(n:Int))))) (w5.alloc o)):=fun w5 hb o=>by
  have kp:∀(a:Addr) (v:Value),q.cell? a=some v->(w5.alloc o).cell? a=some v:=fun a v h=>by
   have:=bG h;rw[World.cell?_alloc_old _ _ _ (by have:=hb.size;have e:(q.re τ d).heap.size=q.heap.size:=rfl;omega),hb.cell (show a.block<q.heap.size from this)];exact h
  exact⟨jZ hl.out (fun j hj=>kp _ _ (by rw[Nat.zero_add];exact hg1 j hj)),jZ hl.out (fun j hj=>kp _ _ (hg2 j hj))⟩
 generalize strOfNums (bs.map (fun n:Nat=>(n:Int)))=str at hCv;have Hl:=hide hg1;have Hl2:=hide hg2
 clear hg1 hg2;go_wp2_with (go_at_call 42;refine hLk.out.mono ?_;rintro _ w5 ⟨rfl,hb5⟩;obtain⟨a0,a1,a2,a3⟩:=Sl.out w5 hb5;have b0:=(YH.out w5 a3 (.cells #[.int .i64 (len:Nat),.int .i64 (sz:Nat),.int .i64 (ms:Nat),.int .i64 (V:Nat),.int .i64 (sm:Nat),.int .i64 (N:Nat),.int .i64 (wh:Nat)] 93) 0).trans a0;have b1:=(YH.out w5 a3 (.cells #[.int .i64 (len:Nat),.int .i64 (sz:Nat),.int .i64 (ms:Nat),.int .i64 (V:Nat),.int .i64 (sm:Nat),.int .i64 (N:Nat),.int .i64 (wh:Nat)] 93) 1).trans a1;have b2:=(YH.out w5 a3 (.cells #[.int .i64 (len:Nat),.int .i64 (sz:Nat),.int .i64 (ms:Nat),.int .i64 (V:Nat),.int .i64 (sm:Nat),.int .i64 (N:Nat),.int .i64 (wh:Nat)] 93) 2).trans a2;obtain⟨y1,y2⟩:=hCv.out w5 hb5 (.cells #[.int .i64 (len:Nat),.int .i64 (sz:Nat),.int .i64 (ms:Nat),.int .i64 (V:Nat),.int .i64 (sm:Nat),.int .i64 (N:Nat),.int .i64 (wh:Nat)] 93);replace hb5:=hide hb5)
 intro todo;exact aj.back ho Tryz.func21 (v:=.bool true) (by simp[results,Tryz.f21,go_sem]) (by simp[results,Tryz.f21]) (HE.out τ d _ (hb5.out.alloc hb5.out.size _))
end Go.Proofs.YtmfpiodlecapiaaGreatDoor
namespace Go.Proofs.YtmfpiodlecapiaaGreatDoor
theorem Ad(Kz:Nat->Nat)(V:Nat)(pa:Nat->Nat->Option Addr):∀N,kN Kz V pa N=N↔∀z,z<N->Kz z<=fF (pa z) (Kz z+V)
 |0=>⟨fun _ z h=>by omega,fun _=>rfl⟩
 |N+1=>by
  have ih:=Ad Kz V pa N;have hl:=qY Kz V pa N;simp only[kN];constructor
  ·intro h z hz;by_cases hc:Kz N<=fF (pa N) (Kz N+V)
   ·rw[if_pos hc]at h;by_cases e:z=N
    ·subst e;exact hc
    ·exact ih.1 (by omega) z (by omega)
   ·rw[if_neg hc]at h;omega
  ·intro h;rw[if_pos (h N (by omega)),ih.2 (fun z hz=>h z (by omega))]
theorem yT(pa:Nat->Option Addr)(K:Nat):∀V,fF pa (K+V)=fF pa K+fF (fun j=>pa (K+j)) V
 |0=>rfl
 |V+1=>by
  rw[<-Nat.add_assoc];simp only[fF,yT pa K V];omega
theorem xO(pa:Nat->Option Addr):∀n,(picks pa true n).length=fF pa n
 |0=>rfl
 |n+1=>by
  have:=xO pa n;simp only[fF,<-this,qK];cases pa n<;>simp
theorem uU(pa:Nat->Option Addr):∀n,(picks pa false n).length+fF pa n=n
 |0=>rfl
 |n+1=>by
  have:=uU pa n;simp only[fF,qK];cases pa n<;>simp<;>omega
theorem nG(pa:Nat->Option Addr)(K V:Nat):dV pa K V=true↔K<=fF pa (K+V):=by
 have h1:=xO (fun j=>pa (K+j)) V;have h2:=uU pa K;have h3:=yT pa K V;simp only[dV,decide_eq_true_eq];omega
open Go.Conc Go.ConcN Go.RowKit Go.bB Go.Ren Go.eO Go.Deep Go.iw
structure bR(Sh Sh':Nat->Prop)(p p':World):Prop where
 grown:p.heap.size<=p'.heap.size
 keep:∀(b:Nat) o,p.heap[b]? =some o->Live o->p'.heap[b]? =some o
 old:∀b,b<p.heap.size->¬Sh b->¬Sh' b/\p'.heap[b]? =p.heap[b]?
 os:p'.os=p.os
 output:p'.output=p.output
theorem oZ.T9{Sh Sh':Nat->Prop}{w w':World}{B lb mr:Nat}{D:List Nat}{S:Nat->Oj}{hd:Nat->Nat->Bool}{l:List (Nat×Nat)}{A:Nat->OD}(h:oZ w B lb mr D S hd l A)(ha:bR Sh Sh' w w'):oZ w' B lb mr D S hd l A:=by
 refine h.keep (CK.Vd ha.keep) ?_;obtain⟨es,clock,hm,_⟩:=h.map;rw[hm];exact ha.keep _ _ hm (fun _ _ e=>by cases e)
theorem Ho{Kz:Nat->Nat}{V:Nat}{pa:Nat->Nat->Option Addr}{N:Nat}(ok:Bool)(h:ok=true↔∀z,z<N->dV (pa z) (Kz z) V=true):ok=true↔kN Kz V pa N=N:=by
 rw[h,Ad];constructor
 ·intro h1 z hz;exact(nG _ _ _).1 (h1 z hz)
 ·intro h1 z hz;exact(nG _ _ _).2 (h1 z hz)
theorem Ri{w:World}{B lb mr:Nat}{D:List Nat}{S:Nat->Oj}{hd:Nat->Nat->Bool}{l:List (Nat×Nat)}{A:Nat->OD}(h:oZ w B lb mr D S hd l A){id ob:Nat}(hg:getM l id=some ob):
  Calls Tryz.prog 42 #[.pointer (some ⟨lb,0,none⟩),.int .i64 id] w fun e w'=>
   e= .returned (.tuple #[.agg #[.int .i64 (((S id).len:Nat)),.int .i64 (((S id).sz:Nat)),.int .i64 (((S id).ms:Nat)),.int .i64 (((S id).V:Nat)),.int .i64 ((nN (S id).K (S id).V (A id).pa (S id).N:Nat)),.int .i64 (((S id).N:Nat)),.int .i64 ((kN (S id).K (S id).V (A id).pa (S id).N:Nat))],.int .i64 0])/\Below w.heap.size w w':=by
 obtain⟨es,clock,hmap,hm⟩:=h.map;refine Jm mr lb id clock es l w (h.Yb.cell 0 _ rfl) hmap hm ob _ _ _ _ _ _ _ hg (fun w1 hb=>?_);have hO:=(h.obj id ob hg).keep (X:=fun _=>False) (CK.of_below hb) (fun _ h=>h.elim) (fun _ _ h=>h);have hB:=hO.blocks;exact I_ ob _ _ _ _ _ _ _ (S id).K (A id).pb (A id).pa (A id).pl (A id).pc hB.N2 (fun z hz=>by have:=hB.K2 z hz;have:=hB.V2;omega) w1 hO.row hB.cell (fun z hz j hj=>(hB.at_ z hz).row.cell _ _ (by simp[hj]))
theorem DZ{Sh:Nat->Prop}{Post:(Nat->Prop)->Goroutine->World->Prop}{p:World}{cfn:FuncId}{ca:Act}{bg:Array Oper}{ci:Nat}{aT:List Nat}{ck:List Item}{cs:List Frame}{o:Oper}(ho:bg[ci]? =some o){B lb mr id ob gn vS gh Gz gb OQ:Nat}{D:List Nat}{S:Nat->Oj}{hd:Nat->Nat->Bool}{l:List (Nat×Nat)}{A:Nat->OD}
  (hL:oZ p B lb mr D S hd l A)(ok:(S id).Ok)(hg:getM l id=some ob)
  (hn:aB p gn 3 (bW (S id).L))(hh:∀k,k<(S id).T->p.cell? ⟨gh,k,none⟩=some (.bool (hd id k)))(hb:∀j,j<(S id).len->p.cell? ⟨gb,0+j,none⟩=some (.int .u8 (((S id).obj[j]?.getD 0:Nat):Int)))
  (hend:∀(S':Nat->Prop) (p':World),bR Sh S' p p'->aj Tryz.prog S' (G ((base cfn).at (ca.put o.dst (.bool true)) (.inRegion bg aT::ck)) cs) p' Post):
  aj Tryz.prog Sh (G ((base 21).at ⟨#[.pointer (some ⟨lb,0,none⟩),.int .i64 id,.slice (some ⟨gb,0,none⟩) (S id).len OQ,.slice (some ⟨gn,0,none⟩) (S id).N vS,.agg #[.int .i64 (S id).sz,.int .i64 (S id).ms,.int .i64 (S id).V],.slice (some ⟨gh,0,none⟩) (S id).T Gz,undef,undef,undef,undef,undef,undef,undef,undef,undef,undef,undef,undef,undef,undef,undef,undef,undef,undef,undef,undef,undef,undef,undef,undef,undef,undef,undef,undef,undef,undef,undef,undef,undef,undef,undef,undef,undef,undef,undef,undef,undef,undef,undef,undef,undef,undef,undef,undef,undef,undef,undef,undef,undef,undef,undef,undef,undef,undef,undef,undef,undef,undef,undef,undef,undef,undef,undef,undef,undef,undef,undef,undef,undef,undef,undef,undef,undef,undef,undef,undef,undef,undef,undef,undef,undef,undef,undef,undef,undef,undef,undef,undef,undef,undef,undef,undef,undef,undef,undef,undef,undef,undef,undef,undef,undef,undef,undef,undef,undef,undef,undef,undef,undef,undef,undef,undef,undef,undef,undef,undef,undef,undef,undef,undef,undef,undef,undef,undef],[]⟩ [.code (Tryz.f21.body.getD .skip)]) ((base cfn).at ca (.inRegion bg (ci::aT)::ck)::cs)) p Post:=by
 have HE:=hide hend;clear hend;have hO:=hL.obj id ob hg;have hOB:=hO.blocks;have hK40:∀z,z<(S id).N->(S id).K z+(S id).V<=40:=fun z hz=>by have:=hOB.K2 z hz;have:=hOB.V2;omega
 obtain⟨es,clock,hmap,hm⟩:=hL.map;refine MP (pa:=(A id).pa) hOB.N2 hK40 ((S id).wE _ (Nat.le_refl _)) (fun z hz=>?_) (fun z hz j hj=>?_) ?_
 ·have hz':z<(S id).L.length:=hz;refine hn.cell _ _ ?_;simp[bW,Oj.K,hz']
 ·rw[(S id).wE z (Nat.le_of_lt hz),hO.heard z hz j hj];exact hh _ ((S id).xS hz hj)
 ·intros
  obtain⟨pl,hpl⟩:∃pl,pl=Obj.cells #[.int .i64 (S id).sz,.int .i64 (S id).ms,.int .i64 (S id).V] 35:=⟨_,rfl⟩;rw[<-hpl];have hb1:Below p.heap.size p (p.alloc pl):=(Below.refl _ _).alloc (Nat.le_refl _) _;have hL1:oZ (p.alloc pl) B lb mr D S hd l A:=hL.keep (CK.of_below hb1) (hb1.block _ (Array.getElem?_eq_some_iff.1 hmap).1);have Zb:=hL1.obj id ob hg;have Z_:(p.alloc pl).heap[mr]? =some (.map es clock):=by rw[hb1.block _ (Array.getElem?_eq_some_iff.1 hmap).1];exact hmap
  have hplr:(p.alloc pl).heap[p.heap.size]? =some pl:=blk_alloc_new _ _;refine PO hL1.Yb Z_ hm hg Zb.row Zb.blocks ok.F7 (fun S' q v v2 okb e hA hno hyes=>?_);have hA1:bR Sh S' p q:=by
   refine⟨?_,fun b o h1 h2=>?_,fun b h1 h2=>?_,hA.os.trans hb1.os,hA.output.trans hb1.output⟩
   ·have h1:=hA.grown;have h2:=hb1.size;omega
   ·exact hA.keep b o (by rw[hb1.block b (Array.getElem?_eq_some_iff.1 h1).1];exact h1) h2
   ·have:=hA.old b (by have:=hb1.size;omega) h2;exact⟨this.1,this.2.trans (hb1.block b h1)⟩
  have hLq:oZ q B lb mr D S hd l A:=hL.T9 hA1;have hq:q.heap[p.heap.size]? =some pl:=hA.keep _ _ hplr (fun e fz h=>by rw[hpl]at h;simp at h);rw[hpl]at hq;have oH:∀τ d,Calls Tryz.prog 42 #[.pointer (some ⟨lb,0,none⟩),.int .i64 id] (q.re τ d) fun e w'=>
   e= .returned (.tuple #[.agg #[.int .i64 (((S id).len:Nat)),.int .i64 (((S id).sz:Nat)),.int .i64 (((S id).ms:Nat)),.int .i64 (((S id).V:Nat)),.int .i64 ((nN (S id).K (S id).V (A id).pa (S id).N:Nat)),.int .i64 (((S id).N:Nat)),.int .i64 ((kN (S id).K (S id).V (A id).pa (S id).N:Nat))],.int .i64 0])/\Below q.heap.size (q.re τ d) w':=fun τ d=>by
   have:oZ (q.re τ d) B lb mr D S hd l A:=hLq.keep (fun b L e h _ _ _=>h) rfl;exact Ri this hg
  have h0:q.cell? ⟨p.heap.size,0,none⟩=some (.int .i64 (S id).sz):=by simp[World.cell?,hq]
  have h1:q.cell? ⟨p.heap.size,1,none⟩=some (.int .i64 (S id).ms):=by simp[World.cell?,hq]
  have h2:q.cell? ⟨p.heap.size,2,none⟩=some (.int .i64 (S id).V):=by simp[World.cell?,hq]
  have hwho:=Ho okb hA.whole;have hle:=qY (S id).K (S id).V (A id).pa (S id).N;have hend2:∀τ d q',Below q.heap.size (q.re τ d) q'->aj Tryz.prog S' (G ((base cfn).at (ca.put o.dst (.bool true)) (.inRegion bg aT::ck)) cs) q' Post:=fun τ d q' hbq=>by
   refine HE.out S' q' ⟨?_,fun b o h1 h2=>?_,fun b h1 h2=>?_,hbq.os.trans hA1.os,hbq.output.trans hA1.output⟩
   ·have h1:=hA1.grown;have h2:=hbq.size;have h3:(q.re τ d).heap.size=q.heap.size:=rfl;omega
   ·have:=hA1.keep b o h1 h2;rw[hbq.block b (Array.getElem?_eq_some_iff.1 this).1];exact this
   ·have:=hA1.old b h1 h2;refine⟨this.1,Eq.trans (hbq.block b (by have:=hA1.grown;omega)) this.2⟩
  clear HE;cases okb with
  |false=>
   obtain⟨rfl,rfl⟩:=hno rfl;have hne:kN (S id).K (S id).V (A id).pa (S id).N≠(S id).N:=fun h=>by have:=hwho.2 h;cases this
   exact MO ho (by omega) oH h0 h1 h2 hend2
  |true=>
   obtain⟨rfl,g,c,rfl,hc,hcell⟩:=hyes rfl;have hbq:∀j,j<(S id).len->q.cell? ⟨gb,0+j,none⟩=some (.int .u8 (((S id).obj[j]?.getD 0:Nat):Int)):=fun j hj=>by
    obtain⟨c,e,fz,k1,k2,k3⟩:=uo (hb j hj);have:=hA1.keep _ _ k1 k3;simpa[World.cell?,this]using k2
   exact HZ ho (hwho.1 rfl) (S id).obj (hide ok.obj) (fun j hj=>by rw[hcell j hj,ok.LD hj]) hbq oH h0 h1 h2 hend2
open Go.RowKit Go.Deep
attribute [local go_sem↓] Go.wp_at_zero Go.wp_at_succ
theorem xY(w:World):Calls Tryz.prog 16 #[] w fun e w'=>e= .returned (.pointer (some ⟨w.heap.size+1,0,none⟩))/\w'=(w.alloc (.map #[] 0)).alloc (.cells #[.map (some w.heap.size)] 82):=by
 have hmk:(Instr.makeMap 80 none).run Tryz.prog w= .ok (.map (some w.heap.size)) (w.alloc (.map #[] 0)):=rfl;have hsz:(w.alloc (.map #[] 0)).heap.size=w.heap.size+1:=by simp
 go_enter Tryz.func16,Tryz.ntmps16;go_wp2;go_ret;exact⟨by simp,rfl⟩
end Go.Proofs.YtmfpiodlecapiaaGreatDoor
