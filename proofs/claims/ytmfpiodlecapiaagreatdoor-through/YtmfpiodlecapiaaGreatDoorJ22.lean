import Derived.Test.YtmfpiodlecapiaaGreatDoorJ21
set_option linter.unusedSimpArgs false
set_option maxHeartbeats 2000000
set_option maxRecDepth 100000
namespace Go.Proofs.YtmfpiodlecapiaaGreatDoor
open Go.Proofs.Tryz
section
open Go.RowKit Go.Deep
theorem OU(b off n cap c1 c2 c3 c4 c5 c6 c7 c8 c9 L Z s:Nat)(dj:n<=cap)(h1:c1<256)(h2:c2<256)(h3:c3<256)(h4:c4<256)(h5:c5<256)(h6:c6<256)(h7:c7<256)(h8:c8<256)(h9:c9<256)(w:World)
  (d0:w.cell? ⟨b,off,none⟩=some (.int .u8 70))(d1:w.cell? ⟨b,off+1,none⟩=some (.int .u8 c1))(d2:w.cell? ⟨b,off+2,none⟩=some (.int .u8 c2))(d3:w.cell? ⟨b,off+3,none⟩=some (.int .u8 c3))(d4:w.cell? ⟨b,off+4,none⟩=some (.int .u8 c4))(d5:w.cell? ⟨b,off+5,none⟩=some (.int .u8 c5))
  (d6:w.cell? ⟨b,off+6,none⟩=some (.int .u8 c6))(d7:w.cell? ⟨b,off+7,none⟩=some (.int .u8 c7))(d8:w.cell? ⟨b,off+8,none⟩=some (.int .u8 c8))(d9:w.cell? ⟨b,off+9,none⟩=some (.int .u8 c9))
  (hL:Hid (L=256*c3+c4))(hl:L<=2000)(p1:1<=c5)(p2:c5<=16)(p3:1<=c6)(p4:c6<=20)(p5:c7<=20)(hZ:Hid (Cut.blocks (Cut.pieces L c5) c6=Z))(oT:Z<=256)(hz:c8<Z)(hs:Hid ((Cut.sizes L c5 c6)[c8]? =some s))(eM:s<=20)(hq:c9<s+c7)(hn:Hid (n=10+c5)):
  Calls prog 35 #[.slice (some ⟨b,off,none⟩) n cap] w fun r w'=>r= .returned (.tuple #[dU (256*c1+c2) L c5 c6 c7 c8 c9,.slice (some ⟨b,off+10,none⟩) (n-10) (cap-10)])/\Below w.heap.size w w':=by
 have cy:=hide (((Below.refl w.heap.size w).alloc (Nat.le_refl _) (.cells #[.int .i64 0,.int .i64 0,.int .i64 0,.int .i64 0,.int .i64 0,.int .i64 0,.int .i64 0] 76)));have k10:(10:Int)<(n:Int):=by have:=hn.out;omega
 have k0:(0:Int)<(n:Int):=by omega
 have RH:=hide (fC b off n cap c1 c2 c3 c4 c5 c6 c7 c8 c9 (by omega) h1 h2 h3 h4 h5 h6 h7 h8 h9);have CB:=hide (fun w=>(cO L c5 c6 c7 hl p1 p2 p3 p4 p5 w).1 (by rw[hZ.out];exact oT));rw[hZ.out]at CB;have D1:=hide d1;have D2:=hide d2;have D3:=hide d3;have D4:=hide d4;have D5:=hide d5;have D6:=hide d6;have D7:=hide d7;have D8:=hide d8;have D9:=hide d9
 replace d0:=cell_later cy.out d0;clear d1 d2 d3 d4 d5 d6 d7 d8 d9;unfold dU at RH;rw[<-hL.out]at RH;go_enter func35,ntmps35;go_wp2_with first|(go_at_call 68;refine(gH _).mono ?_;rintro _ wq ⟨rfl,hq⟩;have cI:=hq.symm;clear hq;subst cI)|(go_at_call 69;refine(RH.out _ (cell_later cy.out D1.out) (cell_later cy.out D2.out) (cell_later cy.out D3.out) (cell_later cy.out D4.out) (cell_later cy.out D5.out) (cell_later cy.out D6.out) (cell_later cy.out D7.out) (cell_later cy.out D8.out) (cell_later cy.out D9.out)).mono ?_;rintro _ w1 ⟨rfl,bp⟩;replace bp:=hide bp)
 go_at_call 29
 refine(CB.out _).mono ?_;rintro _ w2 ⟨g,hg,rfl,cq,dE⟩;have R1:=(aK w1 _ _).later cq;have iz:Hid (Below w.heap.size w w2):=by
  show Below _ _ _;have h1:=cy.out.trans (bp.out.mono cy.out.size);exact(h1.alloc h1.size _).trans (cq.mono (by simp;have:=h1.size;omega))
 have q1:=R1.cell 1 _ rfl;have q2:=R1.cell 2 _ rfl;have q3:=R1.cell 3 _ rfl;have q4:=R1.cell 4 _ rfl;have q5:=R1.cell 5 _ rfl;have q6:=R1.cell 6 _ rfl;have q0:=R1.cell 0 _ rfl;have qs:w2.cell? ⟨g,c8,none⟩=some (.int .i64 s):=dE.cell c8 _ (by simp only[dF,List.getElem?_map,hs.out];rfl);have e8:(c8:Int)<(Z:Int):=by omega
 have w9:=aH ((s:Int)+(c7:Int)) (by omega) (by omega);have e9:decide ((c9:Int)<(s:Int)+(c7:Int))=true:=by simp;omega
 have en:(n:Int)=10+(c5:Int):=by have:=hn.out;omega
 have R0:Hid (aB w2 w.heap.size 76 [.int .i64 0,.int .i64 0,.int .i64 0,.int .i64 0,.int .i64 0,.int .i64 0,.int .i64 0]):=by
  show aB _ _ _ _;exact(((aK w _ _).later bp.out).alloc _).later cq
 have i_:=hide R1;clear R1 cq dE hg bp;go_wp2_with (go_at_call 68;refine(gH _).mono ?_;rintro _ wq ⟨rfl,hq⟩;have cI:=hq.symm;clear hq;subst cI)
 go_quiet ((go_at_call 68;exact Calls.quiet_of_same (gH _)))
 have iS:=i_.out.drewN nq;have R3:=R0.out.drewN nq;have pS:Hid (Below w.heap.size w (w2.drewN nq)):=by
  show Below _ _ _;exact⟨iz.out.os,iz.out.tape,iz.out.output,iz.out.size,iz.out.block⟩
 generalize w2.drewN nq=w3 at iS R3 pS⊢;clear q0 q1 q2 q3 q4 q5 q6 qs;have q0:=iS.cell 0 _ rfl;have q1:=iS.cell 1 _ rfl;have q2:=iS.cell 2 _ rfl;have q3:=iS.cell 3 _ rfl;have q4:=iS.cell 4 _ rfl;have q5:=iS.cell 5 _ rfl;have q6:=iS.cell 6 _ rfl;have g0:=R3.cell 0 _ rfl;have g1:=R3.cell 1 _ rfl;have g2:=R3.cell 2 _ rfl;have g3:=R3.cell 3 _ rfl;have g4:=R3.cell 4 _ rfl;have g5:=R3.cell 5 _ rfl;have g6:=R3.cell 6 _ rfl;have f0:=R3.frozen 0;have f1:=R3.frozen 1;have f2:=R3.frozen 2;have f3:=R3.frozen 3;have f4:=R3.frozen 4;have f5:=R3.frozen 5;have f6:=R3.frozen 6;have HRH:=hide iS;have V1:=hide R3
 clear iS R3;go_wp2_with (go_at_call 68;refine(gH _).mono ?_;rintro _ wq ⟨rfl,hq⟩;have cI:=hq.symm;clear hq;subst cI)
 go_region
 have R4:=((((((((V1.out.set 0 (.int .i64 (256*(c1:Int)+(c2:Int)))).set 1 (.int .i64 (L:Int))).set 2 (.int .i64 (c5:Int))).set 3 (.int .i64 (c6:Int))).set 4 (.int .i64 (c7:Int))).set 5 (.int .i64 (c8:Int))).set 6 (.int .i64 (c9:Int))).drew);have B4:Hid (Below w.heap.size w ((((((((w3.setCell ⟨w.heap.size,0,none⟩ (.int .i64 (256*(c1:Int)+(c2:Int)))).setCell ⟨w.heap.size,1,none⟩ (.int .i64 (L:Int))).setCell ⟨w.heap.size,2,none⟩ (.int .i64 (c5:Int))).setCell ⟨w.heap.size,3,none⟩ (.int .i64 (c6:Int))).setCell ⟨w.heap.size,4,none⟩ (.int .i64 (c7:Int))).setCell ⟨w.heap.size,5,none⟩ (.int .i64 (c8:Int))).setCell ⟨w.heap.size,6,none⟩ (.int .i64 (c9:Int))).drew)):=by
  show Below _ _ _;exact(((((((pS.out.setCell (Nat.le_refl _) _).setCell (Nat.le_refl _) _).setCell (Nat.le_refl _) _).setCell (Nat.le_refl _) _).setCell (Nat.le_refl _) _).setCell (Nat.le_refl _) _).setCell (Nat.le_refl _) _).drew
 generalize (((((((w3.setCell ⟨w.heap.size,0,none⟩ _).setCell ⟨w.heap.size,1,none⟩ _).setCell ⟨w.heap.size,2,none⟩ _).setCell ⟨w.heap.size,3,none⟩ _).setCell ⟨w.heap.size,4,none⟩ _).setCell ⟨w.heap.size,5,none⟩ _).setCell ⟨w.heap.size,6,none⟩ _).drew=w4 at R4 B4⊢;clear f0 f1 f2 f3 f4 f5 f6 g0 g1 g2 g3 g4 g5 g6 q0 q1 q2 q3 q4 q5 q6;have g0:=R4.cell 0 _ rfl;have g1:=R4.cell 1 _ rfl;have g2:=R4.cell 2 _ rfl;have g3:=R4.cell 3 _ rfl;have g4:=R4.cell 4 _ rfl;have g5:=R4.cell 5 _ rfl;have g6:=R4.cell 6 _ rfl;clear R4;go_wp2;refine bodyPost_ret (v:=.tuple #[dU (256*c1+c2) L c5 c6 c7 c8 c9,.slice (some ⟨b,off+10,none⟩) (n-10) (cap-10)]) (by simp[results,results35,go_sem,dU,g0,g1,g2,g3,g4,g5,g6]) rfl ⟨rfl,B4.out⟩
theorem Es(ao:Option Addr)(n cap:Nat)(hn:n<=10)(w:World):
  Calls prog 35 #[.slice ao n cap] w fun r w'=>r= .panicked [{v:=bq 2,recovered:=false}]/\Below w.heap.size w w':=by
 have cy:=hide (((Below.refl w.heap.size w).alloc (Nat.le_refl _) (.cells #[.int .i64 0,.int .i64 0,.int .i64 0,.int .i64 0,.int .i64 0,.int .i64 0,.int .i64 0] 76)));have k10:¬(10:Int)<(n:Int):=by omega
 go_enter func35,ntmps35;go_wp2_with (go_at_call 68;refine(nL _).mono ?_;rintro _ wq ⟨rfl,hq⟩;have cI:=hq.symm;clear hq;subst cI)
 exact⟨rfl,rfl,cy.out⟩
theorem Gz(b off n cap c0:Nat)(hn:10<n)(h0:c0≠70)(w:World)(d0:w.cell? ⟨b,off,none⟩=some (.int .u8 c0)):
  Calls prog 35 #[.slice (some ⟨b,off,none⟩) n cap] w fun r w'=>r= .panicked [{v:=bq 2,recovered:=false}]/\Below w.heap.size w w':=by
 have cy:=hide (((Below.refl w.heap.size w).alloc (Nat.le_refl _) (.cells #[.int .i64 0,.int .i64 0,.int .i64 0,.int .i64 0,.int .i64 0,.int .i64 0,.int .i64 0] 76)));have k10:(10:Int)<(n:Int):=by omega
 have k0:(0:Int)<(n:Int):=by omega
 have e0:((c0:Int)==70)=false:=by simp;omega
 replace d0:=cell_later cy.out d0;go_enter func35,ntmps35;go_wp2_with (go_at_call 68;refine(nL _).mono ?_;rintro _ wq ⟨rfl,hq⟩;have cI:=hq.symm;clear hq;subst cI)
 exact⟨rfl,rfl,cy.out⟩
theorem yK(b off n cap c1 c2 c3 c4 c5 c6 c7 c8 c9 L:Nat)(hn:10<n)(h1:c1<256)(h2:c2<256)(h3:c3<256)(h4:c4<256)(h5:c5<256)(h6:c6<256)(h7:c7<256)(h8:c8<256)(h9:c9<256)(w:World)
  (d0:w.cell? ⟨b,off,none⟩=some (.int .u8 70))(d1:w.cell? ⟨b,off+1,none⟩=some (.int .u8 c1))(d2:w.cell? ⟨b,off+2,none⟩=some (.int .u8 c2))(d3:w.cell? ⟨b,off+3,none⟩=some (.int .u8 c3))(d4:w.cell? ⟨b,off+4,none⟩=some (.int .u8 c4))(d5:w.cell? ⟨b,off+5,none⟩=some (.int .u8 c5))
  (d6:w.cell? ⟨b,off+6,none⟩=some (.int .u8 c6))(d7:w.cell? ⟨b,off+7,none⟩=some (.int .u8 c7))(d8:w.cell? ⟨b,off+8,none⟩=some (.int .u8 c8))(d9:w.cell? ⟨b,off+9,none⟩=some (.int .u8 c9))(hL:Hid (L=256*c3+c4))(hp:¬(0<=(L:Int)/\(L:Int)<=2000/\jW (c5:Int) (c6:Int) (c7:Int))):
  Calls prog 35 #[.slice (some ⟨b,off,none⟩) n cap] w fun r w'=>r= .panicked [{v:=bq 2,recovered:=false}]/\Below w.heap.size w w':=by
 have cy:=hide (((Below.refl w.heap.size w).alloc (Nat.le_refl _) (.cells #[.int .i64 0,.int .i64 0,.int .i64 0,.int .i64 0,.int .i64 0,.int .i64 0,.int .i64 0] 76)));have k10:(10:Int)<(n:Int):=by omega
 have k0:(0:Int)<(n:Int):=by omega
 have RH:=hide (fC b off n cap c1 c2 c3 c4 c5 c6 c7 c8 c9 hn h1 h2 h3 h4 h5 h6 h7 h8 h9);have CB:=hide (fun w=>uL (L:Int) (c5:Int) (c6:Int) (c7:Int) hp w);clear hp;have D1:=hide d1;have D2:=hide d2;have D3:=hide d3;have D4:=hide d4;have D5:=hide d5;have D6:=hide d6;have D7:=hide d7;have D8:=hide d8;have D9:=hide d9
 replace d0:=cell_later cy.out d0;clear d1 d2 d3 d4 d5 d6 d7 d8 d9;unfold dU at RH;rw[<-hL.out]at RH;go_enter func35,ntmps35;go_wp2_with first|(go_at_call 68;refine(gH _).mono ?_;rintro _ wq ⟨rfl,hq⟩;have cI:=hq.symm;clear hq;subst cI)|(go_at_call 69;refine(RH.out _ (cell_later cy.out D1.out) (cell_later cy.out D2.out) (cell_later cy.out D3.out) (cell_later cy.out D4.out) (cell_later cy.out D5.out) (cell_later cy.out D6.out) (cell_later cy.out D7.out) (cell_later cy.out D8.out) (cell_later cy.out D9.out)).mono ?_;rintro _ w1 ⟨rfl,bp⟩;replace bp:=hide bp)
 go_at_call 29
 refine(CB.out _).mono ?_;rintro _ w2 ⟨rfl,cq⟩;have iz:Hid (Below w.heap.size w w2):=by
  show Below _ _ _;have h1:=cy.out.trans (bp.out.mono cy.out.size);exact(h1.alloc h1.size _).trans (cq.mono (by simp;have:=h1.size;omega))
 clear cq bp;go_wp2_with (go_at_call 68;refine(nL _).mono ?_;rintro _ wq ⟨rfl,hq⟩;have cI:=hq.symm;clear hq;subst cI)
 exact⟨rfl,rfl,iz.out⟩
theorem GD(b off n cap c1 c2 c3 c4 c5 c6 c7 c8 c9 L:Nat)(hn:10<n)(h1:c1<256)(h2:c2<256)(h3:c3<256)(h4:c4<256)(h5:c5<256)(h6:c6<256)(h7:c7<256)(h8:c8<256)(h9:c9<256)(w:World)
  (d0:w.cell? ⟨b,off,none⟩=some (.int .u8 70))(d1:w.cell? ⟨b,off+1,none⟩=some (.int .u8 c1))(d2:w.cell? ⟨b,off+2,none⟩=some (.int .u8 c2))(d3:w.cell? ⟨b,off+3,none⟩=some (.int .u8 c3))(d4:w.cell? ⟨b,off+4,none⟩=some (.int .u8 c4))(d5:w.cell? ⟨b,off+5,none⟩=some (.int .u8 c5))
  (d6:w.cell? ⟨b,off+6,none⟩=some (.int .u8 c6))(d7:w.cell? ⟨b,off+7,none⟩=some (.int .u8 c7))(d8:w.cell? ⟨b,off+8,none⟩=some (.int .u8 c8))(d9:w.cell? ⟨b,off+9,none⟩=some (.int .u8 c9))(hL:Hid (L=256*c3+c4))(hl:L<=2000)(p1:1<=c5)(p2:c5<=16)(p3:1<=c6)(p4:c6<=20)(p5:c7<=20)(hZ:¬Cut.blocks (Cut.pieces L c5) c6<=256):
  Calls prog 35 #[.slice (some ⟨b,off,none⟩) n cap] w fun r w'=>r= .panicked [{v:=bq 2,recovered:=false}]/\Below w.heap.size w w':=by
 have cy:=hide (((Below.refl w.heap.size w).alloc (Nat.le_refl _) (.cells #[.int .i64 0,.int .i64 0,.int .i64 0,.int .i64 0,.int .i64 0,.int .i64 0,.int .i64 0] 76)));have k10:(10:Int)<(n:Int):=by omega
 have k0:(0:Int)<(n:Int):=by omega
 have RH:=hide (fC b off n cap c1 c2 c3 c4 c5 c6 c7 c8 c9 hn h1 h2 h3 h4 h5 h6 h7 h8 h9);have CB:=hide (fun w=>(cO L c5 c6 c7 hl p1 p2 p3 p4 p5 w).2 hZ);clear hZ;have D1:=hide d1;have D2:=hide d2;have D3:=hide d3;have D4:=hide d4;have D5:=hide d5;have D6:=hide d6;have D7:=hide d7;have D8:=hide d8;have D9:=hide d9
 replace d0:=cell_later cy.out d0;clear d1 d2 d3 d4 d5 d6 d7 d8 d9;unfold dU at RH;rw[<-hL.out]at RH;go_enter func35,ntmps35;go_wp2_with first|(go_at_call 68;refine(gH _).mono ?_;rintro _ wq ⟨rfl,hq⟩;have cI:=hq.symm;clear hq;subst cI)|(go_at_call 69;refine(RH.out _ (cell_later cy.out D1.out) (cell_later cy.out D2.out) (cell_later cy.out D3.out) (cell_later cy.out D4.out) (cell_later cy.out D5.out) (cell_later cy.out D6.out) (cell_later cy.out D7.out) (cell_later cy.out D8.out) (cell_later cy.out D9.out)).mono ?_;rintro _ w1 ⟨rfl,bp⟩;replace bp:=hide bp)
 go_at_call 29
 refine(CB.out _).mono ?_;rintro _ w2 ⟨rfl,cq⟩;have iz:Hid (Below w.heap.size w w2):=by
  show Below _ _ _;have h1:=cy.out.trans (bp.out.mono cy.out.size);exact(h1.alloc h1.size _).trans (cq.mono (by simp;have:=h1.size;omega))
 clear cq bp;go_wp2_with (go_at_call 68;refine(nL _).mono ?_;rintro _ wq ⟨rfl,hq⟩;have cI:=hq.symm;clear hq;subst cI)
 exact⟨rfl,rfl,iz.out⟩
theorem Eu(b off n cap c1 c2 c3 c4 c5 c6 c7 c8 c9 L Z:Nat)(hn:10<n)(h1:c1<256)(h2:c2<256)(h3:c3<256)(h4:c4<256)(h5:c5<256)(h6:c6<256)(h7:c7<256)(h8:c8<256)(h9:c9<256)(w:World)
  (d0:w.cell? ⟨b,off,none⟩=some (.int .u8 70))(d1:w.cell? ⟨b,off+1,none⟩=some (.int .u8 c1))(d2:w.cell? ⟨b,off+2,none⟩=some (.int .u8 c2))(d3:w.cell? ⟨b,off+3,none⟩=some (.int .u8 c3))(d4:w.cell? ⟨b,off+4,none⟩=some (.int .u8 c4))(d5:w.cell? ⟨b,off+5,none⟩=some (.int .u8 c5))
  (d6:w.cell? ⟨b,off+6,none⟩=some (.int .u8 c6))(d7:w.cell? ⟨b,off+7,none⟩=some (.int .u8 c7))(d8:w.cell? ⟨b,off+8,none⟩=some (.int .u8 c8))(d9:w.cell? ⟨b,off+9,none⟩=some (.int .u8 c9))(hL:Hid (L=256*c3+c4))(hl:L<=2000)(p1:1<=c5)(p2:c5<=16)(p3:1<=c6)(p4:c6<=20)(p5:c7<=20)(hZ:Hid (Cut.blocks (Cut.pieces L c5) c6=Z))(oT:Z<=256)(hz:¬c8<Z):
  Calls prog 35 #[.slice (some ⟨b,off,none⟩) n cap] w fun r w'=>r= .panicked [{v:=bq 2,recovered:=false}]/\Below w.heap.size w w':=by
 have cy:=hide (((Below.refl w.heap.size w).alloc (Nat.le_refl _) (.cells #[.int .i64 0,.int .i64 0,.int .i64 0,.int .i64 0,.int .i64 0,.int .i64 0,.int .i64 0] 76)));have k10:(10:Int)<(n:Int):=by omega
 have k0:(0:Int)<(n:Int):=by omega
 have RH:=hide (fC b off n cap c1 c2 c3 c4 c5 c6 c7 c8 c9 hn h1 h2 h3 h4 h5 h6 h7 h8 h9);have CB:=hide (fun w=>(cO L c5 c6 c7 hl p1 p2 p3 p4 p5 w).1 (by rw[hZ.out];exact oT));rw[hZ.out]at CB;have D1:=hide d1;have D2:=hide d2;have D3:=hide d3;have D4:=hide d4;have D5:=hide d5;have D6:=hide d6;have D7:=hide d7;have D8:=hide d8;have D9:=hide d9
 replace d0:=cell_later cy.out d0;clear d1 d2 d3 d4 d5 d6 d7 d8 d9;unfold dU at RH;rw[<-hL.out]at RH;go_enter func35,ntmps35;go_wp2_with first|(go_at_call 68;refine(gH _).mono ?_;rintro _ wq ⟨rfl,hq⟩;have cI:=hq.symm;clear hq;subst cI)|(go_at_call 69;refine(RH.out _ (cell_later cy.out D1.out) (cell_later cy.out D2.out) (cell_later cy.out D3.out) (cell_later cy.out D4.out) (cell_later cy.out D5.out) (cell_later cy.out D6.out) (cell_later cy.out D7.out) (cell_later cy.out D8.out) (cell_later cy.out D9.out)).mono ?_;rintro _ w1 ⟨rfl,bp⟩;replace bp:=hide bp)
 go_at_call 29
 refine(CB.out _).mono ?_;rintro _ w2 ⟨g,hg,rfl,cq,dE⟩;have R1:=(aK w1 _ _).later cq;have iz:Hid (Below w.heap.size w w2):=by
  show Below _ _ _;have h1:=cy.out.trans (bp.out.mono cy.out.size);exact(h1.alloc h1.size _).trans (cq.mono (by simp;have:=h1.size;omega))
 have q1:=R1.cell 1 _ rfl;have q2:=R1.cell 2 _ rfl;have q3:=R1.cell 3 _ rfl;have q4:=R1.cell 4 _ rfl;have q5:=R1.cell 5 _ rfl;have q6:=R1.cell 6 _ rfl;have q0:=R1.cell 0 _ rfl;have e8:¬(c8:Int)<(Z:Int):=by omega
 clear R1 cq dE hg bp;go_wp2_with first|(go_at_call 68;refine(gH _).mono ?_;rintro _ wq ⟨rfl,hq⟩;have cI:=hq.symm;clear hq;subst cI)|(go_at_call 68;refine(nL _).mono ?_;rintro _ wq ⟨rfl,hq⟩;have cI:=hq.symm;clear hq;subst cI)
 exact⟨rfl,rfl,iz.out⟩
theorem Et(b off n cap c1 c2 c3 c4 c5 c6 c7 c8 c9 L Z s:Nat)(hn:10<n)(h1:c1<256)(h2:c2<256)(h3:c3<256)(h4:c4<256)(h5:c5<256)(h6:c6<256)(h7:c7<256)(h8:c8<256)(h9:c9<256)(w:World)
  (d0:w.cell? ⟨b,off,none⟩=some (.int .u8 70))(d1:w.cell? ⟨b,off+1,none⟩=some (.int .u8 c1))(d2:w.cell? ⟨b,off+2,none⟩=some (.int .u8 c2))(d3:w.cell? ⟨b,off+3,none⟩=some (.int .u8 c3))(d4:w.cell? ⟨b,off+4,none⟩=some (.int .u8 c4))(d5:w.cell? ⟨b,off+5,none⟩=some (.int .u8 c5))
  (d6:w.cell? ⟨b,off+6,none⟩=some (.int .u8 c6))(d7:w.cell? ⟨b,off+7,none⟩=some (.int .u8 c7))(d8:w.cell? ⟨b,off+8,none⟩=some (.int .u8 c8))(d9:w.cell? ⟨b,off+9,none⟩=some (.int .u8 c9))(hL:Hid (L=256*c3+c4))(hl:L<=2000)(p1:1<=c5)(p2:c5<=16)(p3:1<=c6)(p4:c6<=20)(p5:c7<=20)(hZ:Hid (Cut.blocks (Cut.pieces L c5) c6=Z))(oT:Z<=256)(hz:c8<Z)(hs:Hid ((Cut.sizes L c5 c6)[c8]? =some s))(eM:s<=20)(hq:¬c9<s+c7):
  Calls prog 35 #[.slice (some ⟨b,off,none⟩) n cap] w fun r w'=>r= .panicked [{v:=bq 2,recovered:=false}]/\Below w.heap.size w w':=by
 have cy:=hide (((Below.refl w.heap.size w).alloc (Nat.le_refl _) (.cells #[.int .i64 0,.int .i64 0,.int .i64 0,.int .i64 0,.int .i64 0,.int .i64 0,.int .i64 0] 76)));have k10:(10:Int)<(n:Int):=by omega
 have k0:(0:Int)<(n:Int):=by omega
 have RH:=hide (fC b off n cap c1 c2 c3 c4 c5 c6 c7 c8 c9 hn h1 h2 h3 h4 h5 h6 h7 h8 h9);have CB:=hide (fun w=>(cO L c5 c6 c7 hl p1 p2 p3 p4 p5 w).1 (by rw[hZ.out];exact oT));rw[hZ.out]at CB;have D1:=hide d1;have D2:=hide d2;have D3:=hide d3;have D4:=hide d4;have D5:=hide d5;have D6:=hide d6;have D7:=hide d7;have D8:=hide d8;have D9:=hide d9
 replace d0:=cell_later cy.out d0;clear d1 d2 d3 d4 d5 d6 d7 d8 d9;unfold dU at RH;rw[<-hL.out]at RH;go_enter func35,ntmps35;go_wp2_with first|(go_at_call 68;refine(gH _).mono ?_;rintro _ wq ⟨rfl,hq⟩;have cI:=hq.symm;clear hq;subst cI)|(go_at_call 69;refine(RH.out _ (cell_later cy.out D1.out) (cell_later cy.out D2.out) (cell_later cy.out D3.out) (cell_later cy.out D4.out) (cell_later cy.out D5.out) (cell_later cy.out D6.out) (cell_later cy.out D7.out) (cell_later cy.out D8.out) (cell_later cy.out D9.out)).mono ?_;rintro _ w1 ⟨rfl,bp⟩;replace bp:=hide bp)
 go_at_call 29
 refine(CB.out _).mono ?_;rintro _ w2 ⟨g,hg,rfl,cq,dE⟩;have R1:=(aK w1 _ _).later cq;have iz:Hid (Below w.heap.size w w2):=by
  show Below _ _ _;have h1:=cy.out.trans (bp.out.mono cy.out.size);exact(h1.alloc h1.size _).trans (cq.mono (by simp;have:=h1.size;omega))
 have q1:=R1.cell 1 _ rfl;have q2:=R1.cell 2 _ rfl;have q3:=R1.cell 3 _ rfl;have q4:=R1.cell 4 _ rfl;have q5:=R1.cell 5 _ rfl;have q6:=R1.cell 6 _ rfl;have q0:=R1.cell 0 _ rfl;have qs:w2.cell? ⟨g,c8,none⟩=some (.int .i64 s):=dE.cell c8 _ (by simp only[dF,List.getElem?_map,hs.out];rfl);have e8:(c8:Int)<(Z:Int):=by omega
 have w9:=aH ((s:Int)+(c7:Int)) (by omega) (by omega);have i_:=hide R1;have Cl:=hide dE;have e9:decide ((c9:Int)<(s:Int)+(c7:Int))=false:=by simp;omega
 clear R1 cq dE hg bp;go_wp2_with (go_at_call 68;refine(gH _).mono ?_;rintro _ wq ⟨rfl,hq⟩;have cI:=hq.symm;clear hq;subst cI)
 refine wp_region_held_drew (S:=fun w'=>Below w2.heap.size w2 w') (by kernel_rfl) ((Below.refl _ _).drew) (fun kh=>?_);refine wpAnyH_take (i:=0) (v:=?v1) rfl (by kernel_rfl) (by kernel_rfl) (by kernel_rfl) (fun _ _ _ h=>h) (Or.inl ⟨by rfl,?sA⟩) (by assumption) ?rest1
 case sA=>(intro wz bz;go_simp;try (with_reducible rfl))
 try go_frame
 refine wpAnyH_take (i:=1) (v:=?v2) rfl (by kernel_rfl) (by kernel_rfl) (by kernel_rfl) (fun _ _ _ h=>h) (Or.inl ⟨by rfl,?sx⟩) (by assumption) ?rest2
 case sx=>(intro wz bz;have eR:=cell_later bz q6;go_simp;try (with_reducible rfl))
 try go_frame
 refine wpAnyH_take (i:=2) (v:=?v3) rfl (by kernel_rfl) (by kernel_rfl) (by kernel_rfl) (fun _ _ _ h=>h) (Or.inl ⟨by rfl,?CI⟩) (by assumption) ?rest3
 case CI=>(intro wz bz;go_simp;try (with_reducible rfl))
 try go_frame
 refine wpAnyH_take (i:=3) (v:=?v4) rfl (by kernel_rfl) (by kernel_rfl) (by kernel_rfl) (fun _ _ _ h=>h) (Or.inl ⟨by rfl,?CE⟩) (by assumption) ?rest4
 case CE=>(intro wz bz;go_simp;try (with_reducible rfl))
 try go_frame
 refine wpAnyH_take (i:=4) (v:=?v5) rfl (by kernel_rfl) (by kernel_rfl) (by kernel_rfl) (fun _ _ _ h=>h) (Or.inl ⟨by rfl,?CC⟩) (by assumption) ?rest5
 case CC=>(intro wz bz;have eR:=cell_later bz q5;go_simp;try (with_reducible rfl))
 try go_frame
 refine wpAnyH_take (i:=5) (v:=?v6) rfl (by kernel_rfl) (by kernel_rfl) (by kernel_rfl) (fun _ _ _ h=>h) (Or.inl ⟨by rfl,?Cz⟩) (by assumption) ?rest6
 case Cz=>(intro wz bz;go_simp;try (with_reducible rfl))
 try go_frame
 refine wpAnyH_take (i:=6) (v:=?v7) rfl (by kernel_rfl) (by kernel_rfl) (by kernel_rfl) (fun _ _ _ h=>h) (Or.inl ⟨by rfl,?Cy⟩) (by assumption) ?rest7
 case Cy=>(intro wz bz;have eR:=cell_later bz qs;go_simp;try (with_reducible rfl))
 try go_frame
 refine wpAnyH_take (i:=7) (v:=?v8) rfl (by kernel_rfl) (by kernel_rfl) (by kernel_rfl) (fun _ _ _ h=>h) (Or.inl ⟨by rfl,?Cw⟩) (by assumption) ?rest8
 case Cw=>(intro wz bz;go_simp;try (with_reducible rfl))
 try go_frame
 refine wpAnyH_take (i:=8) (v:=?v9) rfl (by kernel_rfl) (by kernel_rfl) (by kernel_rfl) (fun _ _ _ h=>h) (Or.inl ⟨by rfl,?Cv⟩) (by assumption) ?rest9
 case Cv=>(intro wz bz;go_simp;try (with_reducible rfl))
 try go_frame
 refine wpAnyH_take (i:=9) (v:=?v10) rfl (by kernel_rfl) (by kernel_rfl) (by kernel_rfl) (fun _ _ _ h=>h) (Or.inl ⟨by rfl,?qS⟩) (by assumption) ?rest10
 case qS=>(intro wz bz;have eR:=cell_later bz q4;go_simp;try (with_reducible rfl))
 try go_frame
 refine wpAnyH_take (i:=10) (v:=?v11) rfl (by kernel_rfl) (by kernel_rfl) (by kernel_rfl) (fun _ _ _ h=>h) (Or.inl ⟨by rfl,?qv⟩) (by assumption) ?rest11
 case qv=>(intro wz bz;go_simp;try (with_reducible rfl))
 try go_frame
 refine wpAnyH_take (i:=11) (v:=?v12) rfl (by kernel_rfl) (by kernel_rfl) (by kernel_rfl) (fun _ _ _ h=>h) (Or.inl ⟨by rfl,?qu⟩) (by assumption) ?rest12
 case qu=>(intro wz bz;go_simp;try (with_reducible rfl))
 try go_frame
 refine wpAnyH_ready (rs:= [12]) (by kernel_rfl) (by simp) ?_;refine AllReadyH.cons rfl (fun K hK=>?_) ?_
 .go_simp;go_at_call 68
  refine(nL _).mono ?_;rintro _ wq ⟨rfl,hq⟩;have cI:=hq.symm;clear hq;subst cI;go_wp2_with fail
  exact⟨rfl,rfl,iz.out.drew⟩
 exact AllReadyH.nil
theorem Bn(b off n cap c1 c2 c3 c4 c5 c6 c7 c8 c9 L Z s:Nat)(hn:10<n)(h1:c1<256)(h2:c2<256)(h3:c3<256)(h4:c4<256)(h5:c5<256)(h6:c6<256)(h7:c7<256)(h8:c8<256)(h9:c9<256)(w:World)
  (d0:w.cell? ⟨b,off,none⟩=some (.int .u8 70))(d1:w.cell? ⟨b,off+1,none⟩=some (.int .u8 c1))(d2:w.cell? ⟨b,off+2,none⟩=some (.int .u8 c2))(d3:w.cell? ⟨b,off+3,none⟩=some (.int .u8 c3))(d4:w.cell? ⟨b,off+4,none⟩=some (.int .u8 c4))(d5:w.cell? ⟨b,off+5,none⟩=some (.int .u8 c5))
  (d6:w.cell? ⟨b,off+6,none⟩=some (.int .u8 c6))(d7:w.cell? ⟨b,off+7,none⟩=some (.int .u8 c7))(d8:w.cell? ⟨b,off+8,none⟩=some (.int .u8 c8))(d9:w.cell? ⟨b,off+9,none⟩=some (.int .u8 c9))(hL:Hid (L=256*c3+c4))(hl:L<=2000)(p1:1<=c5)(p2:c5<=16)(p3:1<=c6)(p4:c6<=20)(p5:c7<=20)(hZ:Hid (Cut.blocks (Cut.pieces L c5) c6=Z))(oT:Z<=256)(hz:c8<Z)(hs:Hid ((Cut.sizes L c5 c6)[c8]? =some s))(eM:s<=20)(hq:c9<s+c7)(tW:¬n=10+c5):
  Calls prog 35 #[.slice (some ⟨b,off,none⟩) n cap] w fun r w'=>r= .panicked [{v:=bq 2,recovered:=false}]/\Below w.heap.size w w':=by
 have cy:=hide (((Below.refl w.heap.size w).alloc (Nat.le_refl _) (.cells #[.int .i64 0,.int .i64 0,.int .i64 0,.int .i64 0,.int .i64 0,.int .i64 0,.int .i64 0] 76)));have k10:(10:Int)<(n:Int):=by omega
 have k0:(0:Int)<(n:Int):=by omega
 have RH:=hide (fC b off n cap c1 c2 c3 c4 c5 c6 c7 c8 c9 hn h1 h2 h3 h4 h5 h6 h7 h8 h9);have CB:=hide (fun w=>(cO L c5 c6 c7 hl p1 p2 p3 p4 p5 w).1 (by rw[hZ.out];exact oT));rw[hZ.out]at CB;have D1:=hide d1;have D2:=hide d2;have D3:=hide d3;have D4:=hide d4;have D5:=hide d5;have D6:=hide d6;have D7:=hide d7;have D8:=hide d8;have D9:=hide d9
 replace d0:=cell_later cy.out d0;clear d1 d2 d3 d4 d5 d6 d7 d8 d9;unfold dU at RH;rw[<-hL.out]at RH;go_enter func35,ntmps35;go_wp2_with first|(go_at_call 68;refine(gH _).mono ?_;rintro _ wq ⟨rfl,hq⟩;have cI:=hq.symm;clear hq;subst cI)|(go_at_call 69;refine(RH.out _ (cell_later cy.out D1.out) (cell_later cy.out D2.out) (cell_later cy.out D3.out) (cell_later cy.out D4.out) (cell_later cy.out D5.out) (cell_later cy.out D6.out) (cell_later cy.out D7.out) (cell_later cy.out D8.out) (cell_later cy.out D9.out)).mono ?_;rintro _ w1 ⟨rfl,bp⟩;replace bp:=hide bp)
 go_at_call 29
 refine(CB.out _).mono ?_;rintro _ w2 ⟨g,hg,rfl,cq,dE⟩;have R1:=(aK w1 _ _).later cq;have iz:Hid (Below w.heap.size w w2):=by
  show Below _ _ _;have h1:=cy.out.trans (bp.out.mono cy.out.size);exact(h1.alloc h1.size _).trans (cq.mono (by simp;have:=h1.size;omega))
 have q1:=R1.cell 1 _ rfl;have q2:=R1.cell 2 _ rfl;have q3:=R1.cell 3 _ rfl;have q4:=R1.cell 4 _ rfl;have q5:=R1.cell 5 _ rfl;have q6:=R1.cell 6 _ rfl;have q0:=R1.cell 0 _ rfl;have qs:w2.cell? ⟨g,c8,none⟩=some (.int .i64 s):=dE.cell c8 _ (by simp only[dF,List.getElem?_map,hs.out];rfl);have e8:(c8:Int)<(Z:Int):=by omega
 have w9:=aH ((s:Int)+(c7:Int)) (by omega) (by omega);have i_:=hide R1;have Cl:=hide dE;have e9:decide ((c9:Int)<(s:Int)+(c7:Int))=true:=by simp;omega
 have en:((n:Int)==10+(c5:Int))=false:=by simp;omega
 clear R1 cq dE hg bp tW;go_wp2_with (go_at_call 68;refine(gH _).mono ?_;rintro _ wq ⟨rfl,hq⟩;have cI:=hq.symm;clear hq;subst cI)
 go_quiet ((go_at_call 68;exact Calls.quiet_of_same (gH _)))
 have iS:=i_.out.drewN nq;have pS:Hid (Below w.heap.size w (w2.drewN nq)):=by
  show Below _ _ _;exact⟨iz.out.os,iz.out.tape,iz.out.output,iz.out.size,iz.out.block⟩
 generalize w2.drewN nq=w3 at iS pS⊢;clear q0 q1 q2 q3 q4 q5 q6 qs;have q2:=iS.cell 2 _ rfl;clear iS;go_wp2_with (go_at_call 68;refine(nL _).mono ?_;rintro _ wq ⟨rfl,hq⟩;have cI:=hq.symm;clear hq;subst cI)
 exact⟨rfl,rfl,pS.out⟩
theorem LJ{s m p:Nat}:jW (s:Int) (m:Int) (p:Int)↔(1<=s/\s<=16)/\(1<=m/\m<=20)/\p<=20:=by
 unfold jW;omega
theorem Ig{L s m z:Nat}(hm:1<=m)(hz:z<Cut.blocks (Cut.pieces L s) m):∃k,(Cut.sizes L s m)[z]? =some k/\1<=k/\k<=m:=by
 have ai:z<(Cut.sizes L s m).length:=by rw[Cut.iV];exact hz
 exact⟨_,List.getElem?_eq_getElem ai,Cut.kE hm _ (List.getElem_mem ai)⟩
def zX(l:List Nat):Value:=dU (256*l[1]?.getD 0+l[2]?.getD 0) (256*l[3]?.getD 0+l[4]?.getD 0) (l[5]?.getD 0) (l[6]?.getD 0) (l[7]?.getD 0) (l[8]?.getD 0) (l[9]?.getD 0)
theorem jF(b off n cap:Nat)(l:List Nat)(w:World)(h:mF w (some ⟨b,off,none⟩) n l)(dj:n<=cap)(hp:Tx.bT l):
  Calls prog 35 #[.slice (some ⟨b,off,none⟩) n cap] w fun r w'=>r= .returned (.tuple #[zX l,.slice (some ⟨b,off+10,none⟩) (n-10) (cap-10)])/\Below w.heap.size w w':=by
 obtain⟨hl,hb,hc⟩:=h;obtain⟨p0,p1,p2,p3,p4,p5,p6,p7,p8,p9⟩:=hp;obtain⟨b',off',e,hc⟩:=hc (by omega);injection e with e;injection e with e1 e2;subst e1 e2;have dr:=hc 0 (by omega);rw[p1,Nat.add_zero]at dr;have lt:∀i,i<n->l[i]?.getD 0<256:=fun i hi=>getD_lt hb (by omega);obtain⟨s,hs,dC,eM⟩:=Ig (by omega) p7;rw[hs]at p8;exact OU b off n cap _ _ _ _ _ _ _ _ _ _ _ s dj (lt 1 (by omega)) (lt 2 (by omega)) (lt 3 (by omega)) (lt 4 (by omega)) (lt 5 (by omega)) (lt 6 (by omega)) (lt 7 (by omega)) (lt 8 (by omega)) (lt 9 (by omega)) w dr (hc 1 (by omega)) (hc 2 (by omega)) (hc 3 (by omega)) (hc 4 (by omega)) (hc 5 (by omega)) (hc 6 (by omega)) (hc 7 (by omega)) (hc 8 (by omega)) (hc 9 (by omega)) (hide rfl) p2 p3.1 p3.2 p4.1 p4.2 p5 (hide rfl) p6 p7 (hide hs) (by omega) p8 (hide (by omega))
theorem wG(ao:Option Addr)(n cap:Nat)(l:List Nat)(w:World)(h:mF w ao n l)(hp:¬Tx.bT l):
  Calls prog 35 #[.slice ao n cap] w fun r w'=>r= .panicked [{v:=bq 2,recovered:=false}]/\Below w.heap.size w w':=by
 obtain⟨hl,hb,di⟩:=h;by_cases hn:n<=10
 .exact Es ao n cap hn w
 obtain⟨b,off,rfl,hc⟩:=di (by omega);have ey:=hc 0 (by omega);rw[Nat.add_zero]at ey;by_cases h0:l[0]?.getD 0=70
 .have lt:∀i,i<n->l[i]?.getD 0<256:=fun i hi=>getD_lt hb (by omega);rw[h0]at ey;obtain⟨L,hL⟩:∃L,L=256*l[3]?.getD 0+l[4]?.getD 0:=⟨_,rfl⟩;by_cases hq:L<=2000/\(1<=l[5]?.getD 0/\l[5]?.getD 0<=16)/\(1<=l[6]?.getD 0/\l[6]?.getD 0<=20)/\l[7]?.getD 0<=20
  .obtain⟨q1,q2,q3,q4⟩:=hq;by_cases hZ:Cut.blocks (Cut.pieces L (l[5]?.getD 0)) (l[6]?.getD 0)<=256
   .by_cases hz:l[8]?.getD 0<Cut.blocks (Cut.pieces L (l[5]?.getD 0)) (l[6]?.getD 0)
    .obtain⟨s,hs,dC,eM⟩:=Ig (by omega) hz;by_cases Rc:l[9]?.getD 0<s+l[7]?.getD 0
     .have tW:¬n=10+l[5]?.getD 0:=fun e=>hp (by
       unfold Tx.bT;rw[<-hL];exact⟨by omega,h0,q1,q2,q3,q4,hZ,hz,by rw[hs];exact Rc,by omega⟩)
      exact Bn b off n cap _ _ _ _ _ _ _ _ _ L _ s (by omega) (lt 1 (by omega)) (lt 2 (by omega)) (lt 3 (by omega)) (lt 4 (by omega)) (lt 5 (by omega)) (lt 6 (by omega)) (lt 7 (by omega)) (lt 8 (by omega)) (lt 9 (by omega)) w ey (hc 1 (by omega)) (hc 2 (by omega)) (hc 3 (by omega)) (hc 4 (by omega)) (hc 5 (by omega)) (hc 6 (by omega)) (hc 7 (by omega)) (hc 8 (by omega)) (hc 9 (by omega)) (hide hL) q1 q2.1 q2.2 q3.1 q3.2 q4 (hide rfl) hZ hz (hide hs) (by omega) Rc tW
     .exact Et b off n cap _ _ _ _ _ _ _ _ _ L _ s (by omega) (lt 1 (by omega)) (lt 2 (by omega)) (lt 3 (by omega)) (lt 4 (by omega)) (lt 5 (by omega)) (lt 6 (by omega)) (lt 7 (by omega)) (lt 8 (by omega)) (lt 9 (by omega)) w ey (hc 1 (by omega)) (hc 2 (by omega)) (hc 3 (by omega)) (hc 4 (by omega)) (hc 5 (by omega)) (hc 6 (by omega)) (hc 7 (by omega)) (hc 8 (by omega)) (hc 9 (by omega)) (hide hL) q1 q2.1 q2.2 q3.1 q3.2 q4 (hide rfl) hZ hz (hide hs) (by omega) Rc
    .exact Eu b off n cap _ _ _ _ _ _ _ _ _ L _ (by omega) (lt 1 (by omega)) (lt 2 (by omega)) (lt 3 (by omega)) (lt 4 (by omega)) (lt 5 (by omega)) (lt 6 (by omega)) (lt 7 (by omega)) (lt 8 (by omega)) (lt 9 (by omega)) w ey (hc 1 (by omega)) (hc 2 (by omega)) (hc 3 (by omega)) (hc 4 (by omega)) (hc 5 (by omega)) (hc 6 (by omega)) (hc 7 (by omega)) (hc 8 (by omega)) (hc 9 (by omega)) (hide hL) q1 q2.1 q2.2 q3.1 q3.2 q4 (hide rfl) hZ hz
   .exact GD b off n cap _ _ _ _ _ _ _ _ _ L (by omega) (lt 1 (by omega)) (lt 2 (by omega)) (lt 3 (by omega)) (lt 4 (by omega)) (lt 5 (by omega)) (lt 6 (by omega)) (lt 7 (by omega)) (lt 8 (by omega)) (lt 9 (by omega)) w ey (hc 1 (by omega)) (hc 2 (by omega)) (hc 3 (by omega)) (hc 4 (by omega)) (hc 5 (by omega)) (hc 6 (by omega)) (hc 7 (by omega)) (hc 8 (by omega)) (hc 9 (by omega)) (hide hL) q1 q2.1 q2.2 q3.1 q3.2 q4 hZ
  .refine yK b off n cap _ _ _ _ _ _ _ _ _ L (by omega) (lt 1 (by omega)) (lt 2 (by omega)) (lt 3 (by omega)) (lt 4 (by omega)) (lt 5 (by omega)) (lt 6 (by omega)) (lt 7 (by omega)) (lt 8 (by omega)) (lt 9 (by omega)) w ey (hc 1 (by omega)) (hc 2 (by omega)) (hc 3 (by omega)) (hc 4 (by omega)) (hc 5 (by omega)) (hc 6 (by omega)) (hc 7 (by omega)) (hc 8 (by omega)) (hc 9 (by omega)) (hide hL) (fun hx=>hq ?_);rw[LJ]at hx;exact⟨by omega,hx.2.2⟩
 .exact Gz b off n cap _ (by omega) h0 w ey
attribute [local go_sem↓] Go.wp_at_zero Go.wp_at_succ
section
variable {P:Program} (w:World)
theorem Gq{ops:Array Oper}{rest:List Oper}{o:Oper}{a:Act}{Q:Exit->Act->World->Prop}(k_:o.guard=none)(s x:Operand)(t:TypeId)
  (ho:o.op= .call {callee:=.builtin .append,args:=#[s,x],argTypes:=#[t,t]})
  (e:TypeId)(i:TypeInfo)(z:Value)(bytes:Nat)(ht:P.underlying t=some (.slice e))(hi:P.info? e=some i)(hz:i.zero=some z)(db:i.size=1)(lR:i.bytes=bytes)(rK:z.cells=#[z])
  (g:Nat)(hs:a.eval s= .slice (some ⟨g,0,none⟩) 0 0)(ad:Addr)(m c:Nat)(news:List Value)(hx:a.eval x= .slice (some ad) m c)(hl:news.length=m)(oe:1<=m)(eC:∀j u,news[j]? =some u->w.cell? (ad.add j)=some u)
  (lB:m<=maxLen)(dy:m*bytes<=140737488355328)
  (h:∀c',m<=c'->c'<=maxLen->wpList P ops Q rest (a.put o.dst (.slice (some ⟨w.heap.size,0,none⟩) m c')) (w.drew.alloc (.cells (news++List.replicate (c'-m) z).toArray e))):wpList P ops Q (o::rest) a w:=by
 refine wpList_plain k_ fun K hK=>?_;subst hl;subst lR;have lr:news.length=news.length*i.size:=by rw[db,Nat.mul_one]
 have rI:news.length<=9223372036854775807:=by simp only[maxLen]at lB;omega
 have hr:=run_append_grow (P:=P) w t o.type e i z ht hi hz ⟨g,0,none⟩ 0 0 [] (by simp) (by intro j u hu;simp at hu) ad news.length c news lr eC (by omega) (by omega) (growslice_fits (by omega) (by simpa using dy));have eJ:=grownCap_ge w (0+news.length) 0 e;have hle:=grownCap_le_maxLen w (0+news.length) 0 e (by simpa using lB);unfold Oper.wp execOp;simp only[ho,resolve,invoke,builtin,Sem.run_bind,Sem.run_pure,Result.andThen_ok,List.map_toArray,List.map_cons,List.map_nil,hs,hx,hr];have cY:=h (grownCap w (0+news.length) 0 e) (by omega) hle;have hzc:∀k,(Builtin.zeroCells z.cells k).toList=List.replicate k z:=fun k=>by
  rw[rK];apply List.ext_getElem
  .simp[size_zeroCells]
  .intro j h1 h2;simp only[Builtin.zeroCells,Array.getElem_toList,Array.getElem_map,Array.getElem_range,List.getElem_replicate];have e:j%(#[z]:Array Value).size=0:=Nat.mod_one _;rw[e];rfl
 refine hK _ _ ?_;have e1:(#[]++news.toArray++Builtin.zeroCells z.cells (grownCap w (0+news.length) 0 e-(0+news.length)):Array Value)=(news++List.replicate (grownCap w (0+news.length) 0 e-news.length) z).toArray:=by
  apply Array.ext';simp[hzc]
 have e2:wpList P ops Q rest (a.put o.dst (.slice (some ⟨w.heap.size,0,none⟩) (0+news.length) (grownCap w (0+news.length) 0 e))) (w.drew.alloc (.cells (#[]++news.toArray++Builtin.zeroCells z.cells (grownCap w (0+news.length) 0 e-(0+news.length))) e)):=by
  rw[e1];have e3:0+news.length=news.length:=Nat.zero_add _;rw[e3]at cY⊢;exact cY
 exact e2
end
theorem JI(b off n cap:Nat)(bs:List Nat)(hl:Hid (bs.length=n))(ta:1<=n)(hn:n<=65536)(w:World)(hc:∀j,j<n->w.cell? ⟨b,off+j,none⟩=some (.int .u8 ((bs[j]?.getD 0:Nat):Int))):
  Calls prog 129 #[.slice (some ⟨b,off,none⟩) n cap] w fun e w'=>
   ∃c,e= .returned (.slice (some ⟨w.heap.size+1,0,none⟩) n c)/\n<=c/\c<=maxLen/\aB w' (w.heap.size+1) 5 (bO (bs++List.replicate (c-n) 0))/\Below w.heap.size w w':=by
 obtain⟨i0,hi,ep,cJ,cW⟩:=info_parts Tryz.infoByte;have hC:Hid (∀j u,(bO bs)[j]? =some u->(w.alloc (.cells #[] 5)).cell? ((⟨b,off,none⟩:Addr).add j)=some u):=fun j u hu=>by
  have hj:j<bs.length:=by have:=(List.getElem?_eq_some_iff.1 hu).1;rw[aP]at this;exact this
  have h1:=hc j (by rw[<-hl.out];exact hj);rw[gX hj]at hu;rw[Addr.add_lit,World.cell?_alloc_old _ _ _ (by have:=bR h1;simp only at this⊢;omega),<-hu];exact h1
 clear hc;have he:∀w,Sem.run prog (binOp .eql 28 (.slice (some ⟨b,off,none⟩) n cap) (.slice none 0 0)) w= .ok (.bool false) w:=by
  intro w;exact Go.Lib.run_eql_slice_nil w _ _ _ _ _ _ _ underlying28
 go_enter func129,ntmps129;go_wp2_with (at_builtin;refine Gq _ rfl _ _ 28 rfl 5 i0 (.int .u8 0) 1 underlying28 hi ep cJ cW rfl w.heap.size rfl ⟨b,off,none⟩ n cap (bO bs) rfl (by rw[aP];exact hl.out) ta hC.out (by simp[maxLen];omega) (by omega) ?_)
 intro c h1 h2;go_wp2;go_ret;refine⟨c,?_,h1,h2,?_,?_⟩
 .simp
 .have:=iG (w.alloc (.cells #[] 5)).drew (bO bs++List.replicate (c-n) (.int .u8 0)) 5;have e0:(w.alloc (.cells #[] 5)).drew.heap.size=w.heap.size+1:=by simp
  rw[e0]at this;have e1:bO (bs++List.replicate (c-n) 0)=bO bs++List.replicate (c-n) (.int .u8 0):=by simp[bO]
  rw[e1];exact this
 .exact(((Below.refl _ w).alloc (Nat.le_refl _) _).drew).alloc (by simp) _
end
section
open Go.RowKit Go.Deep
attribute [local go_sem↓] Go.wp_at_zero Go.wp_at_succ
theorem eY{w:World}{b off n cap:Nat}{bs:List Nat}(hl:bs.length=n)(hc:∀j,j<n->w.cell? ⟨b,off+j,none⟩=some (.int .u8 ((bs[j]?.getD 0:Nat):Int))):
  (convert 28 9 (.slice (some ⟨b,off,none⟩) n cap)).run prog w= .ok (.string (strOfNums (bs.map (fun n:Nat=>(n:Int))))) w:=by
 refine run_convert_bytes_arg w 28 5 underlying28 underlying5 b off n cap (bs.map (fun n:Nat=>(n:Int))) (by simpa using hl) ?_ 9 underlying9;intro i hi;rw[hc i hi];simp[List.getD,hl▸hi]
theorem I6:∀{bs cs:List Nat},(∀x∈bs,x<256)->(∀x∈cs,x<256)->bs.map (fun n=>UInt8.ofNat n)=cs.map (fun n=>UInt8.ofNat n)->bs=cs
 | [],[],_,_,_=>rfl
 | [],_::_,_,_,h=>by simp at h
 |_::_,[],_,_,h=>by simp at h
 |a::bs,c::cs,h1,h2,h=>by
  simp only[List.map_cons,List.cons.injEq]at h;have e:=congrArg UInt8.toNat h.1;have ha:=h1 a (by simp);have hc:=h2 c (by simp);simp only[UInt8.toNat_ofNat']at e;rw[Nat.mod_eq_of_lt ha,Nat.mod_eq_of_lt hc]at e;rw[e,I6 (fun x hx=>h1 x (by simp[hx])) (fun x hx=>h2 x (by simp[hx])) h.2]
theorem kI(s:ByteArray):s.toList=s.data.toList:=by rw[ByteArray.toList_eq]
theorem str_eq{bs cs:List Nat}(h1:∀x∈bs,x<256)(h2:∀x∈cs,x<256):((strOfNums (bs.map (fun n:Nat=>(n:Int)))).toList==(strOfNums (cs.map (fun n:Nat=>(n:Int)))).toList)=decide (bs=cs):=by
 by_cases e:bs=cs
 .rw[e];simp
 .rw[decide_eq_false e,beq_eq_false_iff_ne];intro e';rw[kI,kI,strOfNums_data,strOfNums_data,List.map_map,List.map_map]at e';exact e (I6 h1 h2 e')
theorem M8(b off n cap b2 off2 cap2:Nat)(bs cs:List Nat)(hl:Hid (bs.length=n))(fS:Hid (cs.length=n))(h1:∀x∈bs,x<256)(h2:∀x∈cs,x<256)(w:World)(hc:∀j,j<n->w.cell? ⟨b,off+j,none⟩=some (.int .u8 ((bs[j]?.getD 0:Nat):Int)))(ef:∀j,j<n->w.cell? ⟨b2,off2+j,none⟩=some (.int .u8 ((cs[j]?.getD 0:Nat):Int))):
  Calls prog 128 #[.slice (some ⟨b,off,none⟩) n cap,.slice (some ⟨b2,off2,none⟩) n cap2] w fun e w'=>e= .returned (.bool (decide (bs=cs)))/\w'=w:=by
 have q1:=eY (cap:=cap) hl.out hc;have q2:=eY (cap:=cap2) fS.out ef;have q3:=str_eq h1 h2;generalize strOfNums (bs.map (fun n:Nat=>(n:Int)))=str at q1 q3;generalize strOfNums (cs.map (fun n:Nat=>(n:Int)))=str2 at q2 q3;clear hc ef hl fS h1 h2;go_enter func128,ntmps128;go_wp2;go_ret;exact⟨by rw[<-q3];rfl,rfl⟩
def dP(w:World)(ob len sz ms V bb N cap:Nat):Prop:=w.heap[ob]? =some (.cells #[.int .i64 len,.int .i64 sz,.int .i64 ms,.int .i64 V,.slice (some ⟨bb,0,none⟩) N cap] 101)
theorem OG(ob len sz ms V bb N cap id z n pb m s gb go g_:Nat)(row:List Value)(bs:List Nat)(hz:z<N)(hn:n<m)(dC:1<=s)(hs:s<=65536)(hl:Hid (bs.length=s))(w:World)(fH:dP w ob len sz ms V bb N cap)(Sy:w.cell? ⟨bb,z,none⟩=some (.slice (some ⟨pb,0,none⟩) m m))(cj:aB w pb 28 row)(nF:row[n]? =some (.slice none 0 0))
  (hp:∀j,j<s->w.cell? ⟨gb,go+j,none⟩=some (.int .u8 ((bs[j]?.getD 0:Nat):Int))):
  Calls prog 83 #[.pointer (some ⟨ob,0,none⟩),dU id len sz ms V z n,.slice (some ⟨gb,go,none⟩) s g_] w fun e w'=>
   e= .returned (.bool true)/\∃g c,w.heap.size<=g/\s<=c/\c<=maxLen/\aB w' g 5 (bO (bs++List.replicate (c-s) 0))/\aB w' pb 28 (row.set n (.slice (some ⟨g,0,none⟩) s c))/\Kp (fun b=>b=pb) w w':=by
 unfold dU;have Jh:w.cell? ⟨ob,0,none⟩=some (.int .i64 len):=by unfold dP at fH;simp[World.cell?,fH]
 have Jg:w.cell? ⟨ob,1,none⟩=some (.int .i64 sz):=by unfold dP at fH;simp[World.cell?,fH]
 have Jf:w.cell? ⟨ob,2,none⟩=some (.int .i64 ms):=by unfold dP at fH;simp[World.cell?,fH]
 have Je:w.cell? ⟨ob,3,none⟩=some (.int .i64 V):=by unfold dP at fH;simp[World.cell?,fH]
 have UN:w.cell? ⟨ob,4,none⟩=some (.slice (some ⟨bb,0,none⟩) N cap):=by unfold dP at fH;simp[World.cell?,fH]
 have HP:=hide hp;have HR:=hide cj;have HN:=hide nF;have HB:=hide Sy
 have UM:w.cell? ⟨pb,n,none⟩=some (.slice none 0 0):=cj.cell n _ nF;clear hp cj nF fH;go_enter func83,ntmps83;have cC:(w.alloc (.cells #[.int .i64 id,.int .i64 len,.int .i64 sz,.int .i64 ms,.int .i64 V,.int .i64 z,.int .i64 n] 76)).heap.size=w.heap.size+1:=by simp
 have fa:Below w.heap.size w (w.alloc (.cells #[.int .i64 id,.int .i64 len,.int .i64 sz,.int .i64 ms,.int .i64 V,.int .i64 z,.int .i64 n] 76)):=(Below.refl _ _).alloc (Nat.le_refl _) _;have hH:=aK w #[.int .i64 id,.int .i64 len,.int .i64 sz,.int .i64 ms,.int .i64 V,.int .i64 z,.int .i64 n] 76;go_wp2;obtain⟨w1,dm⟩:∃w1,w1=w.alloc (.cells #[.int .i64 id,.int .i64 len,.int .i64 sz,.int .i64 ms,.int .i64 V,.int .i64 z,.int .i64 n] 76):=⟨_,rfl⟩;rw[<-dm]at cC fa hH⊢;clear dm;obtain⟨hb,WI⟩:∃hb,hb=w.heap.size:=⟨_,rfl⟩;have keep:∀(a:Addr) (v:Value),w.cell? a=some v->w1.cell? a=some v:=fun a v h=>by
  rw[fa.cell (by exact bR h)];exact h
 have k0:=keep _ _ Jh;have k1:=keep _ _ Jg;have k2:=keep _ _ Jf;have k3:=keep _ _ Je;have k4:=keep _ _ UN
 have k5:=keep _ _ HB.out;have k6:=keep _ _ UM
 have r1:aB w1 pb 28 row:=HR.out.below fa HR.out.lt;have gC:=r1.frozen n;rw[<-WI]at hH⊢;have h0:=hH.cell 0 _ rfl;have h1:=hH.cell 1 _ rfl;have h2:=hH.cell 2 _ rfl;have h3:=hH.cell 3 _ rfl;have h4:=hH.cell 4 _ rfl;have h5:=hH.cell 5 _ rfl;have h6:=hH.cell 6 _ rfl
 have i_:=hide r1;have dk:=hide fa;have WM:=hide cC;have Hhb:=hide WI
 have Wp:Hid (∀j,j<s->w1.cell? ⟨gb,go+j,none⟩=some (.int .u8 ((bs[j]?.getD 0:Nat):Int))):=fun j hj=>keep _ _ (HP.out j hj);clear keep r1 fa cC WI hH Jh Jg Jf Je UN UM HP HB;have ep:(0:Int)<=(z:Int):=by omega
 have cJ:(z:Int)<(N:Int):=by omega
 have My:(0:Int)<=(n:Int):=by omega
 have ta:(n:Int)<(m:Int):=by omega
 go_quiet ((go_at_call 81;exact Calls.quiet_of_same (kK _ _)))
 obtain⟨w2,qc⟩:∃w2,w2=w1.drewN nq:=⟨_,rfl⟩;have ew2:w2.heap=w1.heap:=by rw[qc];rfl
 have J2:∀(a:Addr) (v:Value),w1.cell? a=some v->w2.cell? a=some v:=fun a v h=>by rw[qc];exact h
 rw[<-qc];replace k4:=J2 _ _ k4;replace k5:=J2 _ _ k5;replace k6:=J2 _ _ k6;replace h5:=J2 _ _ h5;replace h6:=J2 _ _ h6;replace gC:w2.frozen? ⟨pb,n,none⟩=false:=by rw[qc];exact gC
 replace i_:Hid (aB w2 pb 28 row):=by show aB _ _ _ _;rw[qc];exact i_.out
 replace dk:Hid (Below w.heap.size w w2):=by show Below _ _ _;rw[qc];exact⟨dk.out.os,dk.out.tape,dk.out.output,dk.out.size,dk.out.block⟩
 replace WM:Hid (w2.heap.size=w.heap.size+1):=by show _=_;rw[qc];exact WM.out
 replace Wp:Hid (∀j,j<s->w2.cell? ⟨gb,go+j,none⟩=some (.int .u8 ((bs[j]?.getD 0:Nat):Int))):=fun j hj=>J2 _ _ (Wp.out j hj);clear qc ew2 J2;clear k0 k1 k2 k3 h0 h1 h2 h3 h4;go_wp2;go_quiet (fail)
 obtain⟨w3,qb⟩:∃w3,w3=w2.drewN nq:=⟨_,rfl⟩;have ew3:w3.heap=w2.heap:=by rw[qb];rfl
 have JZ:∀(a:Addr) (v:Value),w2.cell? a=some v->w3.cell? a=some v:=fun a v h=>by rw[qb];exact h
 rw[<-qb];replace k4:=JZ _ _ k4;replace k5:=JZ _ _ k5;replace k6:=JZ _ _ k6;replace h5:=JZ _ _ h5;replace h6:=JZ _ _ h6;replace gC:w3.frozen? ⟨pb,n,none⟩=false:=by rw[qb];exact gC
 replace i_:Hid (aB w3 pb 28 row):=by show aB _ _ _ _;rw[qb];exact i_.out
 replace dk:Hid (Below w.heap.size w w3):=by show Below _ _ _;rw[qb];exact⟨dk.out.os,dk.out.tape,dk.out.output,dk.out.size,dk.out.block⟩
 replace WM:Hid (w3.heap.size=w.heap.size+1):=by show _=_;rw[qb];exact WM.out
 replace Wp:Hid (∀j,j<s->w3.cell? ⟨gb,go+j,none⟩=some (.int .u8 ((bs[j]?.getD 0:Nat):Int))):=fun j hj=>JZ _ _ (Wp.out j hj);clear qb ew3 JZ;go_wp2;have O':Hid (∀w4:World,w4.heap=w3.heap->(∀a,w4.cell? a=w3.cell? a)->Calls prog 129 #[.slice (some ⟨gb,go,none⟩) s g_] w4 fun e w'=>∃c,e= .returned (.slice (some ⟨w.heap.size+2,0,none⟩) s c)/\s<=c/\c<=maxLen/\aB w' (w.heap.size+2) 5 (bO (bs++List.replicate (c-s) 0))/\Below w4.heap.size w4 w'):=fun w4 he di=>by
  have:=JI gb go s g_ bs hl dC hs w4 (fun j hj=>by rw[di];exact Wp.out j hj);have e1:w4.heap.size+1=w.heap.size+2:=by rw[he,WM.out]
  rw[e1]at this;exact this
 have hAft:Hid (∀w5:World,Below w3.heap.size w3.drew w5->w5.cell? ⟨hb,6,none⟩=some (.int .i64 n)/\w5.cell? ⟨pb,n,none⟩=some (.slice none 0 0)/\w5.frozen? ⟨pb,n,none⟩=false):=fun w5 Bi=>by
  have tA:hb<w3.heap.size:=bR h6;have x_:pb<w3.heap.size:=i_.out.lt;have r5:aB w5 pb 28 row:=i_.out.of_block (Bi.block pb x_);refine⟨?_,r5.cell n _ HN.out,r5.frozen n⟩;rw[Bi.cell (show hb<w3.heap.size from tA)];exact h6
 have k6d:w3.drew.cell? ⟨pb,n,none⟩=some (.slice none 0 0):=k6;have h6d:w3.drew.cell? ⟨hb,6,none⟩=some (.int .i64 n):=h6;go_region_with (go_at_call 129;refine(O'.out w3.drew rfl (fun _=>rfl)).mono ?_;rintro _ w5 ⟨c,rfl,c1,c2,c3,c4⟩;obtain⟨a1,a2,a3⟩:=hAft.out w5 c4;replace c3:=hide c3;replace c4:=hide c4)
 all_goals
  go_wp2;go_ret;refine⟨rfl,w.heap.size+2,c,by omega,c1,c2,?_,?_,?_⟩
  .exact c3.out.other (show w.heap.size+2≠pb from fun e=>by have:=HR.out.lt;omega) _
  .have r5:aB w5 pb 28 row:=i_.out.of_block (c4.out.block pb i_.out.lt);exact r5.set n _
  .have hk:Kp (fun b=>b=pb) w w5:=(Kp.of_below (dk.out.trans ⟨c4.out.os,c4.out.tape,c4.out.output,c4.out.size,fun k hk=>c4.out.block k (Nat.lt_of_lt_of_le hk dk.out.size)⟩));exact hk.setCell (.inl rfl) _
theorem V5(kb kc ob len sz ms V bb N cap id z n pb m s gb go g_:Nat)(row:List Value)(bs cs:List Nat)(hz:z<N)(hn:n<m)(hl:Hid (bs.length=s))(fS:Hid (cs.length=s))(bp:Hid (∀x∈bs,x<256))(cq:Hid (∀x∈cs,x<256))(w:World)(fH:dP w ob len sz ms V bb N cap)(Sy:w.cell? ⟨bb,z,none⟩=some (.slice (some ⟨pb,0,none⟩) m m))(cj:aB w pb 28 row)(nF:row[n]? =some (.slice (some ⟨kb,0,none⟩) s kc))(mB:∀j,j<s->w.cell? ⟨kb,0+j,none⟩=some (.int .u8 ((cs[j]?.getD 0:Nat):Int)))
  (hp:∀j,j<s->w.cell? ⟨gb,go+j,none⟩=some (.int .u8 ((bs[j]?.getD 0:Nat):Int))):
  Calls prog 83 #[.pointer (some ⟨ob,0,none⟩),dU id len sz ms V z n,.slice (some ⟨gb,go,none⟩) s g_] w fun e w'=>
   e=(if bs=cs then .returned (.bool false)else .panicked [{v:=bq 4,recovered:=false}])/\Below w.heap.size w w':=by
 unfold dU;have Jh:w.cell? ⟨ob,0,none⟩=some (.int .i64 len):=by unfold dP at fH;simp[World.cell?,fH]
 have Jg:w.cell? ⟨ob,1,none⟩=some (.int .i64 sz):=by unfold dP at fH;simp[World.cell?,fH]
 have Jf:w.cell? ⟨ob,2,none⟩=some (.int .i64 ms):=by unfold dP at fH;simp[World.cell?,fH]
 have Je:w.cell? ⟨ob,3,none⟩=some (.int .i64 V):=by unfold dP at fH;simp[World.cell?,fH]
 have UN:w.cell? ⟨ob,4,none⟩=some (.slice (some ⟨bb,0,none⟩) N cap):=by unfold dP at fH;simp[World.cell?,fH]
 have HP:=hide hp;have HR:=hide cj;have HN:=hide nF;have HB:=hide Sy
 have UM:w.cell? ⟨pb,n,none⟩=some (.slice (some ⟨kb,0,none⟩) s kc):=cj.cell n _ nF;have HK:=hide mB;clear hp cj nF fH mB;go_enter func83,ntmps83;have cC:(w.alloc (.cells #[.int .i64 id,.int .i64 len,.int .i64 sz,.int .i64 ms,.int .i64 V,.int .i64 z,.int .i64 n] 76)).heap.size=w.heap.size+1:=by simp
 have fa:Below w.heap.size w (w.alloc (.cells #[.int .i64 id,.int .i64 len,.int .i64 sz,.int .i64 ms,.int .i64 V,.int .i64 z,.int .i64 n] 76)):=(Below.refl _ _).alloc (Nat.le_refl _) _;have hH:=aK w #[.int .i64 id,.int .i64 len,.int .i64 sz,.int .i64 ms,.int .i64 V,.int .i64 z,.int .i64 n] 76;go_wp2;obtain⟨w1,dm⟩:∃w1,w1=w.alloc (.cells #[.int .i64 id,.int .i64 len,.int .i64 sz,.int .i64 ms,.int .i64 V,.int .i64 z,.int .i64 n] 76):=⟨_,rfl⟩;rw[<-dm]at cC fa hH⊢;clear dm;obtain⟨hb,WI⟩:∃hb,hb=w.heap.size:=⟨_,rfl⟩;have keep:∀(a:Addr) (v:Value),w.cell? a=some v->w1.cell? a=some v:=fun a v h=>by
  rw[fa.cell (by exact bR h)];exact h
 have k0:=keep _ _ Jh;have k1:=keep _ _ Jg;have k2:=keep _ _ Jf;have k3:=keep _ _ Je;have k4:=keep _ _ UN
 have k5:=keep _ _ HB.out;have k6:=keep _ _ UM
 have r1:aB w1 pb 28 row:=HR.out.below fa HR.out.lt;have gC:=r1.frozen n;rw[<-WI]at hH⊢;have h0:=hH.cell 0 _ rfl;have h1:=hH.cell 1 _ rfl;have h2:=hH.cell 2 _ rfl;have h3:=hH.cell 3 _ rfl;have h4:=hH.cell 4 _ rfl;have h5:=hH.cell 5 _ rfl;have h6:=hH.cell 6 _ rfl
 have i_:=hide r1;have dk:=hide fa;have WM:=hide cC;have Hhb:=hide WI
 have Wp:Hid (∀j,j<s->w1.cell? ⟨gb,go+j,none⟩=some (.int .u8 ((bs[j]?.getD 0:Nat):Int))):=fun j hj=>keep _ _ (HP.out j hj);have Iv:Hid (∀j,j<s->w1.cell? ⟨kb,0+j,none⟩=some (.int .u8 ((cs[j]?.getD 0:Nat):Int))):=fun j hj=>keep _ _ (HK.out j hj);clear keep r1 fa cC WI hH Jh Jg Jf Je UN UM HP HB;have ep:(0:Int)<=(z:Int):=by omega
 have cJ:(z:Int)<(N:Int):=by omega
 have My:(0:Int)<=(n:Int):=by omega
 have ta:(n:Int)<(m:Int):=by omega
 go_quiet ((go_at_call 81;exact Calls.quiet_of_same (kK _ _)))
 obtain⟨w2,qc⟩:∃w2,w2=w1.drewN nq:=⟨_,rfl⟩;have ew2:w2.heap=w1.heap:=by rw[qc];rfl
 have J2:∀(a:Addr) (v:Value),w1.cell? a=some v->w2.cell? a=some v:=fun a v h=>by rw[qc];exact h
 rw[<-qc];replace k4:=J2 _ _ k4;replace k5:=J2 _ _ k5;replace k6:=J2 _ _ k6;replace h5:=J2 _ _ h5;replace h6:=J2 _ _ h6;replace gC:w2.frozen? ⟨pb,n,none⟩=false:=by rw[qc];exact gC
 replace i_:Hid (aB w2 pb 28 row):=by show aB _ _ _ _;rw[qc];exact i_.out
 replace dk:Hid (Below w.heap.size w w2):=by show Below _ _ _;rw[qc];exact⟨dk.out.os,dk.out.tape,dk.out.output,dk.out.size,dk.out.block⟩
 replace WM:Hid (w2.heap.size=w.heap.size+1):=by show _=_;rw[qc];exact WM.out
 replace Wp:Hid (∀j,j<s->w2.cell? ⟨gb,go+j,none⟩=some (.int .u8 ((bs[j]?.getD 0:Nat):Int))):=fun j hj=>J2 _ _ (Wp.out j hj);replace Iv:Hid (∀j,j<s->w2.cell? ⟨kb,0+j,none⟩=some (.int .u8 ((cs[j]?.getD 0:Nat):Int))):=fun j hj=>J2 _ _ (Iv.out j hj);clear qc ew2 J2;clear k0 k1 k2 k3 h0 h1 h2 h3 h4;go_wp2;go_quiet (fail)
 obtain⟨w3,qb⟩:∃w3,w3=w2.drewN nq:=⟨_,rfl⟩;have ew3:w3.heap=w2.heap:=by rw[qb];rfl
 have JZ:∀(a:Addr) (v:Value),w2.cell? a=some v->w3.cell? a=some v:=fun a v h=>by rw[qb];exact h
 rw[<-qb];replace k4:=JZ _ _ k4;replace k5:=JZ _ _ k5;replace k6:=JZ _ _ k6;replace h5:=JZ _ _ h5;replace h6:=JZ _ _ h6;replace gC:w3.frozen? ⟨pb,n,none⟩=false:=by rw[qb];exact gC
 replace i_:Hid (aB w3 pb 28 row):=by show aB _ _ _ _;rw[qb];exact i_.out
 replace dk:Hid (Below w.heap.size w w3):=by show Below _ _ _;rw[qb];exact⟨dk.out.os,dk.out.tape,dk.out.output,dk.out.size,dk.out.block⟩
 replace WM:Hid (w3.heap.size=w.heap.size+1):=by show _=_;rw[qb];exact WM.out
 replace Wp:Hid (∀j,j<s->w3.cell? ⟨gb,go+j,none⟩=some (.int .u8 ((bs[j]?.getD 0:Nat):Int))):=fun j hj=>JZ _ _ (Wp.out j hj);replace Iv:Hid (∀j,j<s->w3.cell? ⟨kb,0+j,none⟩=some (.int .u8 ((cs[j]?.getD 0:Nat):Int))):=fun j hj=>JZ _ _ (Iv.out j hj);clear qb ew3 JZ;have hE:=hide (M8 gb go s g_ kb 0 kc bs cs hl fS bp.out cq.out w3 Wp.out Iv.out);by_cases sk:bs=cs
 .rw[decide_eq_true sk]at hE;go_wp2_with first|(go_at_call 128;refine hE.out.mono ?_;rintro _ wq ⟨rfl,hq⟩;have cI:=hq.symm;clear hq;subst cI)|(go_at_call 81;refine(kK _ _).mono ?_;rintro _ wq ⟨rfl,hq⟩;have cI:=hq.symm;clear hq;subst cI)
  go_ret;exact⟨rfl,dk.out⟩
 .rw[decide_eq_false sk]at hE;go_wp2_with first|(go_at_call 128;refine hE.out.mono ?_;rintro _ wq ⟨rfl,hq⟩;have cI:=hq.symm;clear hq;subst cI)|(go_at_call 81;refine(jr _ _).mono ?_;rintro _ wq ⟨rfl,hq⟩;have cI:=hq.symm;clear hq;subst cI)
  exact⟨rfl,rfl,dk.out⟩
end
