import Derived.Shelf.Strings.Split
import Derived.Shelf.Strings.Trim
import Derived.Test.YtmfpiodlecapiaaGreatDoorJ41
set_option linter.unusedSimpArgs false
set_option maxHeartbeats 8000000
set_option maxRecDepth 100000
namespace Go.Proofs.YtmfpiodlecapiaaGreatDoor
open Go.Shelf
def zM:Go.Shelf.Ren:=⟨fun|146=>37|221=>73|268=>121|138=>122|143=>123|195=>174|197=>125|218=>175|219=>176|260=>177|217=>198|225=>199|224=>200|267=>201|266=>217|314=>218|n=>n,fun|9=>9|31=>87|3=>3|4=>4|0=>0|105=>197|21=>21|5=>5|46=>123|119=>260|139=>263|138=>262|146=>276|51=>155|n=>n,fun|1=>1|3=>2|4=>3|n=>n⟩
theorem Np:Go.Proofs.Lays.n146 Tryz.prog zM:= {
 mixed:=by kernel_rfl
 f138:=Tryz.func122.trans (congrArg some (by kernel_rfl))
 f143:=Tryz.func123.trans (congrArg some (by kernel_rfl))
 f146:=Tryz.func37.trans (congrArg some (by kernel_rfl))
 f195:=Tryz.func174.trans (congrArg some (by kernel_rfl))
 f197:=Tryz.func125.trans (congrArg some (by kernel_rfl))
 f217:=Tryz.func198.trans (congrArg some (by kernel_rfl))
 f218:=Tryz.func175.trans (congrArg some (by kernel_rfl))
 f219:=Tryz.func176.trans (congrArg some (by kernel_rfl))
 f221:=Tryz.func73.trans (congrArg some (by kernel_rfl))
 f224:=Tryz.func200.trans (congrArg some (by kernel_rfl))
 f225:=Tryz.func199.trans (congrArg some (by kernel_rfl))
 f260:=Tryz.func177.trans (congrArg some (by kernel_rfl))
 f266:=Tryz.func217.trans (congrArg some (by kernel_rfl))
 f267:=Tryz.func201.trans (congrArg some (by kernel_rfl))
 f268:=Tryz.func121.trans (congrArg some (by kernel_rfl))
 f314:=Tryz.func218.trans (congrArg some (by kernel_rfl))
 t0:=Tryz.underlying0
 a0:=Tryz.isAgg0
 z0:=Tryz.sizeOf0
 v0:=Tryz.zeroValue0
 t3:=Tryz.underlying3
 a3:=Tryz.isAgg3
 z3:=Tryz.sizeOf3
 v3:=Tryz.zeroValue3
 t4:=Tryz.underlying4
 a4:=Tryz.isAgg4
 z4:=Tryz.sizeOf4
 v4:=Tryz.zeroValue4
 t5:=Tryz.underlying5
 a5:=Tryz.isAgg5
 z5:=Tryz.sizeOf5
 v5:=Tryz.zeroValue5
 t9:=Tryz.underlying9
 a9:=Tryz.isAgg9
 z9:=Tryz.sizeOf9
 v9:=Tryz.zeroValue9
 t21:=Tryz.underlying21
 a21:=Tryz.isAgg21
 z21:=Tryz.sizeOf21
 v21:=Tryz.zeroValue21
 t31:=Tryz.underlying87
 a31:=Tryz.isAgg87
 z31:=Tryz.sizeOf87
 v31:=Tryz.zeroValue87
 t46:=Tryz.underlying123
 a46:=Tryz.isAgg123
 z46:=Tryz.sizeOf123
 v46:=Tryz.zeroValue123
 t51:=Tryz.underlying155
 a51:=Tryz.isAgg155
 z51:=Tryz.sizeOf155
 v51:=Tryz.zeroValue155
 t105:=Tryz.underlying197
 a105:=Tryz.isAgg197
 z105:=Tryz.sizeOf197
 v105:=Tryz.zeroValue197
 t119:=Tryz.underlying260
 a119:=Tryz.isAgg260
 z119:=Tryz.sizeOf260
 t138:=Tryz.underlying262
 a138:=Tryz.isAgg262
 z138:=Tryz.sizeOf262
 v138:=Tryz.zeroValue262
 t139:=Tryz.underlying263
 a139:=Tryz.isAgg263
 z139:=Tryz.sizeOf263
 v139:=Tryz.zeroValue263
 t146:=Tryz.underlying276
 a146:=Tryz.isAgg276
 z146:=Tryz.sizeOf276
 v146:=Tryz.zeroValue276
 g1:=by kernel_rfl
 g3:=by kernel_rfl
 g4:=by kernel_rfl}
def zL:Go.Shelf.Ren:=⟨fun|231=>74|n=>n,fun|9=>9|5=>5|3=>3|4=>4|n=>n,fun|n=>n⟩
theorem Nn:Go.Proofs.Lays.n231 Tryz.prog zL:= {
 mixed:=by kernel_rfl
 f231:=Tryz.func74.trans (congrArg some (by kernel_rfl))
 t3:=Tryz.underlying3
 a3:=Tryz.isAgg3
 z3:=Tryz.sizeOf3
 v3:=Tryz.zeroValue3
 t4:=Tryz.underlying4
 a4:=Tryz.isAgg4
 z4:=Tryz.sizeOf4
 v4:=Tryz.zeroValue4
 t5:=Tryz.underlying5
 a5:=Tryz.isAgg5
 z5:=Tryz.sizeOf5
 v5:=Tryz.zeroValue5
 t9:=Tryz.underlying9
 a9:=Tryz.isAgg9
 z9:=Tryz.sizeOf9
 v9:=Tryz.zeroValue9}
def zK:Go.Shelf.Ren:=⟨fun|232=>75|n=>n,fun|9=>9|5=>5|3=>3|4=>4|n=>n,fun|n=>n⟩
theorem Nl:Go.Proofs.Lays.n232 Tryz.prog zK:= {
 mixed:=by kernel_rfl
 f232:=Tryz.func75.trans (congrArg some (by kernel_rfl))
 t3:=Tryz.underlying3
 a3:=Tryz.isAgg3
 z3:=Tryz.sizeOf3
 v3:=Tryz.zeroValue3
 t4:=Tryz.underlying4
 a4:=Tryz.isAgg4
 z4:=Tryz.sizeOf4
 v4:=Tryz.zeroValue4
 t5:=Tryz.underlying5
 a5:=Tryz.isAgg5
 z5:=Tryz.sizeOf5
 v5:=Tryz.zeroValue5
 t9:=Tryz.underlying9
 a9:=Tryz.isAgg9
 z9:=Tryz.sizeOf9
 v9:=Tryz.zeroValue9}
theorem Vw:(Tryz.prog.info? 9).map (fun i=>(i.zero,i.size,i.bytes))=some (some (.string ByteArray.empty),1,16):=by kernel_rfl
theorem EM(s:ByteArray)(m:Int)(w:World)(hs:s.size<4294967281)(hm:w.cell? ⟨1,0,none⟩=some (.int .i64 m)):
  Calls Tryz.prog 37 #[.string s,.string ⟨#[10]⟩] w fun e w'=>
   e= .returned (.slice (some ⟨w.heap.size,0,none⟩) (Lib.countB s ⟨#[10]⟩+1) (Lib.countB s ⟨#[10]⟩+1))/\w'=w.alloc (.cells ((Lib.splitB ⟨#[10]⟩ 0 (Lib.countB s ⟨#[10]⟩) s).map Value.string).toArray 9):=
 Any.strings_Split Np Vw s ⟨#[10]⟩ m w hs hm (by decide)
theorem Hu(s:ByteArray)(c:UInt8)(w:World):
 Calls Tryz.prog 74 #[.string s,.int .u8 c.toNat] w fun e w'=>e= .returned (.string ⟨(Lib.trimLeftB s.data.toList c).toArray⟩)/\w'=w:=Any.strings_trimLeftByte Nn s c w
theorem Ht(s:ByteArray)(c:UInt8)(w:World)(hs:s.size<=9223372036854775807):
 Calls Tryz.prog 75 #[.string s,.int .u8 c.toNat] w fun e w'=>e= .returned (.string ⟨(Lib.trimRightB s.data.toList c).toArray⟩)/\w'=w:=Any.strings_trimRightByte Nl s c w hs
theorem sw(c:UInt8):∀(l r:List UInt8),c∉l->Lib.indexByte (l++c::r) c=l.length
 | [],r,_=>by simp[Lib.indexByte]
 |b::l,r,h=>by
  have h1:b≠c:=fun e=>h (by simp[e]);have ih:=sw c l r (fun x=>h (by simp[x]));show(if b==c then(0:Int)else if Lib.indexByte (l++c::r) c== -1 then-1 else Lib.indexByte (l++c::r) c+1)=_;rw[ih];have h2:(b==c)=false:=by simpa using h1
  have h3:(((l.length:Nat):Int)== -1)=false:=by simp
  simp[h2,h3]
theorem Ni(l:List UInt8)(h:(10:UInt8)∉l):Lib.countB ⟨(l++ [10,10]).toArray⟩ ⟨#[10]⟩=2/\Lib.splitB ⟨#[10]⟩ 0 2 ⟨(l++ [10,10]).toArray⟩= [⟨l.toArray⟩,⟨#[]⟩,⟨#[]⟩]:=by
 have hi:∀(r:List UInt8),Lib.indexB ⟨(l++10::r).toArray⟩ ⟨#[10]⟩=(l.length:Int):=fun r=>by
  show Lib.index (l++10::r) [10]=_;rw[Lib.index_one];exact sw 10 l r h
 have h0:Lib.indexB ⟨([10]:List UInt8).toArray⟩ ⟨#[10]⟩=((0:Nat):Int):=by decide
 have h1:Lib.indexB ⟨#[]⟩ ⟨#[10]⟩= -1:=by decide
 have e1:(⟨(l++ [10,10]).toArray⟩:ByteArray).extract (l.length+(⟨#[10]⟩:ByteArray).size) (⟨(l++ [10,10]).toArray⟩:ByteArray).size=⟨([10]:List UInt8).toArray⟩:=by
  rw[Lib.extract_mk];congr 2
  simp[ByteArray.size]
 have e2:(⟨(l++ [10,10]).toArray⟩:ByteArray).extract 0 (l.length+0)=⟨l.toArray⟩:=by
  rw[Lib.extract_mk];congr 2
  simp
 have e3:(⟨([10]:List UInt8).toArray⟩:ByteArray).extract (0+(⟨#[10]⟩:ByteArray).size) (⟨([10]:List UInt8).toArray⟩:ByteArray).size=⟨#[]⟩:=by decide
 have e4:(⟨([10]:List UInt8).toArray⟩:ByteArray).extract 0 (0+0)=⟨#[]⟩:=by decide
 constructor
 ·rw[Lib.countB_hit _ _ l.length (by decide) (hi [10]),e1,Lib.countB_hit _ _ 0 (by decide) h0,e3,Lib.countB_miss _ _ h1]
 ·rw[Lib.splitB_hit _ _ 1 _ l.length (hi [10]),e1,e2,Lib.splitB_hit _ _ 0 _ 0 h0,e3,e4,Lib.splitB_zero]
theorem MI(l:List UInt8)(h:(32:UInt8)∉l):Lib.trimRightB l 32=l/\Lib.trimLeftB l 32=l:=by
 have hd:∀l:List UInt8,(32:UInt8)∉l->l.dropWhile (· ==32)=l:=fun l hl=>by
  cases l with
  |nil=>rfl
  |cons b t=>
   have:(b==32)=false:=by simpa using(fun e:b=32=>hl (by simp[e]))
   simp[List.dropWhile,this]
 refine⟨?_,hd l h⟩;unfold Lib.trimRightB;rw[hd l.reverse (by simpa using h),List.reverse_reverse]
open Go.Conc Go.ConcN Go.RowKit Go.bB Go.Ren Go.eO Go.Deep
attribute [local go_sem↓] Go.wp_at_zero Go.wp_at_succ
theorem PN{Sh:Nat->Prop}{Post:(Nat->Prop)->Goroutine->World->Prop}{p:World}{cfn:FuncId}{ca:Act}{bg:Array Oper}{ci:Nat}{aT:List Nat}{ck:List Item}{cs:List Frame}{o:Oper}(ho:bg[ci]? =some o){s:ByteArray}(hne:s.data.toList≠ [])(h:(32:UInt8)∉s.data.toList)(hsz:s.size<=100000000)
  (hend:aj Tryz.prog Sh (G ((base cfn).at (ca.put o.dst (.string s)) (.inRegion bg aT::ck)) cs) p Post):
  aj Tryz.prog Sh (G ((base 38).at ⟨#[.string s,.string ⟨#[32]⟩,undef,undef,undef,undef,undef,undef,undef,undef,undef,undef,undef,undef,undef,undef,undef,undef,undef,undef,undef,undef,undef,undef,undef,undef,undef,undef,undef,undef,undef,undef,undef,undef,undef,undef,undef,undef,undef,undef,undef,undef,undef],[]⟩ [.code (Tryz.f38.body.getD .skip)]) ((base cfn).at ca (.inRegion bg (ci::aT)::ck)::cs)) p Post:=by
 have HE:=hide hend;clear hend;have hs1:¬s=⟨#[]⟩:=fun e=>hne (by rw[e]);conv=>arg 3;simp only[Tryz.f38,Option.getD_some]
 refine aj.seq (aj.bC aI (by kernel_rfl) fun τ d=>?_);go_wp2;refine aj.re ?_ _ _;clear τ d;have hs2:¬s.toList= []:=by rw[Lib.toList_data];exact hne
 have hs3:s.toList.isEmpty=false:=by simpa using hs2
 refine aj.seq (aj.seq (aj.bC aI (by kernel_rfl) fun τ d=>?_));go_wp2;refine aj.re ?_ _ _;clear τ d;refine aj.no (by first|rfl|(simp[Act.eval,hs3];done)) (aj.skip ?_);refine aj.seq (aj.seq (aj.bC aI (by kernel_rfl) fun τ d=>?_));go_wp2;refine aj.re ?_ _ _;clear τ d;refine aj.yes (by first|rfl|(simp[Act.eval];done)) ?_;obtain⟨t1,t2⟩:=MI s.data.toList h;have eS:(⟨s.data.toList.toArray⟩:ByteArray)=s:=by cases s;simp
 have TR:∀w,Calls Tryz.prog 75 #[.string s,.int .u8 32] w fun e w'=>e= .returned (.string s)/\w'=w:=fun w=>by
  have:=Ht s 32 w (by omega);rw[t1,eS]at this;exact this
 have TL:∀w,Calls Tryz.prog 74 #[.string s,.int .u8 32] w fun e w'=>e= .returned (.string s)/\w'=w:=fun w=>by
  have:=Hu s 32 w;rw[t2,eS]at this;exact this
 have HR:=hide TR;have HL:=hide TL
 clear TR TL t1 t2 eS h hne hs1 hs2 hs3 hsz;refine aj.XH aI (by kernel_rfl) fun τ d=>?_;go_wp2_with fail
 go_region_with first|(go_at_call 75;refine(HR.out _).mono ?_;rintro _ _ ⟨rfl,rfl⟩)|(go_at_call 74;refine(HL.out _).mono ?_;rintro _ _ ⟨rfl,rfl⟩)
 all_goals (
  try go_wp2
  show∀todo,_;intro todo;exact aj.back (v:=.string s) ho Tryz.func38 (by simp[results,Tryz.f38,go_sem]) (by simp[results,Tryz.f38]) (aj.re HE.out _ _))
theorem MJ{Sh:Nat->Prop}{Post:(Nat->Prop)->Goroutine->World->Prop}{p:World}{cfn:FuncId}{ca:Act}{bg:Array Oper}{ci:Nat}{aT:List Nat}{ck:List Item}{cs:List Frame}{o:Oper}(ho:bg[ci]? =some o)
  (hend:aj Tryz.prog Sh (G ((base cfn).at (ca.put o.dst (.string ⟨#[]⟩)) (.inRegion bg aT::ck)) cs) p Post):
  aj Tryz.prog Sh (G ((base 38).at ⟨#[.string ⟨#[]⟩,.string ⟨#[32]⟩,undef,undef,undef,undef,undef,undef,undef,undef,undef,undef,undef,undef,undef,undef,undef,undef,undef,undef,undef,undef,undef,undef,undef,undef,undef,undef,undef,undef,undef,undef,undef,undef,undef,undef,undef,undef,undef,undef,undef,undef,undef],[]⟩ [.code (Tryz.f38.body.getD .skip)]) ((base cfn).at ca (.inRegion bg (ci::aT)::ck)::cs)) p Post:=by
 have HE:=hide hend;clear hend;conv=>arg 3;simp only[Tryz.f38,Option.getD_some]
 refine aj.seq (aj.bC aI (by kernel_rfl) fun τ d=>?_);go_wp2;refine aj.re ?_ _ _;clear τ d;refine aj.seq (aj.seq (aj.bC aI (by kernel_rfl) fun τ d=>?_));go_wp2;refine aj.re ?_ _ _;clear τ d;refine aj.yes (by first|rfl|(simp[Act.eval];done)) ?_;refine aj.bC aI (by kernel_rfl) fun τ d=>?_;go_wp2;intro todo;exact aj.back (v:=.string ⟨#[]⟩) ho Tryz.func38 (by simp[results,Tryz.f38,go_sem]) (by simp[results,Tryz.f38]) (aj.re HE.out _ _)
theorem Ah{S:Oj}(ok:S.Ok){i z q:Nat}(hid:i<65536)(hz:z<S.N)(hq:q<S.K z+S.V)(w1:World)(g cap:Nat)(hcap:10+S.sz<=cap)(hrow:∀j,j<10+S.sz->w1.cell? ⟨g,0+j,none⟩=some (.int .u8 (((S.pkt i z q)[j]?.getD 0:Nat):Int))):
  Calls Tryz.prog 35 #[.slice (some ⟨g,0,none⟩) (10+S.sz) cap] w1 fun r w'=>r= .returned (.tuple #[dS i S.len S.sz S.ms S.V z q,.slice (some ⟨g,0+10,none⟩) (10+S.sz-10) (cap-10)])/\Below w1.heap.size w1 w':=by
 have:=qj g 0 (10+S.sz) cap (S.pkt i z q) w1 ⟨ok.dX hz,ok.CG hid hz hq,fun _=>⟨g,0,rfl,fun j hj=>hrow j hj⟩⟩ hcap (ok.FN hz hq);rw[Oj.E8]at this;exact this
theorem Cm{Sh:Nat->Prop}{Post:(Nat->Prop)->Goroutine->World->Prop}{p:World}{cfn:FuncId}{ca:Act}{bg:Array Oper}{ci:Nat}{aT:List Nat}{ck:List Item}{cs:List Frame}{o:Oper}(ho:bg[ci]? =some o){B lb mr i z q N:Nat}{s:ByteArray}{D:List Nat}{S:Nat->Oj}{hd:Nat->Nat->Bool}{l:List (Nat×Nat)}{A:Nat->OD}
  (hL:oZ p B lb mr D S hd l A)(ok:(S i).Ok)(Y6:D.length<=8)(hi:i∈D)(hid:i<65536)(hz:z<(S i).N)(hq:q<(S i).K z+(S i).V)(hB:B<=p.heap.size)(ha:Alpha p)(hN:Hid (s.size=N))(yD:N<=100000000)(hs:Tx.eY (bytesOf s)=some ((S i).pkt i z q))
  (hend:∀(b:Bool) p' l' A',b=(!hd i ((S i).off z+q))->oZ p' B lb mr D S (qA hd i ((S i).off z+q)) l' A'->(∀b,b<B->b≠mr->p'.heap[b]? =p.heap[b]?)->p.heap.size<=p'.heap.size->p'.os=p.os->p'.output=p.output->(∀g t L,t≠28->aB p g t L->aB p' g t L)->
   aj Tryz.prog Sh (G ((base cfn).at (ca.put o.dst (.tuple #[.int .i64 (if b then 1 else 0),.int .i64 0])) (.inRegion bg aT::ck)) cs) p' Post):
  aj Tryz.prog Sh (G ((base 39).at ⟨#[.pointer (some ⟨lb,0,none⟩),.string s,undef,undef,undef,undef,undef,undef,undef,undef,undef,undef,undef,undef,undef,undef,undef,undef,undef,undef,undef,undef],[]⟩ [.code (Tryz.f39.body.getD .skip)]) ((base cfn).at ca (.inRegion bg (ci::aT)::ck)::cs)) p Post:=by
 have HE:=hide hend;have HL:=hide hL;have HA:=hide ha
 clear hend hL ha;conv=>arg 3;simp only[Tryz.f39,Option.getD_some]
 refine aj.seq (aj.bC ak (by kernel_rfl) fun τ d=>?_);go_wp2;refine aj.re ?_ _ _;clear τ d;refine aj.seq ?_;refine aj.aX fun kk hkk=>?_;replace hkk:=hide hkk;refine aj.reg (todo:= [0,1,2,3,4,5,6]) rfl ?_;refine aj.pv ak fun τ d K hK=>?_;go_simp;refine hK _ ?_;clear hK;try walk_nrm
 refine aj.dM rfl rfl (by decide) rfl Tryz.func22 rfl rfl (T':=#[.string s,undef,undef,undef,undef,undef,undef,undef,undef,undef]) (by simp[Act.eval,Tryz.f22]) ?_;refine I8 (o:=?o1) (n:=10+(S i).sz) ?ho1 hN yD hs (ok.dX hz) (by omega) HA.out (fun w1 g cap hcap hrow=>Ah ok hid hz hq w1 g cap hcap hrow) (fun p1 g cap hg1 hgl hcap hcl=>?hend1)
 case ho1=>rfl
 case hend1=>
 have vC:=hide hg1;have HC1:=hide hcl
 clear hg1 hcl;try walk_nrm
 iterate 5 (refine aj.pv ak fun τ d K hK=>?_;go_simp;refine hK _ ?_;clear hK;try walk_nrm)
 refine aj.aR ?_;rw[hkk.out];clear hkk kk;refine aj.seq (aj.seq ?_);refine aj.aX fun kk hkk=>?_;replace hkk:=hide hkk;refine aj.bC ak (by kernel_rfl) fun τ d=>?_;go_wp2
 first|(refine Or.inl ⟨rfl,?_⟩;dsimp only;refine aj.re ?_ _ _)|refine aj.re ?_ _ _
 rw[hkk.out];clear hkk kk τ d;refine aj.no rfl (aj.skip ?_);refine aj.seq ?_;refine aj.aX fun kk hkk=>?_;replace hkk:=hide hkk;refine aj.reg (todo:= [0,1,2,3,4,5,6,7]) rfl ?_;refine aj.pv ak fun τ d K hK=>?_;go_simp;refine hK _ ?_;clear hK;try walk_nrm
 refine aj.pv ak fun τ d K hK=>?_;go_simp;refine hK _ ?_;clear hK;try walk_nrm
 refine aj.o ak (by kernel_rfl) rfl rfl (fun τ d K hK=>?_);go_simp;refine hK _ _ ?_;clear hK;try walk_nrm
 rw[show(p1.re τ d).heap.size=p1.heap.size from rfl];refine aj.re (p:=p1.alloc (.cells #[.slice (some ⟨g,0,none⟩) (10+(S i).sz) cap] 28)) ?_ τ d;clear τ d;have hg2:dZ p1 (p1.alloc (.cells #[.slice (some ⟨g,0,none⟩) (10+(S i).sz) cap] 28)):=(dZ.refl p1).alloc _;have hc2:(p1.alloc (.cells #[.slice (some ⟨g,0,none⟩) (10+(S i).sz) cap] 28)).cell? ⟨p1.heap.size,0,none⟩=some (.slice (some ⟨g,0,none⟩) (10+(S i).sz) cap):=dz _ _ _ _ _ _ rfl;generalize p1.alloc (.cells #[.slice (some ⟨g,0,none⟩) (10+(S i).sz) cap] 28)=p2 at hg2 hc2⊢;have hg:=vC.out.trans hg2;obtain⟨es,clock,hmap,_⟩:=HL.out.map;have hL2:oZ p2 B lb mr D S hd l A:=HL.out.keep hg.ck (hg.row _ (Array.getElem?_eq_some_iff.1 hmap).1);have HL2:=hide hL2;have HC2:=hide hc2;have HG:=hide hg;have HG2:=hide hg2
 clear hL2 hc2 hg hg2 hmap;refine aj.dM rfl rfl (by decide) rfl Tryz.func20 rfl rfl (T':=#[.pointer (some ⟨lb,0,none⟩),.slice (some ⟨p1.heap.size,0,none⟩) 1 1,undef,undef,undef,undef,undef,undef,undef,undef,undef,undef,undef,undef,undef,undef,undef,undef,undef,undef,undef,undef,undef,undef,undef,undef,undef,undef]) (by simp[Act.eval,Tryz.f20]) ?_;refine yA (o:=?o2) (i:=i) (z:=z) (q:=q) (gb:=g) (cap:=cap) ?ho2 HL2.out ok Y6 hi hid hz hq (Nat.le_trans hB HG.out.size) HC2.out hcap (fun j hj=>?hcells) (fun b p5 l5 A5 hb5 hL5 kJ hsz5 sG kI Ot=>?hend2)
 case ho2=>rfl
 case hcells=>have h:=HG2.out.cell (HC1.out j hj);rw[Nat.zero_add]at h;exact h
 case hend2=>
 have Ui:=hide (HE.out b p5 l5 A5 hb5 hL5 (fun k hk1 hk2=>by rw[kJ k hk1 hk2,HG.out.row k (by omega)]) (Nat.le_trans HG.out.size hsz5) (sG.trans HG.out.os) (kI.trans HG.out.output) (fun g t L ht hr=>Ot g t L ht (hr.of_block (HG.out.row g hr.lt))));clear hL5 kJ hsz5 sG kI Ot hb5 HL2 HC2 HG HG2 HE HL HC1 vC;generalize (if b=true then(1:Int)else 0)=bi at Ui⊢;try walk_nrm
 iterate 4 (refine aj.pv ak fun τ d K hK=>?_;go_simp;refine hK _ ?_;clear hK;try walk_nrm)
 refine aj.aR ?_;rw[hkk.out];clear hkk kk;refine aj.ret ?_;exact aj.back (v:=.tuple #[.int .i64 bi,.int .i64 0]) ho Tryz.func39 (by simp[results,Tryz.f39,go_sem]) (by simp[results,Tryz.f39]) Ui.out
theorem xK{Sh:Nat->Prop}{Post:(Nat->Prop)->Goroutine->World->Prop}{q:World}{ks:List Item}{cs:List Frame}{lb gs k:Nat}{cnt:Int}{s2:ByteArray}{cc:Code}(hc:Hid (cc=dP [1,1,0,1,0,0] (Tryz.f19.body.getD .skip)))(hk:k<3)(hcell:q.cell? ⟨gs,k,none⟩=some (.string ⟨#[]⟩))
  (hn:∀t2 t3 t8 t9 b5 c5 c3 b0 a2 b4 b2 a8 t21 b6 a1 b3 b7 c2 b8 a7 a6 c4 t31 b9 c1 b1 c8 c9 c6 c7,aj Tryz.prog Sh (G ((base 19).at ⟨#[.pointer (some ⟨lb,0,none⟩),.string s2,t2,t3,.int .i64 0,.int .i64 0,.int .i64 0,.int .i64 cnt,t8,t9,b5,c5,c3,.slice (some ⟨gs,0,none⟩) 3 3,.int .i64 3,.int .i64 ((k+1:Nat):Int),b0,a2,b4,b2,a8,t21,b6,a1,b3,b7,c2,b8,a7,a6,c4,t31,b9,c1,b1,c8,c9,c6,c7],[]⟩ (.code cc:: .inLoop cc:: .inBlock 0::ks)) cs) q Post):
  ∀(t2 t3 t8 t9 b5 c5 c3 b0 a2 b4 b2 a8 t21 b6 a1 b3 b7 c2 b8 a7 a6 c4 t31 b9 c1 b1 c8 c9 c6 c7:Value),aj Tryz.prog Sh (G ((base 19).at ⟨#[.pointer (some ⟨lb,0,none⟩),.string s2,t2,t3,.int .i64 0,.int .i64 0,.int .i64 0,.int .i64 cnt,t8,t9,b5,c5,c3,.slice (some ⟨gs,0,none⟩) 3 3,.int .i64 3,.int .i64 (k:Nat),b0,a2,b4,b2,a8,t21,b6,a1,b3,b7,c2,b8,a7,a6,c4,t31,b9,c1,b1,c8,c9,c6,c7],[]⟩ (.code cc:: .inLoop cc:: .inBlock 0::ks)) cs) q Post:=by
 intro t2 t3 t8 t9 b5 c5 c3 b0 a2 b4 b2 a8 t21 b6 a1 b3 b7 c2 b8 a7 a6 c4 t31 b9 c1 b1 c8 c9 c6 c7;have HN:=hide hn;clear hn;refine aj.Xt hc.out ?_;conv=>arg 3;simp only[Tryz.f19,Option.getD_some,dP]
 have k1:(k:Int)<3:=by omega
 have k0:(0:Int)<=(k:Int):=by omega
 refine aj.seq ?_;refine aj.aX fun kk hkk=>?_;replace hkk:=hide hkk;refine aj.bC aI (by kernel_rfl) fun τ d=>?_;go_wp2
 first|(refine Or.inl ⟨rfl,?_⟩;dsimp only;refine aj.re ?_ _ _)|refine aj.re ?_ _ _
 rw[hkk.out];try clear a0
 clear hkk kk τ d;refine aj.seq (aj.yes (by first|rfl|(simp[Act.eval];done)|(simp[Act.eval];omega)) (aj.skip ?_));refine aj.seq (aj.block (aj.seq ?_));refine aj.aX fun kk hkk=>?_;replace hkk:=hide hkk;refine aj.bC aI (by kernel_rfl) fun τ d=>?_;have a0:(q.re τ d).cell? ⟨gs,k,none⟩=some (.string ⟨#[]⟩):=hcell;go_wp2
 first|(refine Or.inl ⟨rfl,?_⟩;dsimp only;refine aj.re ?_ _ _)|refine aj.re ?_ _ _
 rw[hkk.out];try clear a0
 clear hkk kk τ d;refine aj.seq (aj.seq ?_);refine aj.aX fun kk hkk=>?_;replace hkk:=hide hkk;refine aj.reg (todo:= [0,1,2]) rfl ?_;refine aj.pv ak fun τ d K hK=>?_;go_simp;refine hK _ ?_;clear hK;try walk_nrm
 refine aj.dM rfl rfl (by decide) rfl Tryz.func38 rfl rfl (T':=#[.string ⟨#[]⟩,.string ⟨#[32]⟩,undef,undef,undef,undef,undef,undef,undef,undef,undef,undef,undef,undef,undef,undef,undef,undef,undef,undef,undef,undef,undef,undef,undef,undef,undef,undef,undef,undef,undef,undef,undef,undef,undef,undef,undef,undef,undef,undef,undef,undef,undef]) (by simp[Act.eval,Tryz.f38]) ?_;refine MJ (o:=?o1) ?ho1 ?_
 case ho1=>rfl
 try walk_nrm
 refine aj.pv ak fun τ d K hK=>?_;go_simp;refine hK _ ?_;clear hK;try walk_nrm
 refine aj.aR ?_;rw[hkk.out];clear hkk kk;refine aj.yes (by first|rfl|(simp[Act.eval];done)) ?_;refine aj.exit rfl ?_;have k2:(k:Int)<9223372036854775807:=by omega
 refine aj.aX fun kk hkk=>?_;replace hkk:=hide hkk;refine aj.bC aI (by kernel_rfl) fun τ d=>?_;go_wp2
 first|(refine Or.inl ⟨rfl,?_⟩;dsimp only;refine aj.re ?_ _ _)|refine aj.re ?_ _ _
 rw[hkk.out];try clear a0
 clear hkk kk τ d;refine aj.inLoop ?_;exact HN.out _ _ _ _ _ _ _ _ _ _ _ _ _ _ _ _ _ _ _ _ _ _ _ _ _ _ _ _ _ _
theorem Rj{n:Nat}(hn:n<64):∀x∈Tx.jB n,65<=x:=by
 intro x hx;revert x;have:(List.range 64).all (fun n=>(Tx.jB n).all fun x=>decide (65<=x))=true:=by decide+kernel
 intro x hx;have h1:=List.all_eq_true.1 this n (List.mem_range.2 hn);exact of_decide_eq_true (List.all_eq_true.1 h1 x hx)
theorem KJ(d:List Nat):∀e,∀x∈Tx.pre d e,65<=x
 |0,x,hx=>by simp[Tx.pre]at hx
 |e+1,x,hx=>by
  rw[Tx.nS]at hx;rcases List.mem_append.1 hx with h|h
  ·exact KJ d e x h
  ·exact Rj (Tx.jL (Tx.iP d) _ 6) x h
theorem Vt(n:Nat):Tx.jB n≠ []:=by
 unfold Tx.jB;split
 ·simp
 ·split<;>simp
theorem Eo(d:List Nat)(h:d.length<=100)(h0:0<d.length):(Tx.dQ d).length<=1000/\Tx.dQ d≠ []:=by
 unfold Tx.dQ;refine⟨by have:=Tx.qI d ((8*d.length+5)/6);omega,?_⟩;obtain⟨e,he⟩:∃e,(8*d.length+5)/6=e+1:=⟨(8*d.length+5)/6-1,by omega⟩;rw[he,Tx.nS];intro h;exact Vt _ (List.append_eq_nil_iff.1 h).2
theorem JX(s:ByteArray):s++⟨#[10,10]⟩=⟨(s.data.toList++ [10,10]).toArray⟩:=by
 apply ByteArray.ext;rw[ByteArray.data_append];apply Array.ext';simp
theorem Qf(d:List Nat):∀x∈Tx.dQ d,65<=x:=KJ d _
theorem Qz{Sh:Nat->Prop}{Post:(Nat->Prop)->Goroutine->World->Prop}{p:World}{cfn:FuncId}{ca:Act}{bg:Array Oper}{ci:Nat}{aT:List Nat}{ck:List Item}{cs:List Frame}{o:Oper}(ho:bg[ci]? =some o){B lb mr i z q:Nat}{m:Int}{s2:ByteArray}{D:List Nat}{S:Nat->Oj}{hd:Nat->Nat->Bool}{l:List (Nat×Nat)}{A:Nat->OD}
  (hL:oZ p B lb mr D S hd l A)(ok:(S i).Ok)(Y6:D.length<=8)(hi:i∈D)(hid:i<65536)(hz:z<(S i).N)(hq:q<(S i).K z+(S i).V)(hB:B<=p.heap.size)(ha:Alpha p)(hm:p.cell? ⟨1,0,none⟩=some (.int .i64 m))(hs2:s2=strOf (Tx.dQ ((S i).pkt i z q))++⟨#[10,10]⟩)
  (hend:∀(b:Bool) p' l' A',b=(!hd i ((S i).off z+q))->oZ p' B lb mr D S (qA hd i ((S i).off z+q)) l' A'->(∀b,b<B->b≠mr->p'.heap[b]? =p.heap[b]?)->p.heap.size<=p'.heap.size->p'.os=p.os->p'.output=p.output->(∀g t L,t≠28->aB p g t L->aB p' g t L)->
   aj Tryz.prog Sh (G ((base cfn).at (ca.put o.dst (.tuple #[.int .i64 (if b then 1 else 0),.int .i64 0,.int .i64 0])) (.inRegion bg aT::ck)) cs) p' Post):
  aj Tryz.prog Sh (G ((base 19).at ⟨#[.pointer (some ⟨lb,0,none⟩),.string s2,undef,undef,undef,undef,undef,undef,undef,undef,undef,undef,undef,undef,undef,undef,undef,undef,undef,undef,undef,undef,undef,undef,undef,undef,undef,undef,undef,undef,undef,undef,undef,undef,undef,undef,undef,undef,undef],[]⟩ [.code (Tryz.f19.body.getD .skip)]) ((base cfn).at ca (.inRegion bg (ci::aT)::ck)::cs)) p Post:=by
 have hdb:=ok.CG (id:=i) hid hz hq;have hlen:=ok.dX (id:=i) (n:=q) hz;have hrd:=Tx.Ny hdb;have hTl:=Tx.QG ((S i).pkt i z q) ((8*((S i).pkt i z q).length+5)/6);have hTb:=Qf ((S i).pkt i z q);have VU:∀x∈Tx.dQ ((S i).pkt i z q),x<256:=hTl;have WW:=Eo ((S i).pkt i z q) (by have:=ok.s2;omega) (by omega);have Y9:=z_ VU;rw[<-Y9]at hrd;obtain⟨s,hss⟩:∃s,s=strOf (Tx.dQ ((S i).pkt i z q)):=⟨_,rfl⟩;rw[<-hss]at hrd hs2 Y9;have hl:s.data.toList.map UInt8.toNat=Tx.dQ ((S i).pkt i z q):=Y9;have hbig:∀x∈s.data.toList,65<=x.toNat:=fun x hx=>hTb _ (by rw[<-hl];exact List.mem_map_of_mem hx);have h10:(10:UInt8)∉s.data.toList:=fun h=>by have:=hbig _ h;simp at this
 have h32:(32:UInt8)∉s.data.toList:=fun h=>by have:=hbig _ h;simp at this
 have hne:s.data.toList≠ []:=fun h=>by rw[h]at hl;exact WW.2 hl.symm
 have hsz:s.size<=1000:=by
  have h1:s.data.toList.length=(Tx.dQ ((S i).pkt i z q)).length:=by rw[<-hl];simp
  have h2:s.size=s.data.toList.length:=by rw[Array.length_toList];rfl
  omega
 have Yk:s2=⟨(s.data.toList++ [10,10]).toArray⟩:=hs2.trans (JX s);obtain⟨hcnt,Yj⟩:=Ni s.data.toList h10;rw[<-Yk]at hcnt Yj;have eS:(⟨s.data.toList.toArray⟩:ByteArray)=s:=by cases s;simp
 rw[eS]at Yj;have hsz2:s2.size<4294967281:=by
  have h2:s.size=s.data.toList.length:=by rw[Array.length_toList];rfl
  have h3:s2.size=(s.data.toList++ [10,10]).length:=by rw[Yk];show(s.data.toList++ [10,10]).toArray.size=_;rw[List.size_toArray]
  rw[h3,List.length_append];show s.data.toList.length+2<_;omega
 clear Yk hs2 hss hl hbig Y9 WW VU hTb hTl h10 hdb;have HE:=hide hend;have HL:=hide hL;have HA:=hide ha;have HR:=hide hrd
 clear hend hL ha hrd;conv=>arg 3;simp only[Tryz.f19,Option.getD_some]
 refine aj.seq (aj.bC aI (by kernel_rfl) fun τ d=>?_);go_wp2;refine aj.re ?_ _ _;clear τ d;refine aj.seq (aj.bC aI (by kernel_rfl) fun τ d=>?_);go_wp2;refine aj.re ?_ _ _;clear τ d;refine aj.seq (aj.seq (aj.bC aI (by kernel_rfl) fun τ d=>?_));have SW:=EM s2 m (p.re τ d) hsz2 hm;rw[hcnt,Yj]at SW;have HSW:=hide SW;clear SW;go_wp2_with (go_at_call 37;refine HSW.out.mono ?_;rintro _ _ ⟨rfl,rfl⟩)
 rw[show(p.re τ d).heap.size=p.heap.size from rfl];refine aj.re (p:=p.alloc (.cells #[.string s,.string ⟨#[]⟩,.string ⟨#[]⟩] 9)) ?_ τ d;clear HSW τ d;have hg1:dZ p (p.alloc (.cells #[.string s,.string ⟨#[]⟩,.string ⟨#[]⟩] 9)):=(dZ.refl p).alloc _;have hr1:=aP p #[.string s,.string ⟨#[]⟩,.string ⟨#[]⟩] 9;generalize p.alloc (.cells #[.string s,.string ⟨#[]⟩,.string ⟨#[]⟩] 9)=p1 at hg1 hr1⊢;have c0:=hr1.cell 0 _ rfl;obtain⟨es,clock,hmap,_⟩:=HL.out.map;have hL1:oZ p1 B lb mr D S hd l A:=HL.out.keep hg1.ck (hg1.row _ (Array.getElem?_eq_some_iff.1 hmap).1);have HL1:=hide hL1;have vC:=hide hg1;have HR1:=hide hr1
 clear hL1 hg1 hr1 hmap;refine aj.block (aj.loop ?_);refine aj.seq (aj.bC aI (by kernel_rfl) fun τ d=>?_);go_wp2;refine aj.re ?_ _ _;clear τ d;refine aj.seq (aj.yes (by first|rfl|(simp[Act.eval];done)) (aj.skip ?_));refine aj.seq (aj.block (aj.seq ?_));refine aj.aX fun kk hkk=>?_;replace hkk:=hide hkk;refine aj.bC aI (by kernel_rfl) fun τ d=>?_;have a0:(p1.re τ d).cell? ⟨p.heap.size,0,none⟩=some (.string s):=c0;go_wp2
 first|(refine Or.inl ⟨rfl,?_⟩;dsimp only;refine aj.re ?_ _ _)|refine aj.re ?_ _ _
 rw[hkk.out];try clear a0
 clear hkk kk τ d;refine aj.seq (aj.seq ?_);refine aj.aX fun kk hkk=>?_;replace hkk:=hide hkk;refine aj.reg (todo:= [0,1,2]) rfl ?_;refine aj.pv ak fun τ d K hK=>?_;go_simp;refine hK _ ?_;clear hK;try walk_nrm
 refine aj.dM rfl rfl (by decide) rfl Tryz.func38 rfl rfl (T':=#[.string s,.string ⟨#[32]⟩,undef,undef,undef,undef,undef,undef,undef,undef,undef,undef,undef,undef,undef,undef,undef,undef,undef,undef,undef,undef,undef,undef,undef,undef,undef,undef,undef,undef,undef,undef,undef,undef,undef,undef,undef,undef,undef,undef,undef,undef,undef]) (by simp[Act.eval,Tryz.f38]) ?_;refine PN (o:=?o1) ?ho1 hne h32 (by omega) ?_
 case ho1=>rfl
 try walk_nrm
 have hq1:¬s=⟨#[]⟩:=fun e=>hne (by rw[e]);have hq2:¬s.toList= []:=by rw[Lib.toList_data];exact hne
 have hq3:s.toList.isEmpty=false:=by simpa using hq2
 refine aj.pv ak fun τ d K hK=>?_;go_simp;refine hK _ ?_;clear hK;try walk_nrm
 refine aj.aR ?_;rw[hkk.out];clear hkk kk;refine aj.no (by first|rfl|(simp[Act.eval,hq3];done)) (aj.skip ?_);refine aj.seq ?_;refine aj.aX fun kk hkk=>?_;replace hkk:=hide hkk;refine aj.reg (todo:= [0,1,2,3,4,5,6,7]) rfl ?_;refine aj.pv ak fun τ d K hK=>?_;go_simp;refine hK _ ?_;clear hK;try walk_nrm
 refine aj.pv ak fun τ d K hK=>?_;go_simp;refine hK _ ?_;clear hK;try walk_nrm
 refine aj.dM rfl rfl (by decide) rfl Tryz.func39 rfl rfl (T':=#[.pointer (some ⟨lb,0,none⟩),.string s,undef,undef,undef,undef,undef,undef,undef,undef,undef,undef,undef,undef,undef,undef,undef,undef,undef,undef,undef,undef]) (by simp[Act.eval,Tryz.f39]) ?_;refine Cm (o:=?o2) ?ho2 HL1.out ok Y6 hi hid hz hq (Nat.le_trans hB vC.out.size) (fun j hj=>vC.out.cell (HA.out j hj)) (hide rfl) (by omega) HR.out (fun b p5 l5 A5 hb5 hL5 kJ hsz5 sG kI Ot=>?hend2)
 case ho2=>rfl
 case hend2=>
 have Ui:=hide (HE.out b p5 l5 A5 hb5 hL5 (fun k hk1 hk2=>by rw[kJ k hk1 hk2,vC.out.row k (by omega)]) (Nat.le_trans vC.out.size hsz5) (sG.trans vC.out.os) (kI.trans vC.out.output) (fun g t L ht hr=>Ot g t L ht (hr.of_block (vC.out.row g hr.lt))));have u_:aB p5 p.heap.size 9 [.string s,.string ⟨#[]⟩,.string ⟨#[]⟩]:=Ot _ _ _ (by decide) HR1.out;have d1:=u_.cell 1 _ rfl;have d2:=u_.cell 2 _ rfl;clear hL5 kJ hsz5 sG kI Ot hb5 HE HL HL1 vC HR1 c0;have hb01:(0:Int)<=(if b=true then(1:Int)else 0)/\(if b=true then(1:Int)else 0)<=1:=by cases b<;>decide
 generalize (if b=true then(1:Int)else 0)=bi at Ui hb01⊢;obtain⟨bi0,bi1⟩:=hb01;have bi2:bi<9223372036854775808:=by omega
 try walk_nrm
 iterate 5 (refine aj.pv ak fun τ d K hK=>?_;go_simp;refine hK _ ?_;clear hK;try walk_nrm)
 refine aj.aR ?_;rw[hkk.out];clear hkk kk;refine aj.seq ?_;refine aj.aX fun kk hkk=>?_;replace hkk:=hide hkk;refine aj.bC aI (by kernel_rfl) fun τ d=>?_;go_wp2
 first|(refine Or.inl ⟨rfl,?_⟩;dsimp only;refine aj.re ?_ _ _)|refine aj.re ?_ _ _
 rw[hkk.out];try clear a0
 clear hkk kk τ d;refine aj.seq ?_;refine aj.aX fun kk hkk=>?_;replace hkk:=hide hkk;refine aj.bC aI (by kernel_rfl) fun τ d=>?_;go_wp2
 first|(refine Or.inl ⟨rfl,?_⟩;dsimp only;refine aj.re ?_ _ _)|refine aj.re ?_ _ _
 rw[hkk.out];try clear a0
 clear hkk kk τ d;refine aj.no rfl (aj.skip ?_);refine aj.inBlock ?_;refine aj.aX fun kk hkk=>?_;replace hkk:=hide hkk;refine aj.bC aI (by kernel_rfl) fun τ d=>?_;go_wp2
 first|(refine Or.inl ⟨rfl,?_⟩;dsimp only;refine aj.re ?_ _ _)|refine aj.re ?_ _ _
 rw[hkk.out];try clear a0
 clear hkk kk τ d;refine aj.inLoop ?_;refine xK (k:=1) (gs:=p.heap.size) (hide rfl) (by decide) d1 ?_ _ _ _ _ _ _ _ _ _ _ _ _ _ _ _ _ _ _ _ _ _ _ _ _ _ _ _ _ _ _;intro t2 t3 t8 t9 b5 c5 c3 b0 a2 b4 b2 a8 t21 b6 a1 b3 b7 c2 b8 a7 a6 c4 t31 b9 c1 b1 c8 c9 c6 c7;refine xK (k:=2) (gs:=p.heap.size) (hide rfl) (by decide) d2 ?_ _ _ _ _ _ _ _ _ _ _ _ _ _ _ _ _ _ _ _ _ _ _ _ _ _ _ _ _ _ _;intro t2 t3 t8 t9 b5 c5 c3 b0 a2 b4 b2 a8 t21 b6 a1 b3 b7 c2 b8 a7 a6 c4 t31 b9 c1 b1 c8 c9 c6 c7;refine aj.seq ?_;refine aj.aX fun kk hkk=>?_;replace hkk:=hide hkk;refine aj.bC aI (by kernel_rfl) fun τ d=>?_;go_wp2
 first|(refine Or.inl ⟨rfl,?_⟩;dsimp only;refine aj.re ?_ _ _)|refine aj.re ?_ _ _
 rw[hkk.out];try clear a0
 clear hkk kk τ d;refine aj.seq (aj.no rfl ?_);refine aj.exit rfl ?_;refine aj.bC aI (by kernel_rfl) fun τ d=>?_;go_wp2;intro todo;exact aj.back (v:=.tuple #[.int .i64 bi,.int .i64 0,.int .i64 0]) ho Tryz.func19 (by simp[results,Tryz.f19,go_sem]) (by simp[results,Tryz.f19]) (aj.re Ui.out _ _)
end Go.Proofs.YtmfpiodlecapiaaGreatDoor
