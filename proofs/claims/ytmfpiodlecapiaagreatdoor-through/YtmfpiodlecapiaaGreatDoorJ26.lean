import Derived.Shelf.Strings.Split
import Derived.Shelf.Strings.Trim
import Derived.Test.YtmfpiodlecapiaaGreatDoorJ25
import Derived.Maps.RangeRun
set_option linter.unusedSimpArgs false
set_option maxHeartbeats 8000000
set_option maxRecDepth 100000
namespace Go.Proofs.YtmfpiodlecapiaaGreatDoor
open Go.Proofs.Tryz
open Go.Shelf
def BM:Go.Shelf.Ren:=⟨fun|146=>37|221=>73|268=>121|138=>122|143=>123|195=>174|197=>125|218=>175|219=>176|260=>177|217=>198|225=>199|224=>200|267=>201|266=>217|314=>218|n=>n,fun|9=>9|31=>87|3=>3|4=>4|0=>0|105=>197|21=>21|5=>5|46=>123|119=>260|139=>263|138=>262|146=>276|51=>155|n=>n,fun|1=>1|3=>2|4=>3|n=>n⟩
theorem PL:Go.Proofs.Lays.n146 prog BM:= {
 mixed:=by kernel_rfl
 f138:=func122.trans (congrArg some (by kernel_rfl))
 f143:=func123.trans (congrArg some (by kernel_rfl))
 f146:=func37.trans (congrArg some (by kernel_rfl))
 f195:=func174.trans (congrArg some (by kernel_rfl))
 f197:=func125.trans (congrArg some (by kernel_rfl))
 f217:=func198.trans (congrArg some (by kernel_rfl))
 f218:=func175.trans (congrArg some (by kernel_rfl))
 f219:=func176.trans (congrArg some (by kernel_rfl))
 f221:=func73.trans (congrArg some (by kernel_rfl))
 f224:=func200.trans (congrArg some (by kernel_rfl))
 f225:=func199.trans (congrArg some (by kernel_rfl))
 f260:=func177.trans (congrArg some (by kernel_rfl))
 f266:=func217.trans (congrArg some (by kernel_rfl))
 f267:=func201.trans (congrArg some (by kernel_rfl))
 f268:=func121.trans (congrArg some (by kernel_rfl))
 f314:=func218.trans (congrArg some (by kernel_rfl))
 t0:=underlying0
 a0:=isAgg0
 z0:=sizeOf0
 v0:=zeroValue0
 t3:=underlying3
 a3:=isAgg3
 z3:=sizeOf3
 v3:=zeroValue3
 t4:=underlying4
 a4:=isAgg4
 z4:=sizeOf4
 v4:=zeroValue4
 t5:=underlying5
 a5:=isAgg5
 z5:=sizeOf5
 v5:=zeroValue5
 t9:=underlying9
 a9:=isAgg9
 z9:=sizeOf9
 v9:=zeroValue9
 t21:=underlying21
 a21:=isAgg21
 z21:=sizeOf21
 v21:=zeroValue21
 t31:=underlying87
 a31:=isAgg87
 z31:=sizeOf87
 v31:=zeroValue87
 t46:=underlying123
 a46:=isAgg123
 z46:=sizeOf123
 v46:=zeroValue123
 t51:=underlying155
 a51:=isAgg155
 z51:=sizeOf155
 v51:=zeroValue155
 t105:=underlying197
 a105:=isAgg197
 z105:=sizeOf197
 v105:=zeroValue197
 t119:=underlying260
 a119:=isAgg260
 z119:=sizeOf260
 t138:=underlying262
 a138:=isAgg262
 z138:=sizeOf262
 v138:=zeroValue262
 t139:=underlying263
 a139:=isAgg263
 z139:=sizeOf263
 v139:=zeroValue263
 t146:=underlying276
 a146:=isAgg276
 z146:=sizeOf276
 v146:=zeroValue276
 g1:=by kernel_rfl
 g3:=by kernel_rfl
 g4:=by kernel_rfl}
def BL:Go.Shelf.Ren:=⟨fun|231=>74|n=>n,fun|9=>9|5=>5|3=>3|4=>4|n=>n,fun|n=>n⟩
theorem PK:Go.Proofs.Lays.n231 prog BL:= {
 mixed:=by kernel_rfl
 f231:=func74.trans (congrArg some (by kernel_rfl))
 t3:=underlying3
 a3:=isAgg3
 z3:=sizeOf3
 v3:=zeroValue3
 t4:=underlying4
 a4:=isAgg4
 z4:=sizeOf4
 v4:=zeroValue4
 t5:=underlying5
 a5:=isAgg5
 z5:=sizeOf5
 v5:=zeroValue5
 t9:=underlying9
 a9:=isAgg9
 z9:=sizeOf9
 v9:=zeroValue9}
def BK:Go.Shelf.Ren:=⟨fun|232=>75|n=>n,fun|9=>9|5=>5|3=>3|4=>4|n=>n,fun|n=>n⟩
theorem PG:Go.Proofs.Lays.n232 prog BK:= {
 mixed:=by kernel_rfl
 f232:=func75.trans (congrArg some (by kernel_rfl))
 t3:=underlying3
 a3:=isAgg3
 z3:=sizeOf3
 v3:=zeroValue3
 t4:=underlying4
 a4:=isAgg4
 z4:=sizeOf4
 v4:=zeroValue4
 t5:=underlying5
 a5:=isAgg5
 z5:=sizeOf5
 v5:=zeroValue5
 t9:=underlying9
 a9:=isAgg9
 z9:=sizeOf9
 v9:=zeroValue9}
theorem X6:(prog.info? 9).map (fun i=>(i.zero,i.size,i.bytes))=some (some (.string ByteArray.empty),1,16):=by kernel_rfl
theorem Ia(s:ByteArray)(m:Int)(w:World)(hs:s.size<4294967281)(hm:w.cell? ⟨1,0,none⟩=some (.int .i64 m)):
  Calls prog 37 #[.string s,.string ⟨#[10]⟩] w fun e w'=>
   e= .returned (.slice (some ⟨w.heap.size,0,none⟩) (Lib.countB s ⟨#[10]⟩+1) (Lib.countB s ⟨#[10]⟩+1))/\w'=w.alloc (.cells ((Lib.splitB ⟨#[10]⟩ 0 (Lib.countB s ⟨#[10]⟩) s).map Value.string).toArray 9):=
 Any.strings_Split PL X6 s ⟨#[10]⟩ m w hs hm (by decide)
theorem Kq(s:ByteArray)(c:UInt8)(w:World):
 Calls prog 74 #[.string s,.int .u8 c.toNat] w fun e w'=>e= .returned (.string ⟨(Lib.trimLeftB s.data.toList c).toArray⟩)/\w'=w:=Any.strings_trimLeftByte PK s c w
theorem Ko(s:ByteArray)(c:UInt8)(w:World)(hs:s.size<=9223372036854775807):
 Calls prog 75 #[.string s,.int .u8 c.toNat] w fun e w'=>e= .returned (.string ⟨(Lib.trimRightB s.data.toList c).toArray⟩)/\w'=w:=Any.strings_trimRightByte PG s c w hs
theorem uE(c:UInt8):∀(l r:List UInt8),c∉l->Lib.indexByte (l++c::r) c=l.length
 | [],r,_=>by simp[Lib.indexByte]
 |b::l,r,h=>by
  have h1:b≠c:=fun e=>h (by simp[e]);have ih:=uE c l r (fun x=>h (by simp[x]));show(if b==c then(0:Int)else if Lib.indexByte (l++c::r) c== -1 then-1 else Lib.indexByte (l++c::r) c+1)=_;rw[ih];have h2:(b==c)=false:=by simpa using h1
  have h3:(((l.length:Nat):Int)== -1)=false:=by simp
  simp[h2,h3]
theorem uD(c:UInt8):∀(l:List UInt8),c∉l->Lib.indexByte l c= -1
 | [],_=>rfl
 |b::l,h=>by
  have h1:b≠c:=fun e=>h (by simp[e]);have ih:=uD c l (fun x=>h (by simp[x]));have h2:(b==c)=false:=by simpa using h1
  simp[Lib.indexByte,ih,h2]
open Go.RowKit Go.Deep
attribute [local go_sem↓] Go.wp_at_zero Go.wp_at_succ
def dB:List UInt8->List (List UInt8)
 | []=> [[]]
 |b::t=>if b=10 then []::dB t else match dB t with|x::xs=>(b::x)::xs| []=> [[b]]
theorem xA:∀l:List UInt8,(10:UInt8)∉l->dB l= [l]
 | [],_=>rfl
 |b::t,h=>by
  have hb:¬b=10:=fun e=>h (by simp[e]);simp only[dB,if_neg hb,xA t (fun x=>h (by simp[x]))]
theorem sw:∀(a r:List UInt8),(10:UInt8)∉a->dB (a++10::r)=a::dB r
 | [],r,_=>by simp[dB]
 |b::t,r,h=>by
  have hb:¬b=10:=fun e=>h (by simp[e]);simp only[List.cons_append,dB,if_neg hb,sw t r (fun x=>h (by simp[x]))]
theorem zO:∀l:List UInt8,∀x∈dB l,x.length<=l.length
 | [],x,h=>by simp[dB]at h;simp[h]
 |b::t,x,h=>by
  have ih:=zO t;unfold dB at h;split at h
  .rcases List.mem_cons.1 h with rfl|h
   .simp
   .have:=ih x h;simp;omega
  .split at h
   .rename_i y ys hy;rw[hy]at ih;rcases List.mem_cons.1 h with rfl|h
    .have:=ih y (by simp);simp;omega
    .have:=ih x (by simp[h]);simp;omega
   .simp at h;simp[h]
theorem zN:∀l:List UInt8,(dB l).length<=l.length+1
 | []=>by simp[dB]
 |b::t=>by
  have ih:=zN t;unfold dB;split
  .simp;omega
  .split
   .rename_i y ys hy;rw[hy]at ih;simp at ih⊢;omega
   .simp
theorem VB:∀(l:List UInt8),(10:UInt8)∈l->∃a r,l=a++10::r/\(10:UInt8)∉a
 |b::t,h=>by
  by_cases hb:b=10
  .exact⟨[],t,by rw[hb];rfl,by simp⟩
  .obtain⟨a,r,e,ha⟩:=VB t (by simpa[Ne.symm hb]using h);exact⟨b::a,r,by rw[e];rfl,by simp[ha,Ne.symm hb]⟩
theorem Pz:∀(n:Nat) (l:List UInt8),l.length<=n->Lib.splitB ⟨#[10]⟩ 0 (Lib.countB ⟨l.toArray⟩ ⟨#[10]⟩) ⟨l.toArray⟩=(dB l).map (fun x=>(⟨x.toArray⟩:ByteArray))/\Lib.countB ⟨l.toArray⟩ ⟨#[10]⟩+1=(dB l).length:=by
 intro n;induction n with
 |zero=>
  intro l h;obtain rfl:l= []:=List.length_eq_zero_iff.1 (by omega);have h1:Lib.indexB ⟨#[]⟩ ⟨#[10]⟩= -1:=by decide
  rw[show(⟨([]:List UInt8).toArray⟩:ByteArray)=⟨#[]⟩from rfl,Lib.countB_miss _ _ h1,Lib.splitB_zero];exact⟨rfl,rfl⟩
 |succ n ih=>
  intro l h;by_cases hm:(10:UInt8)∈l
  .obtain⟨a,r,rfl,ha⟩:=VB l hm;have hi:Lib.indexB ⟨(a++10::r).toArray⟩ ⟨#[10]⟩=(a.length:Int):=by
    show Lib.index (a++10::r) [10]=_;rw[Lib.index_one];exact uE 10 a r ha
   have e1:(⟨(a++10::r).toArray⟩:ByteArray).extract (a.length+(⟨#[10]⟩:ByteArray).size) (⟨(a++10::r).toArray⟩:ByteArray).size=⟨r.toArray⟩:=by
    rw[Lib.extract_mk];congr 2
    simp[ByteArray.size];exact List.take_of_length_le (by omega)
   have e2:(⟨(a++10::r).toArray⟩:ByteArray).extract 0 (a.length+0)=⟨a.toArray⟩:=by
    rw[Lib.extract_mk];congr 2
    simp
   have ihr:=ih r (by simp at h;omega);rw[Lib.countB_hit _ _ a.length (by decide) hi,e1,sw a r ha,Nat.add_comm 1];refine⟨?_,by rw[List.length_cons,<-ihr.2]⟩;rw[Lib.splitB_hit _ _ _ _ a.length hi,e1,e2,ihr.1];rfl
  .have h1:Lib.indexB ⟨l.toArray⟩ ⟨#[10]⟩= -1:=by
    show Lib.index l [10]=_;rw[Lib.index_one];exact uD 10 l hm
   rw[Lib.countB_miss _ _ h1,Lib.splitB_zero,xA l hm];exact⟨rfl,rfl⟩
theorem Vx{l:List UInt8}(h:∀b∈l,b=32):l.dropWhile (· ==32)= []:=by
 induction l with
 |nil=>rfl
 |cons b t ih=>
  have hb:(b==32)=true:=by simpa using h b (by simp)
  simp only[List.dropWhile,hb];exact ih fun x hx=>h x (by simp[hx])
theorem drop_nil{l:List UInt8}(h:l.dropWhile (· ==32)= []):∀b∈l,b=32:=by
 induction l with
 |nil=>simp
 |cons b t ih=>
  cases hb:(b==32)with
  |true=>
   simp only[List.dropWhile,hb]at h;intro x hx;rcases List.mem_cons.1 hx with rfl|hx
   .simpa using hb
   .exact ih h x hx
  |false=>simp[List.dropWhile,hb]at h
theorem Si(l:List UInt8):Lib.trimLeftB (Lib.trimRightB l 32) 32= []↔∀b∈l,b=32:=by
 unfold Lib.trimLeftB Lib.trimRightB;constructor
 .intro h b hb;have h1:=drop_nil h;have h2:∀l:List UInt8,(∀b∈l.dropWhile (· ==32),b=32)->l.dropWhile (· ==32)= []:=fun l hl=>by
   cases hd:l.dropWhile (· ==32)with
   |nil=>rfl
   |cons x t=>
    exfalso;have hx:=hl x (by rw[hd];simp);have:∀(l:List UInt8) x t,l.dropWhile (· ==32)=x::t->x≠32:=fun l=>by
     induction l with
     |nil=>intro x t h;cases h
     |cons b l ih=>
      intro x t h;cases hb:(b==32)with
      |true=>simp only[List.dropWhile,hb]at h;exact ih x t h
      |false=>
       simp only[List.dropWhile,hb,List.cons.injEq]at h;rw[<-h.1];simpa using hb
    exact this _ _ _ hd hx
  have h3:=h2 l.reverse fun b hb=>h1 b (by simpa using hb);exact drop_nil h3 b (by simpa using hb)
 .intro h;rw[Vx (l:=l.reverse) (fun b hb=>h b (by simpa using hb))];rfl
theorem OV(s:ByteArray)(cC:s.size<=100000000)(w:World):
  Calls prog 38 #[.string s,.string ⟨#[32]⟩] w fun e w'=>∃t,e= .returned (.string t)/\((t.toList== [])=s.data.toList.all (· ==32))/\Below w.heap.size w w':=by
 by_cases hs:s.toList= []
 .have ij:s.toList.isEmpty=true:=by simpa using hs
  have tM:s.data.toList= []:=by rw[<-kI];exact hs
  go_enter func38,ntmps38;go_wp2;go_ret;exact⟨s,rfl,by rw[hs,tM];rfl,Below.refl _ _⟩
 .have ij:s.toList.isEmpty=false:=by simpa using hs
  have HR:=hide (fun w=>Ko s 32 w (by omega));obtain⟨t,ht⟩:∃t:ByteArray,t=⟨(Lib.trimRightB s.data.toList 32).toArray⟩:=⟨_,rfl⟩;rw[<-ht]at HR;have HL:=hide (fun w=>Kq t 32 w);obtain⟨u,hu⟩:∃u:ByteArray,u=⟨(Lib.trimLeftB t.data.toList 32).toArray⟩:=⟨_,rfl⟩;rw[<-hu]at HL;have cY:Hid ((u.toList== [])=s.data.toList.all (· ==32)):=by
   show _=_;rw[kI,hu,ht];have:=Si s.data.toList;cases hx:s.data.toList.all (· ==32)with
   |true=>
    rw[beq_iff_eq];simp only[List.all_eq_true,beq_iff_eq]at hx;exact this.2 hx
   |false=>
    rw[beq_eq_false_iff_ne];intro h9;have h8:=this.1 h9;rw[List.all_eq_false]at hx;obtain⟨x,h6,h7⟩:=hx;exact h7 (by simpa using h8 x h6)
  clear ht hu;go_enter func38,ntmps38;go_wp2_with fail
  go_quiet (first|(go_at_call 75;exact Calls.quiet_of_same (HR.out _))|(go_at_call 74;exact Calls.quiet_of_same (HL.out _)))
  go_wp2;go_ret;exact⟨u,rfl,cY.out,⟨rfl,rfl,rfl,Nat.le_refl _,fun _ _=>rfl⟩⟩
namespace bC
def read(st:St)(n:Nat):List (List UInt8)->St×Nat×Nat×Nat
 | []=>(st,0,0,0)
 |x::xs=>if x.all (· ==32)then read st (n+1) xs else if(line st (x.map UInt8.toNat)).2.2=0 then((read (line st (x.map UInt8.toNat)).1 (n+1) xs).1,(line st (x.map UInt8.toNat)).2.1+(read (line st (x.map UInt8.toNat)).1 (n+1) xs).2.1,(read (line st (x.map UInt8.toNat)).1 (n+1) xs).2.2)else((line st (x.map UInt8.toNat)).1,(line st (x.map UInt8.toNat)).2.1,n,(line st (x.map UInt8.toNat)).2.2)
end bC
theorem LB{w:World}{F:Nat->Prop}{lb mr:Nat}{st:bC.St}{l:List (Nat×Nat)}{A:Nat->OD}(h:LG w F lb mr st l A)(ha:Alpha w)(hF0:¬F 0){m:Int}(hm:w.cell? ⟨1,0,none⟩=some (.int .i64 m))(s:ByteArray)(hs:s.size<=100000000):
  Calls prog 19 #[.pointer (some ⟨lb,0,none⟩),.string s] w fun e w'=>
   e= .returned (.tuple #[.int .i64 ((bC.read st 0 (dB s.data.toList)).2.1:Nat),.int .i64 ((bC.read st 0 (dB s.data.toList)).2.2.1:Nat),.int .i64 ((bC.read st 0 (dB s.data.toList)).2.2.2:Nat)])/\gF F w w' lb mr (bC.read st 0 (dB s.data.toList)).1:=by
 obtain⟨R,hR⟩:∃R,R=bC.read st 0 (dB s.data.toList):=⟨_,rfl⟩;rw[<-hR];obtain⟨kO,NF⟩:=Pz s.data.toList.length s.data.toList (Nat.le_refl _);have Mn:(⟨s.data.toList.toArray⟩:ByteArray)=s:=rfl;rw[Mn]at kO NF;have SW:=hide (Ia s m w (by omega) hm);rw[kO,NF]at SW;obtain⟨L,hL⟩:∃L,L=dB s.data.toList:=⟨_,rfl⟩;rw[<-hL]at SW hR NF;have xd:Hid (∀x∈L,x.length<=100000000):=fun x hx=>by
  have h1:=zO s.data.toList x (by rw[<-hL];exact hx);have h2:s.data.toList.length=s.size:=by rw[Array.length_toList];rfl
  omega
 have hLn:L.length<=100000001:=by
  have h1:=zN s.data.toList;have h2:s.data.toList.length=s.size:=by rw[Array.length_toList];rfl
  rw[hL];omega
 replace hR:=hide hR;obtain⟨n,hn⟩:∃n,n=L.length:=⟨_,rfl⟩;rw[<-hn]at SW hLn;replace hn:=hide hn;have HL:=hide h;have HA:=hide ha;have HF0:=hide hF0;clear h ha hF0 kO NF hL Mn;go_enter func19,ntmps19;go_wp2_with fail
 go_at_call 37
 refine SW.out.mono ?_;rintro _ _ ⟨rfl,rfl⟩;have ai:Hid (∀b,F b->b<w.heap.size):=HL.out.lt;have HC:=hide (aK w ((L.map fun x=>(⟨x.toArray⟩:ByteArray)).map Value.string).toArray 9);have HB:=hide ((Below.refl w.heap.size w).alloc (Nat.le_refl _) (.cells ((L.map fun x=>(⟨x.toArray⟩:ByteArray)).map Value.string).toArray 9));have HZ:Hid ((w.alloc (.cells ((L.map fun x=>(⟨x.toArray⟩:ByteArray)).map Value.string).toArray 9)).heap.size=w.heap.size+1):=by show _=_;simp
 generalize w.alloc (.cells ((L.map fun x=>(⟨x.toArray⟩:ByteArray)).map Value.string).toArray 9)=w1 at HC HB HZ⊢;have HL1:=hide (HL.out.later HB.out);have Cs:Hid (Alpha w1):=fun i hi=>dz (HA.out i hi) (HB.out.block 0 HA.out.size);clear HL HA SW;go_wp2_with fail
 go_loopw [7,15] (fun cv iv wr=>∃(i c:Nat) (Fi:Nat->Prop) (tN:bC.St) (li:List (Nat×Nat)) (Ai:Nat->OD),cv= .int .i64 c/\iv= .int .i64 i/\i<=n/\c<=i/\Hid (R=((bC.read tN i (L.drop i)).1,c+(bC.read tN i (L.drop i)).2.1,(bC.read tN i (L.drop i)).2.2))/\Hid (LG wr Fi lb mr tN li Ai)/\Hid (∀b,Fi b->F b\/w1.heap.size<=b)/\Hid (Kp F w1 wr)/\Hid (Alpha wr))
  (fun _ x _=>leftOf n (intOf x).toNat)
 case atStart=>
  refine⟨0,0,F,st,l,A,rfl,rfl,by omega,by omega,?_,HL1.out,fun b hb=>.inl hb,Kp.of_below (Below.refl _ _),Cs.out⟩;show R=_;rw[hR.out,List.drop_zero,Nat.zero_add]
 case round=>
  obtain⟨i,c,Fi,tN,li,Ai,rfl,rfl,hi,hci,xC,QW,QY,oL,Gk⟩:=hrel;by_cases pf:i<n
  .obtain⟨x,hx⟩:∃x,L[i]? =some x:=⟨_,List.getElem?_eq_getElem (by rw[<-hn.out];exact pf)⟩;have PH:x.length<=100000000:=xd.out x (List.mem_of_getElem? hx);have bm:wr.cell? ⟨w.heap.size,i,none⟩=some (.string ⟨x.toArray⟩):=by
    refine dz (HC.out.cell i _ ?_) (oL.out.block _ (by rw[HZ.out];omega) fun hF=>by have:=ai.out _ hF;omega);simp[hx]
   have wb:L.drop i=x::L.drop (i+1):=by
    have uc:i<L.length:=by rw[<-hn.out];exact pf
    rw[List.drop_eq_getElem_cons uc];have e:=hx;rw[List.getElem?_eq_getElem uc]at e;rw[Option.some.inj e]
   rw[wb,bC.read]at xC;clear wb;have sg:(0:Int)<=(i:Int):=by omega
   have qi:(i:Int)<(n:Int):=by omega
   obtain⟨t,ht⟩:∃t:ByteArray,t=⟨x.toArray⟩:=⟨_,rfl⟩;have CN:x=t.data.toList:=by rw[ht]
   rw[<-ht]at bm;subst CN;clear ht;have C':t.size<=100000000:=PH;replace hx:=hide hx;go_wp2_with fail
   go_at_call 38
   refine(OV t C' wr).mono ?_;rintro _ w3 ⟨u,rfl,hu,cQ⟩;have HU:=hide hu;clear hu;cases cN:t.data.toList.all (· ==32)with
   |true=>
    rw[cN]at HU;rw[if_pos cN]at xC;have mv:u.toList= []:=by simpa using HU.out
    have mu:u.toList.isEmpty=true:=by simpa using mv
    have tt:=hide (QW.out.later cQ);have Ca:Hid (Alpha w3):=Gk.out.later cQ;have hK3:Hid (Kp F w1 w3):=⟨cQ.os.trans oL.out.os,cQ.tape.trans oL.out.tape,cQ.output.trans oL.out.output,Nat.le_trans oL.out.size cQ.size,fun b h1 h2=>by rw[cQ.block b (Nat.lt_of_lt_of_le h1 oL.out.size),oL.out.block b h1 h2]⟩;have iq:Hid (leftOf n (i+1)<leftOf n i):=aW (by omega) pf;clear QW oL Gk cQ;go_wp2;go_roundw
    case rel=>exact⟨i+1,c,Fi,tN,li,Ai,rfl,by go_num,by omega,by omega,xC.out,tt.out,QY.out,hK3.out,Ca.out⟩
    case measure=>exact iq.out
   |false=>
    rw[cN]at HU;rw[if_neg (by rw[cN];decide)]at xC;have mv:¬u.toList= []:=by simpa using HU.out
    have mu:u.toList.isEmpty=false:=by simpa using mv
    have RL:=hide (BO (QW.out.later cQ) (Gk.out.later cQ) t t.size rfl C');have Be:t.data.toList.map UInt8.toNat=bytesOf t:=rfl;rw[Be]at xC;have eA:=bC.Us tN (bytesOf t);generalize bC.line tN (bytesOf t)=r at xC eA RL;obtain⟨st5,c5,e5⟩:=r;dsimp only at xC eA RL;have K6:¬Fi 0:=fun h0=>by
     rcases QY.out 0 h0 with h1|h1
     .exact HF0.out h1
     .rw[HZ.out]at h1;omega
    go_wp2_with fail
    go_at_call 39
    refine RL.out.mono ?_;rintro _ w5 ⟨rfl,BY⟩;have hAl5:Hid (Alpha w5):=BY.alpha (Gk.out.later cQ) K6;obtain⟨F5,l5,A5,qt,xf,ik⟩:=gF.later cQ BY;have QZ:Hid (∀b,F5 b->F b\/w1.heap.size<=b):=fun b hb=>by
     have:=oL.out.size;rcases xf b hb with h1|h1
     .exact QY.out b h1
     .exact .inr (by omega)
    have QX:Hid (Kp F w1 w5):=⟨ik.os.trans oL.out.os,ik.tape.trans oL.out.tape,ik.output.trans oL.out.output,Nat.le_trans oL.out.size ik.size,fun b h1 h2=>by
     have:=oL.out.size;rw[ik.block b (by omega) (fun h3=>by
      rcases QY.out b h3 with h4|h4
      .exact h2 h4
      .omega),oL.out.block b h1 h2]⟩
    have RU:=hide qt;have iq:Hid (leftOf n (i+1)<leftOf n i):=aW (by omega) pf;have hc5:c5<=1:=eA.1;clear qt xf ik QW QY oL Gk cQ BY RL K6 bm eA;by_cases he:e5=0
    .subst he;rw[if_pos rfl]at xC;have dm:IntKind.i64.wrap ((c:Int)+(c5:Int))=((c+c5:Nat):Int):=aH _ (by omega) (by omega);go_wp2;go_roundw
     case rel=>
      refine⟨i+1,c+c5,F5,st5,l5,A5,by go_num,by go_num,by omega,by omega,?_,RU.out,QZ.out,QX.out,hAl5.out⟩;show R=_;rw[xC.out,Nat.add_assoc]
     case measure=>exact iq.out
    .rw[if_neg he]at xC;have ud:¬((e5:Nat):Int)=0:=by omega
     have dm:IntKind.i64.wrap ((c:Int)+(c5:Int))=((c+c5:Nat):Int):=aH _ (by omega) (by omega);go_wp2;go_ret3
     rw[xC.out];exact⟨rfl,gF.later HB.out ⟨F5,l5,A5,RU.out,QZ.out,QX.out⟩⟩
  .obtain rfl:i=n:=by omega
   have qq:R=(tN,c,0,0):=by
    rw[xC.out,List.drop_eq_nil_of_le (by rw[<-hn.out];exact Nat.le_refl _)];rfl
   go_wp2;go_ret3
   rw[qq];exact⟨rfl,gF.later HB.out ⟨Fi,li,Ai,QW.out,QY.out,oL.out⟩⟩
end Go.Proofs.YtmfpiodlecapiaaGreatDoor
namespace Go.Proofs.YtmfpiodlecapiaaGreatDoor.Gs
open Go.Proofs.Tryz
open Go.Proofs.YtmfpiodlecapiaaGreatDoor
theorem Ic{K:Nat}{R:Nat->Nat->Nat}{d:Nat->Nat}(hR:bV K R)(hI:Gi K R)(hd:Small K d):∀c,c<=K->∃R' d',bV K R'/\Gi K R'/\Small K d'/\Unit K c R'/\∀x,Small K x->(Solves K R' d' x↔Solves K R d x)
 |0,_=>⟨R,d,hR,hI,hd,fun i j _ hj=>by omega,fun x _=>Iff.rfl⟩
 |c+1,hc=>by
  obtain⟨R',d',h1,h2,h3,h4,h5⟩:=Ic hR hI hd c (by omega);obtain⟨p,iu,oa,px⟩:=pivot h1 h4 h2 (show c<K by omega);exact⟨kV K c p R',yY K c p R' d',yV h1 (by omega) oa px,Ht h1 h2 (by omega) oa px,wX h1 h3 (by omega) oa px,Df h1 h4 (by omega) iu oa px,fun x hx=>(pE h1 h3 hx (by omega) oa px).trans (h5 x hx)⟩
theorem Ie{K:Nat}{R:Nat->Nat->Nat}{d:Nat->Nat}(hR:bV K R)(hI:Gi K R)(hd:Small K d):∃x,Small K x/\Solves K R d x:=by
 obtain⟨R',d',h1,h2,h3,h4,h5⟩:=Ic hR hI hd K (Nat.le_refl _);exact⟨d',h3,(h5 d' h3).1 ((wH h4 h3).2 fun i _=>rfl)⟩
end Go.Proofs.YtmfpiodlecapiaaGreatDoor.Gs
namespace Go.Proofs.YtmfpiodlecapiaaGreatDoor
open Go.Proofs.Tryz
section
open Go.RowKit Go.Deep
variable{V n s z:Nat}{b:List Nat}
def zM(ct:Nat->Option (List Nat))(K:Nat):List Nat:=(List.range K).filter fun j=>(ct j).isSome==false
def ZY(ct:Nat->Option (List Nat))(K:Nat):List Nat:=(List.range K).filter fun j=>(ct j).isSome==true
def za(ct:Nat->Option (List Nat))(K V:Nat):List Nat:=(List.range V).filter fun j=>(ct (K+j)).isSome==true
def mG(ct:Nat->Option (List Nat))(K V:Nat):Bool:=decide ((zM ct K).length<=(za ct K V).length)
def fJ(ct:Nat->Option (List Nat))(K V:Nat):List Nat:=ZY ct K++((za ct K V).take (zM ct K).length).map (K+ ·)
theorem TV(ct:Nat->Option (List Nat))(K:Nat):(ZY ct K).length+(zM ct K).length=K:=by
 unfold ZY zM;have:=Pk.filter_len (fun j=>(ct j).isSome==true) (List.range K);have e:(fun a=> !((ct a).isSome==true))=fun j=>(ct j).isSome==false:=by
  funext a;cases (ct a).isSome<;>rfl
 rw[e,List.length_range]at this;exact this
theorem wC{ct:Nat->Option (List Nat)}{K:Nat}(h:mG ct K V=true):(fJ ct K V).length=K:=by
 have:=TV ct K;have h':=of_decide_eq_true h;unfold fJ;rw[List.length_append,List.length_map,List.length_take];omega
theorem oV{ct:Nat->Option (List Nat)}{K:Nat}(h:n∈fJ ct K V):(ct n).isSome=true/\n<K+V:=by
 unfold fJ at h;rcases List.mem_append.1 h with h|h
 .have h1:=List.mem_filter.1 h;have h2:=List.mem_range.1 h1.1;exact⟨by simpa using h1.2,by omega⟩
 .obtain⟨j,hj,rfl⟩:=List.mem_map.1 h;have h1:=List.mem_filter.1 (List.mem_of_mem_take hj);have h2:=List.mem_range.1 h1.1;exact⟨by simpa using h1.2,by omega⟩
theorem yJ(ct:Nat->Option (List Nat))(K V:Nat):(fJ ct K V).Nodup:=by
 unfold fJ;refine List.nodup_append.2 ⟨List.nodup_range.filter _,Pk.nodup_map ((List.nodup_range.filter _).sublist (List.take_sublist _ _)) (fun a _ b _ e=>by omega),fun a ha b hb e=>?_⟩;have h1:=List.mem_range.1 (List.mem_filter.1 ha).1;obtain⟨j,_,rfl⟩:=List.mem_map.1 hb;omega
theorem TB{K i:Nat}(hK:K<=20)(hn:n<K+20)(hi:i<K):Pk.rowAt K n i<256:=by
 unfold Pk.rowAt;split
 .split<;>decide
 .exact Pk.iJ (by omega) (by omega)
theorem VX{ct:Nat->Option (List Nat)}{K:Nat}(hK:K<=20)(hV:V<=20)(oy:∀n q,ct n=some q->q.length=s/\∀x∈q,x<256)(hw:mG ct K V=true):
  ∃blk:List Nat,blk.length=K*s/\(∀x∈blk,x<256)/\∀n∈fJ ct K V,∀q,ct n=some q->Pk.pieceN blk s K n=q:=by
 have hl:=wC hw;have hn:=yJ ct K V;have hu:∀i,i<K->(fJ ct K V)[i]?.getD 0∈fJ ct K V:=fun i hi=>by
  rw[List.getElem?_eq_getElem (by omega)];exact List.getElem_mem _
 have hb:∀n∈fJ ct K V,n<K+20:=fun n h=>by have:=(oV h).2;omega
 have hR:Gs.bV K (fun i=>Pk.rowAt K ((fJ ct K V)[i]?.getD 0)):=fun i hi j hj=>TB hK (hb _ (hu i hi)) hj;have hI:Gs.Gi K (fun i=>Pk.rowAt K ((fJ ct K V)[i]?.getD 0)):=fun x hx h=>by
  refine Pk.rows_inj hK hn hb (by omega) hx fun n hn=>?_;obtain⟨i,hi,e⟩:=List.mem_iff_getElem.1 hn;have:=h i (by omega);dsimp only at this;rw[show(fJ ct K V)[i]?.getD 0=n by rw[List.getElem?_eq_getElem hi,e];rfl]at this;exact this
 have hd:∀c:Nat,Gs.Small K (fun i=>((ct ((fJ ct K V)[i]?.getD 0)).getD [])[c]?.getD 0):=fun c i hi=>by
  have h1:=(oV (hu i hi)).1;obtain⟨q,hq⟩:=Option.isSome_iff_exists.1 h1;simp only[hq,Option.getD_some];cases hx:q[c]? with
  |none=>simp
  |some x=>exact(oy _ q hq).2 x (List.mem_of_getElem? hx)
 obtain⟨X,hX⟩:∃X:Nat->Nat->Nat,∀c:Nat,Gs.Small K (X c)/\Gs.Solves K (fun i=>Pk.rowAt K ((fJ ct K V)[i]?.getD 0)) (fun i=>((ct ((fJ ct K V)[i]?.getD 0)).getD [])[c]?.getD 0) (X c):=⟨fun c=>Classical.choose (Gs.Ie hR hI (hd c)),fun c=>Classical.choose_spec (Gs.Ie hR hI (hd c))⟩;refine⟨(List.range (K*s)).map fun k=>X (k%s) (k/s),by simp,fun x h=>?_,fun n hn q hq=>?_⟩
 .obtain⟨k,hk,rfl⟩:=List.mem_map.1 h;have hk:=List.mem_range.1 hk;exact(hX (k%s)).1 _ (Nat.div_lt_of_lt_mul (by rw[Nat.mul_comm];exact hk))
 .have hlen:((List.range (K*s)).map fun k=>X (k%s) (k/s)).length=K*s:=by simp
  have ai:∀x∈(List.range (K*s)).map fun k=>X (k%s) (k/s),x<256:=fun x h=>by
   obtain⟨k,hk,rfl⟩:=List.mem_map.1 h;have hk:=List.mem_range.1 hk;exact(hX (k%s)).1 _ (Nat.div_lt_of_lt_mul (by rw[Nat.mul_comm];exact hk))
  apply List.ext_getElem?;intro c;by_cases hc:c<s
  .rw[Pk.pieceN_at hlen ai hc];obtain⟨i,hi,e⟩:=List.mem_iff_getElem.1 hn;have h2:=(hX c).2 i (by omega);simp only[List.getElem?_eq_getElem hi,e,Option.getD_some,hq]at h2;have h3:=(oy n q hq).1;rw[List.getElem?_eq_getElem (show c<q.length by omega)]at h2⊢;rw[Option.some.injEq];refine Eq.trans ?_ h2;unfold Pk.dotN Gs.lin;refine Pk.sumN_congr fun j hj=>?_;have h4:j*s+c<K*s:=by
    have:(j+1)*s<=K*s:=Nat.mul_le_mul_right s hj;rw[Nat.add_mul]at this;omega
   have h5:(j*s+c)%s=c:=by rw[Nat.mul_comm,Nat.mul_add_mod,Nat.mod_eq_of_lt hc]
   have h6:(j*s+c)/s=j:=by
    rw[Nat.mul_comm,Nat.mul_add_div (by omega),Nat.div_eq_of_lt hc];rfl
   dsimp only;rw[List.getElem?_map,List.getElem?_range h4];simp only[Option.map_some,Option.getD_some,h5,h6]
  .rw[List.getElem?_eq_none (by rw[Pk.dW hlen];omega),List.getElem?_eq_none (by rw[(oy n q hq).1];omega)]
theorem Ni{ct:Nat->Option (List Nat)}{K:Nat}(hK:K<=20)(hV:V<=20)(hw:mG ct K V=true){a:List Nat}(ha:a.length=K*s)(hb:b.length=K*s)(eW:∀x∈a,x<256)(cN:∀x∈b,x<256)(h:∀n∈fJ ct K V,Pk.pieceN a s K n=Pk.pieceN b s K n):a=b:=by
 have lt:∀{l:List Nat} (i:Nat),(∀x∈l,x<256)->l[i]?.getD 0<256:=fun {l} i hl=>by
  cases hx:l[i]? with
  |none=>simp
  |some x=>exact hl x (List.mem_of_getElem? hx)
 have key:∀c,c<s->∀i,i<K->a[i*s+c]?.getD 0=b[i*s+c]?.getD 0:=fun c hc i hi=>by
  have h0:=Pk.rows_inj (x:=fun i=>(a[i*s+c]?.getD 0) ^^^ (b[i*s+c]?.getD 0)) hK (yJ ct K V) (fun n hn=>by have:=(oV hn).2;omega) (by rw[wC hw];exact Nat.le_refl _) (fun i _=>Gf.xor_lt (lt _ eW) (lt _ cN)) (fun n hn=>?_) i hi
  .exact Gf.xor_eq_zero h0
  .have h1:=congrArg (fun l=>l[c]?) (h n hn);simp only[Pk.pieceN_at ha eW hc,Pk.pieceN_at hb cN hc,Option.some.injEq]at h1;have h2:Pk.dotN K n (fun i=>(a[i*s+c]?.getD 0) ^^^ (b[i*s+c]?.getD 0))=Pk.dotN K n (fun i=>a[i*s+c]?.getD 0) ^^^ Pk.dotN K n (fun i=>b[i*s+c]?.getD 0):=by
    unfold Pk.dotN;rw[<-Gs.tK];exact Pk.sumN_congr fun j hj=>Gf.add_mul (lt _ eW) (lt _ cN) (TB hK (by have:=(oV hn).2;omega) hj)
   rw[h2,h1,Nat.xor_self]
 apply List.ext_getElem?;intro k;by_cases hk:k<K*s
 .have hs:0<s:=by
   rcases Nat.eq_zero_or_pos s with h0|h0
   .subst h0;simp at hk
   .exact h0
  have h3:=key (k%s) (Nat.mod_lt _ hs) (k/s) (Nat.div_lt_of_lt_mul (by rw[Nat.mul_comm];exact hk));rw[Nat.mul_comm,Nat.div_add_mod]at h3;rw[List.getElem?_eq_getElem (by omega),List.getElem?_eq_getElem (by omega)]at h3⊢;simpa using h3
 .rw[List.getElem?_eq_none (by omega),List.getElem?_eq_none (by omega)]
namespace gy
noncomputable def blk (o:gy) (z:Nat):List Nat:=by
 classical
 exact if h:∃b:List Nat,b.length=o.oj.K z*o.sz/\(∀x∈b,x<256)/\∀n∈fJ (o.ct z) (o.oj.K z) o.V,∀q,o.ct z n=some q->Pk.pieceN b o.sz (o.oj.K z) n=q then Classical.choose h else List.replicate (o.oj.K z*o.sz) 0
def whole(o:gy):Prop:=∀z,z<o.oj.N->mG (o.ct z) (o.oj.K z) o.V=true
noncomputable def bytes (o:gy):List Nat:=((List.range o.oj.N).map o.blk).flatten
theorem f_(o:gy)(z:Nat):(o.blk z).length=o.oj.K z*o.sz:=by
 unfold blk;split
 .rename_i h;exact(Classical.choose_spec h).1
 .simp
theorem FN(o:gy)(z:Nat):∀x∈o.blk z,x<256:=by
 unfold blk;split
 .rename_i h;exact(Classical.choose_spec h).2.1
 .intro x hx;rw[(List.mem_replicate.1 hx).2];decide
theorem Ok.Ee{o:gy}(h:o.Ok)(hz:z<o.oj.N)(hw:mG (o.ct z) (o.oj.K z) o.V=true):∀n∈fJ (o.ct z) (o.oj.K z) o.V,∀q,o.ct z n=some q->Pk.pieceN (o.blk z) o.sz (o.oj.K z) n=q:=by
 have he:=VX (V:=o.V) (s:=o.sz) (h.oj.jm hz).2 h.oj.v (fun n q hq=>(h.pc z n q hq).2.2) hw;unfold blk;rw[dif_pos he];exact(Classical.choose_spec he).2.2
theorem Ok.blk_eq{o:gy}(h:o.Ok)(hz:z<o.oj.N)(hw:mG (o.ct z) (o.oj.K z) o.V=true)(hb:b.length=o.oj.K z*o.sz)(hl:∀x∈b,x<256)(hp:∀n∈fJ (o.ct z) (o.oj.K z) o.V,∀q,o.ct z n=some q->Pk.pieceN b o.sz (o.oj.K z) n=q):o.blk z=b:=
 Ni (V:=o.V) (h.oj.jm hz).2 h.oj.v hw (o.f_ z) hb (o.FN z) hl fun n hn=>by
  obtain⟨q,hq⟩:=Option.isSome_iff_exists.1 (oV hn).1;rw[h.Ee hz hw n hn q hq,hp n hn q hq]
theorem Ok.Ec{o:gy}(h:o.Ok):o.len<=o.bytes.length:=by
 have h1:=h.oj.Vq;have e:o.bytes.length=((List.range o.oj.N).map o.oj.blk).flatten.length:=by
  unfold bytes;rw[List.length_flatten,List.length_flatten,List.map_map,List.map_map];congr 1
  refine List.map_congr_left fun z hz=>?_;simp only[Function.comp,f_];rw[h.oj.f_ (List.mem_range.1 hz)];rfl
 rw[e];exact h1
end gy
end
section
open Go.Conc Go.ConcN Go.RowKit Go.bn Go.Ren Go.fE Go.Deep Go.kg
variable{p q r w:World}{Sh Sh' F:Nat->Prop}{n ob z lb mr:Nat}{Post:(Nat->Prop)->Goroutine->World->Prop}{cfn:FuncId}{ca:Act}{bA:Array Oper}{aT:List Nat}{ck:List Item}{l:List (Nat×Nat)}
structure bQ(Sh Sh':Nat->Prop)(p p':World):Prop where
 grown:p.heap.size<=p'.heap.size
 keep:∀(b:Nat) o,p.heap[b]? =some o->Live o->p'.heap[b]? =some o
 old:∀b,b<p.heap.size->¬Sh b->¬Sh' b/\p'.heap[b]? =p.heap[b]?
 os:p'.os=p.os
 output:p'.output=p.output
structure dO(p q:World):Prop where
 size:p.heap.size<=q.heap.size
 row:∀b,b<p.heap.size->q.heap[b]? =p.heap[b]?
 os:q.os=p.os
 output:q.output=p.output
theorem dO.refl(p:World):dO p p:=⟨Nat.le_refl _,fun _ _=>rfl,rfl,rfl⟩
theorem dO.trans(h:dO p q)(h':dO q r):dO p r:=⟨Nat.le_trans h.size h'.size,fun b hb=>(h'.row b (Nat.lt_of_lt_of_le hb h.size)).trans (h.row b hb),h'.os.trans h.os,h'.output.trans h.output⟩
theorem dO.below{τ d}(h:Below p.heap.size (p.re τ d) q):dO p q:=⟨h.size,h.block,h.os,h.output⟩
theorem dO.of_below(h:Below p.heap.size p q):dO p q:=⟨h.size,h.block,h.os,h.output⟩
theorem dO.alloc(h:dO p q)(o:Obj):dO p (q.alloc o):=⟨by have:=h.size;simp;omega,fun b hb=>(blk_alloc_lt _ _ _ (Nat.lt_of_lt_of_le hb h.size)).trans (h.row b hb),h.os,h.output⟩
theorem dO.re(h:dO p q)(τ d):dO p (q.re τ d):=⟨h.size,h.row,h.os,h.output⟩
theorem dO.cell(h:dO p q){a:Addr}{v:Value}(hc:p.cell? a=some v):q.cell? a=some v:=by
 rw[<-hc];refine World.cell?_of_block (h.row a.block ?_);unfold World.cell? at hc;cases hb:p.heap[a.block]? with
 |none=>rw[hb]at hc;simp at hc
 |some o=>exact(Array.getElem?_eq_some_iff.1 hb).1
theorem bQ.pO(h:dO p q):bQ Sh Sh p q:=⟨h.size,fun b _ h1 _=>(h.row b (Array.getElem?_eq_some_iff.1 h1).1).trans h1,fun b h1 h2=>⟨h2,h.row b h1⟩,h.os,h.output⟩
theorem bQ.trans{Sh'':Nat->Prop}(h:bQ Sh Sh' p q)(h':bQ Sh' Sh'' q r):bQ Sh Sh'' p r:=
 ⟨Nat.le_trans h.grown h'.grown,fun b o h1 h2=>h'.keep b o (h.keep b o h1 h2) h2,fun b h1 h2=>by
  obtain⟨k1,k2⟩:=h.old b h1 h2;obtain⟨k3,k4⟩:=h'.old b (Nat.lt_of_lt_of_le h1 h.grown) k1;exact⟨k3,k4.trans k2⟩,h'.os.trans h.os,h'.output.trans h.output⟩
open Go.Conc Go.ConcN Go.RowKit Go.bn Go.Ren Go.fE Go.Deep
attribute [local go_sem↓] Go.wp_at_zero Go.wp_at_succ
theorem ug{pa:Nat->Option Addr}{ct:Nat->Option (List Nat)}{b:Bool}(h:∀i,i<n->(pa i).isSome=(ct i).isSome):picks pa b n=(List.range n).filter fun j=>(ct j).isSome==b:=by
 unfold picks;refine List.filter_congr fun i hi=>?_;rw[h i (List.mem_range.1 hi)]
theorem jU.some{o:gy}{d:OD}(h:jU w F ob o d)(hz:z<o.oj.N)(hn:n<o.oj.K z+o.V):(d.pa z n).isSome=(o.ct z n).isSome:=by
 cases hc:o.ct z n with
 |none=>rw[(h.no z n hz hn hc).1];rfl
 |some q=>
  obtain⟨g,l,e,_⟩:=h.has z n q hz hn hc;rw[e];rfl
theorem jU.whole{o:gy}{d:OD}(h:jU w F ob o d)(hz:z<o.oj.N):fI (d.pa z) (o.oj.K z) o.V=mG (o.ct z) (o.oj.K z) o.V:=by
 unfold fI mG;rw[ug (ct:=o.ct z) (fun i hi=>h.some hz (by omega)),ug (ct:=fun j=>o.ct z (o.oj.K z+j)) (fun i hi=>h.some hz (by omega))];rfl
theorem jU.used{o:gy}{d:OD}(h:jU w F ob o d)(hz:z<o.oj.N)(hn:n<o.oj.K z+o.V)(hs:(o.ct z n).isSome=true)(hu:Used (d.pa z) (o.oj.K z) o.V n):n∈fJ (o.ct z) (o.oj.K z) o.V:=by
 obtain⟨h1,h2⟩:=hu;rw[h.whole hz]at h1;have Im:=of_decide_eq_true h1;rw[ug (ct:=o.ct z) (fun i hi=>h.some hz (by omega)),ug (ct:=fun j=>o.ct z (o.oj.K z+j)) (fun i hi=>h.some hz (by omega))]at h2;unfold fJ;rcases h2 with h2|⟨q,hq,rfl⟩
 .exact List.mem_append.2 (.inl (List.mem_filter.2 ⟨List.mem_range.2 h2,by simpa using hs⟩))
 .refine List.mem_append.2 (.inr (List.mem_map.2 ⟨_,?_,rfl⟩));have km:q<(zM (o.ct z) (o.oj.K z)).length:=hq;have cI:q<((za (o.ct z) (o.oj.K z) o.V).take (zM (o.ct z) (o.oj.K z)).length).length:=by
   rw[List.length_take];omega
  have e:(List.filter (fun j=>(o.ct z (o.oj.K z+j)).isSome==true) (List.range o.V))[q]?.getD 0=((za (o.ct z) (o.oj.K z) o.V).take (zM (o.ct z) (o.oj.K z)).length)[q]:=by
   rw[List.getElem_take];show(za (o.ct z) (o.oj.K z) o.V)[q]?.getD 0=_;rw[List.getElem?_eq_getElem (by omega)];rfl
  rw[e];exact List.getElem_mem _
theorem jU.objB{o:gy}{d:OD}(h:jU w F ob o d)(ok:o.Ok):ObjB w d.bb o.oj.N o.V o.sz o.oj.K d.pb d.pa d.pl d.pc o.blk:=by
 refine⟨ok.oj.N1,ok.oj.N2,ok.oj.v,ok.oj.s1,ok.oj.s2,fun z hz=>(ok.oj.jm hz).1,fun z hz=>(ok.oj.jm hz).2,fun z _=>o.f_ z,fun z _=>o.FN z,h.cell,fun z hz=>⟨rfl,h.mY z hz,fun i hi e=>?_,fun i hi e=>?_⟩⟩
 .cases hc:o.ct z i with
  |none=>exact(h.no z i hz hi hc).2
  |some q=>
   obtain⟨g,l,e2,_⟩:=h.has z i q hz hi hc;rw[e]at e2;cases e2
 .rw[h.some hz hi]at e;obtain⟨q,hq⟩:=Option.isSome_iff_exists.1 e;obtain⟨g,l,e1,e2,e3,e4,e5,e6,e7,_⟩:=h.has z i q hz hi hq;refine⟨g,l,e1,e2,e3,e4,e5,fun hu=>?_,e7⟩;have hw:mG (o.ct z) (o.oj.K z) o.V=true:=by rw[<-h.whole hz];exact hu.1
  rw[e6,ok.Ee hz hw i (h.used hz hi e hu) q hq]
theorem pQ{ci:Nat}{cs:List Frame}{oo:Oper}(ho:bA[ci]? =some oo){st:bC.St}{A:Nat->OD}(h:LG p F lb mr st l A){id:Nat}{o:gy}(hg:bC.get st id=some o)
  (bc:∀(S:Nat->Prop) (q:World) (v:Value) (e:Int),bQ Sh S p q->(¬o.whole->v= .slice none 0 0/\e=7)->(o.whole->e=0/\∃g c,v= .slice (some ⟨g,0,none⟩) o.len c/\o.len<=c/\∀j,j<o.len->q.cell? ⟨g,j,none⟩=some (.int .u8 ((o.bytes[j]?.getD 0:Nat):Int)))->
   aj prog S (G ((base cfn).at (ca.put oo.dst (.tuple #[v,.int .i64 e])) (.inRegion bA aT::ck)) cs) q Post):
  aj prog Sh (G ((base 24).at ⟨#[.pointer (some ⟨lb,0,none⟩),.int .i64 id,undef,undef,undef,undef,undef,undef,undef,undef,undef,undef,undef,undef,undef,undef,undef,undef,undef,undef,undef,undef,undef,undef,undef,undef,undef,undef,undef,undef,undef,undef,undef,undef,undef,undef,undef,undef],[]⟩ [.code (f24.body.getD .skip)]) ((base cfn).at ca (.inRegion bA (ci::aT)::ck)::cs)) p Post:=by
 obtain⟨ob,fH⟩:=h.both hg;obtain⟨es,clock,oe,oc⟩:=h.map;have hO:=h.obj id ob o fH hg;have ok:=h.ok id o hg;refine L8 ho h.XZ oe oc fH hO.row (hO.objB ok) ok.Ec fun S q v v2 b e hA h1 h2=>?_;have hT:bQ Sh S p q:=⟨hA.grown,hA.keep,hA.old,hA.os,hA.output⟩;have hw:b=true↔o.whole:=by
  rw[hA.whole];exact⟨fun h3 z hz=>by rw[<-hO.whole hz];exact h3 z hz,fun h3 z hz=>by rw[hO.whole hz];exact h3 z hz⟩
 exact bc S q v2 e hT (fun hn=>h1 (by cases hb:b with|false=>rfl|true=>exact absurd (hw.1 hb) hn)) (fun hy=>h2 (hw.2 hy))
open Go.RowKit Go.Deep
theorem zG(w:World):Calls prog 16 #[] w fun e w'=>e= .returned (.pointer (some ⟨w.heap.size+1,0,none⟩))/\w'=(w.alloc (.map #[] 0)).alloc (.cells #[.map (some w.heap.size)] 82):=by
 have Ek:(Instr.makeMap 80 none).run prog w= .ok (.map (some w.heap.size)) (w.alloc (.map #[] 0)):=rfl;have cC:(w.alloc (.map #[] 0)).heap.size=w.heap.size+1:=by simp
 go_enter func16,ntmps16;go_wp2;go_ret;exact⟨by simp,rfl⟩
theorem LG.start(Ji:aB w lb 82 [.map (some mr)])(cA:w.heap[mr]? =some (.map #[] 0))(A:Nat->OD):LG w (fun b=>b=lb\/b=mr) lb mr [] [] A:=
 ⟨Ji,⟨_,_,cA,rfl⟩,rfl,by simp,fun _ _ _ h=>by simp[getM]at h,fun _ _ h=>by simp[bC.get]at h,fun _ _ _ _ _ h=>by simp[bC.get]at h,.inl rfl,.inr rfl,fun b hb=>by
  rcases hb with rfl|rfl
  .exact Ji.lt
  .exact(Array.getElem?_eq_some_iff.1 cA).1,fun b hb=>by
  rcases hb with rfl|rfl
  .exact Ji.lv (by simp)
  .exact⟨_,cA,fun e fz h=>by cases h⟩,⟨_,_,cA,rfl⟩⟩
theorem LG.re{st:bC.St}{A:Nat->OD}(h:LG w F lb mr st l A)(τ d):LG (w.re τ d) F lb mr st l A:=h.same fun _ _=>rfl
theorem LG.afterT{w':World}{st:bC.St}{A:Nat->OD}(h:LG w F lb mr st l A)(ha:bQ Sh Sh' w w'):LG w' F lb mr st l A:=h.same fun b hb=>by
 obtain⟨o,h1,h2⟩:=h.live b hb;rw[h1];exact ha.keep b o h1 h2
def oj5:Oj:=⟨2,2,1,1,[97,98]⟩
theorem Z8:oj5.Ok:=⟨by decide,by decide,by decide,by decide,by decide,by decide,by decide+kernel,rfl,by decide⟩
theorem oj5_N:oj5.N=1:=by decide+kernel
theorem oj5_K:oj5.K 0=1:=by decide+kernel
theorem XH:oj5.pkt 5 0 1= [70,0,5,0,2,2,1,1,0,1,154,128]:=by decide+kernel
def pk5:List Nat:= [70,0,5,0,2,2,1,1,0,1,154,128]
def vO:gy:=(gy.bare 2 2 1 1).put 0 1 [154,128]
theorem ZW:Tx.bT pk5:=by
 have:=Z8.pX (id:=5) (z:=0) (n:=1) (by rw[oj5_N];decide) (by rw[oj5_K];decide);rw[XH]at this;exact this
theorem Ma:bC.hear [] [pk5]=([(5,vO)],1,0):=by
 rw[bC.uI];unfold bC.dY;rw[if_pos ZW];rfl
theorem Fv:vO.oj.N=1:=by decide+kernel
theorem MS:vO.oj.K 0=1:=by decide+kernel
theorem gob5_w:mG (vO.ct 0) 1 1=true:=by decide+kernel
theorem gob5_u:fJ (vO.ct 0) 1 1= [1]:=by decide+kernel
theorem Ad:vO.whole:=fun z hz=>by
 rw[Fv]at hz;obtain rfl:z=0:=by omega
 rw[MS];exact gob5_w
theorem MR(ok:vO.Ok):vO.bytes= [97,98]:=by
 have e:vO.blk 0= [97,98]:=by
  refine ok.blk_eq (by rw[Fv];decide) (Ad 0 (by rw[Fv];decide)) (by rw[MS];rfl) (by decide) (fun n hn q hq=>?_);rw[MS]at hn⊢;have hn:n∈fJ (vO.ct 0) 1 1:=hn;rw[gob5_u]at hn;obtain rfl:n=1:=by simpa using hn
  obtain rfl: [154,128]=q:=Option.some.inj hq;decide+kernel
 unfold gy.bytes;rw[Fv];show(vO.blk 0++ [])=_;rw[e];rfl
theorem I7{ci:Nat}{cs:List Frame}{o:Oper}(ho:bA[ci]? =some o)
  (bc:∀(S':Nat->Prop) (p':World),bQ Sh S' p p'->aj prog S' (G ((base cfn).at (ca.put o.dst (.bool true)) (.inRegion bA aT::ck)) cs) p' Post):
  aj prog Sh (G ((base 10).at ⟨#[undef,undef,undef,undef,undef,undef,undef,undef,undef,undef,undef,undef,undef,undef,undef,undef,undef,undef,undef,undef,undef,undef,undef,undef,undef,undef,undef,undef,undef,undef,undef,undef,undef,undef,undef,undef,undef,undef,undef,undef,undef,undef,undef],[]⟩ [.code (f10.body.getD .skip)]) ((base cfn).at ca (.inRegion bA (ci::aT)::ck)::cs)) p Post:=by
 have HE:=hide bc;clear bc;conv=>arg 3;simp only[f10,Option.getD_some]
 refine aj.seq (aj.bW ak fun τ d=>?_);go_wp2;refine aj.re ?_ _ _;refine aj.seq (aj.bW ak fun τ d=>?_);have hS:=hide (Pn (p.re τ d));go_wp2_with (go_at_call 28;refine hS.out.mono ?_;rintro _ w1 ⟨rfl,bp⟩;replace bp:=hide bp)
 refine aj.world (dO p) (dO.below bp.out) fun p1 h1=>?_;clear hS bp w1 τ d;refine aj.seq (aj.bW ak fun τ d=>?_);have hN:=hide (zG (p1.re τ d));go_wp2_with (go_at_call 16;refine hN.out.mono ?_;rintro _ w2 ⟨rfl,lL⟩;replace lL:=hide lL)
 rw[show(p1.re τ d).heap.size=p1.heap.size from rfl];refine aj.world (fun q=>dO p1 q/\q.heap.size=p1.heap.size+2/\aB q (p1.heap.size+1) 82 [.map (some p1.heap.size)]/\q.heap[p1.heap.size]? =some (.map #[] 0)) ?_ fun p2 h2=>?_
 .have e:=lL.out;subst e;have hs:((p1.re τ d).alloc (.map #[] 0)).heap.size=p1.heap.size+1:=by rw[Go.Ren.size_alloc];rfl
  refine⟨(((dO.refl p1).re τ d).alloc _).alloc _,by rw[Go.Ren.size_alloc,hs],?_,?_⟩
  .have:=iG ((p1.re τ d).alloc (.map #[] 0)) [.map (some p1.heap.size)] 82;rw[hs]at this;exact this
  .rw[blk_alloc_lt _ _ _ (by rw[hs];omega)];exact blk_alloc_new (p1.re τ d) _
 obtain⟨h2,eM,Y2,vc⟩:=h2;clear hN lL w2 τ d;refine aj.seq (aj.bW ak fun τ d=>?_);go_wp2;refine aj.re ?_ _ _;clear τ d;have hH1:=hide Y2;have hH2:=hide vc;have BV:=hide eM
 clear Y2 vc eM;refine aj.seq (aj.reg (todo:= [0,1,2,3,4,5,6,7,8,9]) rfl ?_);refine aj.pv ak fun τ d K hK=>?_;go_simp;refine hK _ ?_;clear hK;try walk_nrm
 refine aj.ow ak fun τ d K hK=>?_;go_simp;refine hK _ _ ?_;clear hK;try walk_nrm
 rw[show(p2.re τ d).heap.size=p2.heap.size from rfl];refine aj.re (p:=p2.alloc (.cells #[.int .u8 70,.int .u8 0,.int .u8 5,.int .u8 0,.int .u8 2,.int .u8 2,.int .u8 1,.int .u8 1,.int .u8 0,.int .u8 1,.int .u8 154,.int .u8 128] 5)) ?_ τ d;clear τ d;refine aj.ow ak fun τ d K hK=>?_;have kc:=fun(w:World) (C:Array Value) (n c:Nat)=>Lib.run_convert_bytes_const (P:=prog) w 28 5 C n c underlying28 underlying5;rw[show(p2.alloc (.cells #[.int .u8 70,.int .u8 0,.int .u8 5,.int .u8 0,.int .u8 2,.int .u8 2,.int .u8 1,.int .u8 1,.int .u8 0,.int .u8 1,.int .u8 154,.int .u8 128] 5)).re τ d=(p2.re τ d).alloc (.cells #[.int .u8 70,.int .u8 0,.int .u8 5,.int .u8 0,.int .u8 2,.int .u8 2,.int .u8 1,.int .u8 1,.int .u8 0,.int .u8 1,.int .u8 154,.int .u8 128] 5)from rfl];have kc2:=kc (p2.re τ d) #[.int .u8 70,.int .u8 0,.int .u8 5,.int .u8 0,.int .u8 2,.int .u8 2,.int .u8 1,.int .u8 1,.int .u8 0,.int .u8 1,.int .u8 154,.int .u8 128] 12 12;rw[show(p2.re τ d).heap.size=p2.heap.size from rfl]at kc2;go_simp;refine hK _ _ ?_;clear hK kc kc2;try walk_nrm
 refine aj.re (p:=p2.alloc (.cells #[.int .u8 70,.int .u8 0,.int .u8 5,.int .u8 0,.int .u8 2,.int .u8 2,.int .u8 1,.int .u8 1,.int .u8 0,.int .u8 1,.int .u8 154,.int .u8 128] 5 (12,13))) ?_ τ d;clear τ d;obtain⟨w3,AG⟩:∃w3,w3=p2.alloc (.cells #[.int .u8 70,.int .u8 0,.int .u8 5,.int .u8 0,.int .u8 2,.int .u8 2,.int .u8 1,.int .u8 1,.int .u8 0,.int .u8 1,.int .u8 154,.int .u8 128] 5 (12,13)):=⟨_,rfl⟩;rw[<-AG];have h3:dO p2 w3:=by rw[AG];exact(dO.refl p2).alloc _
 have ij:w3.heap.size=p2.heap.size+1:=by rw[AG,Go.Ren.size_alloc]
 have wi:∀j,j<12->w3.cell? ⟨p2.heap.size,j,none⟩=some (.int .u8 (([70,0,5,0,2,2,1,1,0,1,154,128][j]?.getD 0:Nat):Int)):=fun j hj=>by
  rw[AG];refine bU _ _ _ _ _ _ ?_;have:j=0\/j=1\/j=2\/j=3\/j=4\/j=5\/j=6\/j=7\/j=8\/j=9\/j=10\/j=11:=by omega
  rcases this with rfl|rfl|rfl|rfl|rfl|rfl|rfl|rfl|rfl|rfl|rfl|rfl<;>rfl
 have H3:=hide ij;have Cp:=hide wi
 clear ij wi AG;refine aj.ow ak fun τ d K hK=>?_;go_simp;refine hK _ _ ?_;clear hK;try walk_nrm
 rw[show(w3.re τ d).heap.size=w3.heap.size from rfl];refine aj.re (p:=w3.alloc (.cells #[.slice (some ⟨p2.heap.size,0,none⟩) 12 12] 28)) ?_ τ d;clear τ d;obtain⟨w4,Mk⟩:∃w4,w4=w3.alloc (.cells #[.slice (some ⟨p2.heap.size,0,none⟩) 12 12] 28):=⟨_,rfl⟩;rw[<-Mk];have h4:dO w3 w4:=by rw[Mk];exact(dO.refl w3).alloc _
 have ue:w4.cell? ⟨w3.heap.size,0,none⟩=some (.slice (some ⟨p2.heap.size,0,none⟩) 12 12):=by rw[Mk];exact bU _ _ _ _ _ _ rfl
 have mC:dO p2 w4:=h3.trans h4;have OF:LG w4 (fun b=>b=p1.heap.size+1\/b=p1.heap.size) (p1.heap.size+1) p1.heap.size [] [] (fun _=>⟨0,0,fun _=>0,fun _ _=>none,fun _ _=>0,fun _ _=>0⟩):=by
  refine LG.start (hH1.out.of_block (mC.row _ (by rw[BV.out];omega))) ?_ _;rw[mC.row _ (by rw[BV.out];omega)];exact hH2.out
 have hP4:xK w4 (fun b=>p2.heap.size<=b/\b<w4.heap.size) (some ⟨w3.heap.size,0,none⟩) [pk5]:=⟨fun i pk hi=>by
  cases i with
  |succ i=>simp at hi
  |zero=>
   simp only[List.getElem?_cons_zero,Option.some.injEq]at hi;subst hi;refine⟨w3.heap.size,0,some ⟨p2.heap.size,0,none⟩,12,rfl,⟨h3.size,bR ue⟩,ue,by decide,by decide,fun _=>⟨p2.heap.size,0,rfl,⟨Nat.le_refl _,Nat.lt_of_lt_of_le (bR (Cp.out 0 (by decide))) h4.size⟩,fun j hj=>?_⟩⟩;rw[Nat.zero_add];exact h4.cell (Cp.out j hj)⟩
 have HL4:=hide OF;have Pd:=hide hP4
 clear OF ue Mk hP4;refine aj.j_ ak (by kernel_rfl) rfl rfl rfl func20 rfl rfl (xs:=#[.pointer (some ⟨p1.heap.size+1,0,none⟩),.slice (some ⟨w3.heap.size,0,none⟩) 1 1]) (by simp[Act.eval]) fun τ d=>?_;refine(vK (np:=1) (HL4.out.re τ d) (Pd.out.same fun _ _ _=>rfl) (fun b hb=>⟨fun hF=>?im,hb.2⟩) rfl (by decide)).mono ?_
 case im=>
  have:=BV.out;rcases hF with e|e<;>omega
 rintro _ p5 ⟨rfl,F5,l5,A5,qt,xf,ik⟩;refine⟨_,rfl,?_⟩;rw[Ma]at qt⊢;clear HL4 Pd Cp;try walk_nrm
 iterate 5 (refine aj.pv ak fun τ d K hK=>?_;go_simp;refine hK _ ?_;clear hK;try walk_nrm)
 refine aj.aJ ?_;have BY:bQ Sh Sh p p5:=by
  refine bQ.pO ?_;have xl:=h1.trans (h2.trans mC);have cC:w4.heap.size<=p5.heap.size:=ik.size;refine⟨Nat.le_trans xl.size cC,fun b hb=>?_,ik.os.trans xl.os,ik.output.trans xl.output⟩;have e1:=h1.size;have e2:=h2.size;have e3:=xl.size;have e4:p5.heap[b]? =w4.heap[b]? :=ik.block b (show b<w4.heap.size by omega) (fun hF=>by rcases hF with e|e<;>omega);rw[e4];exact xl.row b hb
 have RU:=hide qt;have HA5:=hide BY
 clear qt BY xf ik H3 hH1 hH2 BV mC h4 h3 h2;refine aj.seq (aj.reg (todo:= [0,1,2,3,4,5,6]) rfl ?_);refine aj.pv ak fun τ d K hK=>?_;go_simp;refine hK _ ?_;clear hK;try walk_nrm
 refine aj.fB rfl rfl (by decide) rfl func24 rfl rfl (T':=#[.pointer (some ⟨p1.heap.size+1,0,none⟩),.int .i64 5,undef,undef,undef,undef,undef,undef,undef,undef,undef,undef,undef,undef,undef,undef,undef,undef,undef,undef,undef,undef,undef,undef,undef,undef,undef,undef,undef,undef,undef,undef,undef,undef,undef,undef,undef,undef]) (by simp[Act.eval,f24]) ?_;refine pQ (oo:=?o2) (id:=5) (o:=vO) ?vt RU.out rfl (fun S6 q6 v7 e6 hA6 hno6 YP=>?L4)
 case vt=>rfl
 case L4=>
 obtain⟨rfl,g7,c7,P4,_,U8⟩:=YP Ad;replace P4:v7= .slice (some ⟨g7,0,none⟩) 2 c7:=P4;subst P4;have hA7:bQ Sh S6 p q6:=HA5.out.trans hA6;have mN:∀τ d,(convert 28 9 (.slice (some ⟨g7,0,none⟩) 2 c7)).run prog (q6.re τ d)= .ok (.string (strOf [97,98])) (q6.re τ d):=fun τ d=>by
  refine eY (bs:= [97,98]) rfl (fun j hj=>?_);rw[Nat.zero_add];refine(U8 j hj).trans ?_;rw[MR (RU.out.ok 5 vO rfl)]
 have HA7:=hide hA7;have Zm:=hide mN
 clear hA7 mN U8 YP hno6 hA6 RU HA5;try walk_nrm
 iterate 5 (refine aj.pv ak fun τ d K hK=>?_;go_simp;refine hK _ ?_;clear hK;try walk_nrm)
 refine aj.aJ ?_;refine aj.bW ak fun τ d=>?_;have mN:=Zm.out τ d;go_wp2;intro todo;refine aj.re ?_ _ _;have e:((strOf [97,98]).toList== [97,98])=true:=by decide+kernel
 exact aj.back ho func10 (v:=.bool true) (by simp[results,f10,go_sem,e]) (by simp[results,f10]) (HE.out S6 q6 HA7.out)
end
end Go.Proofs.YtmfpiodlecapiaaGreatDoor
namespace Go.fE
open Go.Ren Go.bn Go.Conc
variable{f l i:Nat}{a:Act}{k:List Item}{p:World}{o:Oper}
variable {P:Program} {Sh:Nat->Prop} {Post:(Nat->Prop)->Goroutine->World->Prop}
theorem aj.opK{cs:List Frame}{ops:Array Oper}{rest:List Nat}(hT:Tm P (execOp a.eval o))(ho:ops[i]? =some o)(hg:o.guard=none)(hd:∀c,o.op≠.defer c)
  (h:∀τ d,∀K':Act->World->Prop,(∀a' p',aj P Sh (G (oI f l a' (.inRegion ops rest::k)) cs) p' Post->K' a' p')->uponK o a K' ((execOp a.eval o).run P (p.re τ d))):
  aj P Sh (G (oI f l a (.inRegion ops (i::rest)::k)) cs) p Post:=by
 refine aj.opR hT ho hg hd fun τ d=>?_;have h1:=h τ d (fun a' p'=>aj P Sh (G (oI f l a' (.inRegion ops rest::k)) cs) p' Post) (fun _ _ x=>x);cases hr:(execOp a.eval o).run P (p.re τ d)with
 |halt x p'=>rw[hr]at h1;exact h1.elim
 |ok n p'=>
  rw[hr]at h1;cases n with
  |value v=>exact⟨_,p',rfl,.inl ⟨v,rfl,h1⟩⟩
  |skip=>exact⟨_,p',rfl,.inr ⟨rfl,h1⟩⟩
  |_=>exact h1.elim
theorem aj.YB{cs:List Frame}{ops:Array Oper}{rest:List Nat}(hT:Tm P (execOp a.eval o))(ho:ops[i]? =some o)(hg:o.guard=none){s x:Operand}{t e:TypeId}(a_:o.op= .call {callee:=.builtin .append,args:=#[s,x],argTypes:=#[t,t]})
  {base size bytes n m c:Nat}{ti:TypeInfo}{z v:Value}{ad:Addr}{xs news:List Value}(ht:P.underlying t=some (.slice e))(hi:P.info? e=some ti)(hz:ti.zero=some z)(db:ti.size=size)(lR:ti.bytes=bytes)(rK:z.cells.size=size)(cC:0<size)
  (hs:a.eval s=v)(br:p.ownsRow base e size v n xs)(hx:a.eval x= .slice (some ad) m c)(hl:news.length=m*size)(eC:∀j u,news[j]? =some u->p.cell? (ad.add j)=some u)(h1:∀u∈news,u.oneCell'=true)
  (lB:n+m<=maxLen)(dy:(n+m)*bytes<=140737488355328)(jj:base<=p.heap.size)
  (hn:∀v' p',p'.ownsRow base e size v' (n+m) (xs++news)->Grb v.ownBlock p p'->aj P Sh (G (oI f l (a.put o.dst v') (.inRegion ops rest::k)) cs) p' Post):
  aj P Sh (G (oI f l a (.inRegion ops (i::rest)::k)) cs) p Post:=by
 refine aj.opR hT ho hg (by simp[a_]) (fun τ d=>?_);obtain⟨v',w',hr,h2,h3,_⟩:=run_append_own (P:=P) (p.re τ d) base t o.type e ti z size bytes ht hi hz db lR rK cC v n xs br ad m c news hl eC h1 lB dy jj;have ag:(execOp a.eval o).run P (p.re τ d)= .ok (.value v') w':=by
  unfold execOp;simp only[a_,resolve,invoke,builtin,Sem.run_bind,Sem.run_pure,Result.andThen_ok,List.map_toArray,List.map_cons,List.map_nil,hs,hx,hr]
 exact⟨_,w',ag,.inl ⟨v',rfl,hn v' w' h2 ⟨h3.size,h3.block,h3.os,h3.output⟩⟩⟩
end Go.fE
namespace Go.Proofs.YtmfpiodlecapiaaGreatDoor
open Go.Proofs.Tryz
open Go.Conc Go.ConcN Go.RowKit Go.bn Go.Ren Go.fE Go.Deep
attribute [local go_sem↓] Go.wp_at_zero Go.wp_at_succ
def rfA:Code->Code
 | .rangeFunc _ _ a _=>a
 |c=>c
def rfB:Code->Code
 | .rangeFunc _ _ _ b=>b
 |c=>c
noncomputable def ZN:Code:=rfA (eO [1,0,1,0] (f180.body.getD .skip))
noncomputable def seqB:Code:=rfB (eO [1,0,1,0] (f180.body.getD .skip))
def ZM(s0:Nat)(fv:Value):Array Value:=#[.slice none 0 0,fv,.pointer (some ⟨s0,0,none⟩),undef,.slice none 0 0,undef,fv,undef,undef,undef,undef,undef,undef]
noncomputable def kX (s0 d0:Nat) (fv:Value):Loop:= {state:=.ready,pending:=none,fn:=180,tmps:=ZM s0 fv,params:=#[7],assign:=ZN,body:=seqB,defers:=d0}
theorem PV{Sh:Nat->Prop}{Post:(Nat->Prop)->Goroutine->World->Prop}{p:World}{b0:FuncId}{a':Act}{bA:Array Oper}{ci:Nat}{aT:List Nat}{ck:List Item}{cs:List Frame}{o:Oper}(ho:bA[ci]? =some o){L s0 d0 base n:Nat}{fv v:Value}{xs:List Value}{x:Int}
  (hL:p.heap[L]? =some (.loop (kX s0 d0 fv)))(gJ:aB p s0 33 [v])(br:p.ownsRow base 3 1 v n xs)(hb:base<=p.heap.size)(gv:s0<base)(xd:L<base)(hn:n<=1000)
  (bc:∀p' v',p'.heap[L]? =some (.loop (kX s0 d0 fv))->aB p' s0 33 [v']->p'.ownsRow base 3 1 v' (n+1) (xs++ [.int .i64 x])->(∀b,b<base->b≠s0->b≠L->p'.heap[b]? =p.heap[b]?)->p.heap.size<=p'.heap.size->p'.os=p.os->p'.output=p.output->
   aj prog Sh (G ((Go.Conc.base b0).at (a'.put o.dst (.bool true)) (.inRegion bA aT::ck)) cs) p' Post):
  aj prog Sh (G (oI 180 L ⟨(ZM s0 fv).setIfInBounds 7 (.int .i64 x),[]⟩ [.code ZN,.beginRound,.code seqB]) ((Go.Conc.base b0).at a' (.inRegion bA (ci::aT)::ck)::cs)) p Post:=by
 have HE:=hide bc;clear bc;have hA:ZN=rfA (eO [1,0,1,0] (f180.body.getD .skip)):=rfl;have hB:seqB=rfB (eO [1,0,1,0] (f180.body.getD .skip)):=rfl;rw[hA,hB];conv=>arg 3;simp only[f180,Option.getD_some,eO,rfA,rfB]
 simp only[ZM,List.setIfInBounds_toArray,List.set_cons_zero,List.set_cons_succ];refine aj.regR (todo:= [0]) rfl ?_;refine aj.opK (mH ak (by kernel_rfl)) rfl rfl (by simp) (fun τ d K hK=>?_);go_simp;refine hK _ _ ?_;clear hK;refine aj.re ?_ _ _;refine aj.NU ?_;refine aj.beginRound hL rfl ?_;have lP:∀b,b≠L->(setRow p L (.loop {kX s0 d0 fv with state:=.busy})).heap[b]? =p.heap[b]? :=fun b h=>by
  simp[setRow,Array.getElem?_setIfInBounds,Ne.symm h]
 have Y5:(setRow p L (.loop {kX s0 d0 fv with state:=.busy})).heap[L]? =some (.loop {kX s0 d0 fv with state:=.busy}):=by
  have:L<p.heap.size:=by omega
  simp[setRow,Array.getElem?_setIfInBounds,this]
 have cC:(setRow p L (.loop {kX s0 d0 fv with state:=.busy})).heap.size=p.heap.size:=by simp[setRow]
 have bd:s0≠L:=fun e=>by subst e;rw[gJ]at hL;cases hL
 have z_:=gJ.of_block (lP s0 bd);have ft:(setRow p L (.loop {kX s0 d0 fv with state:=.busy})).ownsRow base 3 1 v n xs:=by
  refine⟨br.1,br.2.imp id ?_⟩;rintro⟨g,cap,cur,h1,h2,h3,h4⟩;exact⟨g,cap,cur,h1,h2,by rw[lP g (by omega)];exact h3,h4⟩
 have sY:(setRow p L (.loop {kX s0 d0 fv with state:=.busy})).os=p.os:=rfl;have kj:(setRow p L (.loop {kX s0 d0 fv with state:=.busy})).output=p.output:=rfl;generalize setRow p L (.loop {kX s0 d0 fv with state:=.busy})=p1 at lP Y5 cC z_ ft sY kj⊢;replace lP:=hide lP;replace Y5:=hide Y5;replace ft:=hide ft;refine aj.blockR (aj.regR (todo:= [0,1,2,3,4]) rfl ?_);refine aj.opK (mH ak (by kernel_rfl)) rfl rfl (by simp) (fun τ d K hK=>?_);have q1:(p1.re τ d).cell? ⟨s0,0,none⟩=some v:=z_.cell 0 _ rfl;go_simp;refine hK _ _ ?_;clear hK;refine aj.re ?_ _ _;clear q1 τ d;refine aj.opK (mH ak (by kernel_rfl)) rfl rfl (by simp) (fun τ d K hK=>?_);go_simp;refine hK _ _ ?_;clear hK;refine aj.re ?_ _ _;clear τ d;refine aj.opK (mH ak (by kernel_rfl)) rfl rfl (by simp) (fun τ d K hK=>?_);go_simp;refine hK _ _ ?_;clear hK;rw[show(p1.re τ d).heap.size=p1.heap.size from rfl];refine aj.re (p:=p1.alloc (.cells #[.int .i64 x] 3)) ?_ τ d;clear τ d;have eM:(p1.alloc (.cells #[.int .i64 x] 3)).heap.size=p1.heap.size+1:=by simp
 have qd:∀b,b<p1.heap.size->(p1.alloc (.cells #[.int .i64 x] 3)).heap[b]? =p1.heap[b]? :=fun b h=>blk_alloc_lt _ _ _ h;have ef:(p1.alloc (.cells #[.int .i64 x] 3)).cell? ⟨p1.heap.size,0,none⟩=some (.int .i64 x):=bU _ _ _ _ _ _ rfl;have Yf:(p1.alloc (.cells #[.int .i64 x] 3)).os=p1.os:=rfl;have na:(p1.alloc (.cells #[.int .i64 x] 3)).output=p1.output:=rfl;generalize p1.alloc (.cells #[.int .i64 x] 3)=p2 at eM qd ef Yf na⊢;have jb:p2.ownsRow base 3 1 v n xs:=by
  refine⟨ft.out.1,ft.out.2.imp id ?_⟩;rintro⟨g,cap,cur,h1,h2,h3,h4⟩;exact⟨g,cap,cur,h1,h2,by rw[qd g (Array.getElem?_eq_some_iff.1 h3).1];exact h3,h4⟩
 obtain⟨i0,ix,ep,cJ,cW⟩:=info_parts Tryz.infoInt;refine aj.YB (mH ak (by kernel_rfl)) rfl rfl (s:=.tmp 8) (x:=.tmp 10) rfl (base:=base) (v:=v) (size:=1) (n:=n) (m:=1) (c:=1) (ad:=⟨p1.heap.size,0,none⟩) (xs:=xs) (news:= [.int .i64 x]) underlying33 ix ep cJ cW rfl (by decide) rfl jb rfl rfl (fun j u hu=>?_) (by simp[Value.oneCell']) (by simp only[maxLen];omega) (by omega) (by omega) (fun v' w' h2 h3=>?_)
 .cases j with
  |zero=>
   simp only[List.getElem?_cons_zero,Option.some.injEq]at hu;subst hu;exact ef
  |succ j=>simp at hu
 have cQ:∀b,b<base->w'.heap[b]? =p2.heap[b]? :=fun b hb=>h3.block b (by omega) (fun e=>by
  obtain⟨_,h|⟨g,cap,cur,e1,e2,_⟩⟩:=jb
  .rw[h.1]at e;cases e
  .rw[e1]at e;simp only[Value.ownBlock,Option.some.injEq]at e;have e:b=g:=e;omega)
 have U_:aB w' s0 33 [v]:=(z_.of_block (qd s0 (by omega))).of_block (cQ s0 gv);have ij:p2.heap.size<=w'.heap.size:=h3.size;have hos3:w'.os=p2.os:=h3.os;have Ly:w'.output=p2.output:=h3.output;clear h3;have rN:∃g cap,v'= .slice (some ⟨g,0,none⟩) (n+1) cap:=by
  obtain⟨_,h|⟨g,cap,cur,e1,_⟩⟩:=h2
  .omega
  .exact⟨g,cap,e1⟩
 obtain⟨g',cap',rfl⟩:=rN;have cE:base<=g':=by
  obtain⟨_,h|⟨g,cap,cur,e1,e2,_⟩⟩:=h2
  .omega
  .simp only[Value.slice.injEq,Option.some.injEq,Addr.mk.injEq]at e1;omega
 simp only[Act.put,List.setIfInBounds_toArray,List.set_cons_zero,List.set_cons_succ];refine aj.opK (mH ak (by kernel_rfl)) rfl rfl (by simp) (fun τ d K hK=>?_);have q1:(w'.re τ d).cell? ⟨s0,0,none⟩=some v:=U_.cell 0 _ rfl;have q2:(w'.re τ d).frozen? ⟨s0,0,none⟩=false:=U_.frozen 0;go_simp;refine hK _ _ ?_;clear hK q1 q2;refine aj.re (p:=w'.setCell ⟨s0,0,none⟩ (.slice (some ⟨g',0,none⟩) (n+1) cap')) ?_ τ d;clear τ d;have gR:∀b,b≠s0->(w'.setCell ⟨s0,0,none⟩ (.slice (some ⟨g',0,none⟩) (n+1) cap')).heap[b]? =w'.heap[b]? :=fun b hb=>by simp[World.setCell,Array.getElem?_modify,Ne.symm hb]
 have uv:aB (w'.setCell ⟨s0,0,none⟩ (.slice (some ⟨g',0,none⟩) (n+1) cap')) s0 33 [.slice (some ⟨g',0,none⟩) (n+1) cap']:=U_.set 0 _;have hsz4:(w'.setCell ⟨s0,0,none⟩ (.slice (some ⟨g',0,none⟩) (n+1) cap')).heap.size=w'.heap.size:=by simp[World.setCell]
 have Jn:(w'.setCell ⟨s0,0,none⟩ (.slice (some ⟨g',0,none⟩) (n+1) cap')).os=w'.os:=rfl;have YX:(w'.setCell ⟨s0,0,none⟩ (.slice (some ⟨g',0,none⟩) (n+1) cap')).output=w'.output:=rfl;generalize w'.setCell ⟨s0,0,none⟩ (.slice (some ⟨g',0,none⟩) (n+1) cap')=p4 at gR uv hsz4 Jn YX⊢;have OF:p4.heap[L]? =some (.loop {kX s0 d0 fv with state:=.busy}):=by
  rw[gR L (Ne.symm bd),cQ L xd,qd L (by omega)];exact Y5.out
 refine aj.NU (aj.outR ?_);refine aj.endRound ho OF ?_;have xF:∀b,b≠L->(setRow p4 L (.loop (kX s0 d0 fv))).heap[b]? =p4.heap[b]? :=fun b h=>by
  simp[setRow,Array.getElem?_setIfInBounds,Ne.symm h]
 refine HE.out (setRow p4 L (.loop (kX s0 d0 fv))) (.slice (some ⟨g',0,none⟩) (n+1) cap') ?_ (uv.of_block (xF s0 bd)) ?_ (fun b h1 h3 h4=>?_) ?_ ?_ ?_
 .have:L<p4.heap.size:=by omega
  simp[setRow,Array.getElem?_setIfInBounds,this]
 .refine⟨h2.1,h2.2.imp id ?_⟩;rintro⟨g,cap,cur,h1,h5,h3,h4⟩;exact⟨g,cap,cur,h1,h5,by rw[xF g (by omega),gR g (by omega)];exact h3,h4⟩
 .rw[xF b h4,gR b h3,cQ b h1,qd b (by omega),lP.out b h4]
 .have:(setRow p4 L (.loop (kX s0 d0 fv))).heap.size=p4.heap.size:=by simp[setRow]
  omega
 .exact Jn.trans (hos3.trans (Yf.trans sY))
 .exact YX.trans (Ly.trans (na.trans kj))
