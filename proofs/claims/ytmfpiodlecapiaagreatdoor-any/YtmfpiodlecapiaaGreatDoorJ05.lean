import Derived.Maps.RangeWalk
import Derived.Test.YtmfpiodlecapiaaGreatDoorJ04
import Derived.Laws.IdiomStrings
import Derived.Shelf.Strings.Builder1
import Derived.BigRegion
import Derived.Deep.RegionHeld3
set_option maxHeartbeats 1000000
set_option maxRecDepth 1000000
namespace Go.Proofs.YtmfpiodlecapiaaGreatDoor
open Go.RowKit Go.Deep
theorem nW(c:Int)(n:Nat)(m:Int)(hm:m=(n:Int))(hc:(Lit.int .i64 c).wf=true)(hn:0<n)(hn2:n<=65536)(w:World):
  Calls Tryz.prog 13 #[.int .i64 c,.int .i64 m] w fun e w'=>e= .returned (.int .i64 (cO c n:Nat))/\w'=w:=by
 subst hm;exact NH c n hc hn hn2 w
theorem Tc(x y z:Int)(w0:Hid ((Lit.int .i64 x).wf=true))(w1:Hid ((Lit.int .i64 y).wf=true))(w2:Hid ((Lit.int .i64 z).wf=true))(w:World):
  Calls Tryz.prog 11 #[.int .i64 x,.int .i64 y,.int .i64 z] w fun e w'=>
   e= .returned (.agg #[.int .i64 ((1+cO x 16:Nat):Int),.int .i64 ((1+cO y 20:Nat):Int),.int .i64 ((cO z 21:Nat):Int)])/\Below w.heap.size w w':=by
 have h0:=fA x (n:=16) (by omega);have h1:=fA y (n:=20) (by omega);have h2:=fA z (n:=21) (by omega);have P0:=hide (fun w=>nW x 16 16 rfl w0.out (by omega) (by omega) w);have P1:=hide (fun w=>nW y 20 20 rfl w1.out (by omega) (by omega) w);have P2:=hide (fun w=>nW z 21 21 rfl w2.out (by omega) (by omega) w);have hb0:=hide ((Below.refl w.heap.size w).alloc (Nat.le_refl _) (.cells #[.int .i64 0,.int .i64 0,.int .i64 0] 35));revert h0 h1 h2 P0 P1 P2;generalize cO x 16=a;generalize cO y 20=b;generalize cO z 21=c;intro h0 h1 h2 P0 P1 P2;go_enter Tryz.func11,Tryz.ntmps11;go_wp2_with fail
 refine(P0.out _).mono ?_;rintro _ wq ⟨rfl,hx1⟩;have hx2:=hx1.symm;clear hx1;subst hx2;go_wp2_with fail
 refine(P1.out _).mono ?_;rintro _ wq ⟨rfl,hx1⟩;have hx2:=hx1.symm;clear hx1;subst hx2;go_wp2_with fail
 refine(P2.out _).mono ?_;rintro _ wq ⟨rfl,hx1⟩;have hx2:=hx1.symm;clear hx1;subst hx2;go_wp2;refine bodyPost_ret (v:=.agg #[.int .i64 (1+(a:Int)),.int .i64 (1+(b:Int)),.int .i64 (c:Int)]) (by simp[results,Tryz.results11,go_sem]) rfl ⟨?_,(Below.refl _ _).alloc (Nat.le_refl _) _⟩;have e1:((1+a:Nat):Int)=1+(a:Int):=by omega
 have e2:((1+b:Nat):Int)=1+(b:Int):=by omega
 rw[e1,e2]
def bytesOf(s:ByteArray):List Nat:=s.data.toList.map UInt8.toNat
theorem bytesOf_length(s:ByteArray):(bytesOf s).length=s.size:=by
 unfold bytesOf;rw[List.length_map,Array.length_toList];rfl
theorem yV(s:ByteArray):∀x∈bytesOf s,x<256:=by
 intro x hx;unfold bytesOf at hx;obtain⟨b,_,rfl⟩:=List.mem_map.1 hx;exact b.toNat_lt
theorem bytesOf_take(s:ByteArray)(n:Nat):bytesOf (s.extract 0 n)=(bytesOf s).take n:=by
 unfold bytesOf;rw[ByteArray.data_extract];simp[List.map_take]
theorem xW(w:World)(t:ByteArray)(cap:Nat)(fr:Nat×Nat):kr (w.alloc (.cells (bytesRow t cap) 5 fr)) (some ⟨w.heap.size,0,none⟩) t.size (bytesOf t):=by
 refine⟨bytesOf_length t,yV t,fun _=>⟨_,_,rfl,fun j hj=>?_⟩⟩;rw[Nat.zero_add];apply dz;have hj':j<t.data.size:=hj;unfold bytesRow bytesOf;rw[Array.getElem?_append_left (by simpa using hj)];have e:t.data[j]? =some (t.data[j]'hj'):=Array.getElem?_eq_getElem hj';simp[e]
theorem IQ(s:ByteArray)(m n:Nat)(hm:m<=65536)(hs:s.size<=maxLen)(hn:n=min s.size m)(w:World):
  Calls Tryz.prog 12 #[.string s,.int .i64 m] w fun e w'=>
   ∃cap,e= .returned (.slice (some ⟨w.heap.size,0,none⟩) n cap)/\n<=cap/\cap<=maxLen/\kr w' (some ⟨w.heap.size,0,none⟩) n ((bytesOf s).take n)/\Below w.heap.size w w':=by
 have kc:=fun(w:World) (s:ByteArray)=>run_bytes_of_string (P:=Tryz.prog) w 9 28 5 s Tryz.underlying9 Tryz.underlying28 Tryz.underlying5;have hs':=hs;unfold maxLen at hs';by_cases h:m<s.size
 ·have e:n=m:=by omega
  subst e;clear hn;have hO:=hide (xW w (s.extract 0 n) (grownCap w (min n s.size) 0 5) ((bytesRow (s.extract 0 n) (grownCap w (min n s.size) 0 5)).size,(bytesRow (s.extract 0 n) (grownCap w (min n s.size) 0 5)).size+1));have hmin:Hid (min n s.size=n):=by show min n s.size=n;omega
  have hge:=hide (grownCap_ge w (min n s.size) 0 5);have hle:=hide (grownCap_le_maxLen w (min n s.size) 0 5 (by omega));have hsz:Hid ((s.extract 0 n).size=n):=by show _=_;rw[ByteArray.size_extract];omega
  go_enter Tryz.func12,Tryz.ntmps12;go_wp2;go_ret;refine⟨grownCap w (min n s.size) 0 5,?_,?_,hle.out,?_,((Below.refl _ _).alloc (Nat.le_refl _) _).drew⟩
  ·show Ending.returned (.slice _ (min n s.size) _)=_;rw[hmin.out]
  ·have:=hge.out;have:=hmin.out;omega
  ·have h1:=hO.out;rw[hsz.out,bytesOf_take]at h1;exact h1.later ((Below.refl _ _).drew)
 ·have e:n=s.size:=by omega
  subst e;clear hn;have hO:=hide (xW w s (grownCap w s.size 0 5) ((bytesRow s (grownCap w s.size 0 5)).size,(bytesRow s (grownCap w s.size 0 5)).size+1));have hge:=hide (grownCap_ge w s.size 0 5);have hle:=hide (grownCap_le_maxLen w s.size 0 5 hs);go_enter Tryz.func12,Tryz.ntmps12;go_wp2;go_ret;refine⟨grownCap w s.size 0 5,rfl,hge.out,hle.out,?_,((Below.refl _ _).alloc (Nat.le_refl _) _).drew⟩;rw[List.take_of_length_le (by rw[bytesOf_length];omega)];exact hO.out.later ((Below.refl _ _).drew)
def manyN(len s m:Nat):Bool:=decide (256<((len+s-1)/s+m-1)/m)
theorem ou{len s m:Nat}(hm:1<=m):manyN len s m= !decide (Cut.blocks (Cut.pieces len s) m<=256):=by
 unfold manyN Cut.blocks Cut.pieces;rcases Nat.lt_or_ge ((len+s-1)/s) 1 with h|h
 ·have e:(len+s-1)/s=0:=Nat.lt_one_iff.1 h;rw[e];have e2:max 1 0=1:=rfl;have h1:(0+m-1)/m=0:=Nat.div_eq_of_lt (by omega);have h2:(max 1 0+m-1)/m=1:=by rw[e2,show 1+m-1=m by omega];exact Nat.div_self (by omega)
  rw[h1,h2];decide
 ·have e:max 1 ((len+s-1)/s)=(len+s-1)/s:=by omega
  rw[e];by_cases h:((len+s-1)/s+m-1)/m<=256
  ·rw[decide_eq_true h,decide_eq_false (by omega)];rfl
  ·rw[decide_eq_false h,decide_eq_true (by omega)];rfl
theorem AV(len s m p:Nat)(hl:len<=65536)(h1:1<=s)(h2:s<=16)(h3:1<=m)(h4:m<=20)(w:World):
  Calls Tryz.prog 17 #[.int .i64 len,.agg #[.int .i64 s,.int .i64 m,.int .i64 p]] w fun e w'=>e= .returned (.bool (manyN len s m))/\Below w.heap.size w w':=by
 have hb0:=hide ((Below.refl w.heap.size w).alloc (Nat.le_refl _) (.cells #[.int .i64 s,.int .i64 m,.int .i64 p] 35));obtain⟨q,hq⟩:∃q,q=(len+s-1)/s:=⟨_,rfl⟩;obtain⟨r,hr⟩:∃r,r=(q+m-1)/m:=⟨_,rfl⟩;have e1:((len:Int)+(s:Int)-1)/(s:Int)=(q:Int):=by
  rw[hq,Int.natCast_ediv];congr 1;omega
 have hq2:q<=65552:=by
  rw[hq];exact Nat.le_trans (Nat.div_le_self _ _) (by omega)
 have e2:((q:Int)+(m:Int)-1)/(m:Int)=(r:Int):=by
  rw[hr,Int.natCast_ediv];congr 1;omega
 have hB:Hid (manyN len s m=decide ((256:Int)<(r:Int))):=by
  show _=_;unfold manyN;rw[<-hq,<-hr];by_cases h:256<r
  ·rw[decide_eq_true h,decide_eq_true (by omega)]
  ·rw[decide_eq_false h,decide_eq_false (by omega)]
 have hr2:r<=70000:=by rw[hr];exact Nat.le_trans (Nat.div_le_self _ _) (by omega)
 clear hq hr;rw[hB.out];go_enter Tryz.func17,Tryz.ntmps17;go_wp2;go_ret;exact⟨rfl,hb0.out⟩
structure iI(w:World)(gl T c:Nat)(cur:List Value)(ps:List (List Nat)):Prop where
 row:aB w gl 28 cur
 len:ps.length=T
 at_:∀(q:Nat) (bs:List Nat),ps[q]? =some bs->∃g,cur[q]? =some (uV c g)/\aB w g 5 (bN bs)
theorem iI.later{w w':World}{gl T c:Nat}{cur:List Value}{ps:List (List Nat)}(h:iI w gl T c cur ps)(hb:Below w.heap.size w w'):iI w' gl T c cur ps:=
 ⟨h.row.later hb,h.len,fun q bs hq=>by obtain⟨g,h1,h2⟩:=h.at_ q bs hq;exact⟨g,h1,h2.later hb⟩⟩
theorem Packs.opened{w:World}{B:Nat}{v:Value}{c:Nat}{ps:List (List Nat)}{gs:List Nat}(h:Packs w B v c ps gs)(hp:0<ps.length):∃gl cap cur,v= .slice (some ⟨gl,0,none⟩) ps.length cap/\iI w gl ps.length c cur ps:=by
 obtain⟨g,cap,cur,rfl,hr,h1,h2,h3,h4⟩:=h.own.open' (by rw[List.length_map,h.len];exact hp);refine⟨g,cap,cur,by rw[List.length_map,h.len],hr,rfl,fun q bs hq=>?_⟩;have hlt:q<gs.length:=by rw[h.len];exact(List.getElem?_eq_some_iff.1 hq).1
 refine⟨gs[q],take_at h4 (by simp[hlt]),h.row q _ _ (by simp[hlt]) hq⟩
theorem zT(ao:Option Addr)(n cap id s m p T:Nat)(obj L:List Nat)(hid:id<65536)(hl:n<=2000)(h1:1<=s)(h2:s<=16)(h3:1<=m)(h4:m<=20)(h5:p<=20)(hm:manyN n s m=false)(hL:L=Cut.sizes n s m)(hT:Pk.start L p L.length=T)(w:World)(lG:kr w ao n obj):
  Calls Tryz.prog 14 #[.int .i64 id,.slice ao n cap,.agg #[.int .i64 s,.int .i64 m,.int .i64 p]] w fun e w'=>
   ∃gl cap cur,e= .returned (.tuple #[.slice (some ⟨gl,0,none⟩) T cap,.int .i64 0])/\iI w' gl T (10+s) cur (Pk.packets id obj s m p)/\Below w.heap.size w w':=by
 have hc:Cut.blocks (Cut.pieces n s) m<=256:=by
  rw[ou h3]at hm;simpa using hm
 refine(qx ao n cap id s m p obj hid hl h1 h2 h3 h4 h5 hc w lG).mono ?_;rintro e w' ⟨v,gs,rfl,hp,hb⟩;have hlen:(Pk.packets id obj s m p).length=T:=by
  unfold Pk.packets;rw[lG.1,Pk.ru (Nat.le_refl _),<-hL,hT]
 have hpos:0<T:=by
  rw[<-hT];have hb1:=Cut.j_ (Cut.gD n s) h3;have hs:=Cut.tQ (len:=n) (s:=s) h3;have hp1:=Cut.gD n s;unfold Pk.start;rw[List.take_length,hL,hs];omega
 obtain⟨gl,cap',cur,rfl,hpa⟩:=hp.opened (by omega);rw[hlen]at hpa;exact⟨gl,cap',cur,by rw[hlen],hpa,hb⟩
theorem Gm(ao:Option Addr)(n cap:Nat)(id:Int)(s m p:Nat)(hl:n<=2000)(h1:1<=s)(h2:s<=16)(h3:1<=m)(h4:m<=20)(h5:p<=20)(hm:manyN n s m=true)(w:World):
  Calls Tryz.prog 14 #[.int .i64 id,.slice ao n cap,.agg #[.int .i64 s,.int .i64 m,.int .i64 p]] w fun e w'=>e= .returned (.tuple #[.slice none 0 0,.int .i64 1])/\Below w.heap.size w w':=
 zU ao n cap id s m p hl h1 h2 h3 h4 h5 (by rw[ou h3]at hm;simpa using hm) w
theorem JF(n s m p:Nat)(hl:n<=2000)(h1:1<=s)(h2:s<=16)(h3:1<=m)(h4:m<=20)(h5:p<=20)(hm:manyN n s m=true)(w:World):
  Calls Tryz.prog 15 #[.int .i64 n,.agg #[.int .i64 s,.int .i64 m,.int .i64 p]] w fun e w'=>e= .returned (.tuple #[.slice none 0 0,.int .i64 1])/\Below w.heap.size w w':=
 Dj n s m p hl h1 h2 h3 h4 h5 (by rw[ou h3]at hm;simpa using hm) w
theorem Di(n s m p Z:Nat)(L:List Nat)(hl:n<=2000)(h1:1<=s)(h2:s<=16)(h3:1<=m)(h4:m<=20)(h5:p<=20)(hm:manyN n s m=false)(hL:L=Cut.sizes n s m)(hZ:L.length=Z)(w:World):
  Calls Tryz.prog 15 #[.int .i64 n,.agg #[.int .i64 s,.int .i64 m,.int .i64 p]] w fun e w'=>
   ∃g,w.heap.size<=g/\e= .returned (.tuple #[.slice (some ⟨g,0,none⟩) Z Z,.int .i64 0])/\Below w.heap.size w w'/\aB w' g 3 (bW L):=by
 have hc:Cut.blocks (Cut.pieces n s) m<=256:=by
  rw[ou h3]at hm;simpa using hm
 subst hL;rw[Cut.fD]at hZ;subst hZ;exact Dh n s m p hl h1 h2 h3 h4 h5 hc w
theorem wV(a b:List Nat):bN (a++b)=bN a++bN b:=by simp[bN]
theorem NM{I n s m p k i:Nat}{obj L:List Nat}(lG:obj.length=n)(hL:L=Cut.sizes n s m)(M:Nat)(hM:M=Cut.pieces n s*s)(hk:k<L.length)(hi:i<L[k]?.getD 0+p):
  (Pk.packets I obj s m p)[Pk.start L p k+i]? =some (Pk.packet I n s m p k i (Pk.pieceN (Pk.kL (Pk.filled obj M) L s k) s (L[k]?.getD 0) i)):=by
 unfold Pk.packets;rw[lG,<-hL,<-hM];exact Pk.UG _ hk (Nat.le_refl _) hi
theorem mJ{D L:List Nat}{s k N M:Nat}(hk:k<L.length)(hN:L.sum=N)(hM:M=N*s)(hD:D.length=M):(Pk.kL D L s k).length=L[k]?.getD 0*s:=by
 unfold Pk.kL;rw[List.length_take,List.length_drop,hD,hM];have h1:=ku L (k+1);rw[iK (getD_some hk),hN]at h1;have h2:=Nat.mul_le_mul_right s h1;rw[Nat.add_mul]at h2;omega
theorem Gg{obj:List Nat}{M j:Nat}(h:j<obj.length):(Pk.filled obj M)[j]? =obj[j]? :=by
 unfold Pk.filled;rw[List.getElem?_append_left h]
theorem EH{L:List Nat}{p q:Nat}:∀Z,Z<=L.length->q<Pk.start L p Z->∃k i,k<Z/\i<L[k]?.getD 0+p/\q=Pk.start L p k+i:=by
 intro Z;induction Z with
 |zero=>intro _ h;simp[Pk.start]at h
 |succ Z ih=>
  intro hZ h;by_cases hq:q<Pk.start L p Z
  ·obtain⟨k,i,h1,h2,h3⟩:=ih (by omega) hq;exact⟨k,i,by omega,h2,h3⟩
  ·have:=Pk.iE (p:=p) (show Z<L.length by omega);exact⟨Z,q-Pk.start L p Z,by omega,by omega,by omega⟩
theorem z_{bs:List Nat}(h:∀x∈bs,x<256):bytesOf (strOf bs)=bs:=by
 rw[xw];unfold bytesOf;simp only[List.map_map];conv=>rhs;rw[<-List.map_id bs]
 apply List.map_congr_left;intro x hx;have:=h x hx;simp;omega
def J4(w:World)(b:Nat)(bs:List Value):Prop:=
 ∃p v,aB w b 122 [p,v]/\(p= .pointer none\/p= .pointer (some ⟨b,0,none⟩))/\bM w 5 v bs/\∀k,v.ownBlock=some k->b<k
theorem V7(w:World):J4 (w.alloc (.cells #[.pointer none,.slice none 0 0] 122)) w.heap.size []:=
 ⟨_,_,aP w _ _,Or.inl rfl,iW _ _,fun k hk=>by simp[Value.ownBlock]at hk⟩
theorem J4.lt{w:World}{b:Nat}{bs:List Value}(h:J4 w b bs):b<w.heap.size:=by
 obtain⟨p,v,hr,_⟩:=h;exact hr.lt
theorem J4.is{w:World}{b:Nat}{bs:List Value}(h:J4 w b bs):Lib.IsBuilder 122 5 b b bs w:=by
 obtain⟨p,v,hr,hp,ho,hk⟩:=h;have hown:w.ownsRow b 5 1 v bs.length bs:=by
  refine⟨by omega,?_⟩;rcases ho with⟨h1,h2⟩|⟨g,cap,cur,h1,h2,h3,h4,h5,h6⟩
  ·left;exact⟨h1,by rw[h2];rfl⟩
  ·right;refine⟨g,cap,cur.toArray,h1,?_,h2,h3,h4,by simp[h5],by simpa using h6⟩;have:=hk g (by rw[h1];rfl);omega
 have hne:v.ownBlock≠some b:=fun e=>by have:=hk b e;omega
 rcases hp with rfl|rfl
 ·exact Or.inl ⟨Nat.le_refl _,v,hr,hown,hne⟩
 ·exact Or.inr ⟨Nat.le_refl _,v,hr,hown,hne⟩
def bren:Go.Shelf.Ren:=⟨fun|169=>72|n=>n,fun|70=>120|9=>9|0=>0|72=>122|37=>28|127=>193|3=>3|5=>5|n=>n,fun|n=>n⟩
theorem bLays:Go.Proofs.Lays.n169 Tryz.prog bren:= {
 mixed:=by kernel_rfl
 f169:=Tryz.func72.trans (congrArg some (by kernel_rfl))
 t0:=Tryz.underlying0
 a0:=Tryz.isAgg0
 z0:=Tryz.sizeOf0
 v0:=Tryz.zeroValue0
 t3:=Tryz.underlying3
 a3:=Tryz.isAgg3
 z3:=Tryz.sizeOf3
 v3:=Tryz.zeroValue3
 t9:=Tryz.underlying9
 a9:=Tryz.isAgg9
 z9:=Tryz.sizeOf9
 v9:=Tryz.zeroValue9
 t37:=Tryz.underlying28
 a37:=Tryz.isAgg28
 z37:=Tryz.sizeOf28
 v37:=Tryz.zeroValue28
 t70:=Tryz.underlying120
 a70:=Tryz.isAgg120
 z70:=Tryz.sizeOf120
 v70:=Tryz.zeroValue120
 t72:=Tryz.underlying122
 a72:=Tryz.isAgg122
 z72:=Tryz.sizeOf122
 v72:=Tryz.zeroValue122
 t127:=Tryz.underlying193
 a127:=Tryz.isAgg193
 z127:=Tryz.sizeOf193
 v127:=Tryz.zeroValue193}
theorem YT:Builder.Extra Tryz.prog bren:= {
 sizeBuilder:=by kernel_rfl
 liesBuilder:=by kernel_rfl
 t5:=Tryz.underlying5
 a5:=Tryz.isAgg5
 z5:=Tryz.sizeOf5
 v5:=Tryz.zeroValue5
 infoByte:=by kernel_rfl
 cellsByte:=by kernel_rfl
 sizeByte:=by kernel_rfl
 neB5:=by decide}
theorem zw{bs:List Nat}(h:∀x∈bs,x<256):bN bs=Lib.byteCells (bs.map UInt8.ofNat):=by
 unfold bN Lib.byteCells;rw[List.map_map];apply List.map_congr_left;intro x hx;have:=h x hx;simp;omega
theorem Dr(b:Nat)(bs:List Nat)(hbs:∀x∈bs,x<256)(w:World)(h:J4 w b (bN bs)):
  Calls Tryz.prog 72 #[.pointer (some ⟨b,0,none⟩)] w fun e w'=>e= .returned (.string (strOf bs))/\Below b w w':=by
 have h1:=h.is;rw[zw hbs]at h1;refine(Any.Builder_String_any bLays YT b b (bs.map UInt8.ofNat) w h1 (Nat.le_of_lt h.lt)).mono ?_;rintro _ w' ⟨rfl,hb⟩;refine⟨?_,hb⟩;rw[xw]
theorem h_:(Tryz.prog.info? 122).map (·.size)=some 2:=by kernel_rfl
theorem aB.shape{w:World}{g:Nat}{t:TypeId}{L:List Value}(h:aB w g t L):w.shape? g=some (t,L.length):=by
 unfold aB at h;simp[World.shape?,h]
theorem UM{w:World}{b:Nat}{L:List Value}(h:aB w b 122 L)(hL:L.length=2):(convert 120 205 (.pointer (some ⟨b,0,none⟩))).run Tryz.prog w= .ok (.pointer (some ⟨b,0,none⟩)) w:=by
 obtain⟨j,hj,hjs⟩:=Option.map_eq_some_iff.1 h_;have hsh:=h.shape;rw[hL]at hsh;have hs:=run_underlying (P:=Tryz.prog) Tryz.underlying120;have hd:=run_underlying (P:=Tryz.prog) Tryz.underlying205;simp only[convert,Sem.run_bind,hs,hd,Result.andThen_ok];refine Eq.trans (b:=Sem.run Tryz.prog (bind (underlying 120) _) w) rfl ?_;simp[hs,hd,Conv.seenAt,viewAt,cellsIn,hsh,sizeOf,typeInfo,hj,hjs]
theorem Ve{w:World}{b:Nat}{L:List Value}(h:aB w b 122 L)(hL:L.length=2):(convert 205 120 (.pointer (some ⟨b,0,none⟩))).run Tryz.prog w= .ok (.pointer (some ⟨b,0,none⟩)) w:=by
 obtain⟨j,hj,hjs⟩:=Option.map_eq_some_iff.1 h_;have hsh:=h.shape;rw[hL]at hsh;have hs:=run_underlying (P:=Tryz.prog) Tryz.underlying205;have hd:=run_underlying (P:=Tryz.prog) Tryz.underlying120;have hl:liesAt Tryz.prog Tryz.prog.depth 122 (2/Tryz.prog.cellsOf 122) 0 122 1=true:=by kernel_rfl
 simp only[convert,Sem.run_bind,hs,hd,Result.andThen_ok];refine Eq.trans (b:=Sem.run Tryz.prog (bind (underlying 205) _) w) rfl ?_;simp[hs,hd,Conv.seenAt,viewAt,hsh,variablesAt,hl,sizeOf,typeInfo,hj]
theorem oO(r N:Nat)(hr:r<128)(v:Value)(xs:List Value)(hN:Hid (xs.length=N))(yD:N<=1000000000)(w:World)(ho:bM w 5 v xs):
  Calls Tryz.prog 120 #[v,.int .i32 r] w fun e w'=>∃v' o,e= .returned v'/\fC (w.alloc o) w' 5 v v' xs [.int .u8 r]:=by
 obtain⟨i0,hi,hz0,hz1,hz2⟩:=info_parts Tryz.infoByte;have u1:IntKind.u32.wrap (r:Int)=r:=by simp[IntKind.wrap,IntKind.bits,IntKind.signed];omega
 have u2:=bZ (r:Int) (by omega) (by omega);have u3:(r:Int)<=127:=by omega
 have HO:=hide ho;clear ho;go_enter Tryz.func120,Tryz.ntmps120;go_wp2_with (at_builtin;(refine dn _ rfl (.tmp 8) (.tmp 11) 28 rfl 5 i0 (.int .u8 0) 1 Tryz.underlying28 hi hz0 hz1 hz2 rfl _ xs rfl (HO.out.alloc _) ⟨w.heap.size,0,none⟩ 1 1 [.int .u8 r] rfl rfl (lW _ _ _ _ rfl) (by intro u hu;simp at hu;subst hu;rfl) (by rw[hN.out];unfold maxLen;omega) (by rw[hN.out];omega) ?_))
 intro v' w1 happ;replace happ:=hide happ;go_wp2;go_ret;exact⟨_,_,rfl,happ.out⟩
theorem O4(r N:Nat)(h1:945<=r)(h2:r<=956)(v:Value)(xs:List Value)(hN:Hid (xs.length=N))(yD:N<=1000000000)(w:World)(ho:bM w 5 v xs):
  Calls Tryz.prog 173 #[v,.int .i32 r] w fun e w'=>∃v' o,e= .returned v'/\fC (w.alloc o) w' 5 v v' xs [.int .u8 (192+(r:Int)/64),.int .u8 (128+(r:Int)%64)]:=by
 obtain⟨i0,hi,hz0,hz1,hz2⟩:=info_parts Tryz.infoByte;have u1:IntKind.u32.wrap (r:Int)=r:=by simp[IntKind.wrap,IntKind.bits,IntKind.signed];omega
 have u3:(r:Int)<=2047:=by omega
 have HO:=hide ho;clear ho;go_enter Tryz.func173,Tryz.ntmps173;go_wp2_with (at_builtin;(refine dn _ rfl (.tmp 14) (.tmp 23) 28 rfl 5 i0 (.int .u8 0) 1 Tryz.underlying28 hi hz0 hz1 hz2 rfl _ xs rfl (HO.out.alloc _) ⟨w.heap.size,0,none⟩ 2 2 [.int .u8 (192+(r:Int)/64),.int .u8 (128+(r:Int)%64)] rfl rfl (lW _ _ _ _ rfl) (by intro u hu;simp at hu;rcases hu with rfl|rfl<;>rfl) (by rw[hN.out];unfold maxLen;omega) (by rw[hN.out];omega) ?_))
 intro v' w1 happ;replace happ:=hide happ;go_wp2;go_ret;exact⟨_,_,rfl,happ.out⟩
theorem y8(r N:Nat)(h1:945<=r)(h2:r<=956)(v:Value)(xs:List Value)(hN:Hid (xs.length=N))(yD:N<=1000000000)(w:World)(ho:bM w 5 v xs):
  Calls Tryz.prog 120 #[v,.int .i32 r] w fun e w'=>∃v' o,e= .returned v'/\fC (w.alloc o) w' 5 v v' xs [.int .u8 (192+(r:Int)/64),.int .u8 (128+(r:Int)%64)]:=by
 have u1:IntKind.u32.wrap (r:Int)=r:=by simp[IntKind.wrap,IntKind.bits,IntKind.signed];omega
 have u3:¬(r:Int)<=127:=by omega
 have HO:=hide ho;clear ho;go_enter Tryz.func120,Tryz.ntmps120;go_wp2_with (go_at_call 173;refine(O4 r N h1 h2 v xs hN yD _ HO.out).mono ?_;rintro _ w1 ⟨v',o,rfl,happ⟩;replace happ:=hide happ)
 go_ret;exact⟨_,_,rfl,happ.out⟩
theorem vT(n N:Nat)(hn:n<64)(v:Value)(xs:List Value)(hN:Hid (xs.length=N))(yD:N<=1000000000)(w:World)(ho:bM w 5 v xs):
  Calls Tryz.prog 120 #[v,.int .i32 (Tx.rn n:Nat)] w fun e w'=>∃v' o,e= .returned v'/\fC (w.alloc o) w' 5 v v' xs (bN (Tx.jB n)):=by
 unfold Tx.rn Tx.jB;by_cases h1:n<26
 ·rw[if_pos h1,if_pos h1];exact oO (65+n) N (by omega) v xs hN yD w ho
 ·rw[if_neg h1,if_neg h1];by_cases h2:n<52
  ·rw[if_pos h2,if_pos h2];exact oO (71+n) N (by omega) v xs hN yD w ho
  ·rw[if_neg h2,if_neg h2];have h:=y8 (893+n) N (by omega) (by omega) v xs hN yD w ho;have e1:(192:Int)+((893+n:Nat):Int)/64=((206:Nat):Int):=by omega
   have e2:(128:Int)+((893+n:Nat):Int)%64=((125+n:Nat):Int):=by omega
   rw[e1,e2]at h;exact h
def JD(e:Int):Value:=.iface 116 (.agg #[.int .i64 e])
theorem jD(e:Int)(w:World):Calls Tryz.prog 81 #[.bool true,.int .i64 e] w fun r w'=>r= .returned (.tuple #[])/\w'=w:=by
 go_enter Tryz.func81,Tryz.ntmps81;go_wp2;go_end0;exact⟨rfl,rfl⟩
theorem Ai(e:Int)(w:World):Calls Tryz.prog 81 #[.bool false,.int .i64 e] w fun r w'=>r= .panicked [{v:=JD e,recovered:=false}]/\w'=w:=by
 go_enter Tryz.func81,Tryz.ntmps81;go_wp2;exact⟨rfl,rfl,rfl⟩
theorem wF(w:World):Calls Tryz.prog 68 #[.bool true] w fun r w'=>r= .returned (.tuple #[])/\w'=w:=by
 go_enter Tryz.func68,Tryz.ntmps68;go_wp2_with (go_at_call 81;refine(jD _ _).mono ?_;rintro _ _ ⟨rfl,rfl⟩)
 go_end0;exact⟨rfl,rfl⟩
theorem Jq(a b:Nat)(ha:a<4294967296)(hb:b<4294967296):bits .or .i64 (a:Int) (b:Int)=((a ||| b:Nat):Int):=by
 have hx:a ||| b<2^32:=Nat.or_lt_two_pow (by omega) (by omega);show IntKind.i64.wrap ((BitVec.ofInt 64 (a:Int) ||| BitVec.ofInt 64 (b:Int)).toNat:Int)=_;rw[BitVec.toNat_or,ofInt_u64 a (by omega),ofInt_u64 b (by omega),aF _ (by omega) (by omega)]
theorem I9(a:Nat){b k:Nat}(hb:b<2^k):a*2^k ||| b=a*2^k+b:=by
 have:=Nat.two_pow_add_eq_or_of_lt (i:=k) (b:=b) hb a;rw[Nat.mul_comm (2^k) a]at this;exact this.symm
theorem AO(a b:Nat)(ha:a<256)(hb:b<256)(w:World):Calls Tryz.prog 118 #[.int .u8 a,.int .u8 b] w fun r w'=>r= .returned (.int .i64 ((256*a+b:Nat):Int))/\w'=w:=by
 have hor:bits .or .i64 ((a:Int)*256) (b:Int)=((256*a+b:Nat):Int):=by
  have h1:=Jq (a*256) b (by omega) (by omega);rw[I9 a (k:=8) hb]at h1;rw[show((a*256:Nat):Int)=(a:Int)*256 by omega]at h1;rw[h1];omega
 go_enter Tryz.func118,Tryz.ntmps118;go_wp2;go_ret;exact⟨rfl,rfl⟩
def dS(id len s m p z q:Nat):Value:=.agg #[.int .i64 id,.int .i64 len,.int .i64 s,.int .i64 m,.int .i64 p,.int .i64 z,.int .i64 q]
set_option linter.unusedSimpArgs false in
theorem zO(b off n cap c1 c2 c3 c4 c5 c6 c7 c8 c9:Nat)(hn:10<n)(h1:c1<256)(h2:c2<256)(h3:c3<256)(h4:c4<256)(h5:c5<256)(h6:c6<256)(h7:c7<256)(h8:c8<256)(h9:c9<256)(w:World)
  (d1:w.cell? ⟨b,off+1,none⟩=some (.int .u8 c1))(d2:w.cell? ⟨b,off+2,none⟩=some (.int .u8 c2))(d3:w.cell? ⟨b,off+3,none⟩=some (.int .u8 c3))(d4:w.cell? ⟨b,off+4,none⟩=some (.int .u8 c4))(d5:w.cell? ⟨b,off+5,none⟩=some (.int .u8 c5))
  (d6:w.cell? ⟨b,off+6,none⟩=some (.int .u8 c6))(d7:w.cell? ⟨b,off+7,none⟩=some (.int .u8 c7))(d8:w.cell? ⟨b,off+8,none⟩=some (.int .u8 c8))(d9:w.cell? ⟨b,off+9,none⟩=some (.int .u8 c9)):
  Calls Tryz.prog 69 #[.slice (some ⟨b,off,none⟩) n cap] w fun r w'=>r= .returned (dS (256*c1+c2) (256*c3+c4) c5 c6 c7 c8 c9)/\Below w.heap.size w w':=by
 go_enter Tryz.func69,Tryz.ntmps69;go_wp2_with fail
 have u5:=aF (c5:Int) (by omega) (by omega);have u6:=aF (c6:Int) (by omega) (by omega);have u7:=aF (c7:Int) (by omega) (by omega);have u8:=aF (c8:Int) (by omega) (by omega);have u9:=aF (c9:Int) (by omega) (by omega);have n1:(1:Int)<(n:Int):=by omega
 have n2:(2:Int)<(n:Int):=by omega
 have n3:(3:Int)<(n:Int):=by omega
 have n4:(4:Int)<(n:Int):=by omega
 have n5:(5:Int)<(n:Int):=by omega
 have n6:(6:Int)<(n:Int):=by omega
 have n7:(7:Int)<(n:Int):=by omega
 have n8:(8:Int)<(n:Int):=by omega
 have n9:(9:Int)<(n:Int):=by omega
 refine wp_region_held_drew (S:=fun w'=>Below w.heap.size w w') (by kernel_rfl) (((Below.refl _ _).alloc (Nat.le_refl _) _).drew) (fun hS0=>?_);refine wpAnyH_take (i:=0) (v:=?v1) rfl (by kernel_rfl) (by kernel_rfl) (by kernel_rfl) (fun _ _ _ h=>h) (Or.inl ⟨by rfl,?hy1⟩) (by assumption) ?rest1
 case hy1=>(intro wz hSw;go_simp;try (with_reducible rfl))
 try go_frame
 refine wpAnyH_take (i:=1) (v:=?v2) rfl (by kernel_rfl) (by kernel_rfl) (by kernel_rfl) (fun _ _ _ h=>h) (Or.inl ⟨by rfl,?hy2⟩) (by assumption) ?rest2
 case hy2=>(intro wz hSw;go_simp;try (with_reducible rfl))
 try go_frame
 refine wpAnyH_take (i:=2) (v:=?v3) rfl (by kernel_rfl) (by kernel_rfl) (by kernel_rfl) (fun _ _ _ h=>h) (Or.inl ⟨by rfl,?hy3⟩) (by assumption) ?rest3
 case hy3=>(intro wz hSw;have hcz:=cell_later hSw d1;go_simp;try (with_reducible rfl))
 try go_frame
 refine wpAnyH_take (i:=3) (v:=?v4) rfl (by kernel_rfl) (by kernel_rfl) (by kernel_rfl) (fun _ _ _ h=>h) (Or.inl ⟨by rfl,?hy4⟩) (by assumption) ?rest4
 case hy4=>(intro wz hSw;go_simp;try (with_reducible rfl))
 try go_frame
 refine wpAnyH_take (i:=4) (v:=?v5) rfl (by kernel_rfl) (by kernel_rfl) (by kernel_rfl) (fun _ _ _ h=>h) (Or.inl ⟨by rfl,?hy5⟩) (by assumption) ?rest5
 case hy5=>(intro wz hSw;go_simp;try (with_reducible rfl))
 try go_frame
 refine wpAnyH_take (i:=5) (v:=?v6) rfl (by kernel_rfl) (by kernel_rfl) (by kernel_rfl) (fun _ _ _ h=>h) (Or.inl ⟨by rfl,?hy6⟩) (by assumption) ?rest6
 case hy6=>(intro wz hSw;have hcz:=cell_later hSw d2;go_simp;try (with_reducible rfl))
 try go_frame
 refine wpAnyH_take (i:=7) (v:=?v7) rfl (by kernel_rfl) (by kernel_rfl) (by kernel_rfl) (fun _ _ _ h=>h) (Or.inl ⟨by rfl,?hy7⟩) (by assumption) ?rest7
 case hy7=>(intro wz hSw;go_simp;try (with_reducible rfl))
 try go_frame
 refine wpAnyH_take (i:=8) (v:=?v8) rfl (by kernel_rfl) (by kernel_rfl) (by kernel_rfl) (fun _ _ _ h=>h) (Or.inl ⟨by rfl,?hy8⟩) (by assumption) ?rest8
 case hy8=>(intro wz hSw;go_simp;try (with_reducible rfl))
 try go_frame
 refine wpAnyH_take (i:=9) (v:=?v9) rfl (by kernel_rfl) (by kernel_rfl) (by kernel_rfl) (fun _ _ _ h=>h) (Or.inl ⟨by rfl,?hy9⟩) (by assumption) ?rest9
 case hy9=>(intro wz hSw;have hcz:=cell_later hSw d3;go_simp;try (with_reducible rfl))
 try go_frame
 refine wpAnyH_take (i:=10) (v:=?v10) rfl (by kernel_rfl) (by kernel_rfl) (by kernel_rfl) (fun _ _ _ h=>h) (Or.inl ⟨by rfl,?hy10⟩) (by assumption) ?rest10
 case hy10=>(intro wz hSw;go_simp;try (with_reducible rfl))
 try go_frame
 refine wpAnyH_take (i:=11) (v:=?v11) rfl (by kernel_rfl) (by kernel_rfl) (by kernel_rfl) (fun _ _ _ h=>h) (Or.inl ⟨by rfl,?hy11⟩) (by assumption) ?rest11
 case hy11=>(intro wz hSw;go_simp;try (with_reducible rfl))
 try go_frame
 refine wpAnyH_take (i:=12) (v:=?v12) rfl (by kernel_rfl) (by kernel_rfl) (by kernel_rfl) (fun _ _ _ h=>h) (Or.inl ⟨by rfl,?hy12⟩) (by assumption) ?rest12
 case hy12=>(intro wz hSw;have hcz:=cell_later hSw d4;go_simp;try (with_reducible rfl))
 try go_frame
 refine wpAnyH_take (i:=14) (v:=?v13) rfl (by kernel_rfl) (by kernel_rfl) (by kernel_rfl) (fun _ _ _ h=>h) (Or.inl ⟨by rfl,?hy13⟩) (by assumption) ?rest13
 case hy13=>(intro wz hSw;go_simp;try (with_reducible rfl))
 try go_frame
 refine wpAnyH_take (i:=15) (v:=?v14) rfl (by kernel_rfl) (by kernel_rfl) (by kernel_rfl) (fun _ _ _ h=>h) (Or.inl ⟨by rfl,?hy14⟩) (by assumption) ?rest14
 case hy14=>(intro wz hSw;go_simp;try (with_reducible rfl))
 try go_frame
 refine wpAnyH_take (i:=16) (v:=?v15) rfl (by kernel_rfl) (by kernel_rfl) (by kernel_rfl) (fun _ _ _ h=>h) (Or.inl ⟨by rfl,?hy15⟩) (by assumption) ?rest15
 case hy15=>(intro wz hSw;have hcz:=cell_later hSw d5;go_simp;try (with_reducible rfl))
 try go_frame
 refine wpAnyH_take (i:=17) (v:=?v16) rfl (by kernel_rfl) (by kernel_rfl) (by kernel_rfl) (fun _ _ _ h=>h) (Or.inl ⟨by rfl,?hy16⟩) (by assumption) ?rest16
 case hy16=>(intro wz hSw;go_simp;try (with_reducible rfl))
 try go_frame
 refine wpAnyH_take (i:=18) (v:=?v17) rfl (by kernel_rfl) (by kernel_rfl) (by kernel_rfl) (fun _ _ _ h=>h) (Or.inl ⟨by rfl,?hy17⟩) (by assumption) ?rest17
 case hy17=>(intro wz hSw;go_simp;try (with_reducible rfl))
 try go_frame
 refine wpAnyH_take (i:=19) (v:=?v18) rfl (by kernel_rfl) (by kernel_rfl) (by kernel_rfl) (fun _ _ _ h=>h) (Or.inl ⟨by rfl,?hy18⟩) (by assumption) ?rest18
 case hy18=>(intro wz hSw;go_simp;try (with_reducible rfl))
 try go_frame
 refine wpAnyH_take (i:=20) (v:=?v19) rfl (by kernel_rfl) (by kernel_rfl) (by kernel_rfl) (fun _ _ _ h=>h) (Or.inl ⟨by rfl,?hy19⟩) (by assumption) ?rest19
 case hy19=>(intro wz hSw;have hcz:=cell_later hSw d6;go_simp;try (with_reducible rfl))
 try go_frame
 refine wpAnyH_take (i:=21) (v:=?v20) rfl (by kernel_rfl) (by kernel_rfl) (by kernel_rfl) (fun _ _ _ h=>h) (Or.inl ⟨by rfl,?hy20⟩) (by assumption) ?rest20
 case hy20=>(intro wz hSw;go_simp;try (with_reducible rfl))
 try go_frame
 refine wpAnyH_take (i:=22) (v:=?v21) rfl (by kernel_rfl) (by kernel_rfl) (by kernel_rfl) (fun _ _ _ h=>h) (Or.inl ⟨by rfl,?hy21⟩) (by assumption) ?rest21
 case hy21=>(intro wz hSw;go_simp;try (with_reducible rfl))
 try go_frame
 refine wpAnyH_take (i:=23) (v:=?v22) rfl (by kernel_rfl) (by kernel_rfl) (by kernel_rfl) (fun _ _ _ h=>h) (Or.inl ⟨by rfl,?hy22⟩) (by assumption) ?rest22
 case hy22=>(intro wz hSw;go_simp;try (with_reducible rfl))
 try go_frame
 refine wpAnyH_take (i:=24) (v:=?v23) rfl (by kernel_rfl) (by kernel_rfl) (by kernel_rfl) (fun _ _ _ h=>h) (Or.inl ⟨by rfl,?hy23⟩) (by assumption) ?rest23
 case hy23=>(intro wz hSw;have hcz:=cell_later hSw d7;go_simp;try (with_reducible rfl))
 try go_frame
 refine wpAnyH_take (i:=25) (v:=?v24) rfl (by kernel_rfl) (by kernel_rfl) (by kernel_rfl) (fun _ _ _ h=>h) (Or.inl ⟨by rfl,?hy24⟩) (by assumption) ?rest24
 case hy24=>(intro wz hSw;go_simp;try (with_reducible rfl))
 try go_frame
 refine wpAnyH_take (i:=26) (v:=?v25) rfl (by kernel_rfl) (by kernel_rfl) (by kernel_rfl) (fun _ _ _ h=>h) (Or.inl ⟨by rfl,?hy25⟩) (by assumption) ?rest25
 case hy25=>(intro wz hSw;go_simp;try (with_reducible rfl))
 try go_frame
 refine wpAnyH_take (i:=27) (v:=?v26) rfl (by kernel_rfl) (by kernel_rfl) (by kernel_rfl) (fun _ _ _ h=>h) (Or.inl ⟨by rfl,?hy26⟩) (by assumption) ?rest26
 case hy26=>(intro wz hSw;go_simp;try (with_reducible rfl))
 try go_frame
 refine wpAnyH_take (i:=28) (v:=?v27) rfl (by kernel_rfl) (by kernel_rfl) (by kernel_rfl) (fun _ _ _ h=>h) (Or.inl ⟨by rfl,?hy27⟩) (by assumption) ?rest27
 case hy27=>(intro wz hSw;go_simp;try (with_reducible rfl))
 try go_frame
 refine wpAnyH_take (i:=29) (v:=?v28) rfl (by kernel_rfl) (by kernel_rfl) (by kernel_rfl) (fun _ _ _ h=>h) (Or.inl ⟨by rfl,?hy28⟩) (by assumption) ?rest28
 case hy28=>(intro wz hSw;have hcz:=cell_later hSw d8;go_simp;try (with_reducible rfl))
 try go_frame
 refine wpAnyH_take (i:=30) (v:=?v29) rfl (by kernel_rfl) (by kernel_rfl) (by kernel_rfl) (fun _ _ _ h=>h) (Or.inl ⟨by rfl,?hy29⟩) (by assumption) ?rest29
 case hy29=>(intro wz hSw;go_simp;try (with_reducible rfl))
 try go_frame
 refine wpAnyH_take (i:=31) (v:=?v30) rfl (by kernel_rfl) (by kernel_rfl) (by kernel_rfl) (fun _ _ _ h=>h) (Or.inl ⟨by rfl,?hy30⟩) (by assumption) ?rest30
 case hy30=>(intro wz hSw;go_simp;try (with_reducible rfl))
 try go_frame
 refine wpAnyH_take (i:=32) (v:=?v31) rfl (by kernel_rfl) (by kernel_rfl) (by kernel_rfl) (fun _ _ _ h=>h) (Or.inl ⟨by rfl,?hy31⟩) (by assumption) ?rest31
 case hy31=>(intro wz hSw;go_simp;try (with_reducible rfl))
 try go_frame
 refine wpAnyH_take (i:=33) (v:=?v32) rfl (by kernel_rfl) (by kernel_rfl) (by kernel_rfl) (fun _ _ _ h=>h) (Or.inl ⟨by rfl,?hy32⟩) (by assumption) ?rest32
 case hy32=>(intro wz hSw;have hcz:=cell_later hSw d9;go_simp;try (with_reducible rfl))
 try go_frame
 refine wpAnyH_take (i:=34) (v:=?v33) rfl (by kernel_rfl) (by kernel_rfl) (by kernel_rfl) (fun _ _ _ h=>h) (Or.inl ⟨by rfl,?hy33⟩) (by assumption) ?rest33
 case hy33=>(intro wz hSw;go_simp;try (with_reducible rfl))
 try go_frame
 refine wpAnyH_ready (rs:= [6]) (by kernel_rfl) (by simp) ?_;refine AllReadyH.cons rfl (fun K hK=>?_) ?_
 ·go_simp;go_at_call 118
  refine(AO _ _ (by omega) (by omega) _).mono ?_;rintro _ _ ⟨rfl,rfl⟩;go_wp2_with fail
  refine hK.out _ _ hS0 (fun hS1=>?_);clear hK K;try go_frame
  refine wpAnyH_ready (rs:= [13]) (by kernel_rfl) (by simp) ?_;refine AllReadyH.cons rfl (fun K hK=>?_) ?_
  ·go_simp;go_at_call 118
   refine(AO _ _ (by omega) (by omega) _).mono ?_;rintro _ _ ⟨rfl,rfl⟩;go_wp2_with fail
   refine hK.out _ _ hS1 (fun hS2=>?_);clear hK K;try go_frame
   refine wpAnyH_take (i:=35) (v:=?v34) rfl (by kernel_rfl) (by kernel_rfl) (by kernel_rfl) (fun _ _ _ h=>h) (Or.inl ⟨by rfl,?hy34⟩) (by assumption) ?rest34
   case hy34=>(intro wz hSw;go_simp;try (with_reducible rfl))
   try go_frame
   refine wpAnyH_ready (rs:= [36]) (by kernel_rfl) (by simp) ?_;refine AllReadyH.cons rfl (fun K hK=>?_) ?_
   ·go_simp;refine hK.out _ _ (((Below.refl _ _).alloc (Nat.le_refl _) _).drew) (fun hS3=>?_);clear hK K;try go_frame
    refine wpAnyH_done (by kernel_rfl) ?_ _;go_wp2;refine bodyPost_ret (v:=dS (256*c1+c2) (256*c3+c4) c5 c6 c7 c8 c9) (by simp[results,Tryz.results69,go_sem,dS]) rfl ⟨rfl,((Below.refl _ _).alloc (Nat.le_refl _) _).drew⟩
   exact AllReadyH.nil
  exact AllReadyH.nil
 exact AllReadyH.nil
end Go.Proofs.YtmfpiodlecapiaaGreatDoor
