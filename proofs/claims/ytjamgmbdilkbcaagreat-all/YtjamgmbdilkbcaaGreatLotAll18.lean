import Derived.Test.YtjamgmbdilkbcaaGreatLotAll17
set_option maxHeartbeats 4000000
set_option maxRecDepth 100000
namespace Go.Proofs.YtjamgmbdilkbcaaGreat
open Go.RowKit
def bs(l:List UInt8):ByteArray:=⟨l.toArray⟩
theorem bs_size(l:List UInt8):(bs l).size=l.length:=by simp[bs,ByteArray.size]
theorem bs_append(a b:List UInt8):bs a++bs b=bs (a++b):=by
 apply ByteArray.ext
 simp[bs,ByteArray.data_append]
theorem bs_extract(s:List UInt8)(i j:Nat):(bs s).extract i j=bs ((s.take j).drop i):=by
 apply ByteArray.ext
 simp[bs,ByteArray.data_extract]
 rw[List.drop_take]
theorem str_bs(l:List Int):str l=bs (l.map lt):=rfl
def spot(k:Int)(b:Bool):UInt8:=if b=true then lt k else 45
def spots(pl:List Int)(full:List Bool):List UInt8:=List.zipWith spot pl full
theorem lt_val(k:Int)(h:0<=k/\k<=100):((lt k).toNat:Int)=48+k:=by
 unfold lt
 rw[byte_val]
 omega
theorem rfree_any(m:Pu.Md)(mk mv:Value)(k:Int)(b:Bool)(w:World)(hm:MdR w w.heap.size mk mv m)(hk:0<=k/\k<=m.kinds.length)(hn:m.kinds.length<=100):
  Calls Tryz.prog 98 #[.agg #[mk,mv],.int .u8 ((spot k b).toNat:Int)] w fun e w'=>e=.returned (.bool (!b||Fl.may m k 2))/\Below w.heap.size w w':=by
 obtain⟨a1,c1,rfl⟩:=hm.k.shape
 obtain⟨a2,c2,rfl⟩:=hm.v.shape
 have bl0:=(Below.refl w.heap.size w).alloc (Nat.le_refl _) (.cells #[.slice a1 m.kinds.length c1,.slice a2 m.funcs.length c2] 38)
 have hm0:=(hm.below bl0).wide bl0.size
 cases b with
 | false=>
  have e1:((spot k false).toNat:Int)=45:=rfl
  rw[e1]
  go_enter Tryz.func98,Tryz.ntmps98
  go_wp2
  go_ret
  exact⟨rfl,bl0⟩
 | true=>
  have e1:((spot k true).toNat:Int)=48+k:=lt_val k (by omega)
  rw[e1]
  have hne:¬(48+k=45):=by omega
  have hne2:(48+k == 45)=false:=by simpa using hne
  go_enter Tryz.func98,Tryz.ntmps98
  go_wp2_with fail
  rw[show 48+k-48=k from by omega]
  refine(rmay_any m _ _ k 2 _ hm0 hk).mono ?_
  rintro e w3 ⟨rfl,hb3⟩
  have hb4:=bl0.trans (hb3.mono bl0.size)
  clear hm hm0 hb3 bl0
  go_wp2
  go_ret
  exact⟨by simp,hb4⟩
theorem rturn_any(l t:List UInt8)(i:Nat)(w:World)(hi:i<l.length)(hl:l.length<=1000)(ht:t.length<=1000):
  Calls Tryz.prog 100 #[.string (bs l),.int .i64 i,.string (bs t)] w fun e w'=>e=.returned (.string (bs (l.take i++t++l.drop (i+1))))/\Alike w w':=by
 have h1:=bs_size l
 have h2:=bs_size t
 have e1:(bs l).extract 0 i=bs (l.take i):=by rw[bs_extract];rfl
 have e2:(bs l).extract (i+1) l.length=bs (l.drop (i+1)):=by rw[bs_extract,List.take_of_length_le (Nat.le_refl _)]
 have e3:(bs (l.take i)).size=i:=by rw[bs_size,List.length_take];omega
 have e4:(bs (l.drop (i+1))).size=l.length-(i+1):=by rw[bs_size,List.length_drop]
 have HR:Hid (bs (l.take i)++bs t++bs (l.drop (i+1))=bs (l.take i++t++l.drop (i+1))):=by show _=_;rw[bs_append,bs_append]
 rw[<-HR.out]
 generalize bs (l.take i)=X1 at *
 generalize bs (l.drop (i+1))=X2 at *
 generalize bs t=X3 at *
 have t1:(9223372036854775807<i+t.length)=False:=by simp;omega
 have t2:(9223372036854775807<i+t.length+(l.length-(i+1)))=False:=by simp;omega
 go_enter Tryz.func100,Tryz.ntmps100
 go_wp2
 go_quiet (fail)
 go_wp2
 go_ret
 exact⟨rfl,rfl,rfl,rfl,rfl⟩
theorem Low.far{l:List Int}(h:Low l):∀k∈l,-1000<=k/\k<=1000:=fun k hk=>by have:=h k hk;omega
abbrev PS(W0:World)(q:Nat)(a b:Value)(w:World):Prop:=Below W0.heap.size W0 w/\w.cell? ⟨q,0,none⟩=some a/\w.cell? ⟨q,2,none⟩=some b
theorem PS.step{W0 w1 w2:World}{q:Nat}{a b:Value}(hq:q<W0.heap.size)(h:PS W0 q a b w1)(hb:Below w1.heap.size w1 w2):PS W0 q a b w2:=by
 have hql:q<w1.heap.size:=Nat.lt_of_lt_of_le hq h.1.size
 exact⟨h.1.trans (hb.mono h.1.size),(hb.cell (p:=⟨q,0,none⟩) hql).trans h.2.1,(hb.cell (p:=⟨q,2,none⟩) hql).trans h.2.2⟩
theorem rplaces_any(f:Pu.Fn)(x:FV)(w:World)(hf:FnR w w.heap.size x f)(hn:(Fl.places f).length<=8)(hl:Low (Fl.places f)):
  Calls Tryz.prog 97 #[.agg #[x.p,x.r,x.l,x.c]] w fun e w'=>e=.returned (.string (str (Fl.places f)))/\Below w.heap.size w w':=by
 obtain⟨x1,y1,x2,y2,x3,y3,x4,y4,rfl⟩:=hf.shape
 have b0:F4 (w.alloc (.cells #[.slice x1 f.params.length y1,.slice x2 f.results.length y2,.slice x3 f.locals.length y3,.slice x4 f.code.length y4] 62)) w.heap.size 62 (.slice x1 f.params.length y1) (.slice x2 f.results.length y2) (.slice x3 f.locals.length y3) (.slice x4 f.code.length y4):=heap_alloc_new w _
 have bl0:=(Below.refl w.heap.size w).alloc (Nat.le_refl _) (.cells #[.slice x1 f.params.length y1,.slice x2 f.results.length y2,.slice x3 f.locals.length y3,.slice x4 f.code.length y4] 62)
 have hf0:=(hf.below bl0).wide bl0.size
 have hpl:f.params.length+f.locals.length<=8:=by unfold Fl.places at hn;rw[List.length_append]at hn;exact hn
 have hl1:Low f.params:=fun k hk=>hl k (List.mem_append_left _ hk)
 have hl2:Low f.locals:=fun k hk=>hl k (List.mem_append_right _ hk)
 have HR:Hid (str f.params++str f.locals=str (Fl.places f)):=by show _=_;rw[str_append];rfl
 have s1:=str_size f.params
 have s2:=str_size f.locals
 have t1:(9223372036854775807<f.params.length+f.locals.length)=False:=by simp;omega
 rw[<-HR.out]
 simp only
 obtain⟨W0,hW0⟩:∃W0,W0=w.alloc (.cells #[.slice x1 f.params.length y1,.slice x2 f.results.length y2,.slice x3 f.locals.length y3,.slice x4 f.code.length y4] 62):=⟨_,rfl⟩
 rw[<-hW0]at b0 bl0 hf0
 have HW:=hid hW0
 have C1:∀w',PS W0 w.heap.size (.slice x1 f.params.length y1) (.slice x3 f.locals.length y3) w'->Calls Tryz.prog 73 #[.slice x1 f.params.length y1] w' fun e w''=>e=.returned (.string (str f.params))/\Below w'.heap.size w' w'':=fun w' hp=>rletters_any f.params _ w' ((hf0.p.below hp.1).wide hp.1.size) (by omega) hl1.far
 have C2:∀w',PS W0 w.heap.size (.slice x1 f.params.length y1) (.slice x3 f.locals.length y3) w'->Calls Tryz.prog 73 #[.slice x3 f.locals.length y3] w' fun e w''=>e=.returned (.string (str f.locals))/\Below w'.heap.size w' w'':=fun w' hp=>rletters_any f.locals _ w' ((hf0.l.below hp.1).wide hp.1.size) (by omega) hl2.far
 have D1:=hid C1
 have D2:=hid C2
 have hq0:w.heap.size<W0.heap.size:=b0.lt
 have S0:PS W0 w.heap.size (.slice x1 f.params.length y1) (.slice x3 f.locals.length y3) W0.drew:=⟨(Below.refl _ _).drew,b0.c0,b0.c2⟩
 clear hl hn hW0 C1 C2 hf hf0
 generalize str f.params=SP at *
 generalize str f.locals=SL at *
 go_enter Tryz.func97,Tryz.ntmps97
 go_wp2_with fail
 rw[<-HW.out]
 go_region_held3 (fun w'=>Below W0.heap.size W0 w'/\w'.cell? ⟨w.heap.size,0,none⟩=some (.slice x1 f.params.length y1)/\w'.cell? ⟨w.heap.size,2,none⟩=some (.slice x3 f.locals.length y3))
  (first|exact S0|exact PS.step hq0 (by assumption) hb3)
  (first|(go_at_call 73;with_reducible show Calls _ _ #[.slice x1 f.params.length y1] _ _;refine(D1.out _ (by assumption)).mono ?_;rintro e w3 ⟨rfl,hb3⟩)|(go_at_call 73;with_reducible show Calls _ _ #[.slice x3 f.locals.length y3] _ _;refine(D2.out _ (by assumption)).mono ?_;rintro e w3 ⟨rfl,hb3⟩))
 have hbF:Below W0.heap.size W0 w3:=(show PS W0 w.heap.size (.slice x1 f.params.length y1) (.slice x3 f.locals.length y3) w3 by assumption).1
 have hbG:=bl0.trans (hbF.mono bl0.size)
 clear hbF D1 D2 S0 b0 bl0
 go_wp2
 go_ret
 exact⟨rfl,hbG⟩
def shapeS(m:Pu.Md)(x:Int × Int):List Int × List Int × Bool:=
 if x.1=1 then([],[0],true)
 else if x.1=2\/x.1=3\/x.1=4\/x.1=5 then([0,0],[0],true)
 else if x.1=6\/x.1=18 then([],[],true)
 else if x.1=7 then([0],[],true)
 else if x.1=12 then([0],[x.2],true)
 else if x.1=13 then([x.2],[0],true)
 else if x.1=14 then((m.funcs.getD x.2.toNat ⟨[],[],[],[]⟩).params,(m.funcs.getD x.2.toNat ⟨[],[],[],[]⟩).results,true)
 else if x.1=15 then([],[x.2],true)
 else if x.1=16 then([x.2,0],[],true)
 else if x.1=17 then([0],[0],true)
 else([],[],false)
def ShapeOut(w w':World)(s:List Int × List Int × Bool)(e:Ending):Prop:=e=.returned (.tuple #[.string (str s.1),.string (str s.2.1),.bool s.2.2])/\Below w.heap.size w w'
abbrev PT(W0:World)(q:Nat)(a b:Value)(w:World):Prop:=Below W0.heap.size W0 w/\w.cell? ⟨q,0,none⟩=some a/\w.cell? ⟨q,1,none⟩=some b
theorem PT.step{W0 w1 w2:World}{q:Nat}{a b:Value}(hq:q<W0.heap.size)(h:PT W0 q a b w1)(hb:Below w1.heap.size w1 w2):PT W0 q a b w2:=by
 have hql:q<w1.heap.size:=Nat.lt_of_lt_of_le hq h.1.size
 exact⟨h.1.trans (hb.mono h.1.size),(hb.cell (p:=⟨q,0,none⟩) hql).trans h.2.1,(hb.cell (p:=⟨q,1,none⟩) hql).trans h.2.2⟩
theorem str0:str []=⟨#[]⟩:=rfl
theorem str1:str [0]=⟨#[48]⟩:=rfl
theorem str2:str [0,0]=⟨#[48,48]⟩:=rfl
theorem rshape_any(m:Pu.Md)(mk mv:Value)(op arg:Int)(w:World)(hm:MdR w w.heap.size mk mv m)(ho:0<=op/\op<=18)(harg:0<=arg/\arg<=255)(hc:op=14->arg<m.funcs.length)(hs:∀f∈m.funcs,f.params.length<=100/\f.results.length<=100/\Low f.params/\Low f.results):
  Calls Tryz.prog 96 #[.agg #[mk,mv],.agg #[.int .i64 op,.int .i64 arg]] w fun e w'=>ShapeOut w w' (shapeS m (op,arg)) e:=by
 obtain⟨a1,c1,rfl⟩:=hm.k.shape
 obtain⟨a2,c2,rfl⟩:=hm.v.shape
 obtain⟨W0,hW0⟩:∃W0,W0=(w.alloc (.cells #[.slice a1 m.kinds.length c1,.slice a2 m.funcs.length c2] 38)).alloc (.cells #[.int .i64 op,.int .i64 arg] 56):=⟨_,rfl⟩
 have bl0:Below w.heap.size w W0:=by rw[hW0];exact((Below.refl w.heap.size w).alloc (Nat.le_refl _) _).alloc (by simp) _
 have mb0:F2 W0 w.heap.size 38 (.slice a1 m.kinds.length c1) (.slice a2 m.funcs.length c2):=by rw[hW0];exact heap_alloc2_old w _ _
 have xb0:F2 W0 (w.heap.size+1) 56 (.int .i64 op) (.int .i64 arg):=by rw[hW0];exact heap_alloc2_new w _ _
 have HW:=hid hW0
 have HM:=hid hm
 have HS:=hid hs
 clear hW0 hm hs
 go_enter Tryz.func96,Tryz.ntmps96
 go_wp2_with fail
 rw[<-HW.out]
 refine(rletter_any arg W0 (by omega)).mono ?_
 rintro e w1 ⟨rfl,hb1⟩
 have bl1:=bl0.trans (hb1.mono bl0.size)
 have mb1:F2 w1 w.heap.size 38 _ _:=(hb1.block _ mb0.lt).trans mb0
 have xb1:F2 w1 (w.heap.size+1) 56 _ _:=(hb1.block _ xb0.lt).trans xb0
 have d0:=xb1.c0
 have d1:=xb1.c1
 have hk1:=str_size [arg]
 have HKA:Hid (str [arg]++(⟨#[48]⟩:ByteArray)=str [arg,0]):=by show _=_;rw[<-str1,str_append];rfl
 clear HW mb0 xb0 hb1 bl0
 have hh:op=0\/op=1\/op=2\/op=3\/op=4\/op=5\/op=6\/op=7\/op=8\/op=9\/op=10\/op=11\/op=12\/op=13\/op=14\/op=15\/op=16\/op=17\/op=18:=by omega
 rcases hh with rfl|rfl|rfl|rfl|rfl|rfl|rfl|rfl|rfl|rfl|rfl|rfl|rfl|rfl|rfl|rfl|rfl|rfl|rfl
 ·have FIN:Hid (ShapeOut w w1 (shapeS m (0,arg)) (.returned (.tuple #[.string (str (shapeS m (0,arg)).1),.string (str (shapeS m (0,arg)).2.1),.bool (shapeS m (0,arg)).2.2]))):=⟨rfl,bl1⟩
  clear mb1 xb1 bl1
  go_wp2
  refine bodyPost_ret (v:=.tuple #[.string (str (shapeS m (0,arg)).1),.string (str (shapeS m (0,arg)).2.1),.bool (shapeS m (0,arg)).2.2]) (by simp[results,Tryz.results96,go_sem,shapeS,str0]) rfl FIN.out
 ·have FIN:Hid (ShapeOut w w1 (shapeS m (1,arg)) (.returned (.tuple #[.string (str (shapeS m (1,arg)).1),.string (str (shapeS m (1,arg)).2.1),.bool (shapeS m (1,arg)).2.2]))):=⟨rfl,bl1⟩
  clear mb1 xb1 bl1
  go_wp2
  refine bodyPost_ret (v:=.tuple #[.string (str (shapeS m (1,arg)).1),.string (str (shapeS m (1,arg)).2.1),.bool (shapeS m (1,arg)).2.2]) (by simp[results,Tryz.results96,go_sem,shapeS,str0,str1]) rfl FIN.out
 ·have FIN:Hid (ShapeOut w w1 (shapeS m (2,arg)) (.returned (.tuple #[.string (str (shapeS m (2,arg)).1),.string (str (shapeS m (2,arg)).2.1),.bool (shapeS m (2,arg)).2.2]))):=⟨rfl,bl1⟩
  clear mb1 xb1 bl1
  go_wp2
  refine bodyPost_ret (v:=.tuple #[.string (str (shapeS m (2,arg)).1),.string (str (shapeS m (2,arg)).2.1),.bool (shapeS m (2,arg)).2.2]) (by simp[results,Tryz.results96,go_sem,shapeS,str1,str2]) rfl FIN.out
 ·have FIN:Hid (ShapeOut w w1 (shapeS m (3,arg)) (.returned (.tuple #[.string (str (shapeS m (3,arg)).1),.string (str (shapeS m (3,arg)).2.1),.bool (shapeS m (3,arg)).2.2]))):=⟨rfl,bl1⟩
  clear mb1 xb1 bl1
  go_wp2
  refine bodyPost_ret (v:=.tuple #[.string (str (shapeS m (3,arg)).1),.string (str (shapeS m (3,arg)).2.1),.bool (shapeS m (3,arg)).2.2]) (by simp[results,Tryz.results96,go_sem,shapeS,str1,str2]) rfl FIN.out
 ·have FIN:Hid (ShapeOut w w1 (shapeS m (4,arg)) (.returned (.tuple #[.string (str (shapeS m (4,arg)).1),.string (str (shapeS m (4,arg)).2.1),.bool (shapeS m (4,arg)).2.2]))):=⟨rfl,bl1⟩
  clear mb1 xb1 bl1
  go_wp2
  refine bodyPost_ret (v:=.tuple #[.string (str (shapeS m (4,arg)).1),.string (str (shapeS m (4,arg)).2.1),.bool (shapeS m (4,arg)).2.2]) (by simp[results,Tryz.results96,go_sem,shapeS,str1,str2]) rfl FIN.out
 ·have FIN:Hid (ShapeOut w w1 (shapeS m (5,arg)) (.returned (.tuple #[.string (str (shapeS m (5,arg)).1),.string (str (shapeS m (5,arg)).2.1),.bool (shapeS m (5,arg)).2.2]))):=⟨rfl,bl1⟩
  clear mb1 xb1 bl1
  go_wp2
  refine bodyPost_ret (v:=.tuple #[.string (str (shapeS m (5,arg)).1),.string (str (shapeS m (5,arg)).2.1),.bool (shapeS m (5,arg)).2.2]) (by simp[results,Tryz.results96,go_sem,shapeS,str1,str2]) rfl FIN.out
 ·have FIN:Hid (ShapeOut w w1 (shapeS m (6,arg)) (.returned (.tuple #[.string (str (shapeS m (6,arg)).1),.string (str (shapeS m (6,arg)).2.1),.bool (shapeS m (6,arg)).2.2]))):=⟨rfl,bl1⟩
  clear mb1 xb1 bl1
  go_wp2
  refine bodyPost_ret (v:=.tuple #[.string (str (shapeS m (6,arg)).1),.string (str (shapeS m (6,arg)).2.1),.bool (shapeS m (6,arg)).2.2]) (by simp[results,Tryz.results96,go_sem,shapeS,str0]) rfl FIN.out
 ·have FIN:Hid (ShapeOut w w1 (shapeS m (7,arg)) (.returned (.tuple #[.string (str (shapeS m (7,arg)).1),.string (str (shapeS m (7,arg)).2.1),.bool (shapeS m (7,arg)).2.2]))):=⟨rfl,bl1⟩
  clear mb1 xb1 bl1
  go_wp2
  refine bodyPost_ret (v:=.tuple #[.string (str (shapeS m (7,arg)).1),.string (str (shapeS m (7,arg)).2.1),.bool (shapeS m (7,arg)).2.2]) (by simp[results,Tryz.results96,go_sem,shapeS,str0,str1]) rfl FIN.out
 ·have FIN:Hid (ShapeOut w w1 (shapeS m (8,arg)) (.returned (.tuple #[.string (str (shapeS m (8,arg)).1),.string (str (shapeS m (8,arg)).2.1),.bool (shapeS m (8,arg)).2.2]))):=⟨rfl,bl1⟩
  clear mb1 xb1 bl1
  go_wp2
  refine bodyPost_ret (v:=.tuple #[.string (str (shapeS m (8,arg)).1),.string (str (shapeS m (8,arg)).2.1),.bool (shapeS m (8,arg)).2.2]) (by simp[results,Tryz.results96,go_sem,shapeS,str0]) rfl FIN.out
 ·have FIN:Hid (ShapeOut w w1 (shapeS m (9,arg)) (.returned (.tuple #[.string (str (shapeS m (9,arg)).1),.string (str (shapeS m (9,arg)).2.1),.bool (shapeS m (9,arg)).2.2]))):=⟨rfl,bl1⟩
  clear mb1 xb1 bl1
  go_wp2
  refine bodyPost_ret (v:=.tuple #[.string (str (shapeS m (9,arg)).1),.string (str (shapeS m (9,arg)).2.1),.bool (shapeS m (9,arg)).2.2]) (by simp[results,Tryz.results96,go_sem,shapeS,str0]) rfl FIN.out
 ·have FIN:Hid (ShapeOut w w1 (shapeS m (10,arg)) (.returned (.tuple #[.string (str (shapeS m (10,arg)).1),.string (str (shapeS m (10,arg)).2.1),.bool (shapeS m (10,arg)).2.2]))):=⟨rfl,bl1⟩
  clear mb1 xb1 bl1
  go_wp2
  refine bodyPost_ret (v:=.tuple #[.string (str (shapeS m (10,arg)).1),.string (str (shapeS m (10,arg)).2.1),.bool (shapeS m (10,arg)).2.2]) (by simp[results,Tryz.results96,go_sem,shapeS,str0]) rfl FIN.out
 ·have FIN:Hid (ShapeOut w w1 (shapeS m (11,arg)) (.returned (.tuple #[.string (str (shapeS m (11,arg)).1),.string (str (shapeS m (11,arg)).2.1),.bool (shapeS m (11,arg)).2.2]))):=⟨rfl,bl1⟩
  clear mb1 xb1 bl1
  go_wp2
  refine bodyPost_ret (v:=.tuple #[.string (str (shapeS m (11,arg)).1),.string (str (shapeS m (11,arg)).2.1),.bool (shapeS m (11,arg)).2.2]) (by simp[results,Tryz.results96,go_sem,shapeS,str0]) rfl FIN.out
 ·have FIN:Hid (ShapeOut w w1 (shapeS m (12,arg)) (.returned (.tuple #[.string (str (shapeS m (12,arg)).1),.string (str (shapeS m (12,arg)).2.1),.bool (shapeS m (12,arg)).2.2]))):=⟨rfl,bl1⟩
  clear mb1 xb1 bl1
  go_wp2
  refine bodyPost_ret (v:=.tuple #[.string (str (shapeS m (12,arg)).1),.string (str (shapeS m (12,arg)).2.1),.bool (shapeS m (12,arg)).2.2]) (by simp[results,Tryz.results96,go_sem,shapeS,str1]) rfl FIN.out
 ·have FIN:Hid (ShapeOut w w1 (shapeS m (13,arg)) (.returned (.tuple #[.string (str (shapeS m (13,arg)).1),.string (str (shapeS m (13,arg)).2.1),.bool (shapeS m (13,arg)).2.2]))):=⟨rfl,bl1⟩
  clear mb1 xb1 bl1
  go_wp2
  refine bodyPost_ret (v:=.tuple #[.string (str (shapeS m (13,arg)).1),.string (str (shapeS m (13,arg)).2.1),.bool (shapeS m (13,arg)).2.2]) (by simp[results,Tryz.results96,go_sem,shapeS,str1]) rfl FIN.out
 ·obtain⟨n,rfl⟩:∃n:Nat,arg=n:=⟨arg.toNat,by omega⟩
  have hn:n<m.funcs.length:=by have:=hc rfl;omega
  have hmem:m.funcs.getD n ⟨[],[],[],[]⟩∈m.funcs:=by rw[List.getD_eq_getElem?_getD,List.getElem?_eq_getElem hn];exact List.getElem_mem hn
  have hsf:=HS.out _ hmem
  obtain⟨ao,cap,b,off,hvv,h1,h2⟩:=HM.out.v
  simp only[Value.slice.injEq,true_and]at hvv
  obtain⟨rfl,rfl⟩:=hvv
  obtain⟨rfl,hbB⟩:=h1 (by omega)
  obtain⟨y,g0,g1,g2,g3,hy⟩:=h2 n hn
  obtain⟨x1,y1,x2,y2,x3,y3,x4,y4,rfl⟩:=hy.shape
  have k0:=(bl1.cell (p:=⟨b,off+n*4,none⟩) hbB).trans g0
  have k1:=(bl1.cell (p:=⟨b,off+n*4+1,none⟩) hbB).trans g1
  have k2:=(bl1.cell (p:=⟨b,off+n*4+2,none⟩) hbB).trans g2
  have k3:=(bl1.cell (p:=⟨b,off+n*4+3,none⟩) hbB).trans g3
  have m1:=mb1.c1
  have SE:Hid (shapeS m (14,(n:Int))=((m.funcs.getD n ⟨[],[],[],[]⟩).params,(m.funcs.getD n ⟨[],[],[],[]⟩).results,true)):=by show _=_;simp[shapeS]
  generalize m.funcs.getD n ⟨[],[],[],[]⟩=g at *
  simp only at k0 k1 k2 k3
  have hnf:=HM.out.nf
  unfold maxLen at hnf
  clear g0 g1 g2 g3 h1 h2 hmem
  obtain⟨W3,hW3⟩:∃W3,W3=w1.alloc (.cells #[.slice x1 g.params.length y1,.slice x2 g.results.length y2,.slice x3 g.locals.length y3,.slice x4 g.code.length y4] 62):=⟨_,rfl⟩
  have b3:F4 W3 w1.heap.size 62 (.slice x1 g.params.length y1) (.slice x2 g.results.length y2) (.slice x3 g.locals.length y3) (.slice x4 g.code.length y4):=by rw[hW3];exact heap_alloc_new w1 _
  have bl3:Below w.heap.size w W3:=by rw[hW3];exact bl1.alloc bl1.size _
  have hy3:=(hy.below bl3).wide bl3.size
  have HW3:=hid hW3
  clear hW3
  have C1:∀w',PT W3 w1.heap.size (.slice x1 g.params.length y1) (.slice x2 g.results.length y2) w'->Calls Tryz.prog 73 #[.slice x1 g.params.length y1] w' fun e w''=>e=.returned (.string (str g.params))/\Below w'.heap.size w' w'':=fun w' hp=>rletters_any g.params _ w' ((hy3.p.below hp.1).wide hp.1.size) (by omega) hsf.2.2.1.far
  have C2:∀w',PT W3 w1.heap.size (.slice x1 g.params.length y1) (.slice x2 g.results.length y2) w'->Calls Tryz.prog 73 #[.slice x2 g.results.length y2] w' fun e w''=>e=.returned (.string (str g.results))/\Below w'.heap.size w' w'':=fun w' hp=>rletters_any g.results _ w' ((hy3.r.below hp.1).wide hp.1.size) (by omega) hsf.2.2.2.far
  have D1:=hid C1
  have D2:=hid C2
  have hq0:w1.heap.size<W3.heap.size:=b3.lt
  have S0:PT W3 w1.heap.size (.slice x1 g.params.length y1) (.slice x2 g.results.length y2) W3.drew:=⟨(Below.refl _ _).drew,b3.c0,b3.c1⟩
  clear C1 C2 hy3 hy
  generalize hSP:str g.params=SP at *
  generalize hSL:str g.results=SL at *
  have HSP:=hid hSP
  have HSL:=hid hSL
  clear hSP hSL
  go_wp2_with fail
  rw[<-HW3.out]
  go_region_held3 (fun w'=>Below W3.heap.size W3 w'/\w'.cell? ⟨w1.heap.size,0,none⟩=some (.slice x1 g.params.length y1)/\w'.cell? ⟨w1.heap.size,1,none⟩=some (.slice x2 g.results.length y2))
   (first|exact S0|exact PT.step hq0 (by assumption) hb3)
   (first|(go_at_call 73;with_reducible show Calls _ _ #[.slice x1 g.params.length y1] _ _;refine(D1.out _ (by assumption)).mono ?_;rintro e w3 ⟨rfl,hb3⟩)|(go_at_call 73;with_reducible show Calls _ _ #[.slice x2 g.results.length y2] _ _;refine(D2.out _ (by assumption)).mono ?_;rintro e w3 ⟨rfl,hb3⟩))
  have hbF:Below W3.heap.size W3 w3:=(show PT W3 w1.heap.size (.slice x1 g.params.length y1) (.slice x2 g.results.length y2) w3 by assumption).1
  have hbG:=bl3.trans (hbF.mono bl3.size)
  have FIN:Hid (ShapeOut w w3 (shapeS m (14,(n:Int))) (.returned (.tuple #[.string SP,.string SL,.bool true]))):=by
   rw[SE.out]
   exact⟨by rw[HSP.out,HSL.out],hbG⟩
  clear hbF D1 D2 S0 b3 bl3 hbG mb1 xb1 bl1
  go_wp2
  refine bodyPost_ret (v:=.tuple #[.string SP,.string SL,.bool true]) (by simp[results,Tryz.results96,go_sem]) rfl FIN.out
 ·have FIN:Hid (ShapeOut w w1 (shapeS m (15,arg)) (.returned (.tuple #[.string (str (shapeS m (15,arg)).1),.string (str (shapeS m (15,arg)).2.1),.bool (shapeS m (15,arg)).2.2]))):=⟨rfl,bl1⟩
  clear mb1 xb1 bl1
  go_wp2
  refine bodyPost_ret (v:=.tuple #[.string (str (shapeS m (15,arg)).1),.string (str (shapeS m (15,arg)).2.1),.bool (shapeS m (15,arg)).2.2]) (by simp[results,Tryz.results96,go_sem,shapeS,str0]) rfl FIN.out
 ·have FIN:Hid (ShapeOut w w1 (shapeS m (16,arg)) (.returned (.tuple #[.string (str (shapeS m (16,arg)).1),.string (str (shapeS m (16,arg)).2.1),.bool (shapeS m (16,arg)).2.2]))):=⟨rfl,bl1⟩
  clear mb1 xb1 bl1
  go_wp2
  refine bodyPost_ret (v:=.tuple #[.string (str (shapeS m (16,arg)).1),.string (str (shapeS m (16,arg)).2.1),.bool (shapeS m (16,arg)).2.2]) (by simp[results,Tryz.results96,go_sem,shapeS,str0,HKA.out]) rfl FIN.out
 ·have FIN:Hid (ShapeOut w w1 (shapeS m (17,arg)) (.returned (.tuple #[.string (str (shapeS m (17,arg)).1),.string (str (shapeS m (17,arg)).2.1),.bool (shapeS m (17,arg)).2.2]))):=⟨rfl,bl1⟩
  clear mb1 xb1 bl1
  go_wp2
  refine bodyPost_ret (v:=.tuple #[.string (str (shapeS m (17,arg)).1),.string (str (shapeS m (17,arg)).2.1),.bool (shapeS m (17,arg)).2.2]) (by simp[results,Tryz.results96,go_sem,shapeS,str1]) rfl FIN.out
 ·have FIN:Hid (ShapeOut w w1 (shapeS m (18,arg)) (.returned (.tuple #[.string (str (shapeS m (18,arg)).1),.string (str (shapeS m (18,arg)).2.1),.bool (shapeS m (18,arg)).2.2]))):=⟨rfl,bl1⟩
  clear mb1 xb1 bl1
  go_wp2
  refine bodyPost_ret (v:=.tuple #[.string (str (shapeS m (18,arg)).1),.string (str (shapeS m (18,arg)).2.1),.bool (shapeS m (18,arg)).2.2]) (by simp[results,Tryz.results96,go_sem,shapeS,str0]) rfl FIN.out
end Go.Proofs.YtjamgmbdilkbcaaGreat
namespace Go.Proofs.YtjamgmbdilkbcaaGreat
def finS(takes puts:List Int)(full:List Bool)(t:Fl.S):Option Fl.S:=
 if(takes.length<=t.stk.length/\t.stk.drop (t.stk.length-takes.length)=takes)/\t.stk.length-takes.length+puts.length<=16 then some ⟨t.stk.take (t.stk.length-takes.length)++puts,full⟩ else none
theorem take_last(s:List Int)(k:Int):s.getLast? = some k ↔ ∃r,s=r++[k]:=by
 constructor
 ·intro h
  refine⟨s.dropLast,?_⟩
  have hne:s≠[]:=by intro e;rw[e]at h;simp at h
  rw[List.getLast?_eq_some_getLast hne]at h
  cases h
  exact(List.dropLast_concat_getLast hne).symm
 ·rintro⟨r,rfl⟩
  simp
theorem suffix_drop(s l:List Int):(l.length<=s.length/\s.drop (s.length-l.length)=l) ↔ ∃r,s=r++l:=by
 constructor
 ·rintro⟨_,h⟩
  exact⟨s.take (s.length-l.length),by conv=>lhs;rw[<-List.take_append_drop (s.length-l.length) s];rw[h]⟩
 ·rintro⟨r,rfl⟩
  simp
theorem takes_all(full:List Bool):∀(l r:List Int),Fl.takesS l.reverse ⟨r++l,full⟩=some ⟨r,full⟩:=by
 intro l
 induction l with
 | nil=>intro r;simp[Fl.takesS]
 | cons k l ih=>
  intro r
  rw[List.reverse_cons,takesS_snoc,show r++k::l=(r++[k])++l from by simp,ih (r++[k])]
  simp[Fl.takeS]
theorem takes_some(full:List Bool):∀(l s:List Int) (u:Fl.S),Fl.takesS l.reverse ⟨s,full⟩=some u->∃r,s=r++l/\u=⟨r,full⟩:=by
 intro l
 induction l with
 | nil=>intro s u h;simp[Fl.takesS]at h;exact⟨s,by simp,h.symm⟩
 | cons k l ih=>
  intro s u h
  rw[List.reverse_cons,takesS_snoc]at h
  cases hv:Fl.takesS l.reverse ⟨s,full⟩with
  | none=>rw[hv]at h;simp at h
  | some v=>
   rw[hv]at h
   obtain⟨r,rfl,rfl⟩:=ih s v hv
   simp only[Option.bind_some,Fl.takeS]at h
   by_cases hk:r.getLast? = some k
   ·rw[if_pos hk]at h
    obtain⟨q,rfl⟩:=(take_last r k).1 hk
    simp only[List.dropLast_concat,Option.some.injEq]at h
    exact⟨q,by simp,h.symm⟩
   ·rw[if_neg hk]at h
    simp at h
theorem puts_all(full:List Bool):∀(l s:List Int),s.length<=16->Fl.putsS l ⟨s,full⟩=if s.length+l.length<=16 then some ⟨s++l,full⟩ else none:=by
 intro l
 induction l with
 | nil=>intro s hs;simp[Fl.putsS,hs]
 | cons k l ih=>
  intro s hs
  simp only[Fl.putsS,Fl.putS]
  by_cases h16:s.length<16
  ·rw[if_pos h16]
   simp only[Option.bind_some]
   rw[ih (s++[k]) (by simp;omega)]
   rw[List.length_append,List.length_singleton,List.length_cons,List.append_assoc,List.singleton_append]
   by_cases h:s.length+1+l.length<=16
   ·rw[if_pos h,if_pos (by omega)]
   ·rw[if_neg h,if_neg (by omega)]
  ·rw[if_neg h16,if_neg (by simp;omega)]
   rfl
theorem take_put(l p:List Int)(t:Fl.S)(ht:t.stk.length<=16):(Fl.takesS l.reverse t).bind (Fl.putsS p)=finS l p t.full t:=by
 unfold finS
 by_cases h:l.length<=t.stk.length/\t.stk.drop (t.stk.length-l.length)=l
 ·obtain⟨r,hr⟩:=(suffix_drop _ _).1 h
  have e:t=⟨r++l,t.full⟩:=by cases t;simp at hr ⊢;exact hr
  have hl:t.stk.length=r.length+l.length:=by rw[hr];simp
  rw[e,takes_all]
  simp only[Option.bind_some,List.length_append,Nat.add_sub_cancel]
  rw[puts_all _ _ _ (by omega)]
  have h2:(r++l).take r.length=r:=by simp
  have h3:(r++l).drop r.length=l:=by simp
  rw[h2,h3]
  by_cases h16:r.length+p.length<=16
  ·rw[if_pos h16,if_pos ⟨⟨by omega,rfl⟩,h16⟩]
  ·rw[if_neg h16,if_neg (fun hh=>h16 hh.2)]
 ·rw[if_neg (fun hh=>h hh.1)]
  cases hv:Fl.takesS l.reverse t with
  | none=>rfl
  | some u=>
   obtain⟨s,fl⟩:=t
   obtain⟨r,hr,_⟩:=takes_some fl l s u hv
   exact absurd ((suffix_drop _ _).2 ⟨r,hr⟩) h
theorem take_put1(p:List Int)(t:Fl.S)(ht:t.stk.length<=16):Fl.putsS p t=finS [] p t.full t:=by
 have:=take_put [] p t ht
 simpa[Fl.takesS]using this
theorem bind_puts0(o:Option Fl.S):o.bind (Fl.putsS [])=o:=by cases o<;>rfl
theorem puts1(k:Int)(t:Fl.S):Fl.putsS [k] t=Fl.putS k t:=by
 simp only[Fl.putsS]
 cases Fl.putS k t<;>rfl
theorem takes1(k:Int)(t:Fl.S):Fl.takesS [k] t=Fl.takeS k t:=by
 simp only[Fl.takesS]
 cases Fl.takeS k t<;>rfl
theorem takes2(a b:Int)(t:Fl.S):Fl.takesS [a,b] t=(Fl.takeS a t).bind (Fl.takeS b):=by
 simp only[Fl.takesS]
 cases Fl.takeS a t with
 | none=>rfl
 | some u=>simp only[Option.bind_some];cases Fl.takeS b u<;>rfl
theorem after_shape(m:Pu.Md)(f:Pu.Fn)(op arg:Int)(t:Fl.S)(ht:t.stk.length<=16)(ho:0<=op/\op<=18)(h0:op≠0)(h8:op≠8)(h9:op≠9)(h10:op≠10)(h11:op≠11):
  (shapeS m (op,arg)).2.2=true/\Fl.after m f (op,arg) t=finS (shapeS m (op,arg)).1 (shapeS m (op,arg)).2.1 t.full t:=by
 have hh:op=1\/op=2\/op=3\/op=4\/op=5\/op=6\/op=7\/op=12\/op=13\/op=14\/op=15\/op=16\/op=17\/op=18:=by omega
 have g:∀l p,finS l p t.full t=(Fl.takesS l.reverse t).bind (Fl.putsS p):=fun l p=>(take_put l p t ht).symm
 have fp:∀k,Fl.putsS [k]=Fl.putS k:=fun k=>funext (puts1 k)
 rcases hh with rfl|rfl|rfl|rfl|rfl|rfl|rfl|rfl|rfl|rfl|rfl|rfl|rfl|rfl
 ·refine⟨by simp[shapeS],?_⟩;rw[g];simp[shapeS,Fl.after,Fl.takesS,puts1]
 ·refine⟨by simp[shapeS],?_⟩;rw[g];simp[shapeS,Fl.after,takes2,fp]
 ·refine⟨by simp[shapeS],?_⟩;rw[g];simp[shapeS,Fl.after,takes2,fp]
 ·refine⟨by simp[shapeS],?_⟩;rw[g];simp[shapeS,Fl.after,takes2,fp]
 ·refine⟨by simp[shapeS],?_⟩;rw[g];simp[shapeS,Fl.after,takes2,fp]
 ·refine⟨by simp[shapeS],?_⟩;rw[g];simp[shapeS,Fl.after,Fl.takesS,Fl.putsS]
 ·refine⟨by simp[shapeS],?_⟩;rw[g];simp[shapeS,Fl.after,takes1,bind_puts0]
 ·refine⟨by simp[shapeS],?_⟩;rw[g];simp[shapeS,Fl.after,takes1,fp]
 ·refine⟨by simp[shapeS],?_⟩;rw[g];simp[shapeS,Fl.after,takes1,fp]
 ·refine⟨by simp[shapeS],?_⟩;rw[g];simp[shapeS,Fl.after,Fl.callS]
 ·refine⟨by simp[shapeS],?_⟩;rw[g];simp[shapeS,Fl.after,Fl.takesS,puts1]
 ·refine⟨by simp[shapeS],?_⟩;rw[g];simp[shapeS,Fl.after,takes2,bind_puts0]
 ·refine⟨by simp[shapeS],?_⟩;rw[g];simp[shapeS,Fl.after,takes1,fp]
 ·refine⟨by simp[shapeS],?_⟩;rw[g];simp[shapeS,Fl.after,Fl.takesS,Fl.putsS]
theorem after_dup(m:Pu.Md)(f:Pu.Fn)(a:Nat)(t:Fl.S)(ht:t.stk.length<=16):Fl.after m f (8,(a:Int)) t=if t.full.getD a false=true/\Fl.may m ((Fl.places f).getD a 0) 1=true then finS [] [(Fl.places f).getD a 0] t.full t else none:=by
 simp only[Fl.after,Fl.copyS]
 rw[<-take_put1 _ t ht,puts1]
 simp
theorem after_move(m:Pu.Md)(f:Pu.Fn)(a:Nat)(t:Fl.S)(ht:t.stk.length<=16):Fl.after m f (9,(a:Int)) t=if t.full.getD a false=true then finS [] [(Fl.places f).getD a 0] (t.full.set a false) t else none:=by
 have h:=take_put1 [(Fl.places f).getD a 0] ⟨t.stk,t.full.set a false⟩ ht
 rw[puts1]at h
 have e:Fl.after m f (9,(a:Int)) t=if t.full.getD a false=true then Fl.putS ((Fl.places f).getD a 0) ⟨t.stk,t.full.set a false⟩ else none:=by simp[Fl.after,Fl.moveS]
 rw[e,h]
 rfl
theorem after_keep(m:Pu.Md)(f:Pu.Fn)(a:Nat)(t:Fl.S)(ht:t.stk.length<=16):Fl.after m f (10,(a:Int)) t=if Fl.canLose m f t a=true then finS [(Fl.places f).getD a 0] [] (t.full.set a true) t else none:=by
 have e:Fl.after m f (10,(a:Int)) t=(Fl.takeS ((Fl.places f).getD a 0) t).bind fun u=>if Fl.canLose m f u a=true then some ⟨u.stk,u.full.set a true⟩ else none:=by simp[Fl.after,Fl.keepS]
 have h:=take_put [(Fl.places f).getD a 0] [] ⟨t.stk,t.full.set a true⟩ ht
 simp only[List.reverse_singleton,takes1,bind_puts0]at h
 have h2:finS [(Fl.places f).getD a 0] [] (t.full.set a true) t=Fl.takeS ((Fl.places f).getD a 0) ⟨t.stk,t.full.set a true⟩:=h.symm
 rw[e,h2]
 unfold Fl.takeS
 by_cases hl:t.stk.getLast? = some ((Fl.places f).getD a 0)
 ·rw[if_pos hl,if_pos hl]
  simp only[Option.bind_some]
  rfl
 ·rw[if_neg hl,if_neg hl]
  simp
theorem after_drop(m:Pu.Md)(f:Pu.Fn)(arg k:Int)(r:List Int)(t:Fl.S)(ht:t.stk.length<=16)(hr:t.stk=r++[k]):Fl.after m f (11,arg) t=if Fl.may m k 2=true then finS [k] [] t.full t else none:=by
 have h:=take_put [k] [] t ht
 simp only[List.reverse_singleton,takes1,bind_puts0]at h
 rw[<-h]
 have e:Fl.after m f (11,arg) t=Fl.dropS m t:=by simp[Fl.after]
 rw[e]
 unfold Fl.dropS Fl.takeS
 have hg:t.stk.getLast? = some k:=by rw[hr];simp
 have hne:t.stk≠[]:=by rw[hr];simp
 rw[hg]
 simp[hne]
theorem after_drop0(m:Pu.Md)(f:Pu.Fn)(arg:Int)(t:Fl.S)(hr:t.stk=[]):Fl.after m f (11,arg) t=none:=by
 simp[Fl.after,Fl.dropS,hr]
theorem after_ret(m:Pu.Md)(f:Pu.Fn)(arg:Int)(t:Fl.S):Fl.after m f (0,arg) t=if t.stk=f.results/\∀i,i<(Fl.places f).length->Fl.canLose m f t i=true then some t else none:=by
 simp[Fl.after,Fl.retS]
end Go.Proofs.YtjamgmbdilkbcaaGreat
