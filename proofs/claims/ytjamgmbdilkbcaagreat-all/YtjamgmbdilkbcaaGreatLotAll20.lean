import Derived.Test.YtjamgmbdilkbcaaGreatLotAll19
set_option maxHeartbeats 20000000
set_option maxRecDepth 100000
namespace Go.Proofs.YtjamgmbdilkbcaaGreat
structure PutOk (m:Pu.Md) (f:Pu.Fn) (x:Int × Int):Prop where
 pl:∀k∈Fl.places f,0<=k/\k<=m.kinds.length
 arg:x.1=12\/x.1=15->0<=x.2/\x.2<=m.kinds.length
 rs:∀g∈m.funcs,∀k∈g.results,0<=k/\k<=m.kinds.length
theorem put_ok{m:Pu.Md}{t t':Fl.S}{k:Int}(so:StOk m t)(hk:0<=k/\k<=m.kinds.length)(h:Fl.putS k t=some t'):StOk m t':=by
 unfold Fl.putS at h
 split at h
 ·rename_i hl
  cases h
  refine⟨by simp only[List.length_append,List.length_singleton];omega,so.full,fun x hx=>?_⟩
  rcases List.mem_append.1 hx with hx|hx
  ·exact so.kinds x hx
  ·rw[List.mem_singleton]at hx;rw[hx];exact hk
 ·cases h
theorem take_ok{m:Pu.Md}{t t':Fl.S}{k:Int}(so:StOk m t)(h:Fl.takeS k t=some t'):StOk m t':=by
 unfold Fl.takeS at h
 split at h
 ·cases h
  exact⟨by have:=so.len;simp only[List.length_dropLast];omega,so.full,fun x hx=>so.kinds x (List.dropLast_subset _ hx)⟩
 ·cases h
theorem takes_ok{m:Pu.Md}:∀{l:List Int} {t t':Fl.S},StOk m t->Fl.takesS l t=some t'->StOk m t'
 | [],t,t',so,h=>by simp only[Fl.takesS]at h;cases h;exact so
 | k::l,t,t',so,h=>by
  simp only[Fl.takesS]at h
  obtain⟨u,hu,h2⟩:=Option.bind_eq_some_iff.1 h
  exact takes_ok (take_ok so hu) h2
theorem puts_ok{m:Pu.Md}:∀{l:List Int} {t t':Fl.S},StOk m t->(∀k∈l,0<=k/\k<=m.kinds.length)->Fl.putsS l t=some t'->StOk m t'
 | [],t,t',so,_,h=>by simp only[Fl.putsS]at h;cases h;exact so
 | k::l,t,t',so,hk,h=>by
  simp only[Fl.putsS]at h
  obtain⟨u,hu,h2⟩:=Option.bind_eq_some_iff.1 h
  exact puts_ok (put_ok so (hk k (List.mem_cons_self ..)) hu) (fun x hx=>hk x (List.mem_cons_of_mem _ hx)) h2
theorem full_ok{m:Pu.Md}{t:Fl.S}(so:StOk m t)(a:Nat)(b:Bool):StOk m ⟨t.stk,t.full.set a b⟩:=
 ⟨so.len,by simp only[List.length_set];exact so.full,so.kinds⟩
theorem getD_ok{l:List Int}{K:Int}(hK:0<=K)(h:∀k∈l,0<=k/\k<=K)(n:Nat):0<=l.getD n 0/\l.getD n 0<=K:=by
 rw[List.getD_eq_getElem?_getD]
 by_cases hn:n<l.length
 ·rw[List.getElem?_eq_getElem hn];exact h _ (List.getElem_mem hn)
 ·rw[List.getElem?_eq_none (by omega)];exact⟨Int.le_refl _,hK⟩
theorem after_ok{m:Pu.Md}{f:Pu.Fn}{x:Int × Int}{t t':Fl.S}(po:PutOk m f x)(so:StOk m t)(h:Fl.after m f x t=some t'):StOk m t':=by
 have hK:(0:Int)<=m.kinds.length:=Int.natCast_nonneg _
 have z:(0:Int)<=0/\(0:Int)<=m.kinds.length:=⟨Int.le_refl _,hK⟩
 unfold Fl.after at h
 by_cases h0:x.1=0
 ·rw[if_pos h0]at h;unfold Fl.retS at h;split at h<;>cases h;exact so
 rw[if_neg h0]at h
 by_cases h1:x.1=1
 ·rw[if_pos h1]at h;exact put_ok so z h
 rw[if_neg h1]at h
 by_cases h2:x.1=2\/x.1=3\/x.1=4\/x.1=5
 ·rw[if_pos h2]at h
  obtain⟨u,hu,g⟩:=Option.bind_eq_some_iff.1 h
  obtain⟨v,hv,g2⟩:=Option.bind_eq_some_iff.1 hu
  exact put_ok (take_ok (take_ok so hv) g2) z g
 rw[if_neg h2]at h
 by_cases h7:x.1=7
 ·rw[if_pos h7]at h;exact take_ok so h
 rw[if_neg h7]at h
 by_cases h8:x.1=8
 ·rw[if_pos h8]at h;unfold Fl.copyS at h;split at h
  ·exact put_ok so (getD_ok hK po.pl _) h
  ·cases h
 rw[if_neg h8]at h
 by_cases h9:x.1=9
 ·rw[if_pos h9]at h;unfold Fl.moveS at h;split at h
  ·exact put_ok (full_ok so _ _) (getD_ok hK po.pl _) h
  ·cases h
 rw[if_neg h9]at h
 by_cases h10:x.1=10
 ·rw[if_pos h10]at h;unfold Fl.keepS at h
  obtain⟨u,hu,g⟩:=Option.bind_eq_some_iff.1 h
  split at g
  ·cases g;exact full_ok (take_ok so hu) _ _
  ·cases g
 rw[if_neg h10]at h
 by_cases h11:x.1=11
 ·rw[if_pos h11]at h;unfold Fl.dropS at h;split at h
  ·cases h
   exact⟨by have:=so.len;simp only[List.length_dropLast];omega,so.full,fun x hx=>so.kinds x (List.dropLast_subset _ hx)⟩
  ·cases h
 rw[if_neg h11]at h
 by_cases h12:x.1=12
 ·rw[if_pos h12]at h
  obtain⟨u,hu,g⟩:=Option.bind_eq_some_iff.1 h
  exact put_ok (take_ok so hu) (po.arg (.inl h12)) g
 rw[if_neg h12]at h
 by_cases h13:x.1=13
 ·rw[if_pos h13]at h
  obtain⟨u,hu,g⟩:=Option.bind_eq_some_iff.1 h
  exact put_ok (take_ok so hu) z g
 rw[if_neg h13]at h
 by_cases h14:x.1=14
 ·rw[if_pos h14]at h;unfold Fl.callS at h
  obtain⟨u,hu,g⟩:=Option.bind_eq_some_iff.1 h
  refine puts_ok (takes_ok so hu) (fun k hk=>?_) g
  by_cases hn:x.2.toNat<m.funcs.length
  ·rw[List.getD_eq_getElem?_getD,List.getElem?_eq_getElem hn]at hk
   exact po.rs _ (List.getElem_mem hn) k hk
  ·rw[List.getD_eq_getElem?_getD,List.getElem?_eq_none (by omega)]at hk
   simp at hk
 rw[if_neg h14]at h
 by_cases h15:x.1=15
 ·rw[if_pos h15]at h;exact put_ok so (po.arg (.inr h15)) h
 rw[if_neg h15]at h
 by_cases h16:x.1=16
 ·rw[if_pos h16]at h
  obtain⟨u,hu,g⟩:=Option.bind_eq_some_iff.1 h
  exact take_ok (take_ok so hu) g
 rw[if_neg h16]at h
 by_cases h17:x.1=17
 ·rw[if_pos h17]at h
  obtain⟨u,hu,g⟩:=Option.bind_eq_some_iff.1 h
  exact put_ok (take_ok so hu) z g
 rw[if_neg h17]at h
 cases h
 exact so
theorem isMd_mdok{m:Pu.Md}(h:Pu.isMd m=true):MdOk m:=by
 simp only[Pu.isMd,Pu.isFn,Pu.isList,Bool.and_eq_true,decide_eq_true_eq,List.all_eq_true]at h
 obtain⟨⟨h1,_⟩,_,_,h4⟩:=h
 refine⟨by omega,fun g hg=>?_⟩
 obtain⟨⟨p1,p2⟩,⟨r1,r2⟩,_⟩:=h4 g hg
 exact⟨by omega,by omega,fun k hk=>by have:=p2 k hk;omega,fun k hk=>by have:=r2 k hk;omega⟩
theorem isMd_args{m:Pu.Md}(h:Pu.isMd m=true){f:Pu.Fn}(hf:f∈m.funcs)(i:Nat)(hi:i<f.code.length):
  (0<=(f.code.getD i (0,0)).2/\(f.code.getD i (0,0)).2<=255)/\((f.code.getD i (0,0)).1=12\/(f.code.getD i (0,0)).1=13\/(f.code.getD i (0,0)).1=15\/(f.code.getD i (0,0)).1=16->0<=(f.code.getD i (0,0)).2/\(f.code.getD i (0,0)).2<=m.kinds.length):=by
 simp only[Pu.isMd,Pu.isFn,Pu.isList,Pu.isCode,Bool.and_eq_true,decide_eq_true_eq,List.all_eq_true]at h
 obtain⟨⟨h1,_⟩,h2,h3,h4⟩:=h
 obtain⟨⟨p1,_⟩,_,⟨l1,_⟩,c1,c2,c3⟩:=h4 f hf
 have hx:=c3 (f.code.getD i (0,0)) (by rw[List.getD_eq_getElem?_getD,List.getElem?_eq_getElem hi];exact List.getElem_mem hi)
 generalize f.code.getD i (0,0)=x at *
 simp only[Pu.isInstr,Bool.and_eq_true,decide_eq_true_eq]at hx
 obtain⟨⟨⟨x1,x2⟩,x3⟩,x4⟩:=hx
 unfold Pu.argLo at x3
 unfold Pu.argHi at x4
 refine⟨⟨by split at x3<;>omega,?_⟩,fun hop=>⟨by split at x3<;>omega,?_⟩⟩
 ·repeat' split at x4
  all_goals omega
 ·repeat' split at x4
  all_goals omega
theorem isMd_low{m:Pu.Md}(h:Pu.isMd m=true){f:Pu.Fn}(hf:f∈m.funcs):FnLow m f:=by
 have ha:=fun i hi=>isMd_args h hf i hi
 have hr:=(isMd_mdok h).fn f hf
 simp only[Pu.isMd,Pu.isFn,Pu.isList,Bool.and_eq_true,decide_eq_true_eq,List.all_eq_true]at h
 obtain⟨_,_,_,h4⟩:=h
 obtain⟨⟨_,p2⟩,_,⟨_,l2⟩,_⟩:=h4 f hf
 refine⟨fun k hk=>?_,hr.2.2.2,fun i hi=>(ha i hi).1,fun i hi hop=>(ha i hi).2 (by omega)⟩
 rcases List.mem_append.1 hk with hk|hk
 ·exact p2 k hk
 ·exact l2 k hk
theorem isMd_put{m:Pu.Md}(h:Pu.isMd m=true){f:Pu.Fn}(hf:f∈m.funcs)(i:Nat)(hi:i<f.code.length):PutOk m f (f.code.getD i (0,0)):=by
 have ha:=(isMd_args h hf i hi).2
 refine⟨(isMd_low h hf).pl,fun hop=>ha (by omega),fun g hg k hk=>?_⟩
 simp only[Pu.isMd,Pu.isFn,Pu.isList,Bool.and_eq_true,decide_eq_true_eq,List.all_eq_true]at h
 obtain⟨_,_,_,h4⟩:=h
 obtain⟨_,⟨_,r2⟩,_⟩:=h4 g hg
 exact r2 k hk
end Go.Proofs.YtjamgmbdilkbcaaGreat
namespace Go.Proofs.YtjamgmbdilkbcaaGreat
open Go.RowKit
def nextS(x:Int × Int)(i n:Nat):Bool:=decide (x.1=0\/x.1=6\/x.1=18) || decide (i+1<n)
def RLead(w w':World)(f:Pu.Fn)(a:Nat)(x:Int × Int)(e:Ending):Prop:=
 ∃v,e=.returned (.tuple #[v,.bool (nextS x a f.code.length)])/\IntsR w' w'.heap.size v ((Fl.leads x a).map Int.ofNat)/\Below w.heap.size w w'/\∀k,v.ownBlock=some k->w.heap.size<=k
theorem ints_none(w:World)(B:Nat):IntsR w B (.slice none 0 0) []:=⟨none,0,0,0,rfl,fun h=>absurd h (by simp),fun j hj=>absurd hj (by simp)⟩
theorem ints_one(W:World)(x:Int)(t:TypeId):IntsR (W.alloc (.cells #[.int .i64 x] t)) (W.heap.size+1) (.slice (some ⟨W.heap.size,0,none⟩) 1 1) [x]:=by
 refine⟨_,1,W.heap.size,0,rfl,fun _=>⟨rfl,by omega⟩,fun j hj=>?_⟩
 have h:=heap_alloc_new W (.cells #[.int .i64 x] t)
 simp only[List.length_singleton]at hj
 obtain rfl:j=0:=by omega
 unfold World.cell?
 simp only[h]
 rfl
theorem ints_two(W:World)(x y:Int)(t:TypeId):IntsR (W.alloc (.cells #[.int .i64 x,.int .i64 y] t)) (W.heap.size+1) (.slice (some ⟨W.heap.size,0,none⟩) 2 2) [x,y]:=by
 refine⟨_,2,W.heap.size,0,rfl,fun _=>⟨rfl,by omega⟩,fun j hj=>?_⟩
 have h:=heap_alloc_new W (.cells #[.int .i64 x,.int .i64 y] t)
 simp only[List.length_cons,List.length_nil]at hj
 have hj2:j=0\/j=1:=by omega
 rcases hj2 with rfl|rfl<;>(unfold World.cell?;simp only[h];rfl)
theorem rleads_any(f:Pu.Fn)(a:Nat)(x:FV)(w:World)(hf:FnR w w.heap.size x f)(hnc:f.code.length<=1000)(harg:0<=(f.code.getD a (0,0)).2)(ha:a<f.code.length):
  Calls Tryz.prog 75 #[.agg #[x.p,x.r,x.l,x.c],.int .i64 a] w fun e w'=>RLead w w' f a (f.code.getD a (0,0)) e:=by
 obtain⟨x1,y1,x2,y2,x3,y3,x4,y4,rfl⟩:=hf.shape
 obtain⟨ac,cc',bc,oc,hcv,h1,h2⟩:=hf.c
 simp only[Value.slice.injEq,true_and]at hcv
 obtain⟨rfl,rfl⟩:=hcv
 obtain⟨rfl,hbB⟩:=h1 (by omega)
 obtain⟨k0,k1⟩:=h2 a ha
 clear h1 h2
 have bl0:=(Below.refl w.heap.size w).alloc (Nat.le_refl _) (.cells #[.slice x1 f.params.length y1,.slice x2 f.results.length y2,.slice x3 f.locals.length y3,.slice (some ⟨bc,oc,none⟩) f.code.length y4] 62)
 have e0:=(bl0.cell (p:=⟨bc,oc+a*2,none⟩) hbB).trans k0
 have e1:=(bl0.cell (p:=⟨bc,oc+a*2+1,none⟩) hbB).trans k1
 generalize f.code.getD a (0,0)=xx at *
 obtain⟨op,arg⟩:=xx
 simp only at e0 e1 harg
 clear k0 k1 hf
 have wa:wrap64 ((a:Int)+1)=(a:Int)+1:=by unfold wrap64;omega
 have wa2:IntKind.i64.wrap ((a:Int)+1)=(a:Int)+1:=IntWalk.i64_in _ (by omega)
 have bl1:∀o:Obj,Below w.heap.size w ((w.alloc (.cells #[.slice x1 f.params.length y1,.slice x2 f.results.length y2,.slice x3 f.locals.length y3,.slice (some ⟨bc,oc,none⟩) f.code.length y4] 62)).alloc o):=fun o=>bl0.alloc (by simp) o
 have bl2:∀o o':Obj,Below w.heap.size w (((w.alloc (.cells #[.slice x1 f.params.length y1,.slice x2 f.results.length y2,.slice x3 f.locals.length y3,.slice (some ⟨bc,oc,none⟩) f.code.length y4] 62)).alloc o).alloc o'):=fun o o'=>(bl1 o).alloc (by simp;omega) o'
 have BL1:=hid bl1
 have BL2:=hid bl2
 clear bl1 bl2 bl0
 go_enter Tryz.func75,Tryz.ntmps75
 by_cases h0:op=0
 ·subst h0
  go_wp2_with fail
  go_ret2
  exact⟨.slice none 0 0,by simp[nextS],by simp only[Fl.leads];exact ints_none _ _,BL1.out _,fun k hk=>by cases hk⟩
 by_cases h18:op=18
 ·subst h18
  go_wp2_with fail
  go_ret2
  exact⟨.slice none 0 0,by simp[nextS],by simp only[Fl.leads];exact ints_none _ _,BL1.out _,fun k hk=>by cases hk⟩
 have b0:(op == 0)=false:=by simpa using h0
 have b18:(op == 18)=false:=by simpa using h18
 by_cases h6:op=6
 ·subst h6
  clear h0 h18 b0 b18
  have hl:(Fl.leads (6,arg) a).map Int.ofNat=[arg]:=by simp[Fl.leads];omega
  go_wp2_with fail
  go_ret2
  exact⟨.slice (some ⟨w.heap.size+1+1,0,none⟩) 1 1,by simp[nextS],by rw[hl];have h:=ints_one (((w.alloc (.cells #[.slice x1 f.params.length y1,.slice x2 f.results.length y2,.slice x3 f.locals.length y3,.slice (some ⟨bc,oc,none⟩) f.code.length y4] 62)).alloc (.cells #[.int .i64 6,.int .i64 arg] 56))) arg 3;simp at h ⊢;exact h,BL2.out _ _,fun k hk=>by cases hk;show _<=w.heap.size+1+1;omega⟩
 have b6:(op == 6)=false:=by simpa using h6
 by_cases h7:op=7
 ·subst h7
  have hl:(Fl.leads (7,arg) a).map Int.ofNat=[arg,(a:Int)+1]:=by simp[Fl.leads];omega
  have hx:nextS (7,arg) a f.code.length=decide ((a:Int)+1<(f.code.length:Int)):=by simp[nextS];omega
  have FIN:RLead w (((w.alloc (.cells #[.slice x1 f.params.length y1,.slice x2 f.results.length y2,.slice x3 f.locals.length y3,.slice (some ⟨bc,oc,none⟩) f.code.length y4] 62)).alloc (.cells #[.int .i64 7,.int .i64 arg] 56)).alloc (.cells #[.int .i64 arg,.int .i64 ((a:Int)+1)] 3)).drew f a (7,arg) (.returned (.tuple #[.slice (some ⟨w.heap.size+1+1,0,none⟩) 2 2,.bool (decide ((a:Int)+1<(f.code.length:Int)))])):=by
   refine⟨.slice (some ⟨w.heap.size+1+1,0,none⟩) 2 2,by rw[hx],?_,(BL2.out _ _).trans (Below.refl _ _).drew,fun k hk=>by cases hk;show _<=w.heap.size+1+1;omega⟩
   rw[hl]
   have h:=ints_two ((w.alloc (.cells #[.slice x1 f.params.length y1,.slice x2 f.results.length y2,.slice x3 f.locals.length y3,.slice (some ⟨bc,oc,none⟩) f.code.length y4] 62)).alloc (.cells #[.int .i64 7,.int .i64 arg] 56)) arg ((a:Int)+1) 3
   simp only[World.size_alloc]at h
   exact(h.wide (by simp)).heap rfl
  have FIN:=hid FIN
  clear hl hx
  go_wp2_with fail
  go_region_with fail
  all_goals (go_wp2_with fail;refine bodyPost_ret (v:=.tuple #[.slice (some ⟨w.heap.size+1+1,0,none⟩) 2 2,.bool (decide ((a:Int)+1<(f.code.length:Int)))]) (by simp[results,Tryz.results75,go_sem]) rfl FIN.out)
 have b7:(op == 7)=false:=by simpa using h7
 have hl:(Fl.leads (op,arg) a).map Int.ofNat=[(a:Int)+1]:=by simp[Fl.leads,h0,h6,h7,h18]
 have hx:nextS (op,arg) a f.code.length=decide ((a:Int)+1<(f.code.length:Int)):=by simp[nextS,h0,h6,h18];omega
 have FIN:RLead w (((w.alloc (.cells #[.slice x1 f.params.length y1,.slice x2 f.results.length y2,.slice x3 f.locals.length y3,.slice (some ⟨bc,oc,none⟩) f.code.length y4] 62)).alloc (.cells #[.int .i64 op,.int .i64 arg] 56)).alloc (.cells #[.int .i64 ((a:Int)+1)] 3)).drew f a (op,arg) (.returned (.tuple #[.slice (some ⟨w.heap.size+1+1,0,none⟩) 1 1,.bool (decide ((a:Int)+1<(f.code.length:Int)))])):=by
  refine⟨.slice (some ⟨w.heap.size+1+1,0,none⟩) 1 1,by rw[hx],?_,(BL2.out _ _).trans (Below.refl _ _).drew,fun k hk=>by cases hk;show _<=w.heap.size+1+1;omega⟩
  rw[hl]
  have h:=ints_one ((w.alloc (.cells #[.slice x1 f.params.length y1,.slice x2 f.results.length y2,.slice x3 f.locals.length y3,.slice (some ⟨bc,oc,none⟩) f.code.length y4] 62)).alloc (.cells #[.int .i64 op,.int .i64 arg] 56)) ((a:Int)+1) 3
  simp only[World.size_alloc]at h
  exact(h.wide (by simp)).heap rfl
 have FIN:=hid FIN
 clear hl hx
 clear h0 h6 h7 h18
 go_wp2_with fail
 go_region_with fail
 all_goals (go_wp2_with fail;refine bodyPost_ret (v:=.tuple #[.slice (some ⟨w.heap.size+1+1,0,none⟩) 1 1,.bool (decide ((a:Int)+1<(f.code.length:Int)))]) (by simp[results,Tryz.results75,go_sem]) rfl FIN.out)
structure Pr where
 at_:Nat
 s:ByteArray
 p:ByteArray
 deriving DecidableEq
def prV(x:Pr):Value:=.agg #[.int .i64 x.at_,.string x.s,.string x.p]
def prD:Pr:=⟨0,⟨#[]⟩,⟨#[]⟩⟩
def PairsR(w:World)(B:Nat)(v:Value)(l:List Pr):Prop:=
 ∃(ao:Option Addr) (cap b off:Nat),v=.slice ao l.length cap/\(0<l.length->ao=some ⟨b,off,none⟩/\b<B)/\
  ∀j,j<l.length->w.cell? ⟨b,off+j*3,none⟩=some (.int .i64 (l.getD j prD).at_)/\w.cell? ⟨b,off+j*3+1,none⟩=some (.string (l.getD j prD).s)/\w.cell? ⟨b,off+j*3+2,none⟩=some (.string (l.getD j prD).p)
def isK(l:List Pr)(q:Pr):Bool:=decide (q∈l)
def othK(l:List Pr)(q:Pr):Bool:=l.any fun x=>decide (x.at_=q.at_)&&decide (x≠q)
def KnownOut(w w':World)(l:List Pr)(q:Pr)(e:Ending):Prop:=e=.returned (.tuple #[.bool (isK l q),.bool (othK l q)])/\Below w.heap.size w w'
theorem tri{α:Type}[DecidableEq α](x y:α):∃b:Bool,(b=true ↔ x=y)/\(x == y)=b/\(x=y)=(b=true)/\(x != y)=!b:=⟨decide (x=y),by simp,by rw[Bool.eq_iff_iff];simp,by simp,by rw[Bool.eq_iff_iff];simp⟩
theorem tl_eq{x y:ByteArray}:x.toList=y.toList ↔ x=y:=⟨fun e=>by rw[ByteArray.toList_eq,ByteArray.toList_eq]at e;exact ByteArray.ext (Array.toList_inj.1 e),fun e=>by rw[e]⟩
theorem pr_ne{a a':Nat}{s s' p p':ByteArray}{A S P:Bool}(hA:A=true ↔ a=a')(hS:S=true ↔ s=s')(hP:P=true ↔ p=p'):(decide (a=a')&&decide ((⟨a,s,p⟩:Pr)≠⟨a',s',p'⟩))=(A && !(S&&P)):=by
 obtain rfl:A=decide (a=a'):=by rw[Bool.eq_iff_iff,hA];simp
 obtain rfl:S=decide (s=s'):=by rw[Bool.eq_iff_iff,hS];simp
 obtain rfl:P=decide (p=p'):=by rw[Bool.eq_iff_iff,hP];simp
 by_cases h1:a=a'<;>by_cases h2:s=s'<;>by_cases h3:p=p'<;>simp[h1,h2,h3]
theorem isK_succ(l:List Pr)(q:Pr)(k:Nat)(h:k<l.length):isK (l.take (k+1)) q=(isK (l.take k) q||decide (l.getD k prD=q)):=by
 unfold isK
 rw[List.take_succ_eq_append_getElem h,List.getD_eq_getElem?_getD,List.getElem?_eq_getElem h,Bool.eq_iff_iff]
 simp only[List.mem_append,List.mem_singleton,decide_eq_true_eq,Bool.or_eq_true,Option.getD_some]
 exact⟨fun h=>h.imp id Eq.symm,fun h=>h.imp id Eq.symm⟩
theorem othK_succ(l:List Pr)(q:Pr)(k:Nat)(h:k<l.length):othK (l.take (k+1)) q=(othK (l.take k) q || (decide ((l.getD k prD).at_=q.at_)&&decide (l.getD k prD≠q))):=by
 unfold othK
 rw[List.take_succ_eq_append_getElem h,List.getD_eq_getElem?_getD,List.getElem?_eq_getElem h,List.any_append]
 simp
theorem rknown_any(l:List Pr)(q:Pr)(v:Value)(w:World)(h:PairsR w w.heap.size v l)(hl:l.length<=1000):
  Calls Tryz.prog 76 #[v,prV q] w fun e w'=>KnownOut w w' l q e:=by
 obtain⟨ao,cap,b,off,rfl,h1,h2⟩:=h
 have H1:=hid h1
 have H2:=hid h2
 clear h1 h2
 unfold prV
 go_enter Tryz.func76,Tryz.ntmps76
 go_wp2
 obtain⟨qa,qs,qp⟩:=q
 simp only
 have fb0:F3 (w.alloc (.cells #[.int .i64 qa,.string qs,.string qp] 158)) w.heap.size 158 (.int .i64 qa) (.string qs) (.string qp):=heap_alloc_new w _
 have bl0:=(Below.refl w.heap.size w).alloc (Nat.le_refl _) (.cells #[.int .i64 qa,.string qs,.string qp] 158)
 go_loopw [6,7,8] (fun is ot i wr=>∃k:Nat,k<=l.length/\i=.int .i64 k/\is=.bool (isK (l.take k) ⟨qa,qs,qp⟩)/\ot=.bool (othK (l.take k) ⟨qa,qs,qp⟩)/\F3 wr w.heap.size 158 (.int .i64 qa) (.string qs) (.string qp)/\Below w.heap.size w wr) (fun _ _ i _=>l.length-(intOf i).toNat)
 case atStart=>exact⟨0,Nat.zero_le _,rfl,rfl,rfl,fb0,bl0⟩
 case round=>
  clear fb0 bl0
  obtain⟨k,hk,rfl,rfl,rfl,fb,bl⟩:=hrel
  by_cases hlt:k<l.length
  ·obtain⟨rfl,hbB⟩:=H1.out (by omega)
   obtain⟨g0,g1,g2⟩:=H2.out k hlt
   have c0:=(bl.cell (p:=⟨b,off+k*3,none⟩) hbB).trans g0
   have c1:=(bl.cell (p:=⟨b,off+k*3+1,none⟩) hbB).trans g1
   have c2:=(bl.cell (p:=⟨b,off+k*3+2,none⟩) hbB).trans g2
   have d0:=fb.c0
   have d1:=fb.c1
   have d2:=fb.c2
   have HIS0:=hid (isK_succ l ⟨qa,qs,qp⟩ k hlt)
   have HOT0:=hid (othK_succ l ⟨qa,qs,qp⟩ k hlt)
   clear c0 c1 c2
   have H2':=H2
   clear H2
   generalize l.getD k prD=x at *
   obtain⟨xa,xs,xp⟩:=x
   simp only at g0 g1 g2
   have c0:=(bl.cell (p:=⟨b,off+k*3,none⟩) hbB).trans g0
   have c1:=(bl.cell (p:=⟨b,off+k*3+1,none⟩) hbB).trans g1
   have c2:=(bl.cell (p:=⟨b,off+k*3+2,none⟩) hbB).trans g2
   generalize isK (l.take k) ⟨qa,qs,qp⟩=IS at *
   generalize othK (l.take k) ⟨qa,qs,qp⟩=OT at *
   obtain⟨A,hA,a1,a2,a3⟩:=tri (xa:Int) qa
   obtain⟨S,hS,b1,b2,b3⟩:=tri xs.toList qs.toList
   obtain⟨P,hP,e1,e2,e3⟩:=tri xp.toList qp.toList
   have hA2:A=true ↔ xa=qa:=hA.trans (by omega)
   have hS2:S=true ↔ xs=qs:=hS.trans tl_eq
   have hP2:P=true ↔ xp=qp:=hP.trans tl_eq
   have HIS:Hid (isK (l.take (k+1)) ⟨qa,qs,qp⟩=(IS || (A&&(S&&P)))):=by
    show _=_
    rw[HIS0.out,Bool.eq_iff_iff]
    simp[hA2,hS2,hP2]
   have HOT:Hid (othK (l.take (k+1)) ⟨qa,qs,qp⟩=(OT || (A && !(S&&P)))):=by
    show _=_
    rw[HOT0.out,pr_ne hA2 hS2 hP2]
   clear HIS0 HOT0 hA hS hP hA2 hS2 hP2
   cases A<;>cases S<;>cases P<;>cases IS<;>cases OT
   all_goals
    simp only[Bool.false_eq_true,Bool.not_false,Bool.not_true]at a2 a3 b2 b3 e2 e3
    go_wp2_with fail
    first
    | (go_quiet (fail);have bA:=below_drewN (Below.refl wr.heap.size wr) nq;generalize wr.drewN nq=w5 at *)
    | (go_region_held3 (fun w'=>w'.cell? ⟨b,off+k*3,none⟩=some (.int .i64 xa)/\w'.cell? ⟨b,off+k*3+1,none⟩=some (.string xs)/\w'.cell? ⟨b,off+k*3+2,none⟩=some (.string xp)/\w'.cell? ⟨w.heap.size,0,none⟩=some (.int .i64 qa)/\w'.cell? ⟨w.heap.size,1,none⟩=some (.string qs)/\w'.cell? ⟨w.heap.size,2,none⟩=some (.string qp)) (exact⟨c0,c1,c2,d0,d1,d2⟩) (fail);have bA:=(Below.refl wr.heap.size wr).drew;generalize wr.drew=w5 at *)
    have fb5:F3 w5 w.heap.size 158 (.int .i64 qa) (.string qs) (.string qp):=(bA.block _ fb.lt).trans fb
    have bl5:=bl.trans (bA.mono bl.size)
    have c0:=(bl5.cell (p:=⟨b,off+k*3,none⟩) hbB).trans g0
    have c1:=(bl5.cell (p:=⟨b,off+k*3+1,none⟩) hbB).trans g1
    have c2:=(bl5.cell (p:=⟨b,off+k*3+2,none⟩) hbB).trans g2
    have d0:=fb5.c0
    have d1:=fb5.c1
    have d2:=fb5.c2
    clear bA fb bl
    go_wp2_with fail
    first
    | (go_quiet (fail);have bB:=below_drewN (Below.refl w5.heap.size w5) nq;generalize w5.drewN nq=w6 at *)
    | (go_region_held3 (fun w'=>w'.cell? ⟨b,off+k*3,none⟩=some (.int .i64 xa)/\w'.cell? ⟨b,off+k*3+1,none⟩=some (.string xs)/\w'.cell? ⟨b,off+k*3+2,none⟩=some (.string xp)/\w'.cell? ⟨w.heap.size,0,none⟩=some (.int .i64 qa)/\w'.cell? ⟨w.heap.size,1,none⟩=some (.string qs)/\w'.cell? ⟨w.heap.size,2,none⟩=some (.string qp)) (exact⟨c0,c1,c2,d0,d1,d2⟩) (fail);have bB:=(Below.refl w5.heap.size w5).drew;generalize w5.drew=w6 at *)
    have fb6:=(bB.block _ fb5.lt).trans fb5
    have bl6:=bl5.trans (bB.mono bl5.size)
    clear bB fb5 bl5 c0 c1 c2 d0 d1 d2
    go_wp2_with fail
    go_roundw
    case rel=>exact⟨k+1,hlt,by go_num,by rw[HIS.out];rfl,by rw[HOT.out];rfl,fb6,bl6⟩
    case measure=>simp[intOf];omega
  ·have hkl:k=l.length:=by omega
   subst hkl
   rw[List.take_of_length_le (Nat.le_refl _)]
   go_wp2
   go_ret2
   exact⟨rfl,bl⟩
end Go.Proofs.YtjamgmbdilkbcaaGreat
namespace Go.Proofs.YtjamgmbdilkbcaaGreat
structure StWf (m:Pu.Md) (f:Pu.Fn) (t:Fl.S):Prop where
 ok:StOk m t
 off:∀i,(Fl.places f).length<=i->t.full.getD i false=false
theorem put_full{t u:Fl.S}{k:Int}(h:Fl.putS k t=some u):u.full=t.full:=by
 unfold Fl.putS at h;split at h<;>cases h;rfl
theorem take_full{t u:Fl.S}{k:Int}(h:Fl.takeS k t=some u):u.full=t.full:=by
 unfold Fl.takeS at h;split at h<;>cases h;rfl
theorem takes_full:∀{l:List Int} {t u:Fl.S},Fl.takesS l t=some u->u.full=t.full
 | [],t,u,h=>by simp only[Fl.takesS]at h;cases h;rfl
 | k::l,t,u,h=>by
  simp only[Fl.takesS]at h
  obtain⟨v,hv,h2⟩:=Option.bind_eq_some_iff.1 h
  rw[takes_full h2,take_full hv]
theorem puts_full:∀{l:List Int} {t u:Fl.S},Fl.putsS l t=some u->u.full=t.full
 | [],t,u,h=>by simp only[Fl.putsS]at h;cases h;rfl
 | k::l,t,u,h=>by
  simp only[Fl.putsS]at h
  obtain⟨v,hv,h2⟩:=Option.bind_eq_some_iff.1 h
  rw[puts_full h2,put_full hv]
theorem getD_setB(l:List Bool)(j k:Nat)(b:Bool)(hb:b=false\/k≠j)(h:l.getD k false=false):(l.set j b).getD k false=false:=by
 rw[List.getD_eq_getElem?_getD]at h ⊢
 by_cases hkj:k=j
 ·subst hkj
  rcases hb with rfl|hb
  ·by_cases hk:k<l.length
   ·rw[List.getElem?_set_self hk];rfl
   ·rw[List.getElem?_eq_none (by simp;omega)];rfl
  ·exact absurd rfl hb
 ·rw[List.getElem?_set_ne (fun e=>hkj e.symm)];exact h
theorem after_full{m:Pu.Md}{f:Pu.Fn}{x:Int × Int}{t u:Fl.S}(h:Fl.after m f x t=some u):
  u.full=t.full\/u.full=t.full.set x.2.toNat false\/(x.1=10/\u.full=t.full.set x.2.toNat true):=by
 unfold Fl.after at h
 by_cases h0:x.1=0
 ·rw[if_pos h0]at h;unfold Fl.retS at h;split at h<;>cases h;exact .inl rfl
 rw[if_neg h0]at h
 by_cases h1:x.1=1
 ·rw[if_pos h1]at h;exact .inl (put_full h)
 rw[if_neg h1]at h
 by_cases h2:x.1=2\/x.1=3\/x.1=4\/x.1=5
 ·rw[if_pos h2]at h
  obtain⟨u,hu,g⟩:=Option.bind_eq_some_iff.1 h
  obtain⟨v,hv,g2⟩:=Option.bind_eq_some_iff.1 hu
  exact .inl (by rw[put_full g,take_full g2,take_full hv])
 rw[if_neg h2]at h
 by_cases h7:x.1=7
 ·rw[if_pos h7]at h;exact .inl (take_full h)
 rw[if_neg h7]at h
 by_cases h8:x.1=8
 ·rw[if_pos h8]at h;unfold Fl.copyS at h;split at h
  ·exact .inl (put_full h)
  ·cases h
 rw[if_neg h8]at h
 by_cases h9:x.1=9
 ·rw[if_pos h9]at h;unfold Fl.moveS at h;split at h
  ·exact .inr (.inl (put_full h))
  ·cases h
 rw[if_neg h9]at h
 by_cases h10:x.1=10
 ·rw[if_pos h10]at h;unfold Fl.keepS at h
  obtain⟨u,hu,g⟩:=Option.bind_eq_some_iff.1 h
  split at g
  ·cases g;exact .inr (.inr ⟨h10,by simp only;rw[take_full hu]⟩)
  ·cases g
 rw[if_neg h10]at h
 by_cases h11:x.1=11
 ·rw[if_pos h11]at h;unfold Fl.dropS at h;split at h
  ·cases h;exact .inl rfl
  ·cases h
 rw[if_neg h11]at h
 by_cases h12:x.1=12
 ·rw[if_pos h12]at h
  obtain⟨u,hu,g⟩:=Option.bind_eq_some_iff.1 h
  exact .inl (by rw[put_full g,take_full hu])
 rw[if_neg h12]at h
 by_cases h13:x.1=13
 ·rw[if_pos h13]at h
  obtain⟨u,hu,g⟩:=Option.bind_eq_some_iff.1 h
  exact .inl (by rw[put_full g,take_full hu])
 rw[if_neg h13]at h
 by_cases h14:x.1=14
 ·rw[if_pos h14]at h;unfold Fl.callS at h
  obtain⟨u,hu,g⟩:=Option.bind_eq_some_iff.1 h
  exact .inl (by rw[puts_full g,takes_full hu])
 rw[if_neg h14]at h
 by_cases h15:x.1=15
 ·rw[if_pos h15]at h;exact .inl (put_full h)
 rw[if_neg h15]at h
 by_cases h16:x.1=16
 ·rw[if_pos h16]at h
  obtain⟨u,hu,g⟩:=Option.bind_eq_some_iff.1 h
  exact .inl (by rw[take_full g,take_full hu])
 rw[if_neg h16]at h
 by_cases h17:x.1=17
 ·rw[if_pos h17]at h
  obtain⟨u,hu,g⟩:=Option.bind_eq_some_iff.1 h
  exact .inl (by rw[put_full g,take_full hu])
 rw[if_neg h17]at h
 cases h
 exact .inl rfl
theorem after_wf{m:Pu.Md}{f:Pu.Fn}{x:Int × Int}{t u:Fl.S}(po:PutOk m f x)(ao:ArgOk m f x.1 x.2)(wf:StWf m f t)(h:Fl.after m f x t=some u):StWf m f u:=by
 refine⟨after_ok po wf.ok h,fun i hi=>?_⟩
 rcases after_full h with e|e|⟨h10,e⟩
 ·rw[e];exact wf.off i hi
 ·rw[e];exact getD_setB _ _ _ _ (.inl rfl) (wf.off i hi)
 ·rw[e]
  have:=ao.2.1 (.inr (.inr h10))
  exact getD_setB _ _ _ _ (.inr (by omega)) (wf.off i hi)
theorem init_wf(m:Pu.Md)(f:Pu.Fn)(hp:(Fl.places f).length<=8):StWf m f (Fl.init f):=by
 have h1:f.params.length<=(Fl.places f).length:=by unfold Fl.places;simp
 refine⟨⟨by simp[Fl.init],by simp[Fl.init];omega,fun k hk=>by simp[Fl.init]at hk⟩,fun i hi=>?_⟩
 unfold Fl.init
 simp only
 rw[List.getD_eq_getElem?_getD,List.getElem?_append_right (by simp;omega)]
 by_cases h:i-f.params.length<8-f.params.length
 ·rw[List.getElem?_replicate,List.length_replicate,if_pos h];rfl
 ·rw[List.getElem?_replicate,List.length_replicate,if_neg h];rfl
theorem nodup_len:∀(n:Nat) (l:List Nat),l.Nodup->(∀x∈l,x<n)->l.length<=n
 | 0,l,_,h=>by
  cases l with
  | nil=>simp
  | cons a l=>exact absurd (h a (by simp)) (by omega)
 | n+1,l,hd,h=>by
  by_cases hn:n∈l
  ·have h1:=nodup_len n (l.erase n) (hd.erase n) (fun x hx=>by
    have h2:=(List.Nodup.mem_erase_iff hd).1 hx
    have:=h x h2.2
    omega)
   rw[List.length_erase_of_mem hn]at h1
   omega
  ·have h1:=nodup_len n l hd (fun x hx=>by
    have:=h x hx
    have:x≠n:=fun e=>hn (e▸hx)
    omega)
   omega
def Clo(m:Pu.Md)(f:Pu.Fn)(D:List (Nat × Fl.S))(x:Nat × Fl.S):Prop:=
 ∃s',Fl.after m f (f.code.getD x.1 (0,0)) x.2=some s'/\∀k∈Fl.leads (f.code.getD x.1 (0,0)) x.1,(k,s')∈D
theorem Clo.more{m:Pu.Md}{f:Pu.Fn}{D:List (Nat × Fl.S)}{x:Nat × Fl.S}(h:Clo m f D x)(y:Nat × Fl.S):Clo m f (D++[y]) x:=by
 obtain⟨s',h1,h2⟩:=h
 exact⟨s',h1,fun k hk=>List.mem_append_left _ (h2 k hk)⟩
structure RInv (m:Pu.Md) (f:Pu.Fn) (D T:List (Nat × Fl.S)) (p:Option (Nat × Fl.S)):Prop where
 good:∀τ,Fl.Good m f τ->∀x∈D,τ x.1=some x.2
 sub:∀x∈T,x∈D
 start:(0,Fl.init f)∈D
 nd:(D.map Prod.fst).Nodup
 lt:∀x∈D,x.1<f.code.length
 closed:∀x∈D,x ∉ T->some x≠p->Clo m f D x
 wf:∀x∈D,StWf m f x.2
 tl:T.length<=D.length
theorem RInv.len{m:Pu.Md}{f:Pu.Fn}{D T:List (Nat × Fl.S)}{p:Option (Nat × Fl.S)}(h:RInv m f D T p):D.length<=f.code.length:=by
 have:=nodup_len f.code.length (D.map Prod.fst) h.nd (fun x hx=>by
  obtain⟨y,hy,rfl⟩:=List.mem_map.1 hx
  exact h.lt y hy)
 simpa using this
theorem rinv_start(m:Pu.Md)(f:Pu.Fn)(hp:(Fl.places f).length<=8)(hc:0<f.code.length):RInv m f [(0,Fl.init f)] [(0,Fl.init f)] none:=by
 refine⟨fun τ hτ x hx=>?_,fun x hx=>hx,by simp,by simp,fun x hx=>?_,fun x hx h=>absurd hx h,fun x hx=>?_,Nat.le_refl _⟩
 ·rw[List.mem_singleton]at hx;subst hx;exact hτ.start
 ·rw[List.mem_singleton]at hx;subst hx;exact hc
 ·rw[List.mem_singleton]at hx;subst hx;exact init_wf m f hp
theorem rinv_pop{m:Pu.Md}{f:Pu.Fn}{D T:List (Nat × Fl.S)}{p:Nat × Fl.S}(h:RInv m f D (T++[p]) none):RInv m f D T (some p)/\p∈D:=by
 refine⟨⟨h.good,fun x hx=>h.sub x (List.mem_append_left _ hx),h.start,h.nd,h.lt,fun x hx hT hp=>h.closed x hx (fun hm=>?_) (by simp),h.wf,by have:=h.tl;simp at this;omega⟩,h.sub p (by simp)⟩
 rcases List.mem_append.1 hm with hm|hm
 ·exact hT hm
 ·rw[List.mem_singleton]at hm;subst hm;exact hp rfl
theorem rinv_lead{m:Pu.Md}{f:Pu.Fn}{D T:List (Nat × Fl.S)}{p:Option (Nat × Fl.S)}(h:RInv m f D T p){q:Nat × Fl.S}(hg:∀τ,Fl.Good m f τ->τ q.1=some q.2)(hl:q.1<f.code.length)(hw:StWf m f q.2)(hq:q ∉ D)(ho:∀x∈D,x.1=q.1->x=q):RInv m f (D++[q]) (T++[q]) p:=by
 refine⟨fun τ hτ x hx=>?_,fun x hx=>?_,List.mem_append_left _ h.start,?_,fun x hx=>?_,fun x hx hT hp=>?_,fun x hx=>?_,by have:=h.tl;simp;omega⟩
 ·rcases List.mem_append.1 hx with hx|hx
  ·exact h.good τ hτ x hx
  ·rw[List.mem_singleton]at hx;subst hx;exact hg τ hτ
 ·rcases List.mem_append.1 hx with hx|hx
  ·exact List.mem_append_left _ (h.sub x hx)
  ·exact List.mem_append_right _ hx
 ·rw[List.map_append,List.map_singleton,List.nodup_append]
  refine⟨h.nd,by simp,fun a ha b hb=>?_⟩
  rw[List.mem_singleton]at hb
  subst hb
  rintro rfl
  obtain⟨y,hy,hyq⟩:=List.mem_map.1 ha
  exact hq (ho y hy hyq▸hy)
 ·rcases List.mem_append.1 hx with hx|hx
  ·exact h.lt x hx
  ·rw[List.mem_singleton]at hx;subst hx;exact hl
 ·rcases List.mem_append.1 hx with hx|hx
  ·exact(h.closed x hx (fun hm=>hT (List.mem_append_left _ hm)) hp).more q
  ·exact absurd (List.mem_append_right T hx) hT
 ·rcases List.mem_append.1 hx with hx|hx
  ·exact h.wf x hx
  ·rw[List.mem_singleton]at hx;subst hx;exact hw
theorem rinv_close{m:Pu.Md}{f:Pu.Fn}{D T:List (Nat × Fl.S)}{p:Nat × Fl.S}(h:RInv m f D T (some p))(hc:Clo m f D p):RInv m f D T none:=by
 refine⟨h.good,h.sub,h.start,h.nd,h.lt,fun x hx hT _=>?_,h.wf,h.tl⟩
 by_cases hp:x=p
 ·subst hp;exact hc
 ·exact h.closed x hx hT (fun e=>hp (Option.some.inj e))
theorem nodup_fun{D:List (Nat × Fl.S)}(hd:(D.map Prod.fst).Nodup){x y:Nat × Fl.S}(hx:x∈D)(hy:y∈D)(h:x.1=y.1):x=y:=by
 induction D with
 | nil=>simp at hx
 | cons a D ih=>
  rw[List.map_cons,List.nodup_cons]at hd
  rcases List.mem_cons.1 hx with rfl|hx'
  ·rcases List.mem_cons.1 hy with rfl|hy'
   ·rfl
   ·exact absurd (List.mem_map.2 ⟨y,hy',h.symm⟩) hd.1
  ·rcases List.mem_cons.1 hy with rfl|hy'
   ·exact absurd (List.mem_map.2 ⟨x,hx',h⟩) hd.1
   ·exact ih hd.2 hx' hy'
theorem find_some{D:List (Nat × Fl.S)}(hd:(D.map Prod.fst).Nodup){x:Nat × Fl.S}(hx:x∈D):(D.find? fun y=>decide (y.1=x.1)).map Prod.snd=some x.2:=by
 cases h:D.find? fun y=>decide (y.1=x.1)with
 | none=>
  have:=List.find?_eq_none.1 h x hx
  simp at this
 | some y=>
  have h1:=List.mem_of_find?_eq_some h
  have h2:=List.find?_some h
  simp only[decide_eq_true_eq]at h2
  rw[nodup_fun hd h1 hx h2]
  rfl
theorem rinv_end{m:Pu.Md}{f:Pu.Fn}{D:List (Nat × Fl.S)}(h:RInv m f D [] none):Fl.Sound m f:=by
 refine⟨fun j=>(D.find? fun y=>decide (y.1=j)).map Prod.snd,⟨find_some h.nd (x:=(0,Fl.init f)) h.start,fun i s hi=>?_⟩⟩
 cases hf:D.find? fun y=>decide (y.1=i)with
 | none=>rw[hf]at hi;simp at hi
 | some y=>
  rw[hf]at hi
  simp only[Option.map_some,Option.some.injEq]at hi
  have h1:=List.mem_of_find?_eq_some hf
  have h2:=List.find?_some hf
  simp only[decide_eq_true_eq]at h2
  subst h2
  subst hi
  obtain⟨s',ha,hk⟩:=h.closed y h1 (by simp) (by simp)
  exact⟨h.lt y h1,s',ha,fun j hj=>find_some h.nd (x:=(j,s')) (hk j hj)⟩
theorem rinv_no{m:Pu.Md}{f:Pu.Fn}{D T:List (Nat × Fl.S)}{p:Option (Nat × Fl.S)}(h:RInv m f D T p){x:Nat × Fl.S}(hx:x∈D)(hn:Fl.after m f (f.code.getD x.1 (0,0)) x.2=none):¬Fl.Sound m f:=by
 rintro⟨τ,hτ⟩
 obtain⟨_,s',h1,_⟩:=hτ.step _ _ (h.good τ hτ x hx)
 rw[hn]at h1
 cases h1
theorem rinv_good{m:Pu.Md}{f:Pu.Fn}{D T:List (Nat × Fl.S)}{p:Option (Nat × Fl.S)}(h:RInv m f D T p){x:Nat × Fl.S}(hx:x∈D){s':Fl.S}(ha:Fl.after m f (f.code.getD x.1 (0,0)) x.2=some s'){j:Nat}(hj:j∈Fl.leads (f.code.getD x.1 (0,0)) x.1)(τ:Nat->Option Fl.S)(hτ:Fl.Good m f τ):τ j=some s':=by
 obtain⟨_,s2,h1,h2⟩:=hτ.step _ _ (h.good τ hτ x hx)
 rw[ha]at h1
 cases h1
 exact h2 j hj
theorem rinv_next{m:Pu.Md}{f:Pu.Fn}{D T:List (Nat × Fl.S)}{p:Option (Nat × Fl.S)}(h:RInv m f D T p){x:Nat × Fl.S}(hx:x∈D){s':Fl.S}(ha:Fl.after m f (f.code.getD x.1 (0,0)) x.2=some s'){j:Nat}(hj:j∈Fl.leads (f.code.getD x.1 (0,0)) x.1)(hl:¬j<f.code.length):¬Fl.Sound m f:=by
 rintro⟨τ,hτ⟩
 exact hl (hτ.step j s' (rinv_good h hx ha hj τ hτ)).1
theorem rinv_other{m:Pu.Md}{f:Pu.Fn}{D T:List (Nat × Fl.S)}{p:Option (Nat × Fl.S)}(h:RInv m f D T p){x:Nat × Fl.S}(hx:x∈D){s':Fl.S}(ha:Fl.after m f (f.code.getD x.1 (0,0)) x.2=some s'){j:Nat}(hj:j∈Fl.leads (f.code.getD x.1 (0,0)) x.1){y:Nat × Fl.S}(hy:y∈D)(h1:y.1=j)(h2:y.2≠s'):¬Fl.Sound m f:=by
 rintro⟨τ,hτ⟩
 have h3:=h.good τ hτ y hy
 rw[h1,rinv_good h hx ha hj τ hτ]at h3
 exact h2 (Option.some.inj h3).symm
theorem lt_inj'{a b:Int}(ha:0<=a/\a<=100)(hb:0<=b/\b<=100)(h:lt a=lt b):a=b:=by
 have h1:=lt_val a ha
 have h2:=lt_val b hb
 rw[h]at h1
 omega
theorem lt_45{a:Int}(ha:0<=a/\a<=100):lt a≠45:=by
 intro h
 have h1:=lt_val a ha
 rw[h]at h1
 have h2:((45:UInt8).toNat:Int)=45:=rfl
 omega
theorem map_lt_inj':∀(l r:List Int),(∀k∈l,0<=k/\k<=100)->(∀k∈r,0<=k/\k<=100)->l.map lt=r.map lt->l=r
 | [],[],_,_,_=>rfl
 | [],_::_,_,_,h=>by simp at h
 | _::_,[],_,_,h=>by simp at h
 | a::l,b::r,h1,h2,h=>by
  simp only[List.map_cons,List.cons.injEq]at h
  rw[lt_inj' (h1 a (by simp)) (h2 b (by simp)) h.1,map_lt_inj' l r (fun k hk=>h1 k (by simp[hk])) (fun k hk=>h2 k (by simp[hk])) h.2]
theorem spots_inj:∀(pl:List Int) (x y:List Bool),(∀k∈pl,0<=k/\k<=100)->pl.length<=x.length->pl.length<=y.length->spots pl x=spots pl y->∀i,i<pl.length->x.getD i false=y.getD i false
 | [],_,_,_,_,_,_,i,hi=>by simp at hi
 | a::pl,[],_,_,h,_,_,_,_=>by simp at h
 | a::pl,_::_,[],_,_,h,_,_,_=>by simp at h
 | a::pl,b::x,c::y,hk,h1,h2,h,i,hi=>by
  simp only[spots,List.zipWith_cons_cons,List.cons.injEq]at h
  cases i with
  | zero=>
   simp only[List.getD_cons_zero]
   have h3:=h.1
   have h4:=lt_45 (hk a (by simp))
   unfold spot at h3
   cases b<;>cases c<;>simp_all
  | succ i=>
   simp only[List.getD_cons_succ]
   exact spots_inj pl x y (fun k hk'=>hk k (by simp[hk'])) (by simpa using h1) (by simpa using h2) h.2 i (by simpa using hi)
theorem bs_inj{a b:List UInt8}(h:bs a=bs b):a=b:=by
 unfold bs at h
 have:=congrArg (fun x=>x.data.toList) h
 simpa using this
theorem st_inj{m:Pu.Md}{f:Pu.Fn}{t u:Fl.S}(ht:StWf m f t)(hu:StWf m f u)(hk:m.kinds.length<=100)(hpl:∀k∈Fl.places f,0<=k/\k<=m.kinds.length)(hp:(Fl.places f).length<=8)(h1:str t.stk=str u.stk)(h2:bs (spots (Fl.places f) t.full)=bs (spots (Fl.places f) u.full)):t=u:=by
 obtain⟨ts,tf⟩:=t
 obtain⟨us,uf⟩:=u
 have hf1:=ht.ok.full
 have hf2:=hu.ok.full
 simp only at h1 h2 hf1 hf2
 rw[str_bs,str_bs]at h1
 have e1:=map_lt_inj' ts us (fun k hk'=>by have:=ht.ok.kinds k hk';omega) (fun k hk'=>by have:=hu.ok.kinds k hk';omega) (bs_inj h1)
 have e2:=spots_inj (Fl.places f) tf uf (fun k hk'=>by have:=hpl k hk';omega) (by omega) (by omega) (bs_inj h2)
 subst e1
 congr 1
 refine List.ext_getElem (by omega) fun i hi1 hi2=>?_
 have e3:tf.getD i false=uf.getD i false:=by
  by_cases hi:i<(Fl.places f).length
  ·exact e2 i hi
  ·have h3:=ht.off i (by omega)
   have h4:=hu.off i (by omega)
   simp only at h3 h4
   rw[h3,h4]
 rw[List.getD_eq_getElem?_getD,List.getD_eq_getElem?_getD,List.getElem?_eq_getElem hi1,List.getElem?_eq_getElem hi2]at e3
 simpa using e3
end Go.Proofs.YtjamgmbdilkbcaaGreat
