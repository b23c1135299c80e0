import Derived.Test.YtjamgmbdilkbcaaGreatLotAll38
namespace Go.Proofs.YtjamgmbdilkbcaaGreat
open Go.RowKit
namespace Dr
theorem take_kinds(k:Int)(g:Gg)(r:Rm):(take k g r).2.2.kinds=r.kinds:=by unfold take;split<;>rfl
theorem put_kinds(k n:Int)(g:Gg)(r:Rm):(put k n g r).2.kinds=r.kinds:=by unfold put;split;rfl;split<;>rfl
theorem two_kinds(op:Int)(g:Gg)(r:Rm):(two op g r).2.kinds=r.kinds:=by
 unfold two
 simp only
 split
 ·rw[put_kinds,take_kinds,take_kinds]
 split
 ·rw[put_kinds,take_kinds,take_kinds]
 split<;>rw[put_kinds,take_kinds,take_kinds]
theorem spot_kinds(m:Pu.Md)(op:Int)(i:Nat)(g:Gg)(r:Rm):(spot m op i g r).2.kinds=r.kinds:=by
 unfold spot
 simp only
 split
 ·rw[put_kinds]
 split
 ·exact put_kinds _ _ _ _
 ·exact take_kinds _ _ _
theorem account_kinds(who op kind:Int)(g:Gg)(r:Rm):(account who op kind g r).2.kinds=r.kinds:=by
 unfold account
 simp only
 split
 ·split
  ·rw[put_kinds]
  ·rfl
 ·split
  ·rw[put_kinds,take_kinds]
  ·exact(take_kinds _ _ _).trans (take_kinds _ _ _)
theorem drop_kinds(m:Pu.Md)(g:Gg)(r:Rm):(drop m g r).2.kinds=r.kinds:=by
 unfold drop
 simp only
 split
 ·exact take_kinds _ _ _
 ·rfl
theorem plain_kinds(m:Pu.Md)(who:Int)(x:Int × Int)(g:Gg)(r:Rm):(plain m who x g r).2.kinds=r.kinds:=by
 unfold plain
 simp only
 split
 ·exact put_kinds _ _ _ _
 split
 ·exact two_kinds _ _ _
 split
 ·exact spot_kinds _ _ _ _ _
 split
 ·exact drop_kinds _ _ _
 split
 ·rw[put_kinds,take_kinds]
 split
 ·rw[put_kinds,take_kinds]
 ·exact account_kinds _ _ _ _ _
theorem args_kinds(ps:List Int):∀(k:Nat) (g:Gg) (r:Rm) (l:List (Int × Int)),(args ps k g r l).2.2.kinds=r.kinds
 | 0,_,_,_=>rfl
 | k+1,g,r,l=>by
  unfold args
  simp only
  rw[args_kinds ps k,take_kinds]
theorem puts_keep{m:Pu.Md}:∀(l:List (Int × Int)) {g:Gg} {r:Rm},Ok m r->(∀v∈l,0<=v.1/\v.1<=m.kinds.length)->Ok m (puts l g r).2/\(puts l g r).1.holds=g.holds/\(puts l g r).1.used=g.used/\(puts l g r).1.depth=g.depth/\(puts l g r).2.kinds=r.kinds/\(g.err≠0->(puts l g r).1.err≠0)
 | [],g,r,h,_=>⟨h,rfl,rfl,rfl,rfl,id⟩
 | v::l,g,r,h,hl=>by
  obtain⟨a1,a2,a3,a4⟩:=ok_put h (hl v (by simp)) v.2 g
  obtain⟨b1,b2,b3,b4,b5,b6⟩:=puts_keep l (g:=(put v.1 v.2 g r).1) a1 (fun u hu=>hl u (by simp[hu]))
  refine⟨b1,b2.trans a2,b3.trans a3,b4.trans a4,b5.trans (put_kinds _ _ _ _),fun he=>b6 ?_⟩
  unfold put
  rw[if_pos he]
  exact he
theorem keeps_turn(m:Pu.Md){g:Gg}{r:Rm}(h:Ok m r)(k1:Int){k2:Int}(hk:0<=k2/\k2<=m.kinds.length):Keeps m g (put k2 (take k1 g r).1 (take k1 g r).2.1 (take k1 g r).2.2):=by
 obtain⟨a1,a2,a3,a4⟩:=ok_take h k1 g
 obtain⟨b1,b2,b3,b4⟩:=ok_put a1 hk (take k1 g r).1 (take k1 g r).2.1
 exact⟨b1,by rw[b2,a2];omega,b3.trans a3,b4.trans a4⟩
structure Ins (m:Pu.Md) (pl n:Nat) (x:Int × Int):Prop where
 op:0<=x.1/\x.1<=18
 jump:x.1=6\/x.1=7->0<=x.2/\x.2<n
 spot:x.1=8\/x.1=9\/x.1=10->0<=x.2/\x.2<pl
 kind:x.1=12\/x.1=13\/x.1=15\/x.1=16\/x.1=17->1<=x.2/\x.2<=m.kinds.length
 call:x.1=14->0<=x.2/\x.2<m.funcs.length
theorem ins_of{m:Pu.Md}{f:Pu.Fn}(hf:Pu.isFn f m.kinds.length m.funcs.length=true){i:Nat}(hi:i<f.code.length):Ins m (Fl.places f).length f.code.length (f.code.getD i (0,0)):=by
 simp only[Pu.isFn,Pu.isCode,Bool.and_eq_true,decide_eq_true_eq,List.all_eq_true]at hf
 obtain⟨_,_,_,_,_,c3⟩:=hf
 have hx:=c3 (f.code.getD i (0,0)) (by rw[List.getD_eq_getElem?_getD,List.getElem?_eq_getElem hi];exact List.getElem_mem hi)
 generalize f.code.getD i (0,0)=x at *
 simp only[Pu.isInstr,Bool.and_eq_true,decide_eq_true_eq]at hx
 obtain⟨⟨⟨x1,x2⟩,x3⟩,x4⟩:=hx
 have hpl:(Fl.places f).length=f.params.length+f.locals.length:=by unfold Fl.places;rw[List.length_append]
 unfold Pu.argLo at x3
 unfold Pu.argHi at x4
 refine⟨⟨x1,x2⟩,fun hop=>?_,fun hop=>?_,fun hop=>?_,fun hop=>?_⟩
 ·rw[if_neg (by omega)]at x3
  rw[if_neg (by omega),if_pos hop]at x4
  omega
 ·rw[if_neg (by omega)]at x3
  rw[if_neg (by omega),if_neg (by omega),if_pos hop]at x4
  omega
 ·rw[if_pos hop]at x3
  rw[if_neg (by omega),if_neg (by omega),if_neg (by omega),if_pos hop]at x4
  exact⟨x3,x4⟩
 ·rw[if_neg (by omega)]at x3
  rw[if_neg (by omega),if_neg (by omega),if_neg (by omega),if_neg (by omega),if_pos hop]at x4
  omega
def stepP(m:Pu.Md)(who gas:Int)(n:Nat)(x:Int × Int)(g:Gg)(r:Rm):Gg × Rm:=
 if x.1=14 then
  if 8<=g.depth then({ g with err:=9 },r)
  else
   let c:=m.funcs.getD x.2.toNat ⟨[],[],[],[]⟩
   let a:=args c.params c.params.length g r []
   let o:=go m who gas n c 0 { a.2.1 with depth:=a.2.1.depth+1 } (room c a.1)
   puts o.1 o.2 a.2.2
 else plain m who x g r
theorem keeps_plain{m:Pu.Md}{who:Int}{x:Int × Int}{g:Gg}{r:Rm}{pl n:Nat}(hi:Ins m pl n x)(h:Ok m r)(hk:r.kinds.length=pl)(hop:¬(x.1=0\/x.1=6\/x.1=7\/x.1=14\/x.1=18)):Keeps m g (plain m who x g r):=by
 unfold plain
 simp only
 split
 ·exact keeps_put h (zero_kind m) _ (by omega) rfl rfl
 split
 ·exact keeps_two h _
 split
 ·rename_i h8
  have:=hi.spot h8
  exact keeps_spot h _ (by omega)
 split
 ·exact keeps_drop h
 split
 ·exact keeps_turn m h 0 (by have:=hi.kind (by omega);omega)
 split
 ·exact keeps_turn m h x.2 (zero_kind m)
 ·exact keeps_account h who x.1 (by have:=hi.kind (by have:=hi.op;omega);omega)
theorem room_ok{m:Pu.Md}{c:Pu.Fn}(hc:Pu.isFn c m.kinds.length m.funcs.length=true){l:List (Int × Int)}(hl:l.length=c.params.length):Ok m (room c l)/\(room c l).kinds.length=(Fl.places c).length:=by
 obtain⟨_,hp8⟩:=fn_small hc
 simp only[Pu.isFn,Pu.isList,Bool.and_eq_true,decide_eq_true_eq,List.all_eq_true]at hc
 obtain⟨⟨_,p2⟩,_,⟨_,l2⟩,_⟩:=hc
 have hpl:(Fl.places c).length=c.params.length+c.locals.length:=by unfold Fl.places;rw[List.length_append]
 refine⟨⟨fun v hv=>?_,?_,fun k hk=>?_,?_,?_⟩,?_⟩
 ·simp[room]at hv
 ·simp[room,hl]
 ·rcases List.mem_append.1 (show k∈c.params++c.locals from hk)with hk|hk
  ·exact p2 k hk
  ·exact l2 k hk
 ·simp[room]
 ·show(c.params++c.locals).length<=8;rw[List.length_append];omega
 ·show(c.params++c.locals).length=_;rw[List.length_append];omega
structure Runs (m:Pu.Md) (gas:Int) (g:Gg) (p:List (Int × Int) × Gg):Prop where
 vs:∀v∈p.1,0<=v.1/\v.1<=m.kinds.length
 len:p.1.length<=16
 u1:g.used<=p.2.used
 u2:p.2.used<=gas
 hh:p.2.holds.length+(gas-p.2.used).toNat<=g.holds.length+(gas-g.used).toNat
 dp:p.2.err=0->p.2.depth=g.depth-1
structure Steps (m:Pu.Md) (gas:Int) (g:Gg) (r:Rm) (p:Gg × Rm):Prop where
 ok:Ok m p.2
 ks:p.2.kinds=r.kinds
 u1:g.used<=p.1.used
 u2:p.1.used<=gas
 hh:p.1.holds.length+(gas-p.1.used).toNat<=g.holds.length+(gas-g.used).toNat+1
 dp:p.1.err=0->p.1.depth=g.depth
theorem go_stop{m:Pu.Md}{who gas:Int}{n:Nat}{f:Pu.Fn}{a:Int}{g:Gg}{r:Rm}(h:g.err≠0)(hu:g.used<=gas):Runs m gas g (go m who gas n f a g r):=by
 rw[go_err h]
 exact⟨by simp,by simp,Int.le_refl _,hu,Nat.le_refl _,fun he=>absurd he h⟩
theorem go_one{m:Pu.Md}{who gas:Int}{n:Nat}{f:Pu.Fn}{a:Int}{g:Gg}{r:Rm}(he:g.err=0)(hu:¬gas<=g.used)(ha:¬(f.code.length:Int)<=a){x:Int × Int}(hx:x=f.code.getD a.toNat (0,0)):
  go m who gas (n+1) f a g r=if x.1=0 then(r.stk,{ wrong (badRet m f r) 99 { g with used:=g.used+1 } with depth:=(wrong (badRet m f r) 99 { g with used:=g.used+1 }).depth-1 })
   else if x.1=6 then go m who gas n f x.2 { g with used:=g.used+1 } r
   else if x.1=7 then go m who gas n f (if(take 0 { g with used:=g.used+1 } r).1≠0 then x.2 else a+1) (take 0 { g with used:=g.used+1 } r).2.1 (take 0 { g with used:=g.used+1 } r).2.2
   else if x.1=18 then go m who gas n f (a+1) { g with used:=g.used+1,err:=10,code:=x.2 } r
   else go m who gas n f (a+1) (stepP m who gas n x { g with used:=g.used+1 } r).1 (stepP m who gas n x { g with used:=g.used+1 } r).2:=by
 rw[go,if_neg (fun h=>h he),if_neg hu]
 simp only
 rw[if_neg ha,<-hx]
 by_cases h0:x.1=0
 ·rw[if_pos h0,if_pos h0]
 rw[if_neg h0,if_neg h0]
 by_cases h6:x.1=6
 ·rw[if_pos h6,if_pos h6]
 rw[if_neg h6,if_neg h6]
 by_cases h7:x.1=7
 ·rw[if_pos h7,if_pos h7]
 rw[if_neg h7,if_neg h7]
 by_cases h18:x.1=18
 ·rw[if_pos h18,if_pos h18]
 rw[if_neg h18,if_neg h18]
 unfold stepP
 by_cases h14:x.1=14
 ·rw[if_pos h14,if_pos h14]
  split<;>rfl
 ·rw[if_neg h14,if_neg h14]
theorem step_keeps{m:Pu.Md}{who gas:Int}(his:Pu.isMd m=true){n:Nat}(ih:∀{f:Pu.Fn} {a:Int} {g:Gg} {r:Rm},Pu.isFn f m.kinds.length m.funcs.length=true->0<=a->Ok m r->r.kinds.length=(Fl.places f).length->g.used<=gas->(gas-g.used).toNat<n->Runs m gas g (go m who gas n f a g r)){pl nc:Nat}{x:Int × Int}{g:Gg}{r:Rm}(hi:Ins m pl nc x)(h:Ok m r)(hk:r.kinds.length=pl)(hop:¬(x.1=0\/x.1=6\/x.1=7\/x.1=18))(hu:g.used<=gas)(hn:(gas-g.used).toNat<n):Steps m gas g r (stepP m who gas n x g r):=by
 unfold stepP
 by_cases h14:x.1=14
 ·rw[if_pos h14]
  have hc:=hi.call h14
  by_cases h8:8<=g.depth
  ·rw[if_pos h8]
   exact⟨h,rfl,Int.le_refl _,hu,by show g.holds.length+(gas-g.used).toNat<=_;omega,fun he=>absurd he (by show(9:Int)≠0;decide)⟩
  ·rw[if_neg h8]
   simp only
   have hfn:=(md_small his).2 (m.funcs.getD x.2.toNat ⟨[],[],[],[]⟩) (by rw[List.getD_eq_getElem?_getD,List.getElem?_eq_getElem (by omega)];exact List.getElem_mem _)
   generalize m.funcs.getD x.2.toNat ⟨[],[],[],[]⟩=c at *
   obtain⟨a1,a2,a3,a4,a5⟩:=Dw.args_keep c.params m c.params.length (g:=g) (r:=r) [] h
   have a6:=args_kinds c.params c.params.length g r []
   generalize args c.params c.params.length g r []=A at *
   obtain⟨al,ag,ar⟩:=A
   simp only[List.length_nil,Nat.add_zero]at *
   obtain⟨r1,r2⟩:=room_ok hfn a1
   have R:=ih (g:={ ag with depth:=ag.depth+1 }) hfn (Int.le_refl 0) r1 r2 (by show ag.used<=gas;rw[a4];exact hu) (by show(gas-ag.used).toNat<n;rw[a4];exact hn)
   generalize go m who gas n c 0 { ag with depth:=ag.depth+1 } (room c al)=o at *
   obtain⟨ol,og⟩:=o
   obtain⟨v1,v2,v3,v4,v5,v6⟩:=R
   simp only at *
   obtain⟨b1,b2,b3,b4,b5,b6⟩:=puts_keep ol (g:=og) a2 v1
   refine⟨b1,b5.trans a6,by rw[b3];omega,by rw[b3];exact v4,by rw[b2,b3];rw[a3,a4]at v5;omega,fun he=>?_⟩
   have h0:og.err=0:=by
    by_cases h0:og.err=0
    ·exact h0
    ·exact absurd he (b6 h0)
   rw[b4,v6 h0,a5]
   omega
 ·rw[if_neg h14]
  have K:=keeps_plain (who:=who) (g:=g) hi h hk (by omega)
  exact⟨K.ok,plain_kinds _ _ _ _ _,by rw[K.used];omega,by rw[K.used];exact hu,by have:=K.hh;rw[K.used];omega,fun _=>K.depth⟩
theorem go_keeps{m:Pu.Md}{who gas:Int}(his:Pu.isMd m=true):∀(n:Nat) {f:Pu.Fn} {a:Int} {g:Gg} {r:Rm},Pu.isFn f m.kinds.length m.funcs.length=true->0<=a->Ok m r->r.kinds.length=(Fl.places f).length->g.used<=gas->(gas-g.used).toNat<n->Runs m gas g (go m who gas n f a g r)
 | 0,_,_,_,_,_,_,_,_,_,hn=>absurd hn (by omega)
 | n+1,f,a,g,r,hf,ha0,hok,hk,hu,hn=>by
  by_cases he:g.err=0
  rotate_left
  ·exact go_stop he hu
  by_cases hg:gas<=g.used
  ·rw[go,if_neg (fun h=>h he),if_pos hg]
   exact⟨by simp,by simp,Int.le_refl _,hu,Nat.le_refl _,fun h=>absurd h (by show(5:Int)≠0;decide)⟩
  by_cases ha:(f.code.length:Int)<=a
  ·rw[go,if_neg (fun h=>h he),if_neg hg]
   simp only
   rw[if_pos ha]
   exact⟨by simp,by simp,by show g.used<=g.used+1;omega,by show g.used+1<=gas;omega,by show g.holds.length+(gas-(g.used+1)).toNat<=_;omega,fun h=>absurd h (by show(99:Int)≠0;decide)⟩
  have hi:=ins_of hf (i:=a.toNat) (by omega)
  rw[go_one he hg ha rfl]
  generalize f.code.getD a.toNat (0,0)=x at *
  have more:∀{p:List (Int × Int) × Gg} {g1:Gg},Runs m gas g1 p->g.used+1<=g1.used->g1.holds.length+(gas-g1.used).toNat<=g.holds.length+(gas-g.used).toNat->(g1.err=0->g1.depth=g.depth)->(p.2.err=0->g1.err=0)->Runs m gas g p:=fun R e1 e2 e3 e4=>
   ⟨R.vs,R.len,by have:=R.u1;omega,R.u2,Nat.le_trans R.hh e2,fun h=>by rw[R.dp h,e3 (e4 h)]⟩
  have stuck:∀{f:Pu.Fn} {a:Int} {g1:Gg} {r1:Rm},(go m who gas n f a g1 r1).2.err=0->g1.err=0:=fun {f a g1 r1} h=>by
   by_cases h1:g1.err=0
   ·exact h1
   ·rw[go_err h1]at h;exact absurd h h1
  split
  ·obtain⟨w1,w2,w3⟩:=wrong_same (P:=badRet m f r) 99 { g with used:=g.used+1 }
   refine⟨hok.vs,hok.st,?_,?_,?_,fun _=>?_⟩
   ·show g.used<=(wrong (badRet m f r) 99 { g with used:=g.used+1 }).used;rw[w2];show g.used<=g.used+1;omega
   ·show(wrong (badRet m f r) 99 { g with used:=g.used+1 }).used<=gas;rw[w2];show g.used+1<=gas;omega
   ·show(wrong (badRet m f r) 99 { g with used:=g.used+1 }).holds.length+(gas-(wrong (badRet m f r) 99 { g with used:=g.used+1 }).used).toNat<=_;rw[w1,w2];show g.holds.length+(gas-(g.used+1)).toNat<=_;omega
   ·show(wrong (badRet m f r) 99 { g with used:=g.used+1 }).depth-1=_;rw[w3]
  split
  ·rename_i h6
   have:=hi.jump (.inl h6)
   exact more (go_keeps his n (g:={ g with used:=g.used+1 }) hf this.1 hok hk (by show g.used+1<=gas;omega) (by show(gas-(g.used+1)).toNat<n;omega)) (Int.le_refl _) (by show g.holds.length+(gas-(g.used+1)).toNat<=_;omega) (fun _=>rfl) stuck
  split
  ·rename_i h7
   have hj:=hi.jump (.inr h7)
   obtain⟨t1,t2,t3,t4⟩:=ok_take hok 0 { g with used:=g.used+1 }
   have t5:=take_kinds 0 { g with used:=g.used+1 } r
   generalize take 0 { g with used:=g.used+1 } r=t at *
   obtain⟨tn,tg,tr⟩:=t
   simp only at *
   refine more (go_keeps his n hf ?_ t1 (by rw[t5];exact hk) (by omega) (by omega)) (by omega) (by rw[t2,t3];omega) (fun _=>t4) stuck
   split<;>omega
  split
  ·exact more (go_stop (g:={ g with used:=g.used+1,err:=10,code:=x.2 }) (by show(10:Int)≠0;decide) (by show g.used+1<=gas;omega)) (Int.le_refl _) (by show g.holds.length+(gas-(g.used+1)).toNat<=_;omega) (fun _=>rfl) stuck
  ·have S:=step_keeps (who:=who) (gas:=gas) his (go_keeps his n) (g:={ g with used:=g.used+1 }) hi hok hk (by omega) (by show g.used+1<=gas;omega) (by show(gas-(g.used+1)).toNat<n;omega)
   generalize stepP m who gas n x { g with used:=g.used+1 } r=p at *
   obtain⟨pg,pr⟩:=p
   obtain⟨s1,s2,s3,s4,s5,s6⟩:=S
   simp only at *
   exact more (go_keeps his n hf (by omega) s1 (by rw[s2];exact hk) s4 (by omega)) s3 (by omega) s6 stuck
end Dr
namespace Dw
open Dr (Gg Rm)
theorem plain_all(m:Pu.Md)(n:Nat)(hT:TH m n)(w:World)(B gq rq:Nat)(C:Cx)(g:Gg)(r:Rm)(op arg:Int)(pl nc:Nat)(h:SO w B gq rq C g r)(hm:MdR w gq C.ck C.cf m)(his:Pu.isMd m=true)(hok:Dr.Ok m r)(hi:Dr.Ins m pl nc (op,arg))(hk:r.kinds.length=pl)(he:g.err=0)(hop:¬(op=0\/op=6\/op=7\/op=18))(hfuel:(C.gas-g.used).toNat<n)(hh:g.holds.length+(C.gas-g.used).toNat<=800000)(hdu:0<=g.depth/\0<=g.used/\g.used<=C.gas/\C.gas<=10000):
  Calls Tryz.prog 86 #[.pointer (some ⟨gq,0,none⟩),.pointer (some ⟨rq,0,none⟩),.agg #[.int .i64 op,.int .i64 arg]] w fun e w'=>PlOut w w' B gq rq C (Dr.stepP m C.who C.gas n (op,arg) g r) e:=by
 have hr:Rd2 m g r:=⟨hok.sl,hok.ks,hok.st,hok.k8,by omega⟩
 by_cases h14:op=14
 ·have e:Dr.stepP m C.who C.gas n (op,arg) g r=callP m C n (m.funcs.getD arg.toNat ⟨[],[],[],[]⟩) g r:=by
   unfold Dr.stepP callP
   rw[if_pos h14]
  rw[e]
  exact plain14 m n hT w B gq rq C g r op arg h hm h14 (hi.call h14) his hok hfuel hh hdu
 ·have e:Dr.stepP m C.who C.gas n (op,arg) g r=Dr.plain m C.who (op,arg) g r:=by
   unfold Dr.stepP
   rw[if_neg h14]
  rw[e]
  have h18:=hi.op
  simp only at h18
  have hs:op=8\/op=9\/op=10->0<=arg/\arg<r.kinds.length:=fun hh=>by rw[hk];exact hi.spot hh
  by_cases h11:op=11
  ·exact plain11 w B gq rq C m g r op arg h hm hr h11 he hok.vs
  by_cases h12:op=12
  ·exact plain12 w B gq rq C m g r op arg h hm hr h12
  by_cases h13:op=13
  ·exact plain13 w B gq rq C m g r op arg h hm hr h13
  exact plainA w B gq rq C m g r op arg h hm hr (by omega) hs
def Cx.inn(C:Cx)(w:World)(gq:Nat)(hv:Value):Cx:={ C with P:=fun k=>k<w.heap.size+1/\k≠gq/\hv.ownBlock≠some k }
theorem room_new{w:World}{gq:Nat}{C:Cx}{g:Gg}{hv:Value}(h:GoX w gq C g hv)(O:Obj):
  Sx ((w.alloc O).alloc (.cells #[.slice none 0 0,.slice none 0 0,.slice none 0 0] 190)) (w.heap.size+1) gq (w.heap.size+1) (C.inn w gq hv) g ⟨[],[],[]⟩ hv (.slice none 0 0) (.slice none 0 0) (.slice none 0 0):=by
 have hg:gq<w.heap.size:=(Array.getElem?_eq_some_iff.1 h.b).1
 have b1:=(Below.refl w.heap.size w).alloc (Nat.le_refl _) O
 have b2:=(Below.refl (w.alloc O).heap.size (w.alloc O)).alloc (Nat.le_refl _) (.cells #[.slice none 0 0,.slice none 0 0,.slice none 0 0] 190)
 have hb:Below w.heap.size w ((w.alloc O).alloc (.cells #[.slice none 0 0,.slice none 0 0,.slice none 0 0] 190)):=b1.trans (b2.mono b1.size)
 have hbl:bl [hv,.slice none 0 0,.slice none 0 0,.slice none 0 0]=hv.ownBlock.toList:=by simp[bl,Value.ownBlock]
 have hlt:∀k,hv.ownBlock=some k->k<w.heap.size:=fun k hk=>(h.ho.lt k hk).2
 refine⟨(hb.block _ hg).trans h.b,?_,owns_block h.ho fun k hk=>hb.block k (hlt k hk),World.ownsRow_nil _ _ _ _,World.ownsRow_nil _ _ _ _,World.ownsRow_nil _ _ _ _,by omega,Nat.le_refl _,?_,fun k hk=>?_⟩
 ·have:=heap_alloc_new (w.alloc O) (.cells #[.slice none 0 0,.slice none 0 0,.slice none 0 0] 190)
  simpa using this
 ·rw[hbl]
  have hne:=h.ne
  cases hk:hv.ownBlock with
  | none=>simp;omega
  | some k=>
   have:=hlt k hk
   rw[hk]at hne
   simp only[ne_eq,Option.some.injEq]at hne
   simp only[Option.toList_some,List.nodup_cons,List.mem_cons,List.not_mem_nil,or_false,not_or,not_false_eq_true,List.nodup_nil,and_true]
   omega
 ·obtain⟨k1,k2,k3⟩:=hk
  rw[hbl]
  refine⟨by simp;omega,?_⟩
  simp only[List.mem_cons,not_or]
  refine⟨k2,by omega,fun hm=>k3 (by simpa using hm)⟩
theorem th_out{w W1 w':World}{gq:Nat}{C:Cx}{hv:Value}{g:Gg}{r:Rm}{hv' sv pv kv v:Value}{l:List (Int × Int)}{g':Gg}(h:Sx w' (w.heap.size+1) gq (w.heap.size+1) (C.inn w gq hv) g r hv' sv pv kv)(hb:Below w.heap.size w W1)(hL:Lo (w.heap.size+1) gq (C.inn w gq hv).P W1 w')(ho:w'.ownsRow (w.heap.size+1) 192 2 v l.length (vc l))(hn:∀k,v.ownBlock=some k->hv'.ownBlock≠some k)(hg:g=g'):ThOut w w' gq C hv (l,g') (.returned v):=by
 subst hg
 have hx:=h.gox
 refine⟨v,hv',rfl,owns_base ho (by omega),⟨hx.b,hx.ho,hx.ne⟩,?_,hn,⟨hL.os.trans hb.os,hL.tape.trans hb.tape,hL.output.trans hb.output,Nat.le_trans hb.size hL.size,fun k hk hr=>(hL.block k (.inl ⟨by omega,fun e=>hr (by rw[e])⟩)).trans (hb.block k hk)⟩⟩
 cases hk:hv'.ownBlock with
 | none=>exact .inr fun k hk2=>by cases hk2
 | some k=>
  by_cases hkw:w.heap.size<=k
  ·exact .inr fun k2 hk2=>by cases hk2;exact hkw
  ·left
   have hp:¬(C.inn w gq hv).P k:=h.npb (v:=hv') (by simp) hk
   have hne:k≠gq:=(h.apart.2 k (mem_bl (v:=hv') (by simp) hk)).1
   by_cases hh:hv.ownBlock=some k
   ·rw[hh]
   ·exact absurd ⟨by omega,hne,hh⟩ hp
end Dw
end Go.Proofs.YtjamgmbdilkbcaaGreat
