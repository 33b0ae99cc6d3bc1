import PyProof.Rows.All
import Wide.All
import OpenK.AllK
import Wide.FinOn
import PyProof.EqAt
import PyProof.EqKinds
import PyProof.TupleCall
import KE.BitLaws
import Open.SpecLaws
import KE.OsHead
import KE.OsGo
import PySem.Challenge.RW_flightplans_s01_answers
set_option Elab.async false
set_option linter.all false
set_option maxRecDepth 100000
open Array (ext' getElem?_toList length_toList)
open Bool (and_eq_true false_eq_true not_eq_false not_eq_true not_eq_true' or_eq_true)
open Int (add_mul toNat_natCast)
open List (Nodup all_cons all_eq_true all_map any_cons any_eq_false any_eq_true any_map append_assoc append_nil contains_iff_mem count_cons drop_eq_getElem_cons drop_eq_nil_of_le ext_getElem? filter filter_append filter_congr filter_cons find?_cons find?_eq_none findSome?_cons flatMap_cons flatten_cons foldl_append foldl_cons forIn_cons forIn_nil getD_eq_getElem?_getD getElem?_append_left getElem?_append_right getElem?_eq_getElem getElem?_eq_none getElem?_inj getElem?_map getElem?_of_mem getElem?_range getElem?_set getElem_mem length_append length_cons length_drop length_eq_zero_iff length_filter_le length_map length_nil length_range length_replicate length_reverse length_set length_singleton length_take length_take_le' length_zip lookup_cons map_append map_congr_left map_cons map_fst_zip map_id map_map map_nil map_set mem_append mem_append_left mem_append_right mem_cons mem_cons_of_mem mem_cons_self mem_filter mem_flatMap mem_flatten mem_map mem_of_getElem? mem_of_head? mem_of_mem_take mem_range mem_singleton nil_append nodup_append nodup_cons nodup_nil nodup_range not_mem_nil of_mem_zip pairwise_cons pairwise_lt_range range_succ replicate_succ reverse_cons size_toArray sublist_nil sum_append sum_cons take_length take_zero zip_cons_cons)
open Nat (le_add_right le_of_eq le_of_lt le_of_succ_le le_refl le_succ le_trans lt_irrefl lt_of_lt_of_le lt_succ_of_lt lt_succ_self lt_trans min_le_left min_self mul_assoc mul_comm ne_of_gt ne_of_lt pow_pos pow_succ zero_add zero_le)
open PySem.Heap (Ns SameBut get?_push_of_some get?_push_size get?_update_other get?_update_self lt_size size_push)
open PySem.SetTable (below bits fits grown insertAt layClean probe relaid road roomFor sizeAbove tooFull turns)
open PySem.W (Frag WRecords WalkOS callWith_K callWith_K0 codeIn emptyDict findIn fnOf handedIn hasDictIn instObj isFn keepIn ktu_apart lookIn makesIn methodCall_KW methodObj mg_none_of mg_of nsIn plainGet plainGet_of plainOver takerIn)
open Vbreai (Answer Call Cost FLIGHTS Flight MOST Pair allFares boatsFor boatsIn boatsOf cheaper costOf counted degree distinct doubled fare flightOf flights flightsFrom greatest inUse inside isBoat isCrew lack leastOf mayHave nearer onPair orNone price priceOf priceWith proved repaired subsets wishes worst)
namespace L2
open PySem PySem.Spec PyProof.Rows
abbrev Key:=Sum Int Str
def rF:Key->Value->Bool
  | .inl k,v=>Value.isInt k v
  | .inr x,v=>Value.isStrOf x v
def ah8(w:World):Key->Int
  | .inl k=>hashInt k
  | .inr x=>hashStr w x
theorem cE:∀{k:Key} {v:Value},rF k v=true->(∃i t,k=Sum.inl i/\v=Value.int i t)\/(∃x t,k=Sum.inr x/\v=Value.str x t)
  | .inl i,v,h=>by obtain⟨t,e⟩:=Value.isInt_shape (k:=i) (v:=v) h;exact .inl ⟨i,t,rfl,e⟩
  | .inr x,v,h=>by obtain⟨t,e⟩:=Value.isStrOf_shape (x:=x) (v:=v) h;exact .inr ⟨x,t,rfl,e⟩
theorem U4(i:Int)(t:Tok):rF (.inl i) (.int i t)=true:=by simp[rF,Value.isInt]
theorem U5(x:Str)(t:Tok):rF (.inr x) (.str x t)=true:=by simp[rF,Value.isStrOf]
theorem aee(a b:Int):decide ((Sum.inl a:Key)=Sum.inl b)=(a==b):=by
  by_cases e:a=b
  . subst e;simp
  . have h:¬(Sum.inl a:Key)=Sum.inl b:=fun q=>e (Sum.inl.inj q);rw[decide_eq_false h];exact(beq_eq_false_iff_ne.mpr e).symm
theorem aeh(a b:Str):decide ((Sum.inr a:Key)=Sum.inr b)=decide (a=b):=by
  by_cases e:a=b
  . subst e;simp
  . have h:¬(Sum.inr a:Key)=Sum.inr b:=fun q=>e (Sum.inr.inj q);rw[decide_eq_false h,decide_eq_false e]
theorem aef(a:Int)(b:Str):decide ((Sum.inl a:Key)=Sum.inr b)=false:=decide_eq_false (fun q=>nomatch q)
theorem aeg(a:Str)(b:Int):decide ((Sum.inr a:Key)=Sum.inl b)=false:=decide_eq_false (fun q=>nomatch q)
def bw(prog:Program)(w:World):PySem.KeyKind prog w Key where
  is:=rF
  hash:=ah8 w
  inj:=fun v a b ha hb=>by
    rcases cE ha with⟨i,t,rfl,rfl⟩ | ⟨x,t,rfl,rfl⟩
    . rcases cE hb with⟨j,u,rfl,e⟩ | ⟨y,u,rfl,e⟩
      . injection e with e1 _;rw[e1]
      . exact nomatch e
    . rcases cE hb with⟨j,u,rfl,e⟩ | ⟨y,u,rfl,e⟩
      . exact nomatch e
      . injection e with e1 _;rw[e1]
  byValue:=fun k v h=>by rcases cE h with⟨i,t,rfl,rfl⟩ | ⟨x,t,rfl,rfl⟩<;>rfl
  pyHash:=fun hv h=>by
    rcases cE hv with⟨i,t,rfl,rfl⟩ | ⟨x,t,rfl,rfl⟩
    . exact wpAny_pyHash_int h
    . exact wpAny_pyHash_str h
  eqBool:=fun hu hv h=>by
    rcases cE hu with⟨i,t,rfl,rfl⟩ | ⟨x,t,rfl,rfl⟩
    . rcases cE hv with⟨j,u,rfl,rfl⟩ | ⟨y,u,rfl,rfl⟩
      . rw[aee]at h;exact wpAny_eqBool_int h
      . rw[aef]at h;exact SeqAt.EqAt.int_str i t y u _ _ _ _ h
    . rcases cE hv with⟨j,u,rfl,rfl⟩ | ⟨y,u,rfl,rfl⟩
      . rw[aeg]at h;exact SeqAt.EqAt.str_int x t j u _ _ _ _ h
      . rw[aeh]at h;exact wpAny_eqBool_str h
  «strs»:=fun k x t v h=>by
    rcases cE h with⟨i,u,rfl,e⟩ | ⟨y,u,rfl,e⟩
    . exact nomatch e
    . injection e with e1 _;subst e1;cases v<;>rfl
theorem Ni(prog:Program)(w:World)(i:Int)(t:Tok):(bw prog w).is (.inl i) (.int i t)=true:=U4 i t
theorem Nj(prog:Program)(w:World)(x:Str)(t:Tok):(bw prog w).is (.inr x) (.str x t)=true:=U5 x t
end L2
namespace L2
open PySem PySem.Spec PyProof.Rows
inductive V where
  | dZ | bl (b:Bool) | int (i:Int) | str (x:Str) | JM (b:Array UInt8) | flt (b:UInt64) | ref (a:Addr) | ty (n:String)
  deriving DecidableEq
def RelV:V->Value->Prop
  | .dZ,u=>u=Value.none
  | .bl b,u=>u=Value.bool b
  | .int i,u=>∃t,u=Value.int i t
  | .str x,u=>∃t,u=Value.str x t
  | .JM b,u=>∃t,u=Value.bytes b t
  | .flt b,u=>∃t,u=Value.float b t
  | .ref a,u=>u=Value.ref a
  | .ty n,u=>u=Value.type n
abbrev Vals:List V->List Value->Prop:=Paired RelV
theorem Vals.length{xs:List V}{us:List Value}(r:Vals xs us):xs.length=us.length:=Paired.length r
theorem Vals.get:∀{xs:List V} {us:List Value} {i:Nat} {x:V},Vals xs us->xs[i]? =some x->∃u,us[i]? =some u/\RelV x u
  | _,_,_,_,.nil,e=>by simp at e
  | _,_,0,_,.cons r _,e=>by simp at e;subst e;exact⟨_,rfl,r⟩
  | _,_,i+1,x,.cons _ t,e=>by obtain⟨u,h1,h2⟩:=Vals.get (i:=i) (x:=x) t (by simpa using e);exact⟨u,by simpa using h1,h2⟩
theorem Vals.set{x:V}{u:Value}(r:RelV x u):∀{xs:List V} {us:List Value} (i:Nat),Vals xs us->Vals (xs.set i x) (us.set i u)
  | _,_,_,.nil=>.nil
  | _,_,0,.cons _ t=>.cons r t
  | _,_,i+1,.cons q t=>.cons q (Vals.set r i t)
theorem Vals.append:∀{xs ys:List V} {us ws:List Value},Vals xs us->Vals ys ws->Vals (xs++ys) (us++ws)
  | _,_,_,_,.nil,s=>s
  | _,_,_,_,.cons r t,s=>.cons r (Vals.append t s)
theorem Vals.take:∀{xs:List V} {us:List Value} (n:Nat),Vals xs us->Vals (xs.take n) (us.take n)
  | _,_,0,_=>.nil
  | _,_,_+1,.nil=>.nil
  | _,_,n+1,.cons r t=>.cons r (Vals.take n t)
theorem Vals.drop:∀{xs:List V} {us:List Value} (n:Nat),Vals xs us->Vals (xs.drop n) (us.drop n)
  | _,_,0,r=>r
  | _,_,_+1,.nil=>.nil
  | _,_,n+1,.cons _ t=>Vals.drop n t
def tE:Option V->Option Value->Prop
  | some v,some u=>RelV v u
  | none,none=>True
  | _,_=>False
def KV{κ:Type}:List (κ×V)->List (κ×Value)->Prop:=Paired fun(p:κ×V) (q:κ×Value)=>p.1=q.1/\RelV p.2 q.2
def kV:Key->V
  | .inl i=>.int i
  | .inr x=>.str x
inductive HO where
  | lst (xs:List V)
  | tup (xs:List V)
  | dK (aB:List (Key×V)) | dT (aB:List (List Key×V))
  | set (S:Int->Bool) (n:Nat)
  | ins (C dx:Addr) (fs:List (Str×V))
  | own (x:Addr)
  | xd (fs:List (Str×V))
  | met (f x:Addr)
  | rng (lo hi:Int)
  | gG (o:Obj) (u:HO)
  | tbl (ps:Array Value)
  | ext (φ:Heap->Prop)
abbrev Hp:=Addr->Option HO
def upd(H:Hp)(a:Addr)(o:HO):Hp:=fun b=>if b=a then some o else H b
theorem ae{H:Hp}{a:Addr}{o:HO}:upd H a o a=some o:=by unfold upd;rw[if_pos rfl]
theorem au{H:Hp}{a b:Addr}{o:HO}(h:b≠a):upd H a o b=H b:=by unfold upd;rw[if_neg h]
theorem acD{H:Hp}{a:Addr}{o u:HO}:upd (upd H a o) a u=upd H a u:=by funext b;unfold upd;split<;>rfl
theorem agq{H:Hp}{a b:Addr}{o u:HO}(h:H a=some o)(h':H b=some u)(d:o≠u):a≠b:=by intro e;subst e;rw[h]at h';exact d (Option.some.inj h')
theorem aM{H:Hp}{a b:Addr}{o:HO}(h:H a=some o)(h':H b=none):a≠b:=by intro e;subst e;rw[h]at h';cases h'
section
variable(P:Program)(w:World)
def cJ(H:Hp)(h:Heap)(a:Addr):HO->Prop
  | .lst xs=>xs.length<=sizeLine/\∃(aX:List Value) (n:Nat),Vals xs aX/\h.get? a=some { cls:=.type "list",data:=.seq aX.toArray n}
  | .tup xs=>xs.length<=sizeLine/\∃aX:List Value,Vals xs aX/\IsTup h a aX.toArray
  | .dK aB=>aB.length<=sizeLine/\(a==sysModules)=false/\∃vs,KV aB vs/\h.DictOf (bw P w) a vs
  | .dT aB=>aB.length<=sizeLine/\(a==sysModules)=false/\∃xs:List (List Key×Addr×Value),
      Paired (fun(p:List Key×V) (q:List Key×Addr×Value)=>p.1=q.1/\H q.2.1=some (.tup (p.1.map kV))/\RelV p.2 q.2.2) aB xs/\
      ∃o es ep,h.get? a=some o/\o.ExactDict/\o.data=.dict es ep/\es.toList=xs.map (entryOfKey (tupleKind (bw P w)))/\(xs.map (·.1)).Nodup
  | .set S n=>h.SetOf (intKind P w) a S n
  | .ins C dx fs=>H dx=some (.own a)/\fs.length<=1000/\dx≠a/\h.get? a=some (instObj C dx)/\
      ∃mA,h.Ns1 dx mA/\(∀f,tE (fs.lookup f) (mA f))/\PySem.Within mA (fs.map (·.1))
  | .own _=>∃o,h.get? a=some o
  | .xd fs=>∃mA,h.Ns1 a mA/\∀f,tE (fs.lookup f) (mA f)
  | .rng lo hi=>∃t u v,h.get? a=some { cls:=.type "range",data:=.fields #[.int lo t,.int hi u,.int 1 v]}
  | .gG o u=>h.get? a=some o/\cJ H h a u
  | .tbl ps=>h.get? a=some { cls:=.none,data:=.fields ps}
  | .met f x=>h.get? a=some (methodObj (.ref f) (.ref x))
  | .ext φ=>φ h/\(∃o,h.get? a=some o)/\∀h1 h2:Heap,φ h1->(∀o,h1.get? a=some o->h2.get? a=some o)->φ h2
def qt(H:Hp)(h:Heap):Prop:=∀a o,H a=some o->cJ P w H h a o
end
section
variable{P:Program}{w:World}{H H':Hp}{h h':Heap}{a:Addr}{o:HO}
theorem cJ.lt(x:cJ P w H h a o):a<h.objs.size:=by
  cases o with
  | lst xs=>obtain⟨_,_,_,_,e⟩:=x;exact lt_size e
  | tup xs=>obtain⟨_,_,_,p⟩:=x;exact p.lt
  | dK aB=>obtain⟨_,_,_,_,o,_,_,e,_⟩:=x;exact lt_size e
  | dT aB=>obtain⟨_,_,_,_,o,_,_,e,_⟩:=x;exact lt_size e
  | set S n=>obtain⟨o,_,_,_,e,_⟩:=x;exact lt_size e
  | ins C dx fs=>obtain⟨_,_,_,e,_⟩:=x;exact lt_size e
  | own y=>obtain⟨_,e⟩:=x;exact lt_size e
  | xd fs=>obtain⟨_,⟨_,_,_,e,_⟩,_⟩:=x;exact lt_size e
  | rng lo hi=>obtain⟨_,_,_,e⟩:=x;exact lt_size e
  | gG ob u=>obtain⟨e,_⟩:=x;exact lt_size e
  | tbl ps=>exact lt_size (show h.get? a=some _ from x)
  | met f y=>exact lt_size (show h.get? a=some _ from x)
  | ext φ=>obtain⟨_,⟨_,e⟩,_⟩:=x;exact lt_size e
theorem Paired.et{α β:Type}{F G:α->β->Prop}:∀{l₁:List α} {l₂:List β},Paired F l₁ l₂->(∀a b,F a b->G a b)->Paired G l₁ l₂
  | _,_,.nil,_=>.nil
  | _,_,.cons r t,f=>.cons (f _ _ r) (Paired.et t f)
theorem cJ.GK(x:cJ P w H h a o)(k:∀b u,(b=a\/H b=some (.own a))->h.get? b=some u->h'.get? b=some u)(ho:∀b,H b=some (.own a)->H' b=some (.own a))(ht:∀b xs,H b=some (.tup xs)->H' b=some (.tup xs)):cJ P w H' h' a o:=by
  induction o with
  | lst xs=>obtain⟨z,aX,n,r,e⟩:=x;exact⟨z,aX,n,r,k _ _ (.inl rfl) e⟩
  | tup xs=>obtain⟨z,aX,r,ob,e,c⟩:=x;exact⟨z,aX,r,ob,k _ _ (.inl rfl) e,c⟩
  | dK aB=>obtain⟨z,y,vs,r,ob,es,ep,e,c⟩:=x;exact⟨z,y,vs,r,ob,es,ep,k _ _ (.inl rfl) e,c⟩
  | dT aB=>obtain⟨z,y,xs,r,ob,es,ep,e,c⟩:=x;exact⟨z,y,xs,Paired.et r fun p q z=>⟨z.1,ht _ _ z.2.1,z.2.2⟩,ob,es,ep,k _ _ (.inl rfl) e,c⟩
  | set S n=>obtain⟨ob,es,ep,t,e,c⟩:=x;exact⟨ob,es,ep,t,k _ _ (.inl rfl) e,c⟩
  | ins C dx fs=>obtain⟨d,z,ne,e,mA,⟨od,es,ep,e2,c⟩,r⟩:=x;exact⟨ho _ d,z,ne,k _ _ (.inl rfl) e,mA,⟨od,es,ep,k _ _ (.inr d) e2,c⟩,r⟩
  | own y=>obtain⟨ob,e⟩:=x;exact⟨ob,k _ _ (.inl rfl) e⟩
  | xd fs=>obtain⟨mA,⟨od,es,ep,e,c⟩,r⟩:=x;exact⟨mA,⟨od,es,ep,k _ _ (.inl rfl) e,c⟩,r⟩
  | rng lo hi=>obtain⟨t,u,v,e⟩:=x;exact⟨t,u,v,k _ _ (.inl rfl) e⟩
  | gG ob u ih=>obtain⟨e,q⟩:=x;exact⟨k _ _ (.inl rfl) e,ih q⟩
  | tbl ps=>have e:h.get? a=some { cls:=.none,data:=.fields ps}:=x;show h'.get? a=some { cls:=.none,data:=.fields ps};exact k a _ (.inl rfl) e
  | met f y=>have e:h.get? a=some (methodObj (.ref f) (.ref y)):=x;show h'.get? a=some (methodObj (.ref f) (.ref y));exact k a _ (.inl rfl) e
  | ext φ=>obtain⟨p,⟨o,e⟩,st⟩:=x;exact⟨st _ _ p fun o q=>k _ _ (.inl rfl) q,⟨o,k _ _ (.inl rfl) e⟩,st⟩
theorem qt.lt(x:qt P w H h)(e:H a=some o):a<h.objs.size:=(x a o e).lt
theorem qt.fresh(x:qt P w H h)(e:h.objs.size<=a):H a=none:=by
  cases q:H a with
  | none=>rfl
  | some u=>exact absurd (lt_of_lt_of_le (x.lt q) e) (lt_irrefl _)
theorem qt.kept(x:qt P w H h)(k:∀b u,h.get? b=some u->h'.get? b=some u):qt P w H h':=fun a o e=>(x a o e).GK (fun b u _ q=>k b u q) (fun _ q=>q) fun _ _ q=>q
theorem qt.laid(x:qt P w H h)(k:∀b u,h.get? b=some u->h'.get? b=some u)(hp:h.objs.size<=a)(new:cJ P w (upd H a o) h' a o):qt P w (upd H a o) h':=fun b u e=>by
  have hn:=x.fresh hp;by_cases hb:b=a
  . subst hb;rw[ae]at e;cases e;exact new
  . rw[au hb]at e;exact(x b u e).GK (fun c v _ q=>k c v q) (fun c q=>by rw[au (aM q hn)];exact q) fun c xs q=>by rw[au (aM q hn)];exact q
end
def Rd(H:Hp)(a:Addr)(u:HO):Prop:=H a=some u\/∃o,H a=some (.gG o u)
theorem Rd.ok{P:Program}{w:World}{H:Hp}{h:Heap}{a:Addr}{u:HO}(r:Rd H a u)(x:qt P w H h):cJ P w H h a u:=by
  rcases r with r | ⟨o,r⟩
  . exact x a u r
  . obtain⟨_,q⟩:=x a _ r;exact q
def ZP:Option HO->Prop
  | some (.lst _)=>True
  | some (.dK _)=>True
  | some (.dT _)=>True
  | some (.set _ _)=>True
  | some (.ins _ _ _)=>True
  | some (.ext _)=>True
  | _=>False
section
variable{P:Program}{w:World}{H:Hp}{h h':Heap}{x e:Addr}{o':HO}
theorem qt.write(ok:qt P w H h)(mu:ZP (H x))(he:e=x\/H e=some (.own x))(k:∀b u,b≠e->h.get? b=some u->h'.get? b=some u)(heo:∃u,h'.get? e=some u)(new:cJ P w (upd H x o') h' x o'):qt P w (upd H x o') h':=fun b u q=>by
  have agr:∀c y,H c=some (.own y)->c≠x:=fun c y r z=>by subst z;rw[r]at mu;exact mu
  have aid:∀c xs,H c=some (.tup xs)->c≠x:=fun c xs r z=>by subst z;rw[r]at mu;exact mu
  by_cases hb:b=x
  . subst hb;rw[ae]at q;cases q;exact new
  . rw[au hb]at q;by_cases hbe:b=e
    . have q':H b=some (.own x):=by
        rcases he with z | z
        . exact absurd (hbe.trans z) hb
        . rw[hbe];exact z
      rw[q]at q';cases q';obtain⟨v,hv⟩:=heo;exact⟨v,by rw[hbe];exact hv⟩
    . refine(ok b u q).GK (fun c v hc r=>k c v ?_ r) (fun c r=>by rw[au (agr c b r)];exact r) fun c xs r=>by rw[au (aid c xs r)];exact r
      rcases hc with rfl | hc
      . exact hbe
      . rintro rfl;rcases he with z | z
        . exact agr c b hc z
        . rw[hc]at z;cases z;exact hb rfl
end
structure Un(fs ex:List Addr)(H H':Hp)(h h':Heap):Prop where
  keep:∀b o,h.get? b=some o->H b=none->b∉fs->b∉ex->h'.get? b=some o
  slot:∀b o,h.get? b=some o->H b=none->b∈fs->b∉ex->∃sl,h'.get? b=some { o with slots:=sl}
  free:∀b o,h.get? b=some o->H b=none->b∉ex->H' b=none
  there:∀b o,h.get? b=some o->b∉ex->∃o',h'.get? b=some o'
  LJ:∀b xs,H b=some (.tup xs)->H' b=some (.tup xs)
  EX:∀b o u,H b=some (.gG o u)->H' b=some (.gG o u)
  LH:∀b ps,H b=some (.tbl ps)->∃more,H' b=some (.tbl (ps++more))
section
variable{fs fs' ex ex':List Addr}{H H1 H2:Hp}{h h1 h2 h':Heap}{a x e:Addr}{o:HO}
theorem Un.any(u:Un fs ex H H1 h h1){b:Addr}{ob:Obj}(q:h.get? b=some ob)(n:H b=none)(hx:b∉ex):∃sl,h1.get? b=some { ob with slots:=sl}:=by
  by_cases hb:b∈fs
  . exact u.slot b ob q n hb hx
  . exact⟨ob.slots,u.keep b ob q n hb hx⟩
theorem Un.kept(k:∀b u,h.get? b=some u->h'.get? b=some u):Un fs ex H H h h':=
  ⟨fun b ob q _ _ _=>k b ob q,fun b ob q _ _ _=>⟨ob.slots,k b ob q⟩,fun _ _ _ n _=>n,fun b ob q _=>⟨ob,k b ob q⟩,fun _ _ q=>q,fun _ _ _ q=>q,fun _ ps q=>⟨#[],by rw[q];simp⟩⟩
theorem Un.refl:Un fs ex H H h h:=Un.kept fun _ _ q=>q
theorem Un.laid(k:∀b u,h.get? b=some u->h'.get? b=some u)(hp:h.objs.size<=a)(hn:H a=none):Un fs ex H (upd H a o) h h' where
  keep:=fun b u q _ _ _=>k b u q
  slot:=fun b u q _ _ _=>⟨u.slots,k b u q⟩
  free:=fun b u q n _=>by rw[au (ne_of_lt (lt_of_lt_of_le (lt_size q) hp))];exact n
  there:=fun b u q _=>⟨u,k b u q⟩
  LJ:=fun b xs q=>by rw[au (aM q hn)];exact q
  EX:=fun b u xs q=>by rw[au (aM q hn)];exact q
  LH:=fun b ps q=>⟨#[],by rw[au (aM q hn),q];simp⟩
theorem Un.write(mu:ZP (H x))(he:e=x\/H e=some (.own x))(k:∀b u,b≠e->h.get? b=some u->h'.get? b=some u)(heo:∃u,h'.get? e=some u):Un fs ex H (upd H x o) h h':=by
  have hx:∀b,H b=none->b≠x:=fun b n z=>by subst z;rw[n]at mu;exact mu
  have hb:∀b,H b=none->b≠e:=fun b n z=>by
    subst z;rcases he with r | r
    . exact hx b n r
    . rw[n]at r;cases r
  have hm:∀b u,H b=some u->¬ZP (some u)->b≠x:=fun b u q nm z=>by subst z;rw[q]at mu;exact nm mu
  refine⟨fun b u q n _ _=>k b u (hb b n) q,fun b u q n _ _=>⟨u.slots,k b u (hb b n) q⟩,fun b u q n _=>by rw[au (hx b n)];exact n,fun b u q _=>?_,
    fun b xs q=>by rw[au (hm b _ q fun z=>z)];exact q,fun b u xs q=>by rw[au (hm b _ q fun z=>z)];exact q,fun b ps q=>⟨#[],by rw[au (hm b _ q fun z=>z),q];simp⟩⟩
  by_cases hbe:b=e
  . subst hbe;exact heo
  . exact⟨u,k b u hbe q⟩
end
def trk(h:Heap)(H:Hp):List Addr:=(List.range h.objs.size).filter fun a=>(H a).isSome
def Kr(h:Heap)(H:Hp):Heap:=PySem.W.hideAll h (trk h H)
theorem UL(h:Heap)(H:Hp):(Kr h H).objs.size=h.objs.size:=PySem.W.hideAll_size _ _
theorem Xx{h:Heap}{H:Hp}{b:Addr}{o:Obj}(e:h.get? b=some o)(n:H b=none):(Kr h H).get? b=some o:=
  PySem.W.hideAll_get _ e fun hm=>by have q:(H b).isSome=true:=(mem_filter.mp hm).2;rw[n]at q;simp at q
theorem abr{h:Heap}{H:Hp}{b:Addr}{o:Obj}(e:(Kr h H).get? b=some o):h.get? b=some o/\H b=none:=by
  have e':h.get? b=some o:=PySem.W.of_hideAll (trk h H) e;refine⟨e',?_⟩;cases q:H b with
  | none=>rfl
  | some x=>have hm:b∈trk h H:=mem_filter.mpr ⟨mem_range.mpr (lt_size e'),by simp[q]⟩;have z:(Kr h H).get? b=none:=PySem.W.hideAll_none (trk h H) hm;rw[z]at e;cases e
end L2
namespace L2
open PySem PySem.Spec PyProof.Rows
structure Mod(K:Frag)(mg:Str->Option Value)(base:Heap):Prop where
  kin:K.In base
  glob:base.Ns mainGlobals mg
  blt:∃mb,base.Ns builtinsNs mb/\∀x:Str,x≠"__name__"->mb x=bootBuiltins x
  nolimit:base.NoLimit
structure Cx where
  prog:Program
  w:World
  K:Frag
  mg:Str->Option Value
  base:Heap
  A:Around
  N:List Str
  Jj:Shared
  H_0:Hp
  env:Env
  outer:List Env
  stack:List Env
  ex:List Addr
  fn:Str->Bool
  calm:Bool
  pn:List (Addr×Obj)
  xe:Value->Shared->Prop
def Xo(l:List Env):List Addr:=l.filterMap (·.frame)
abbrev Cx.fs(X:Cx):List Addr:=Xo X.outer
def Vis(sc:Scope)(x:Str):Prop:=sc.names.lookup x=some .local\/sc.names.lookup x=some .cell\/sc.names.lookup x=some .free
def Loc(sc:Scope)(x:Str):Prop:=sc.names.lookup x=some .local\/sc.names.lookup x=some .cell
def Look(env:Env)(h:Heap)(m:Str->Option Value)(x:Str)(u:Value):Prop:=
  (env.kindOf x=some .local/\m x=some u)\/((env.kindOf x=some .cell\/env.kindOf x=some .free)/\∃c,env.cells.lookup x=some c/\h.IsCell c (some u))
structure Cx.Ok(X:Cx):Prop where
  mod:Mod X.K X.mg X.base
  kind:X.env.scope.kind=.function
  glob:X.env.globals=mainGlobals
  blt:X.env.builtins=builtinsNs
  above:X.Jj.heap.objs.size<=X.env.locals
  inj:∀x y c,X.env.cells.lookup x=some c->X.env.cells.lookup y=some c->x=y
  has:∀x,(X.env.kindOf x=some .cell\/X.env.kindOf x=some .free)->∃c,X.env.cells.lookup x=some c
  cab:∀x c,X.fn x=true->X.env.cells.lookup x=some c->X.Jj.heap.objs.size<=c
  hd:X.calm=true->X.A.handled=none
  frames:X.A.frames=some X.stack
  stk:X.stack=X.outer\/(X.stack=X.env::X.outer/\X.env.frame=some X.env.locals)
  exf:∀b∈X.ex,b≠X.env.locals/\∀x c,X.env.cells.lookup x=some c->c≠b
  bs:∀b o,X.base.get? b=some o->X.Jj.heap.get? b=some o/\X.H_0 b=none
  Zs:X.base.objs.size<=X.Jj.heap.objs.size
  Ye:∀b o,X.base.get? b=some o->b∉X.ex
  Xk:∀b∈X.ex,b∉X.fs
  B4:X.Jj.heap.FunFrames X.base X.outer
  frf:∀b∈X.fs,X.H_0 b=none
structure Inv(X:Cx)(pins:List (Addr×Obj))(σ:List (Option V))(H:Hp)(s:Shared):Prop where
  ok:X.Ok
  os:s.os=X.Jj.os
  bare:AllBare s.gens
  base:Un X.fs X.ex X.H_0 H X.Jj.heap s.heap
  loc:∃m,s.heap.Ns X.env.locals m/\∀(i:Nat) (x:Str) (v:V),X.N[i]? =some x->σ[i]? =some (some v)->Vis X.env.scope x->∃u,RelV v u/\Look X.env s.heap m x u
  cell:∀x c,X.env.cells.lookup x=some c->∃v,s.heap.IsCell c v
  free:H X.env.locals=none
  oq:∀x c,X.env.cells.lookup x=some c->H c=none
  pin:∀p∈X.pn++pins,s.heap.get? p.1=some p.2/\H p.1=none/\p.1≠X.env.locals/\p.1∉X.fs/\∀v,p.2.data≠ .cell v
  bj:qt X.prog X.w H s.heap
  len:σ.length=X.N.length
section
variable{X:Cx}{pins:List (Addr×Obj)}{σ:List (Option V)}{H H':Hp}{s:Shared}{h':Heap}
theorem Cx.Ok.aib(ok:X.Ok){b:Addr}{o:Obj}(e:X.base.get? b=some o):b∉X.fs:=fun hb=>by have:=(ok.B4.mem hb).1;rw[e]at this;cases this
theorem Inv.bs(I:Inv X pins σ H s):∀b o,X.base.get? b=some o->s.heap.get? b=some o/\H b=none:=fun b o e=>⟨I.base.keep b o (I.ok.bs b o e).1 (I.ok.bs b o e).2 (I.ok.aib e) (I.ok.Ye b o e),I.base.free b o (I.ok.bs b o e).1 (I.ok.bs b o e).2 (I.ok.Ye b o e)⟩
theorem Inv.bk(I:Inv X pins σ H s):∀b o,X.base.get? b=some o->s.heap.get? b=some o:=fun b o e=>(I.bs b o e).1
theorem Inv.mod(I:Inv X pins σ H s):Mod X.K X.mg X.base:=I.ok.mod
theorem Inv.OJ(I:Inv X pins σ H s):X.K.In s.heap:=I.ok.mod.kin.keeps I.bk
theorem Inv.fr(I:Inv X pins σ H s):∃m,Fr X.base X.env.locals s.heap m:=
  let ⟨m,hn,_⟩:=I.loc
  ⟨m,hn,I.bk,le_trans I.ok.Zs I.ok.above⟩
theorem Inv.lt(I:Inv X pins σ H s):X.env.locals<s.heap.objs.size:=let ⟨_,hn,_⟩:=I.loc;hn.lt
theorem Inv.sz(I:Inv X pins σ H s):X.Jj.heap.objs.size<=s.heap.objs.size:=le_trans I.ok.above (le_of_lt I.lt)
theorem Inv.aic(I:Inv X pins σ H s){a:Addr}(h:s.heap.objs.size<=a):a∉X.fs:=fun hb=>by obtain⟨_,o,ho,_⟩:=I.ok.B4.mem hb;exact absurd (lt_of_lt_of_le (lt_size ho) (le_trans I.sz h)) (lt_irrefl _)
theorem Inv.cne(I:Inv X pins σ H s):∀x c,X.env.cells.lookup x=some c->c≠X.env.locals:=fun x c e z=>by obtain⟨v,o,ho,hd⟩:=I.cell x c e;obtain⟨m,⟨o',es,ep,OI,hd',_⟩,_⟩:=I.loc;rw[z,OI]at ho;cases ho;rw[hd']at hd;cases hd
theorem Inv.B4(I:Inv X pins σ H s):s.heap.FunFrames X.base X.outer:=by
  have all:∀(l:List Env),(∀b∈Xo l,b∈X.fs)->X.Jj.heap.FunFrames X.base l->s.heap.FunFrames X.base l:=by
    intro l;induction l with
    | nil=>intro _ _;trivial
    | cons env r ih=>intro hs hl;obtain⟨hk,⟨L,o,hf,hn,ho,hd⟩,hr⟩:=hl;have hL:L∈X.fs:=hs L (by unfold Xo;rw[List.filterMap_cons,hf];exact mem_cons_self);obtain⟨sl,e⟩:=I.base.slot L o ho (I.ok.frf L hL) hL fun z=>I.ok.Xk L z hL;exact⟨hk,⟨L,_,hf,hn,e,hd⟩,ih (fun b hb=>hs b (by unfold Xo;rw[List.filterMap_cons,hf];exact mem_cons_of_mem _ hb)) hr⟩
  exact all X.outer (fun _ hb=>hb) I.ok.B4
theorem Inv.stack(I:Inv X pins σ H s):s.heap.FunFrames X.base X.stack:=by
  rcases I.ok.stk with e | ⟨e,hf⟩
  . rw[e];exact I.B4
  . rw[e];obtain⟨m,hn,_⟩:=I.loc;refine .cons (by rw[I.ok.kind];decide) hf hn ?_ I.B4;exact Heap.get?_none_of_le (le_trans I.ok.Zs I.ok.above)
theorem Inv.RY(I:Inv X pins σ H s):∀b∈Xo X.stack,b∈X.env.locals::X.fs:=fun b hb=>by
  rcases I.ok.stk with e | ⟨e,hf⟩
  . rw[e]at hb;exact mem_cons_of_mem _ hb
  . rw[e]at hb;unfold Xo at hb;rw[List.filterMap_cons,hf]at hb;exact hb
theorem Inv.TC(I:Inv X pins σ H s):∀b∈Xo X.stack,H b=none:=fun b hb=>by
  rcases mem_cons.mp (I.RY b hb)with e | hb
  . rw[e];exact I.free
  . obtain⟨_,o,ho,_⟩:=I.ok.B4.mem hb;exact I.base.free b o ho (I.ok.frf b hb) fun z=>I.ok.Xk b z hb
theorem Inv.step{g':Array GenState}{t':Nat}{d':Drawn}{ch:List Addr}(I:Inv X pins σ H s)(Zz:∀b∈ch,(b∈X.ex\/X.Jj.heap.objs.size<=b)/\b≠X.env.locals/\(∀x c,X.env.cells.lookup x=some c->c≠b)/\∀p∈X.pn++pins,p.1≠b)(keep:∀b o,b≠X.env.locals->b∉X.fs->b∉ch->s.heap.get? b=some o->H b=none->h'.get? b=some o)(slot:∀b o,b≠X.env.locals->b∈X.fs->b∉ch->s.heap.get? b=some o->H b=none->∃sl,h'.get? b=some { o with slots:=sl})(free:∀b o,b∉ch->s.heap.get? b=some o->H b=none->H' b=none)(there:∀b o,b∉ch->s.heap.get? b=some o->∃o',h'.get? b=some o')(LJ:∀b xs,H b=some (.tup xs)->H' b=some (.tup xs))(EX:∀b o u,H b=some (.gG o u)->H' b=some (.gG o u))(LH:∀b ps,H b=some (.tbl ps)->∃more,H' b=some (.tbl (ps++more)))(ns:∀m,s.heap.Ns X.env.locals m->h'.Ns X.env.locals m)(bj:qt X.prog X.w H' h')(hg:AllBare g'):Inv X pins σ H' { s with heap:=h',gens:=g',drawn:=d',toks:=t'}:=by
  have neL:∀b o,X.Jj.heap.get? b=some o->b≠X.env.locals:=fun b o e=>ne_of_lt (lt_of_lt_of_le (lt_size e) I.ok.above);have neC:∀b o,X.Jj.heap.get? b=some o->b∉X.ex->b∉ch:=fun b o e hx hb=>by
    rcases (Zz b hb).1 with z | z
    . exact hx z
    . exact absurd (lt_of_lt_of_le (lt_size e) z) (lt_irrefl _)
  have cellK:∀x c,X.env.cells.lookup x=some c->∀v,s.heap.IsCell c v->h'.IsCell c v:=fun x c e v ⟨o,ho,hd⟩=>by
    have nch:c∉ch:=fun z=>(Zz c z).2.2.1 x c e rfl;by_cases hc:c∈X.fs
    . obtain⟨sl,q⟩:=slot c o (I.cne x c e) hc nch ho (I.oq x c e);exact⟨_,q,hd⟩
    . exact⟨o,keep c o (I.cne x c e) hc nch ho (I.oq x c e),hd⟩
  refine⟨I.ok,I.os,hg,⟨fun b o e n hb hx=>?_,fun b o e n hb hx=>?_,fun b o e n hx=>?_,fun b o e hx=>?_,fun b xs e=>LJ b xs (I.base.LJ b xs e),fun b o xs e=>EX b o xs (I.base.EX b o xs e),fun b ps e=>?_⟩,?_,fun x c e=>?_,?_,fun x c e=>?_,fun p hp=>?_,bj,I.len⟩
  . exact keep b o (neL b o e) hb (neC b o e hx) (I.base.keep b o e n hb hx) (I.base.free b o e n hx)
  . obtain⟨sl,e1⟩:=I.base.slot b o e n hb hx;obtain⟨sl',e2⟩:=slot b _ (neL b o e) hb (neC b o e hx) e1 (I.base.free b o e n hx);exact⟨sl',e2⟩
  . obtain⟨o',e1⟩:=I.base.there b o e hx;exact free b o' (neC b o e hx) e1 (I.base.free b o e n hx)
  . obtain⟨o',e1⟩:=I.base.there b o e hx;exact there b o' (neC b o e hx) e1
  . obtain⟨m1,e1⟩:=I.base.LH b ps e;obtain⟨m2,e2⟩:=LH b _ e1;exact⟨m1++m2,by rw[e2,Array.append_assoc]⟩
  . obtain⟨m,hn,hl⟩:=I.loc;refine⟨m,ns m hn,fun i x v e1 e2 e3=>?_⟩;obtain⟨u,r,l⟩:=hl i x v e1 e2 e3;refine⟨u,r,?_⟩;rcases l with l | ⟨k,c,e,z⟩
    . exact .inl l
    . exact .inr ⟨k,c,e,cellK x c e _ z⟩
  . obtain⟨v,z⟩:=I.cell x c e;exact⟨v,cellK x c e v z⟩
  . obtain⟨m,⟨o,_,_,ho,_⟩,_⟩:=I.loc;exact free _ o (fun z=>(Zz _ z).2.1 rfl) ho I.free
  . obtain⟨v,o,ho,hd⟩:=I.cell x c e;exact free c o (fun z=>(Zz c z).2.2.1 x c e rfl) ho (I.oq x c e)
  . obtain⟨e,n,ne,nf,d⟩:=I.pin p hp;have nch:p.1∉ch:=fun z=>(Zz p.1 z).2.2.2 p hp rfl;exact⟨keep p.1 p.2 ne nf nch e n,free p.1 p.2 nch e n,ne,nf,d⟩
theorem Inv.un{t':Nat}(I:Inv X pins σ H s)(u:Un X.fs [] H H' s.heap h')(bj:qt X.prog X.w H' h'):Inv X pins σ H' { s with heap:=h',toks:=t'}:=by obtain⟨m,⟨o,es,ep,ho,r⟩,_⟩:=id I.loc;obtain⟨sl,hL⟩:=u.any ho I.free (by simp);exact I.step (g':=s.gens) (d':=s.drawn) (ch:=[]) (fun _ z=>nomatch z) (fun b o _ hb _ e n=>u.keep b o e n hb (by simp)) (fun b o _ hb _ e n=>u.slot b o e n hb (by simp)) (fun b o _ e n=>u.free b o e n (by simp)) (fun b o _ e=>u.there b o e (by simp)) u.LJ u.EX u.LH (fun m' hm=>by obtain⟨o',tV,qm,OI,r'⟩:=hm;rw[ho]at OI;cases OI;exact⟨_,tV,qm,hL,r'⟩) bj I.bare
theorem Inv.call{g':Array GenState}{t':Nat}{d':Drawn}{ch:List Addr}(I:Inv X pins σ H s)(u:Un (Xo X.stack) ch H H' s.heap h')(bj:qt X.prog X.w H' h')(hg:AllBare g')(Zz:∀b∈ch,(b∈X.ex\/X.Jj.heap.objs.size<=b)/\b≠X.env.locals/\(∀x c,X.env.cells.lookup x=some c->c≠b)/\∀p∈X.pn++pins,p.1≠b):Inv X pins σ H' { s with heap:=h',gens:=g',drawn:=d',toks:=t'}:=by obtain⟨m,⟨o,es,ep,ho,r⟩,_⟩:=id I.loc;obtain⟨sl,hL⟩:=u.any ho I.free fun z=>(Zz _ z).2.1 rfl;exact I.step (ch:=ch) Zz (fun b o hL hb hc e n=>u.keep b o e n (fun z=>(mem_cons.mp (I.RY b z)).elim hL hb) hc) (fun b o _ _ hc e n=>u.any e n hc) (fun b o hc e n=>u.free b o e n hc) (fun b o hc e=>u.there b o e hc) u.LJ u.EX u.LH (fun m' hm=>by obtain⟨o',tV,qm,OI,r'⟩:=hm;rw[ho]at OI;cases OI;exact⟨_,tV,qm,hL,r'⟩) bj hg
theorem Inv.turned{t':Nat}{it:Addr}(I:Inv X pins σ H s)(k:∀b o,b≠it->s.heap.get? b=some o->h'.get? b=some o)(hn:H it=none)(hL:it≠X.env.locals)(h1:it∈X.ex\/X.Jj.heap.objs.size<=it)(h2:∀x c,X.env.cells.lookup x=some c->c≠it)(h3:∀p∈X.pn++pins,p.1≠it):Inv X pins σ H { s with heap:=h',toks:=t'}:=by
  have ZF:∀b u,H b=some u->b≠it:=fun b u e z=>by rw[z,hn]at e;cases e
  refine I.step (g':=s.gens) (d':=s.drawn) (ch:=[it]) (fun b hb=>?_) (fun b o _ _ hc e _=>k b o (fun z=>hc (by simp[z])) e) (fun b o _ _ hc e _=>⟨o.slots,k b o (fun z=>hc (by simp[z])) e⟩) (fun _ _ _ _ n=>n)
    (fun b o hc e=>⟨o,k b o (fun z=>hc (by simp[z])) e⟩) (fun _ _ e=>e) (fun _ _ _ e=>e) (fun b ps e=>⟨#[],by rw[e];simp⟩) (fun m hm=>?_) (fun b u e=>?_) I.bare
  . have e:b=it:=by simpa using hb
    subst e;exact⟨h1,hL,h2,h3⟩
  . obtain⟨o,es,ep,ho,r⟩:=hm;exact⟨o,es,ep,k _ o (Ne.symm hL) ho,r⟩
  . refine(I.bj b u e).GK (fun c v hc q=>k c v ?_ q) (fun _ q=>q) fun _ _ q=>q;rcases hc with z | z
    . rw[z];exact ZF b u e
    . exact ZF c _ z
theorem Inv.tok(I:Inv X pins σ H s)(t:Nat):Inv X pins σ H { s with toks:=t}:=I.un (h':=s.heap) (t':=t) Un.refl I.bj
theorem Inv.kept{t':Nat}(I:Inv X pins σ H s)(k:∀b u,s.heap.get? b=some u->h'.get? b=some u):Inv X pins σ H { s with heap:=h',toks:=t'}:=I.un (Un.kept k) (I.bj.kept k)
theorem Inv.laid{a:Addr}{o:HO}{t':Nat}(I:Inv X pins σ H s)(k:∀b u,s.heap.get? b=some u->h'.get? b=some u)(hp:s.heap.objs.size<=a)(new:cJ X.prog X.w (upd H a o) h' a o):Inv X pins σ (upd H a o) { s with heap:=h',toks:=t'}:=I.un (Un.laid k hp (I.bj.fresh hp)) (I.bj.laid k hp new)
theorem Inv.write{x e:Addr}{o:HO}{t':Nat}(I:Inv X pins σ H s)(mu:ZP (H x))(he:e=x\/H e=some (.own x))(k:∀b u,b≠e->s.heap.get? b=some u->h'.get? b=some u)(heo:∃u,h'.get? e=some u)(new:cJ X.prog X.w (upd H x o) h' x o):Inv X pins σ (upd H x o) { s with heap:=h',toks:=t'}:=I.un (Un.write mu he k heo) (I.bj.write mu he k heo new)
theorem Inv.weak{σ':List (Option V)}(I:Inv X pins σ H s)(hl:σ'.length=σ.length)(w:∀(i:Nat) v,σ'[i]? =some (some v)->σ[i]? =some (some v)):Inv X pins σ' H s:=
  ⟨I.ok,I.os,I.bare,I.base,let ⟨m,hn,hl'⟩:=I.loc;⟨m,hn,fun i x v e1 e2 e3=>hl' i x v e1 (w i v e2) e3⟩,I.cell,I.free,I.oq,I.pin,I.bj,hl.trans I.len⟩
theorem Inv.To{ac4:List (Addr×Obj)}(I:Inv X pins σ H s)(h:∀p∈ac4,s.heap.get? p.1=some p.2/\H p.1=none/\p.1≠X.env.locals/\p.1∉X.fs/\∀v,p.2.data≠ .cell v):Inv X ac4 σ H s:=
  ⟨I.ok,I.os,I.bare,I.base,I.loc,I.cell,I.free,I.oq,fun p hp=>(mem_append.mp hp).elim (fun z=>I.pin p (mem_append_left _ z)) (h p),I.bj,I.len⟩
theorem FN{N:List Str}(hN:N.Nodup){i j:Nat}{x:Str}(a:N[i]? =some x)(b:N[j]? =some x):i=j:=by obtain⟨h1,e1⟩:=List.getElem?_eq_some_iff.mp a;obtain⟨h2,e2⟩:=List.getElem?_eq_some_iff.mp b;exact(List.getElem_inj hN).mp (e1.trans e2.symm)
theorem Jm{M:Model}{A:Around}{E:Value->Shared->Prop}{i:Nat}{x:Str}{v:V}{u:Value}{Q:Unit->Shared->Prop}(I:Inv X pins σ H s)(hN:X.N.Nodup)(hi:X.N[i]? =some x)(hx:Loc X.env.scope x)(r:RelV v u)(h:∀s',Inv X pins (σ.set i (some v)) H s'->(∃a,SameBut a s.heap s'.heap/\(a=X.env.locals\/X.env.cells.lookup x=some a))->Q () s')(hf:X.fn x=true\/X.env.scope.names.lookup x=some .local:=by first | exact .inl rfl | exact .inr rfl | assumption):wpAny M A (storeName X.env x u) Q E s:=by
  obtain⟨m,hn,hl⟩:=id I.loc;have ahE:(X.env.scope.kind== .class||(X.env.scope.kind== .module&&X.env.locals !=X.env.globals))=false:=by rw[I.ok.kind];rfl
  have aiP:i<σ.length:=by rw[I.len];exact(List.getElem?_eq_some_iff.mp hi).1
  have cne:=I.cne;have tracked:∀{a:Addr} {h':Heap},(∃o,s.heap.get? a=some o/\H a=none)->SameBut a s.heap h'->qt X.prog X.w H h':=fun {a h'} ha hs b ob e=>by
    obtain⟨_,_,wR⟩:=ha;refine(I.bj b ob e).GK (fun c w' hc q=>(hs.2 c ?_).trans q) (fun _ q=>q) fun _ _ q=>q;rintro rfl;rcases hc with rfl | hc
    . rw[wR]at e;cases e
    . rw[wR]at hc;cases hc
  rcases hx with hk | hk
  . refine wpAny_storeName_local hk hn (fun h' UO hs=>?_) ahE;obtain⟨oL,_,_,hoL,_⟩:=id hn;refine h _ ⟨I.ok,I.os,I.bare,⟨fun b o e n hb hx=>?_,fun b o e n hb hx=>?_,I.base.free,fun b o e hx=>?_,I.base.LJ,I.base.EX,I.base.LH⟩,⟨_,UO,fun j y v' e1 e2 e3=>?_⟩,fun y c e=>?_,I.free,I.oq,fun p hp=>?_,tracked ⟨oL,hoL,I.free⟩ hs,by simpa using I.len⟩ ⟨_,hs,.inl rfl⟩
    . exact(hs.2 b (ne_of_lt (lt_of_lt_of_le (lt_size e) I.ok.above))).trans (I.base.keep b o e n hb hx)
    . obtain⟨sl,e1⟩:=I.base.slot b o e n hb hx;exact⟨sl,(hs.2 b (ne_of_lt (lt_of_lt_of_le (lt_size e) I.ok.above))).trans e1⟩
    . obtain⟨o',e1⟩:=I.base.there b o e hx;exact⟨o',(hs.2 b (ne_of_lt (lt_of_lt_of_le (lt_size e) I.ok.above))).trans e1⟩
    . by_cases hj:j=i
      . subst hj;rw[hi]at e1;cases e1;rw[List.getElem?_set_self aiP]at e2;cases e2;exact⟨u,r,.inl ⟨hk,by simp⟩⟩
      . rw[List.getElem?_set_ne (Ne.symm hj)]at e2;obtain⟨u',r',q⟩:=hl j y v' e1 e2 e3;refine⟨u',r',?_⟩;rcases q with⟨k,e⟩ | ⟨k,c,e,z⟩
        . refine .inl ⟨k,?_⟩;have:y≠x:=fun e=>hj (FN hN e1 (e▸hi));simp[this,e]
        . exact .inr ⟨k,c,e,z.sameBut hs (cne y c e)⟩
    . obtain⟨w',z⟩:=I.cell y c e;exact⟨w',z.sameBut hs (cne y c e)⟩
    . obtain⟨e,n,ne,nf,d⟩:=I.pin p hp;exact⟨(hs.2 p.1 ne).trans e,n,ne,nf,d⟩
  . have hfn:X.fn x=true:=by
      rcases hf with z | z
      . exact z
      . rw[z]at hk;cases hk
    obtain⟨c,hc⟩:=I.ok.has x (.inl hk);obtain⟨w',z⟩:=I.cell x c hc;refine wpAny_storeName_cell I.ok.kind hk hc z (fun h' hc' hs=>?_);obtain⟨oc,hoc,ahQ⟩:=id z;refine h { s with heap:=h'} ⟨I.ok,I.os,I.bare,⟨fun b o e n hb hx=>?_,fun b o e n hb hx=>?_,I.base.free,fun b o e hx=>?_,I.base.LJ,I.base.EX,I.base.LH⟩,⟨m,hn.sameBut hs (Ne.symm (cne x c hc)),fun j y v' e1 e2 e3=>?_⟩,fun y c' e=>?_,I.free,I.oq,fun p hp=>?_,tracked ⟨oc,hoc,I.oq x c hc⟩ hs,by simpa using I.len⟩ ⟨c,hs,.inr hc⟩
    . exact(hs.2 b (ne_of_lt (lt_of_lt_of_le (lt_size e) (I.ok.cab x c hfn hc)))).trans (I.base.keep b o e n hb hx)
    . obtain⟨sl,e1⟩:=I.base.slot b o e n hb hx;exact⟨sl,(hs.2 b (ne_of_lt (lt_of_lt_of_le (lt_size e) (I.ok.cab x c hfn hc)))).trans e1⟩
    . obtain⟨o',e1⟩:=I.base.there b o e hx;exact⟨o',(hs.2 b (ne_of_lt (lt_of_lt_of_le (lt_size e) (I.ok.cab x c hfn hc)))).trans e1⟩
    . by_cases hj:j=i
      . subst hj;rw[hi]at e1;cases e1;rw[List.getElem?_set_self aiP]at e2;cases e2;exact⟨u,r,.inr ⟨.inl hk,c,hc,hc'⟩⟩
      . rw[List.getElem?_set_ne (Ne.symm hj)]at e2;obtain⟨u',r',q⟩:=hl j y v' e1 e2 e3;refine⟨u',r',?_⟩;rcases q with q | ⟨k,c',e,z'⟩
        . exact .inl q
        . refine .inr ⟨k,c',e,z'.sameBut hs ?_⟩;rintro rfl;exact hj (FN hN e1 (I.ok.inj _ _ _ e hc▸hi))
    . by_cases hcc:c'=c
      . subst hcc;exact⟨_,hc'⟩
      . obtain⟨w2,z2⟩:=I.cell y c' e;exact⟨w2,z2.sameBut hs hcc⟩
    . obtain⟨e,n,ne,nf,d⟩:=I.pin p hp;refine⟨(hs.2 p.1 ?_).trans e,n,ne,nf,d⟩;intro q;rw[q,hoc]at e;have q':oc=p.2:=Option.some.inj e;exact d w' (by rw[<-q'];exact ahQ)
theorem Ol{M:Model}{A:Around}{E:Value->Shared->Prop}{i:Nat}{x:Str}{v:V}{u:Value}{Q:Unit->Shared->Prop}(I:Inv X pins σ H s)(hN:X.N.Nodup)(hi:X.N[i]? =some x)(hx:Loc X.env.scope x)(r:RelV v u)(h:∀s',Inv X pins (σ.set i (some v)) H s'->Q () s')(hf:X.fn x=true\/X.env.scope.names.lookup x=some .local:=by first | exact .inl rfl | exact .inr rfl | assumption):wpAny M A (storeName X.env x u) Q E s:=
  Jm I hN hi hx r (fun s' I' _=>h s' I') hf
theorem Inv.afC{s':Shared}{ch:List Addr}(I:Inv X pins σ H s)(ho:s'.os=s.os)(u:Un (Xo X.stack) ch H H' s.heap s'.heap)(bj:qt X.prog X.w H' s'.heap)(hg:AllBare s'.gens)(Zz:∀b∈ch,(b∈X.ex\/X.Jj.heap.objs.size<=b)/\b≠X.env.locals/\(∀x c,X.env.cells.lookup x=some c->c≠b)/\∀p∈X.pn++pins,p.1≠b):Inv X pins σ H' s':=by obtain⟨h',g',d',t',o'⟩:=s';have e:o'=s.os:=ho;subst e;exact I.call (g':=g') (t':=t') (d':=d') u bj hg Zz
end
abbrev XK:=Value->Option Addr->Hp->Prop
abbrev St:=List (Option V)
abbrev VK:=V->Hp->Prop
abbrev TE:=St->Hp->VK->Prop
abbrev TT:=St->Hp->(Bool->Hp->Prop)->Prop
abbrev TA:=St->Hp->(List V->Hp->Prop)->Prop
structure Ends where
  nx:St->Hp->Prop
  rt:VK
  bk:St->Hp->Prop:=fun _ _=>False
  ct:St->Hp->Prop:=fun _ _=>False
abbrev TS:=Ends->St->Hp->Prop
def EP(X:Cx)(pins:List (Addr×Obj))(σ:St)(Q:VK)(u:Value)(s':Shared):Prop:=∃v H',Inv X pins σ H' s'/\RelV v u/\Q v H'
def TP(X:Cx)(pins:List (Addr×Obj))(σ:St)(Q:Bool->Hp->Prop)(b:Bool)(s':Shared):Prop:=∃H',Inv X pins σ H' s'/\Q b H'
def AP(X:Cx)(pins:List (Addr×Obj))(σ:St)(Q:List V->Hp->Prop)(us:List Value)(s':Shared):Prop:=∃vs H',Inv X pins σ H' s'/\Vals vs us/\Q vs H'
def SP(X:Cx)(pins:List (Addr×Obj))(D:Ends)(f:Flow)(s':Shared):Prop:=
  match f with
  | .next=>∃σ' H',Inv X pins σ' H' s'/\D.nx σ' H'
  | .brk=>∃σ' H',Inv X pins σ' H' s'/\D.bk σ' H'
  | .cont=>∃σ' H',Inv X pins σ' H' s'/\D.ct σ' H'
  | .ret u=>∃v σ' H',Inv X pins σ' H' s'/\RelV v u/\D.rt v H'
def PE(X:Cx)(e:Expr)(t:TE):Prop:=
  ∀(pins:List (Addr×Obj)) (s:Shared) (σ:St) (H:Hp) (Q:VK),Inv X pins σ H s->t σ H Q->wpAny (model X.prog X.w) X.A (eval e X.env) (EP X pins σ Q) X.xe s
def PT(X:Cx)(e:Expr)(t:TT):Prop:=
  ∀(pins:List (Addr×Obj)) (s:Shared) (σ:St) (H:Hp) (Q:Bool->Hp->Prop),Inv X pins σ H s->t σ H Q->wpAny (model X.prog X.w) X.A (isTrue e X.env (eval e X.env)) (TP X pins σ Q) X.xe s
def PW(X:Cx)(e:Expr)(t:TT):Prop:=
  ∀(whole:Sem Value) (pins:List (Addr×Obj)) (s:Shared) (σ:St) (H:Hp) (Q:Bool->Hp->Prop),Inv X pins σ H s->t σ H Q->wpAny (model X.prog X.w) X.A (isTrue e X.env whole) (TP X pins σ Q) X.xe s
theorem PW.pt{X:Cx}{e:Expr}{t:TT}(h:PW X e t):PT X e t:=h _
def PA(X:Cx)(es:List Expr)(t:TA):Prop:=
  ∀(pos:Pos) (pins:List (Addr×Obj)) (s:Shared) (σ:St) (H:Hp) (Q:List V->Hp->Prop),Inv X pins σ H s->t σ H Q->wpAny (model X.prog X.w) X.A (spliced (backTo pos (starEach es X.env))) (AP X pins σ Q) X.xe s
def PS(X:Cx)(st:Stmt)(t:TS):Prop:=
  ∀(pins:List (Addr×Obj)) (s:Shared) (σ:St) (H:Hp) (D:Ends),Inv X pins σ H s->t D σ H->wpAny (model X.prog X.w) X.A (exec st X.env) (SP X pins D) X.xe s
def OF(X:Cx)(st:List Stmt)(t:TS):Prop:=
  ∀(pins:List (Addr×Obj)) (s:Shared) (σ:St) (H:Hp) (D:Ends),Inv X pins σ H s->t D σ H->wpAny (model X.prog X.w) X.A (execs st X.env) (SP X pins D) X.xe s
theorem cy{α:Type}{t:Sem α}{Q Q':α->Shared->Prop}{M:Model}{A:Around}{E:Value->Shared->Prop}{s:Shared}(h:wpAny M A t Q E s)(hQ:∀a s,Q a s->Q' a s):wpAny M A t Q' E s:=wpAny_mono h hQ fun _ _ x=>x
end L2
namespace L2
open PySem PySem.Spec PyProof.Rows
section
variable{X:Cx}
theorem bin{a b:Expr}{ta tb:TE}(ha:PE X a ta)(hb:PE X b tb){pins:List (Addr×Obj)}{s:Shared}{σ:St}{H:Hp}{R:V->V->Hp->Prop}(I:Inv X pins σ H s)(h:ta σ H fun x H1=>tb σ H1 fun y H2=>R x y H2){α:Type}{Q:α->Shared->Prop}{f:Value->Value->Sem α}(hf:∀v u s2 x y H2,Inv X pins σ H2 s2->RelV x v->RelV y u->R x y H2->wpAny (model X.prog X.w) X.A (f v u) Q X.xe s2):wpAny (model X.prog X.w) X.A (eval a X.env) (fun v s₁=>wpAny (model X.prog X.w) X.A (eval b X.env) (fun u s₂=>wpAny (model X.prog X.w) X.A (f v u) Q X.xe s₂) X.xe s₁) X.xe s:=by refine cy (ha pins s σ H _ I h) fun v s1 ⟨x,H1,I1,r1,q1⟩=>?_;refine cy (hb pins s1 σ H1 _ I1 q1) fun u s2 ⟨y,H2,I2,r2,q2⟩=>?_;exact hf v u s2 x y H2 I2 r1 r2 q2
def acB(i:Nat):TE:=fun σ H Q=>∃v,σ[i]? =some (some v)/\Q v H
def tC(v:V):TE:=fun _ H Q=>Q v H
theorem Yv{i:Nat}{x:Str}{pos:Pos}(hN:X.N[i]? =some x)(hv:Vis X.env.scope x)(hd:(x==("__debug__":Str))=false:=by decide)(S5:(x==("__classdict__":Str))=false:=by decide):PE X (.Name x pos) (acB i):=by
  intro pins s σ H Q I h;obtain⟨v,e,h⟩:=h;obtain⟨m,hn,hl⟩:=I.loc;obtain⟨u,r,l⟩:=hl i x v hN e hv;have fin:EP X pins σ Q u s:=⟨v,H,I,r,h⟩;rcases l with⟨hk,hm⟩ | ⟨hk,c,hc,acR⟩
  . exact wpAny_Name (wpAny_loadName_local I.ok.kind hk hn hm fin) hd
  . rcases hk with hk | hk
    . exact wpAny_Name (wpAny_loadName_cell I.ok.kind hk hc acR fin) hd
    . exact wpAny_Name (wpAny_loadName_free I.ok.kind hk hc acR fin S5) hd
theorem aE{i j pos}:PE X (.Constant (.int i) j pos) (tC (.int i)):=fun _ _ _ H _ I h=>wpAny_Constant_int ⟨.int i,H,I.tok _,⟨_,rfl⟩,h⟩
theorem xB{b j pos}:PE X (.Constant (.bool b) j pos) (tC (.bl b)):=fun _ _ _ H _ I h=>Constant_bool ⟨.bl b,H,I,rfl,h⟩
theorem vG{j pos}:PE X (.Constant .none j pos) (tC .dZ):=fun _ _ _ H _ I h=>Constant_none ⟨.dZ,H,I,rfl,h⟩
def Gl(X:Cx)(x:Str):Prop:=X.env.kindOf x=some .globalImplicit
theorem Dk{E:Value->Shared->Prop}{pins:List (Addr×Obj)}{s:Shared}{σ:St}{H:Hp}{x:Str}{u:Value}{pos:Pos}{Q:Value->Shared->Prop}(I:Inv X pins σ H s)(hg:Gl X x)(hm:X.mg x=some u)(h:Q u s)(hd:(x==("__debug__":Str))=false:=by decide):wpAny (model X.prog X.w) X.A (eval (.Name x pos) X.env) Q E s:=
  Calls.Name_function_global I.ok.kind hg (Calls.loadGlobal_global (by rw[I.ok.glob];exact I.mod.glob.keeps I.bk) hm h) hd
theorem pE{E:Value->Shared->Prop}{pins:List (Addr×Obj)}{s:Shared}{σ:St}{H:Hp}{x:Str}{u:Value}{pos:Pos}{Q:Value->Shared->Prop}(I:Inv X pins σ H s)(hg:Gl X x)(hm:X.mg x=none)(hv:bootBuiltins x=some u)(h:Q u s)(hn:x≠"__name__":=by decide)(hd:(x==("__debug__":Str))=false:=by decide):wpAny (model X.prog X.w) X.A (eval (.Name x pos) X.env) Q E s:=by obtain⟨mb,h1,h2⟩:=I.mod.blt;exact Calls.Name_function_global I.ok.kind hg (Calls.loadGlobal_builtin (by rw[I.ok.glob];exact I.mod.glob.keeps I.bk) hm (by rw[I.ok.blt];exact h1.keeps I.bk) ((h2 x hn).trans hv) h) hd
theorem Tj{x:Str}{v:V}{u:Value}{pos:Pos}(hg:Gl X x)(hm:X.mg x=some u)(r:RelV v u)(hd:(x==("__debug__":Str))=false:=by decide):PE X (.Name x pos) (tC v):=
  fun _ _ _ H _ I h=>Dk I hg hm ⟨v,H,I,r,h⟩ hd
variable{a b:Expr}{ta tb:TE}{pos:Pos}
def PC(X:Cx)(op:CmpOp)(a b:Expr)(t:TE):Prop:=
  ∀(pins:List (Addr×Obj)) (s:Shared) (σ:St) (H:Hp) (Q:VK),Inv X pins σ H s->t σ H Q->
    wpAny (model X.prog X.w) X.A (eval a X.env) (fun v s₁=>wpAny (model X.prog X.w) X.A (eval b X.env) (fun u s₂=>wpAny (model X.prog X.w) X.A (compareOp op v u) (EP X pins σ Q) X.xe s₂) X.xe s₁) X.xe s
theorem Yd(b:Expr){op:CmpOp}(h:op≠ .In)(h2:op≠ .NotIn):behindInMarks op b=false:=by
  have e1:(op==CmpOp.In)=false:=by cases op<;>first | rfl | exact absurd rfl h
  have e2:(op==CmpOp.NotIn)=false:=by cases op<;>first | rfl | exact absurd rfl h2
  cases b<;>simp[behindInMarks,e1,e2]
def aiH(ta:TE):TE:=fun σ H Q=>ta σ H fun x H1=>Q (.bl (decide (x=.dZ))) H1
def ag7(ta:TE):TE:=fun σ H Q=>ta σ H fun x H1=>Q (.bl (!decide (x=.dZ))) H1
theorem RelV.Nm{x:V}{v:Value}(r:RelV x v):(v==Value.none)=decide (x=.dZ):=by
  cases x with
  | dZ=>cases r;rfl
  | bl _=>cases r;rfl
  | int _=>obtain⟨t,rfl⟩:=r;rfl
  | str _=>obtain⟨t,rfl⟩:=r;rfl
  | JM _=>obtain⟨t,rfl⟩:=r;rfl
  | flt _=>obtain⟨t,rfl⟩:=r;rfl
  | ref _=>cases r;rfl
  | ty _=>cases r;rfl
theorem vF{j pos'}(ha:PE X a ta):PC X .Is a (.Constant .none j pos') (aiH ta):=by intro pins s σ H Q I h;refine cy (ha pins s σ H _ I h) fun v s1 ⟨x,H1,I1,r1,q1⟩=>?_;exact Constant_none (is_none_gen ⟨.bl _,H1,I1,by rw[r1.Nm];rfl,q1⟩)
theorem Dn{j pos'}(ha:PE X a ta):PC X .IsNot a (.Constant .none j pos') (ag7 ta):=by intro pins s σ H Q I h;refine cy (ha pins s σ H _ I h) fun v s1 ⟨x,H1,I1,r1,q1⟩=>?_;exact Constant_none (isnot_none_gen ⟨.bl _,H1,I1,by rw[r1.Nm];rfl,q1⟩)
def tB(t:TE):TT:=fun σ H Q=>t σ H fun x H1=>∃c,x=.bl c/\Q c H1
theorem jR{op:CmpOp}{t:TE}(h:PC X op a b t)(h1:behindInMarks op b=false:=by first | exact Yd _ (by decide) (by decide) | rfl):PT X (.Compare a [op] [b] pos) (tB t):=by intro pins s σ H Q I hw;refine wpAny_isTrue_Compare1 (cy (h pins s σ H _ I hw) fun v s1 h1=>cy h1 fun u s2 h2=>cy h2 fun c s3 ⟨x,H1,I1,r1,q1⟩=>?_) h1;obtain⟨d,rfl,q⟩:=q1;cases r1;exact wpAny_truthy_bool ⟨H1,I1,q⟩
theorem fU{e:Expr}{t:TE}(h:PE X e t)(he:∀whole,isTrue e X.env whole=(do let v <-whole;standAt e.pos;holding [v] (truthy v)):=by intro _;rfl):PT X e (tB t):=by intro pins s σ H Q I hw;refine isTrue_plain (cy (h pins s σ H _ I hw) fun v s1 ⟨x,H1,I1,r1,q1⟩=>?_) (he _);obtain⟨d,rfl,q⟩:=q1;cases r1;exact wpAny_truthy_bool ⟨H1,I1,q⟩
variable{tA tB':TT}{rest:List Expr}
def aiD(t u:TT):TT:=fun σ H Q=>t σ H fun c H1=>if c=true then u σ H1 Q else Q false H1
def tOr(t u:TT):TT:=fun σ H Q=>t σ H fun c H1=>if c=true then Q true H1 else u σ H1 Q
def aiI(t:TT):TT:=fun σ H Q=>t σ H fun c H1=>Q (!c) H1
theorem abY(ha:PT X a tA):PW X (.BoolOp .And [a] pos) tA:=by
  intro wh pins s σ H Q I h;refine isTrue_and (cy (ha pins s σ H Q I h) fun c s1 e=>?_);cases c with
  | true=>exact isTrue_and_nil e
  | false=>exact e
theorem Lm(ha:PT X a tA):PW X (.BoolOp .Or [a] pos) tA:=by
  intro wh pins s σ H Q I h;refine isTrue_or (cy (ha pins s σ H Q I h) fun c s1 e=>?_);cases c with
  | false=>exact isTrue_or_nil e
  | true=>exact e
theorem aeU(ha:PT X a tA)(hb:PW X (.BoolOp .And (b::rest) pos) tB'):PW X (.BoolOp .And (a::b::rest) pos) (aiD tA tB'):=by
  intro wh pins s σ H Q I h;refine isTrue_and (cy (ha pins s σ H _ I h) fun c s1 ⟨H1,I1,q1⟩=>?_);cases c with
  | true=>exact hb wh pins s1 σ H1 Q I1 q1
  | false=>exact⟨H1,I1,q1⟩
theorem Tv(ha:PT X a tA)(hb:PW X (.BoolOp .Or (b::rest) pos) tB'):PW X (.BoolOp .Or (a::b::rest) pos) (tOr tA tB'):=by
  intro wh pins s σ H Q I h;refine isTrue_or (cy (ha pins s σ H _ I h) fun c s1 ⟨H1,I1,q1⟩=>?_);cases c with
  | true=>exact⟨H1,I1,q1⟩
  | false=>exact hb wh pins s1 σ H1 Q I1 q1
theorem dy(ha:PT X a tA):PT X (.UnaryOp .Not a pos) (aiI tA):=by intro pins s σ H Q I h;exact isTrue_not (ha pins s σ H (fun c H1=>Q (!c) H1) I h)
def aiJ(ta tb:TE):TE:=fun σ H Q=>ta σ H fun x H1=>∃c,x=.bl c/\if c=true then Q (.bl true) H1 else tb σ H1 Q
def ag8(ta:TE):TE:=fun σ H Q=>ta σ H fun x H1=>∃c,x=.bl c/\Q (.bl (!c)) H1
theorem aeN{op}{t:TE}(h:PE X a t):PE X (.BoolOp op [a] pos) t:=fun pins s σ H Q I hw=>BoolOp_one (h pins s σ H Q I hw)
theorem ac2(ha:PE X a ta)(hb:PE X (.BoolOp .Or (b::rest) pos) tb):PE X (.BoolOp .Or (a::b::rest) pos) (aiJ ta tb):=by
  intro pins s σ H Q I h;refine BoolOp_or (cy (ha pins s σ H _ I h) fun v s1 ⟨x,H1,I1,r1,q1⟩=>?_);obtain⟨c,rfl,q1⟩:=q1;cases r1;refine wpAny_truthy_bool ?_;cases c with
  | false=>exact hb pins s1 σ H1 Q I1 q1
  | true=>exact⟨.bl true,H1,I1,rfl,q1⟩
theorem aeM(ha:PE X a ta):PE X (.UnaryOp .Not a pos) (ag8 ta):=by intro pins s σ H Q I h;refine UnaryOp_ (cy (ha pins s σ H _ I h) fun v s1 ⟨x,H1,I1,r1,q1⟩=>?_);obtain⟨c,rfl,q1⟩:=q1;cases r1;exact not_of (wpAny_truthy_bool ⟨.bl (!c),H1,I1,rfl,q1⟩)
def tIf(t:TT)(ta tb:TE):TE:=fun σ H Q=>t σ H fun c H1=>if c=true then ta σ H1 Q else tb σ H1 Q
theorem xE{c:Expr}(hc:PT X c tA)(ha:PE X a ta)(hb:PE X b tb):PE X (.IfExp c a b pos) (tIf tA ta tb):=by
  intro pins s σ H Q I h;refine wpAny_IfExp (cy (hc pins s σ H _ I h) fun d s1 ⟨H1,I1,q1⟩=>?_);cases d with
  | true=>exact ha pins s1 σ H1 Q I1 q1
  | false=>exact hb pins s1 σ H1 Q I1 q1
end
end L2
namespace L2
open PySem PySem.Spec PyProof.Rows
def aN(K:Frag)(H:Hp)(a:Addr)(xs:List V):Prop:=
  Rd H a (.lst xs)\/
    ∃(o:Obj) (aX:Array Value) (n:Nat),K.lookup a=some o/\o.cls=.type "list"/\o.dict=none/\o.data=.seq aX n/\aX.size<=sizeLine/\Vals xs aX.toList
def mT(K:Frag)(H:Hp)(a:Addr)(xs:List V):Prop:=
  Rd H a (.tup xs)\/
    ∃(o:Obj) (aX:Array Value) (n:Nat),K.lookup a=some o/\o.cls=.type "tuple"/\o.data=.seq aX n/\aX.size<=sizeLine/\Vals xs aX.toList
def ahh:Value->Option V
  | .none=>some .dZ
  | .bool b=>some (.bl b)
  | .int i _=>some (.int i)
  | .str x _=>some (.str x)
  | .bytes b _=>some (.JM b)
  | .float b _=>some (.flt b)
  | .ref a=>some (.ref a)
  | .type n=>some (.ty n)
  | _=>none
theorem RelV.abs{x:V}{u:Value}(r:RelV x u):ahh u=some x:=by
  cases x with
  | dZ=>cases r;rfl
  | bl _=>cases r;rfl
  | int _=>obtain⟨t,rfl⟩:=r;rfl
  | str _=>obtain⟨t,rfl⟩:=r;rfl
  | JM _=>obtain⟨t,rfl⟩:=r;rfl
  | flt _=>obtain⟨t,rfl⟩:=r;rfl
  | ref _=>cases r;rfl
  | ty _=>cases r;rfl
theorem RelV.inj{x y:V}{u:Value}(r:RelV x u)(q:RelV y u):x=y:=Option.some.inj (r.abs.symm.trans q.abs)
theorem Vals.inj:∀{xs ys:List V} {us:List Value},Vals xs us->Vals ys us->xs=ys
  | _,_,_,.nil,.nil=>rfl
  | _,_,_,.cons r t,.cons r' t'=>by rw[r.inj r',Vals.inj t t']
section
variable{X:Cx}{pins:List (Addr×Obj)}{σ:St}{H:Hp}{s:Shared}{a:Addr}{xs ys:List V}
theorem aN.of{K:Frag}(h:H a=some (.lst xs)):aN K H a xs:=.inl (.inl h)
theorem mT.of{K:Frag}(h:H a=some (.tup xs)):mT K H a xs:=.inl (.inl h)
theorem Inv.list(I:Inv X pins σ H s)(h:aN X.K H a xs):∃aX:List Value,Vals xs aX/\PlainL s.heap a aX.toArray/\xs.length<=sizeLine:=by
  rcases h with h | ⟨o,aX,n,hk,hc,hd,hs,hz,r⟩
  . obtain⟨z,aX,n,r,e⟩:=h.ok I.bj;exact⟨aX,r,⟨_,n,e,rfl,rfl,rfl⟩,z⟩
  . refine⟨aX.toList,r,⟨o,n,I.OJ a o hk,hc,hd,by simpa using hs⟩,?_⟩;have e:=r.length;simp only[length_toList]at e;omega
theorem Inv.tuple(I:Inv X pins σ H s)(h:mT X.K H a xs):∃aX:List Value,Vals xs aX/\IsTup s.heap a aX.toArray/\xs.length<=sizeLine:=by
  rcases h with h | ⟨o,aX,n,hk,hc,hs,hz,r⟩
  . obtain⟨z,aX,r,p⟩:=h.ok I.bj;exact⟨aX,r,p,z⟩
  . refine⟨aX.toList,r,⟨o,I.OJ a o hk,hc,n,by simpa using hs⟩,?_⟩;have e:=r.length;simp only[length_toList]at e;omega
theorem Inv.xc(I:Inv X pins σ H s)(h:aN X.K H a xs)(h':aN X.K H a ys):xs=ys:=by
  obtain⟨aX,r,⟨o,n,e,_,_,d⟩,_⟩:=I.list h;obtain⟨its',r',⟨o',n',e',_,_,d'⟩,_⟩:=I.list h';rw[e]at e';cases e';rw[d]at d';injection d' with d1 _;have:aX=its':=by simpa using congrArg Array.toList d1
  subst this;exact r.inj r'
end
abbrev Cx.HS(X:Cx)(E:Value->Shared->Prop):Cx:={ X with xe:=E}
abbrev Cx.nox(X:Cx):Cx:=X.HS fun _ _=>False
theorem Cx.Ok.HS{X:Cx}(ok:X.Ok)(E:Value->Shared->Prop):(X.HS E).Ok:=
  ⟨ok.mod,ok.kind,ok.glob,ok.blt,ok.above,ok.inj,ok.has,ok.cab,ok.hd,ok.frames,ok.stk,ok.exf,ok.bs,ok.Zs,ok.Ye,ok.Xk,ok.B4,ok.frf⟩
theorem Cx.Ok.sD{X:Cx}{E:Value->Shared->Prop}(ok:(X.HS E).Ok):X.Ok:=
  ⟨ok.mod,ok.kind,ok.glob,ok.blt,ok.above,ok.inj,ok.has,ok.cab,ok.hd,ok.frames,ok.stk,ok.exf,ok.bs,ok.Zs,ok.Ye,ok.Xk,ok.B4,ok.frf⟩
section
variable{X:Cx}{pins:List (Addr×Obj)}{σ:St}{H:Hp}{s:Shared}{E:Value->Shared->Prop}
theorem Inv.HS(I:Inv X pins σ H s)(E:Value->Shared->Prop):Inv (X.HS E) pins σ H s:=⟨I.ok.HS E,I.os,I.bare,I.base,I.loc,I.cell,I.free,I.oq,I.pin,I.bj,I.len⟩
theorem Inv.sD(I:Inv (X.HS E) pins σ H s):Inv X pins σ H s:=⟨I.ok.sD,I.os,I.bare,I.base,I.loc,I.cell,I.free,I.oq,I.pin,I.bj,I.len⟩
theorem SP.sD{D:Ends}{f:Flow}{s':Shared}(h:SP (X.HS E) pins D f s'):SP X pins D f s':=by
  cases f with
  | next=>obtain⟨σ',H',I,q⟩:=h;exact⟨σ',H',I.sD,q⟩
  | brk=>obtain⟨σ',H',I,q⟩:=h;exact⟨σ',H',I.sD,q⟩
  | cont=>obtain⟨σ',H',I,q⟩:=h;exact⟨σ',H',I.sD,q⟩
  | ret u=>obtain⟨v,σ',H',I,r,q⟩:=h;exact⟨v,σ',H',I.sD,r,q⟩
theorem OF.nox{st:List Stmt}{t:TS}(h:OF X.nox st t):OF X st t:=fun pins s σ H D I hw=>wpAny_mono (h pins s σ H D (I.HS _) hw) (fun _ _ q=>q.sD) fun _ _ z=>False.elim z
end
section
variable{X:Cx}{st:Stmt}{rest:List Stmt}{t u:TS}{e:Expr}{te:TE}{pos:Pos}
def ag6:TS:=fun D σ H=>D.nx σ H
def afi(t u:TS):TS:=fun D σ H=>t { D with nx:=u D} σ H
theorem aZ:OF X [] ag6:=fun _ _ σ H _ I h=>wpAny_execs_nil ⟨σ,H,I,h⟩
theorem ag(h1:PS X st t)(h2:OF X rest u):OF X (st::rest) (afi t u):=by
  intro pins s σ H D I h;refine wpAny_execs_cons (cy (h1 pins s σ H { D with nx:=u D} I h) fun f s1 q=>?_);cases f with
  | next=>obtain⟨σ',H',I',q⟩:=q;exact h2 pins s1 σ' H' D I' q
  | ret v=>exact q
  | brk=>exact q
  | cont=>exact q
theorem ai(h1:PS X st t):OF X [st] t:=by
  intro pins s σ H D I h;refine wpAny_execs_cons (cy (h1 pins s σ H D I h) fun f s1 q=>?_);cases f with
  | next=>exact wpAny_execs_nil q
  | ret v=>exact q
  | brk=>exact q
  | cont=>exact q
def ag1:TS:=fun D σ H=>D.ct σ H
theorem r8:PS X (.Continue pos) ag1:=fun _ _ σ H _ I h=>wpAny_Continue ⟨σ,H,I,h⟩
theorem Inv.quiet{pins:List (Addr×Obj)}{σ:St}{H:Hp}{s:Shared}(I:Inv X pins σ H s):interactive X.env=false:=by simp[interactive,I.ok.kind]
def ag3(te:TE):TS:=fun D σ H=>te σ H fun _ H1=>D.nx σ H1
theorem eE(he:PE X e te)(hs:swapsWith e none pos.line X.env=pure false:=by rfl):PS X (.Expr e pos) (ag3 te):=by intro pins s σ H D I h;exact wpAny_Expr_any (cy (he pins s σ H _ I h) fun v s1 ⟨x,H1,I1,r1,q1⟩=>⟨σ,H1,I1,q1⟩) I.quiet hs
def aiK(te:TE):TS:=fun D σ H=>te σ H D.rt
theorem aq(he:PE X e te):PS X (.Return (some e) pos) (aiK te):=by intro pins s σ H D I h;exact wpAny_Return_some (cy (he pins s σ H _ I h) fun v s1 ⟨x,H1,I1,r1,q1⟩=>⟨x,σ,H1,I1,r1,q1⟩)
def aiG(c:TT)(t u:TS):TS:=fun D σ H=>c σ H fun b H1=>if b=true then t D σ H1 else u D σ H1
theorem bW{c:Expr}{a b:List Stmt}{tc:TT}(hc:PT X c tc)(ha:OF X a t)(hb:OF X b u):PS X (.If c a b pos) (aiG tc t u):=by
  intro pins s σ H D I h;refine wpAny_If (cy (hc pins s σ H _ I h) fun d s1 ⟨H1,I1,q1⟩=>?_);cases d with
  | true=>exact ha pins s1 σ H1 D I1 q1
  | false=>exact hb pins s1 σ H1 D I1 q1
end
abbrev TG:=V->St->Hp->(St->Hp->Prop)->Prop
abbrev TGs:=List V->St->Hp->(St->Hp->Prop)->Prop
def PG(X:Cx)(target:Expr)(t:TG):Prop:=
  ∀(pins:List (Addr×Obj)) (s:Shared) (σ:St) (H:Hp) (v:V) (u:Value) (Q:St->Hp->Prop),Inv X pins σ H s->RelV v u->t v σ H Q->
    wpAny (model X.prog X.w) X.A (assign target X.env u) (fun _ s'=>∃σ' H',Inv X pins σ' H' s'/\Q σ' H') X.xe s
def PGs(X:Cx)(ts:List Expr)(t:TGs):Prop:=
  ∀(pins:List (Addr×Obj)) (s:Shared) (σ:St) (H:Hp) (vs:List V) (us:List Value) (Q:St->Hp->Prop),Inv X pins σ H s->Vals vs us->t vs σ H Q->
    wpAny (model X.prog X.w) X.A (assignInOrder ((assignEach ts X.env).map (·.2)) us) (fun _ s'=>∃σ' H',Inv X pins σ' H' s'/\Q σ' H') X.xe s
abbrev adh:=V->V->V->Hp->(Hp->Prop)->Prop
def afu(X:Cx)(t:adh):Prop:=
  ∀(pins:List (Addr×Obj)) (s:Shared) (σ:St) (H:Hp) (o i v:V) (ov iv u:Value) (Q:Hp->Prop),Inv X pins σ H s->RelV o ov->RelV i iv->RelV v u->t o i v H Q->
    wpAny (model X.prog X.w) X.A (setItem ov iv u) (fun _ s'=>∃H',Inv X pins σ H' s'/\Q H') X.xe s
section
variable{X:Cx}{pos:Pos}
def IH(i:Nat):TG:=fun v σ H Q=>Q (σ.set i (some v)) H
theorem aC{i:Nat}{x:Str}(hN:X.N.Nodup)(hi:X.N[i]? =some x)(hx:Loc X.env.scope x)(hf:X.fn x=true\/X.env.scope.names.lookup x=some .local:=by first | exact .inl rfl | exact .inr rfl | assumption):PG X (.Name x pos) (IH i):=by intro pins s σ H v u Q I r h;exact wpAny_assign_Name (Ol I hN hi hx r (fun s' I'=>⟨_,H,I',h⟩) hf)
def ahs:TGs:=fun vs σ H Q=>vs=[]/\Q σ H
def afL(t:TG)(u:TGs):TGs:=fun vs σ H Q=>∃v r,vs=v::r/\t v σ H fun σ' H'=>u r σ' H' Q
theorem fH:PGs X [] ahs:=by intro pins s σ H vs us Q I r h;obtain⟨e,h⟩:=h;subst e;cases r;exact assignInOrder_nil ⟨σ,H,I,h⟩
theorem bE{e:Expr}{es:List Expr}{t:TG}{u:TGs}(h1:PG X e t)(h2:PGs X es u)(hs:(assignEach (e::es) X.env).map (·.2)=assign e X.env::(assignEach es X.env).map (·.2):=by rfl):PGs X (e::es) (afL t u):=by
  intro pins s σ H vs us Q I r h;obtain⟨v,vr,e1,h⟩:=h;subst e1;cases r with
  | cons r rr=>rw[hs];refine assignInOrder_cons (cy (h1 pins s σ H _ _ _ I r h) fun _ s1 ⟨σ1,H1,I1,q1⟩=>?_);exact h2 pins s1 σ1 H1 _ _ Q I1 rr q1
def afM(K:Frag)(n:Nat)(t:TGs):TG:=fun v σ H Q=>∃a xs,v=.ref a/\mT K H a xs/\xs.length=n/\t xs σ H Q
theorem Ab{es:List Expr}{k:Nat}{t:TGs}{n:Nat}(hc:X.calm=true)(h:PGs X es t)(hn:(assignEach es X.env).length=n:=by rfl)(B7:(assignEach es X.env).findIdx? (·.1)=none:=by rfl):PG X (.Tuple es k pos) (afM X.K n t):=by intro pins s σ H v u Q I r hw;obtain⟨a,xs,e1,hq,hl,hw⟩:=hw;subst e1;cases r;obtain⟨aX,rv,ht,hz⟩:=I.tuple hq;refine assign_Tuple_tuple (I.ok.hd hc) ht (by simp[hn,<-hl,rv.length]) B7 fun h' hx=>?_;have I1:Inv X pins σ H { s with heap:=h'}:=I.kept (t':=s.toks) fun b o e=>hx b o (ne_of_lt (lt_size e)) e;exact h pins _ σ H xs _ Q I1 (by simpa using rv) hw
def aht(to ti:TE)(t:adh):TG:=fun v σ H Q=>to σ H fun o H1=>ti σ H1 fun i H2=>t o i v H2 fun H3=>Q σ H3
theorem Aa{o i:Expr}{to ti:TE}{t:adh}(ho:PE X o to)(hi:PE X i ti)(hs:afu X t)(ha:∀v,assign (.Subscript o i pos) X.env v=(do
      let ov <-holding [v] (eval o X.env);let iv <-holding [v,ov] (eval i X.env)
      standAt pos
      holding [v,ov,iv] (setItem ov iv v)
      release [v,ov,iv] []):=by intro _;rfl):PG X (.Subscript o i pos) (aht to ti t):=by
  intro pins s σ H v u Q I r h;rw[ha];refine wpAny_bind (wpAny_holding (cy (ho pins s σ H _ I h) fun ov s1 ⟨x,H1,I1,r1,q1⟩=>?_));refine wpAny_bind (wpAny_holding (cy (hi pins s1 σ H1 _ I1 q1) fun iv s2 ⟨y,H2,I2,r2,q2⟩=>?_));refine wpAny_bind (wpAny_standAt (wpAny_bind (wpAny_holding (cy (hs pins s2 σ H2 x y v ov iv u _ I2 r1 r2 r q2) fun _ s3 ⟨H3,I3,q3⟩=>?_))));exact wpAny_release ⟨σ,H3,I3,q3⟩
def acz(te:TE)(g:TG):TS:=fun D σ H=>te σ H fun x H1=>g x σ H1 D.nx
theorem Al{tg e:Expr}{te:TE}{g:TG}(he:PE X e te)(hg:PG X tg g)(hs:swapsWithSole [tg] e pos.line X.env=pure false:=by rfl)(hw:swappedStores [tg] e X.env=pure none:=by rfl)(h1:(assignEach [tg] X.env).map (·.2)=[assign tg X.env]:=by rfl):PS X (.Assign [tg] e pos) (acz te g):=by intro pins s σ H D I h;refine wpAny_Assign_stores (cy (he pins s σ H _ I h) fun v s1 ⟨x,H1,I1,r1,q1⟩=>?_) hs hw;rw[h1];exact cy (hg pins s1 σ H1 x v _ I1 r1 q1) fun _ s2 q=>q
theorem aY{i:Nat}{x:Str}{e:Expr}{te:TE}{pos':Pos}(hN:X.N.Nodup)(hi:X.N[i]? =some x)(hx:Loc X.env.scope x)(he:PE X e te)(hs:swapsWith e (some (.Name x pos')) pos.line X.env=pure false:=by rfl)(hf:X.fn x=true\/X.env.scope.names.lookup x=some .local:=by first | exact .inl rfl | exact .inr rfl | assumption):PS X (.Assign [.Name x pos'] e pos) (acz te (IH i)):=by intro pins s σ H D I h;refine wpAny_Assign_Name (cy (he pins s σ H _ I h) fun v s1 ⟨y,H1,I1,r1,q1⟩=>?_) hs;exact Ol I1 hN hi hx r1 (fun s2 I2=>⟨_,H1,I2,q1⟩) hf
end
section
variable{X:Cx}{pos:Pos}
def afj(c:TT)(tb:TS):TS:=fun D σ H=>∃W:Nat->St->Hp->Prop,(∃m,W m σ H)/\∀m σ H,W m σ H->
  c σ H fun b H1=>if b=true then ∃N:St->Hp->Prop,(∀σ' H',N σ' H'->∃m',m'<m/\W m' σ' H')/\tb { D with nx:=N,ct:=N,bk:=D.nx} σ H1 else D.nx σ H1
theorem NW{c:Expr}{body:List Stmt}{tc:TT}{tb:TS}(hp:PassesOwn (model X.prog X.w) X.A X.env X.xe)(hc:PT X c tc)(hb:OF X body tb):PS X (.While c body [] pos) (afj tc tb):=by
  intro pins s σ H D I h;obtain⟨W,⟨m0,w0⟩,turn⟩:=h;refine wpAny_While (codeAny_whileLoop (fun n s'=>∃σ' H',Inv X pins σ' H' s'/\W n σ' H') ?_ m0 ⟨σ,H,I,w0⟩);rintro n s1 ⟨σ1,H1,I1,w1⟩;refine wpAny_passesOwn hp (cy (hc pins s1 σ1 H1 _ I1 (turn n σ1 H1 w1)) fun b s2 ⟨H2,I2,q2⟩=>?_);cases b with
  | true=>
    obtain⟨N,hN,q2⟩:=q2;rw[if_pos rfl];refine wpAny_passesOwn hp (cy (hb pins s2 σ1 H2 _ I2 q2) fun f s3 q3=>?_);cases f with
    | next=>obtain⟨σ3,H3,I3,n3⟩:=q3;obtain⟨m',hm,w3⟩:=hN σ3 H3 n3;exact⟨m',hm,σ3,H3,I3,w3⟩
    | cont=>obtain⟨σ3,H3,I3,n3⟩:=q3;obtain⟨m',hm,w3⟩:=hN σ3 H3 n3;exact⟨m',hm,σ3,H3,I3,w3⟩
    | brk=>exact q3
    | ret v=>exact q3
  | false=>rw[if_neg Bool.false_ne_true];exact wpAny_execs_nil ⟨σ1,H2,I2,q2⟩
end
structure It where
  go:Nat->Hp->Prop
  LW:Nat->Hp->V->Hp->Prop
  stop:Nat->Hp->Prop
def Bv(X:Cx)(pins:List (Addr×Obj))(H:Hp)(b:Addr):Prop:=
  H b=none/\b≠X.env.locals/\b∉X.fs/\(b∈X.ex\/X.Jj.heap.objs.size<=b)/\(∀x c,X.env.cells.lookup x=some c->c≠b)/\∀p∈X.pn++pins,p.1≠b
theorem Inv.UC{X:Cx}{pins:List (Addr×Obj)}{σ:St}{H H':Hp}{s:Shared}{b:Addr}(I:Inv X pins σ H s)(hb:s.heap.objs.size<=b)(hn:H' b=none):Bv X pins H' b:=by
  refine⟨hn,ne_of_gt (lt_of_lt_of_le I.lt hb),I.aic hb,.inr (le_trans I.sz hb),fun x c e z=>?_,fun p hp z=>?_⟩
  . obtain⟨v,q⟩:=I.cell x c e;exact absurd (lt_of_lt_of_le q.lt (by rw[z];exact hb)) (lt_irrefl _)
  . exact absurd (lt_of_lt_of_le (lt_size (I.pin p hp).1) (by rw[z];exact hb)) (lt_irrefl _)
structure Turn(P:Program)(w:World)(K:Frag)(tg:Expr)(J:It)(fp:List Addr)(it:Addr)(tn:Nat->Heap->Prop):Prop where
  mem:it∈fp
  obj:∀i h,tn i h->∀b∈fp,∃o,h.get? b=some o/\∀v,o.data≠ .cell v
  keep:∀i h h',tn i h->(∀b∈fp,∀o,h.get? b=some o->h'.get? b=some o)->tn i h'
  item:∀(X:Cx),X.prog=P->X.w=w->X.K=K->X.calm=true->∀(i:Nat) (pins:List (Addr×Obj)) (s:Shared) (σ:St) (H:Hp) (E:Value->Shared->Prop),Inv X pins σ H s->(∀b∈fp,Bv X pins H b)->tn i s.heap->J.go i H->
    wpAny (model P w) X.A (pyNext (.ref it)) (fun r s1=>∃u,r=some u/\
      wpAny (model P w) X.A (letOwnedTupleGo tg (.ref it) u) (fun _ s2=>∃x H',Inv X pins σ H' s2/\RelV x u/\J.LW i H x H'/\tn (i+1) s2.heap/\∀b∈fp,H' b=none) E s1) E s
  done:∀(X:Cx),X.prog=P->X.w=w->X.K=K->X.calm=true->∀(i:Nat) (pins:List (Addr×Obj)) (s:Shared) (σ:St) (H:Hp) (E:Value->Shared->Prop),Inv X pins σ H s->(∀b∈fp,Bv X pins H b)->tn i s.heap->J.stop i H->
    wpAny (model P w) X.A (pyNext (.ref it)) (fun r s1=>r=none/\Inv X pins σ H s1) E s
  self:∀(A:Around) (i:Nat) (s:Shared) (Q:Value->Shared->Prop) (E:Value->Shared->Prop),tn i s.heap->Q (.ref it) s->wpAny (model P w) A (pyIter (.ref it)) Q E s
abbrev TI:=St->Hp->(It->Hp->Prop)->Prop
def PIE(X:Cx)(pins:List (Addr×Obj))(σ:St)(tg:Expr)(R:It->Hp->Prop)(itv:Value)(s2:Shared):Prop:=
  ∃(it:Addr) (fp:List Addr) (tn:Nat->Heap->Prop) (J:It) (H':Hp),itv=.ref it/\Inv X pins σ H' s2/\Turn X.prog X.w X.K tg J fp it tn/\tn 0 s2.heap/\(∀b∈fp,Bv X pins H' b)/\R J H'
def PI(X:Cx)(tg iter:Expr)(wi:TI):Prop:=
  ∀(pins:List (Addr×Obj)) (s:Shared) (σ:St) (H:Hp) (R:It->Hp->Prop),Inv X pins σ H s->wi σ H R->
    wpAny (model X.prog X.w) X.A (eval iter X.env) (fun v s1=>wpAny (model X.prog X.w) X.A (pyIter v) (PIE X pins σ tg R) X.xe s1) X.xe s
theorem S0{M:Model}{A:Around}{E:Value->Shared->Prop}{s:Shared}{tg:Expr}{it:Addr}{u:Value}{o:Obj}{n:String}{vs:Array Value}{Q:Unit->Shared->Prop}(ho:s.heap.get? it=some o)(hc:o.cls=.type n)(hd:o.data=.fields vs)(hn:["enumerate","zip","dict_itemiterator","dict_reverseitemiterator","odict_iterator","itertools.zip_longest","itertools.pairwise"].contains n=false)(hQ:Q () s):wpAny M A (letOwnedTupleGo tg (.ref it) u) Q E s:=by
  unfold letOwnedTupleGo;cases tg<;>first
    | exact wpAny_pure hQ
    | (cases u<;>first
        | exact wpAny_pure hQ
        | (refine wpAny_bind (wpAny_load ho ?_)
           rw[hc,hd];show wpAny M A (if (["enumerate","zip","dict_itemiterator","dict_reverseitemiterator","odict_iterator","itertools.zip_longest","itertools.pairwise"].contains n&&vs[0]? ==some (rawInt _))=true then _ else _) Q E s;rw[if_neg (by intro h;rw[hn,Bool.false_and]at h;cases h)];exact wpAny_pure hQ))
def Itl(K:Frag)(a:Addr):It:=
  ⟨fun i H=>∃xs x,aN K H a xs/\xs[i]? =some x,fun i H x H'=>H'=H/\∀xs,aN K H a xs->xs[i]? =some x,fun i H=>∃xs,aN K H a xs/\xs.length<=i⟩
def ZO(lo:Int)(n:Nat):It:=⟨fun i _=>i<n,fun i H x H'=>H'=H/\x=.int (lo+i),fun i _=>n<=i⟩
theorem We{P:Program}{w:World}{K:Frag}{tg:Expr}(a it:Addr):Turn P w K tg (Itl K a) [it] it (fun i h=>h.IsListIter it a i) where
  mem:=by simp
  obj:=fun i h st b hb=>by
    have e:b=it:=by simpa using hb
    subst e;obtain⟨o,e,c,d⟩:=st;exact⟨o,e,fun v z=>by rw[d]at z;cases z⟩
  keep:=fun i h h' st k=>st.at fun o e=>k it (by simp) o e
  item:=by intro X hP hw hK hc i pins s σ H E I hf st hg;subst hP hw hK;obtain⟨xs,x,hq,hx⟩:=hg;obtain⟨aX,rv,p,hz⟩:=I.list hq;obtain⟨u,hu,ru⟩:=rv.get hx;obtain⟨f0,f1,f2,f3,f4,f5⟩:=hf it (by simp);refine wpAny_pyNext_list_item st p.isList (x:=u) (by simpa using hu) fun h' V7 sb=>?_;have I1:Inv X pins σ H { s with heap:=h'}:=I.turned (t':=s.toks) (fun b o hb e=>(sb.2 b hb).trans e) f0 f1 f3 f4 f5;obtain⟨o,e,c,d⟩:=id V7;exact⟨u,rfl,S0 (s:={ s with heap:=h'}) e c d (by decide) ⟨x,H,I1,ru,⟨rfl,fun ys hy=>by rw[I.xc hy hq];exact hx⟩,V7,fun b hb=>(hf b hb).1⟩⟩
  done:=by intro X hP hw hK hc i pins s σ H E I hf st hg;subst hP hw hK;obtain⟨xs,hq,hx⟩:=hg;obtain⟨aX,rv,p,hz⟩:=I.list hq;obtain⟨f0,f1,f2,f3,f4,f5⟩:=hf it (by simp);have hl:=rv.length;exact wpAny_pyNext_list_end (I.ok.hd hc) st p.isList (by simp;omega) fun h' eb=>⟨rfl,I.turned (t':=s.toks) (fun b o hb e=>eb b o hb e) f0 f1 f3 f4 f5⟩
  self:=fun _ _ _ _ _ st h=>wpAny_pyIter_listiter st h
theorem R6{P:Program}{w:World}{K:Frag}{tg:Expr}(it:Addr)(lo:Int)(n:Nat):Turn P w K tg (ZO lo n) [it] it (fun i h=>IsRangeIter h it (lo+(i:Nat)*1) ((n:Int)-(i:Nat)) 1) where
  mem:=by simp
  obj:=fun i h st b hb=>by
    have e:b=it:=by simpa using hb
    subst e;exact⟨_,st,fun v z=>by have z':Data.fields _=Data.cell v:=z;cases z'⟩
  keep:=fun i h h' st k=>k it (by simp) _ st
  item:=by intro X hP hw hK hc i pins s σ H E I hf st hg;subst hP hw hK;obtain⟨f0,f1,f2,f3,f4,f5⟩:=hf it (by simp);have W:=Walks.range (prog:=X.prog) (w:=X.w) (I.ok.hd hc) it lo 1 n;refine W.item i s _ _ hg st fun v h' tk hv V7 kk=>?_;obtain⟨t,rfl⟩:=hv;have I1:Inv X pins σ H { s with heap:=h',toks:=tk}:=I.turned (fun b o hb e=>kk b o (by simpa using hb) e) f0 f1 f3 f4 f5;refine⟨_,rfl,S0 (s:={ s with heap:=h',toks:=tk}) (n:="range_iterator") V7 rfl rfl (by decide) ⟨.int (lo+i),H,I1,⟨t,?_⟩,⟨rfl,rfl⟩,V7,fun b hb=>(hf b hb).1⟩⟩;rw[Int.mul_one]
  done:=by intro X hP hw hK hc i pins s σ H E I hf st hg;subst hP hw hK;obtain⟨f0,f1,f2,f3,f4,f5⟩:=hf it (by simp);exact wpAny_pyNext_range_end (I.ok.hd hc) st (by have:n<=i:=hg;omega) fun h' eb=>⟨rfl,I.turned (t':=s.toks) (fun b o hb e=>eb b o hb e) f0 f1 f3 f4 f5⟩
  self:=fun _ _ _ _ _ st h=>wpAny_pyIter_rangeiter st h
end L2
namespace L2
open PySem PySem.Spec PyProof.Rows
section
variable{X:Cx}{tg:Expr}
def agl(K:Frag)(tl:TE):TI:=fun σ H R=>tl σ H fun x H1=>∃a,x=.ref a/\(∃xs,aN K H1 a xs)/\R (Itl K a) H1
theorem ba{l:Expr}{tl:TE}(hl:PE X l tl):PI X tg l (agl X.K tl):=by
  intro pins s σ H R I h;refine cy (hl pins s σ H _ I h) fun v s1 ⟨x,H1,I1,r1,q1⟩=>?_;obtain⟨a,e,⟨xs,hq⟩,q⟩:=q1;subst e;cases r1;obtain⟨aX,rv,p,hz⟩:=I1.list hq;refine wpAny_pyIter_list p.isList ?_;refine⟨s1.heap.objs.size,[s1.heap.objs.size],_,_,H1,rfl,I1.kept (t':=s1.toks) fun b o e=>get?_push_of_some _ e,We a _,⟨_,get?_push_size _ rfl,rfl,rfl⟩,fun b hb=>?_,q⟩;have e:b=s1.heap.objs.size:=by simpa using hb
  subst e;exact I1.UC (le_refl _) (I1.bj.fresh (le_refl _))
theorem YC{pins:List (Addr×Obj)}{σ:St}{H:Hp}{s:Shared}{R:It->Hp->Prop}{E:Value->Shared->Prop}{lo hi:Int}{t u v:Tok}{tk:Nat}(I:Inv X pins σ H s)(h1: -(2^62)<=lo)(h2:lo<2^62)(h3: -(2^62)<=hi)(h4:hi<2^62)(q:R (ZO lo (hi-lo).toNat) H):wpAny (model X.prog X.w) X.A (pyIter (.ref s.heap.objs.size)) (PIE X pins σ tg R) E { s with heap:=s.heap.push { cls:=.type "range",data:=.fields #[.int lo t,.int hi u,.int 1 v]},toks:=tk}:=by
  refine wpAny_pyIter_range (IsRange.new ..) (small_one h1 h2 h3 h4) ?_;have I1:Inv X pins σ H { s with heap:=s.heap.push { cls:=.type "range",data:=.fields #[.int lo t,.int hi u,.int 1 v]},toks:=tk}:=I.kept fun b o e=>get?_push_of_some _ e;refine⟨(s.heap.push { cls:=.type "range",data:=.fields #[.int lo t,.int hi u,.int 1 v]}).objs.size,[(s.heap.push { cls:=.type "range",data:=.fields #[.int lo t,.int hi u,.int 1 v]}).objs.size],_,_,H,rfl,
    I1.kept (t':=tk) fun b o e=>get?_push_of_some _ e,R6 _ lo (hi-lo).toNat,?_,fun b hb=>?_,q⟩
  . have e1:lo+((0:Nat):Int)*1=lo:=by simp
    have e2:(((hi-lo).toNat:Nat):Int)-((0:Nat):Int)=Builtin.Range.rangeSize lo hi 1:=by rw[rangeSize_one];split<;>omega
    show IsRangeIter _ _ (lo+((0:Nat):Int)*1) ((((hi-lo).toNat:Nat):Int)-((0:Nat):Int)) 1;rw[e1,e2];exact get?_push_size _ rfl
  . have e:b=(s.heap.push { cls:=.type "range",data:=.fields #[.int lo t,.int hi u,.int 1 v]}).objs.size:=by simpa using hb
    subst e;exact I1.UC (le_refl _) (I1.bj.fresh (le_refl _))
def acX(ta:TA):TI:=fun σ H R=>ta σ H fun vs H1=>∃j:Int,vs=[.int j]/\ -(2^62)<=j/\j<2^62/\R (ZO 0 j.toNat) H1
theorem ke{a:Expr}{ta:TA}{p pos:Pos}(hg:Gl X "range")(hm:X.mg "range"=none)(ha:PA X [a] ta)(hs:starEach [a] X.env=[(false,eval a X.env)]:=by rfl):PI X tg (.Call (.Name "range" p) [a] [] pos) (acX ta):=by
  intro pins s σ H R I h;refine Call_ (pE I hg hm boot_range (PyProof.Rows.callWith_type1 (cy (ha pos pins s σ H _ I h) fun us s1 ⟨vs,H1,I1,r1,q1⟩=>?_) hs rfl));obtain⟨j,e,q1,q2,q⟩:=q1;subst e;cases r1 with
  | cons r rr=>cases rr;obtain⟨t,rfl⟩:=r;exact call_range_1 (YC I1 (by omega) (by omega) q1 q2 (by simpa using q))
def aiF(wi:TI)(g:TG)(tb:TS):TS:=fun D σ H=>wi σ H fun J H1=>∃W:Nat->Nat->St->Hp->Prop,(∃m,W 0 m σ H1)/\∀i m σ H,W i m σ H->
  (J.stop i H/\D.nx σ H)\/(J.go i H/\∃N:St->Hp->Prop,(∀σ' H',N σ' H'->∃m',m'<m/\W (i+1) m' σ' H')/\∀x H',J.LW i H x H'->g x σ H' fun σ2 H2=>tb { D with nx:=N,ct:=N,bk:=D.nx} σ2 H2)
def Gb(fp:List Addr)(h:Heap):List (Addr×Obj):=fp.filterMap fun b=>(h.get? b).map fun o=>(b,o)
theorem vt{fp:List Addr}{h:Heap}{b:Addr}{o:Obj}(hb:b∈fp)(e:h.get? b=some o):(b,o)∈Gb fp h:=List.mem_filterMap.mpr ⟨b,hb,by rw[e];rfl⟩
theorem Vo{fp:List Addr}{h:Heap}{p:Addr×Obj}(hp:p∈Gb fp h):p.1∈fp/\h.get? p.1=some p.2:=by
  obtain⟨b,hb,e⟩:=List.mem_filterMap.mp hp;cases q:h.get? b with
  | none=>rw[q]at e;cases e
  | some o=>rw[q]at e;have e':(b,o)=p:=Option.some.inj e;subst e';exact⟨hb,q⟩
theorem Inv.pinned{pins:List (Addr×Obj)}{σ:St}{H:Hp}{s:Shared}{fp:List Addr}(I:Inv X pins σ H s)(hf:∀b∈fp,Bv X pins H b)(ho:∀b∈fp,∃o,s.heap.get? b=some o/\∀v,o.data≠ .cell v):Inv X (pins++Gb fp s.heap) σ H s:=
  I.To fun p hp=>(mem_append.mp hp).elim (fun z=>I.pin p (mem_append_right _ z)) fun z=>by obtain⟨hb,e⟩:=Vo z;obtain⟨f0,f1,f2,_⟩:=hf p.1 hb;obtain⟨o,e',d⟩:=ho p.1 hb;rw[e]at e';cases e';exact⟨e,f0,f1,f2,d⟩
theorem Inv.x9{pins pl:List (Addr×Obj)}{σ:St}{H:Hp}{s:Shared}(I:Inv X (pins++pl) σ H s):Inv X pins σ H s:=I.To fun p hp=>I.pin p (mem_append_right _ (mem_append_left _ hp))
theorem dQ{iter:Expr}{body:List Stmt}{wi:TI}{g:TG}{tb:TS}{pos:Pos}(hp:PassesOwn (model X.prog X.w) X.A X.env X.xe)(hc:X.calm=true)(hi:PI X tg iter wi)(hg:PG X tg g)(hb:OF X body tb)(hs:∀x,foldedSetIterable iter X.env x=pure x:=by intro _;rfl):PS X (.For tg iter body [] pos) (aiF wi g tb):=by
  intro pins s σ H D I h;refine wpAny_For (cy (hi pins s σ H _ I h) fun v s1 h1=>cy h1 fun itv s2 h2=>?_) hs;obtain⟨it,fp,tn,J,H2,e,I2,T,st2,f2,W,⟨m0,w0⟩,turn⟩:=h2;subst e;have RX:∀{H':Hp},(∀b∈fp,H' b=none)->∀b∈fp,Bv X pins H' b:=fun hn b hb=>⟨hn b hb,(f2 b hb).2⟩;refine codeAny_forLoop_any (fun n s'=>∃i σ' H',Inv X pins σ' H' s'/\tn i s'.heap/\(∀b∈fp,H' b=none)/\W i n σ' H') ?_ m0 ⟨0,σ,H2,I2,st2,fun b hb=>(f2 b hb).1,w0⟩;rintro n s3 ⟨i,σ3,H3,I3,st3,fr3,w3⟩;rcases turn i n σ3 H3 w3 with⟨stop,qn⟩ | ⟨go,N,hN,step⟩
  . refine wpAny_passesOwn hp (cy (T.done X rfl rfl rfl hc i pins s3 σ3 H3 X.xe I3 (RX fr3) st3 stop) fun r s4 ⟨hr,I4⟩=>?_);subst hr;exact wpAny_execs_nil ⟨σ3,H3,I4,qn⟩
  . refine wpAny_passesOwn hp (cy (T.item X rfl rfl rfl hc i pins s3 σ3 H3 X.xe I3 (RX fr3) st3 go) fun r s4 ⟨u,hr,h4⟩=>?_);subst hr;refine wpAny_passesOwn hp (cy h4 fun _ s5 ⟨x,H5,I5,r5,y5,st5,fr5⟩=>?_);have I5':=I5.pinned (RX fr5) (T.obj _ _ st5);refine wpAny_passesOwn hp (cy (hg _ s5 σ3 H5 x u _ I5' r5 (step x H5 y5)) fun _ s6 ⟨σ6,H6,I6,q6⟩=>?_);refine wpAny_passesOwn hp (cy (hb _ s6 σ6 H6 _ I6 q6) fun f s7 q7=>?_);have again:∀{σ7:St} {H7:Hp},Inv X (pins++Gb fp s5.heap) σ7 H7 s7->N σ7 H7->∃m,m<n/\∃i σ' H',Inv X pins σ' H' s7/\tn i s7.heap/\(∀b∈fp,H' b=none)/\W i m σ' H':=fun {σ7 H7} I7 n7=>by obtain⟨m',hm,w7⟩:=hN σ7 H7 n7;refine⟨m',hm,i+1,σ7,H7,I7.x9,T.keep _ _ _ st5 fun b hb o e=>(I7.pin (b,o) (mem_append_right _ (mem_append_right _ (vt hb e)))).1,fun b hb=>?_,w7⟩;obtain⟨o,e,d⟩:=T.obj _ _ st5 b hb;exact(I7.pin (b,o) (mem_append_right _ (mem_append_right _ (vt hb e)))).2.1
    cases f with
    | next=>obtain⟨σ7,H7,I7,n7⟩:=q7;exact again I7 n7
    | cont=>obtain⟨σ7,H7,I7,n7⟩:=q7;exact again I7 n7
    | brk=>obtain⟨σ7,H7,I7,q7⟩:=q7;exact⟨σ7,H7,I7.x9,q7⟩
    | ret v=>obtain⟨x7,σ7,H7,I7,r7,q7⟩:=q7;exact⟨x7,σ7,H7,I7.x9,r7,q7⟩
end
end L2
namespace L2
open PySem PySem.Spec PyProof.Rows
abbrev R2:=V->V->Hp->VK->Prop
def yb(X:Cx)(f:Value->Value->Sem Value)(r:R2):Prop:=
  ∀(pins:List (Addr×Obj)) (s:Shared) (σ:St) (H:Hp) (x y:V) (v u:Value) (Q:VK),Inv X pins σ H s->RelV x v->RelV y u->r x y H Q->
    wpAny (model X.prog X.w) X.A (f v u) (EP X pins σ Q) X.xe s
def UnR(X:Cx)(f:Value->Sem Value)(r:V->Hp->VK->Prop):Prop:=
  ∀(pins:List (Addr×Obj)) (s:Shared) (σ:St) (H:Hp) (x:V) (v:Value) (Q:VK),Inv X pins σ H s->RelV x v->r x H Q->
    wpAny (model X.prog X.w) X.A (f v) (EP X pins σ Q) X.xe s
def gh(X:Cx)(f:Value)(r:List V->Hp->VK->Prop):Prop:=
  ∀(pins:List (Addr×Obj)) (s:Shared) (σ:St) (H:Hp) (xs:List V) (us:List Value) (Q:VK),Inv X pins σ H s->Vals xs us->r xs H Q->
    wpAny (model X.prog X.w) X.A (call f us) (EP X pins σ Q) X.xe s
def ahg(X:Cx)(r:V->Hp->(Bool->Hp->Prop)->Prop):Prop:=
  ∀(pins:List (Addr×Obj)) (s:Shared) (σ:St) (H:Hp) (x:V) (v:Value) (Q:Bool->Hp->Prop),Inv X pins σ H s->RelV x v->r x H Q->
    wpAny (model X.prog X.w) X.A (truthy v) (TP X pins σ Q) X.xe s
def tOp(r:R2)(ta tb:TE):TE:=fun σ H Q=>ta σ H fun x H1=>tb σ H1 fun y H2=>r x y H2 Q
def tUn(r:V->Hp->VK->Prop)(ta:TE):TE:=fun σ H Q=>ta σ H fun x H1=>r x H1 Q
def rI(C:Int->Int->Prop)(g:Int->Int->V):R2:=fun x y H Q=>∃i j,x=.int i/\y=.int j/\C i j/\Q (g i j) H
def Wn(g:Int->Int->V):R2:=fun x y H Q=>∃i j,x=.int i/\y=.int j/\Q (g i j) H
def rU(g:Int->V):V->Hp->VK->Prop:=fun x H Q=>∃i,x=.int i/\Q (g i) H
section
variable{X:Cx}{a b c:Expr}{ta tb tc:TE}{pos:Pos}
theorem ads(ha:PE X a ta)(hb:PE X b tb){pins:List (Addr×Obj)}{s:Shared}{σ:St}{H:Hp}{R:V->V->Hp->Prop}(I:Inv X pins σ H s)(h:ta σ H fun x H1=>tb σ H1 fun y H2=>R x y H2){Q:Value->Shared->Prop}{f:Value->Value->Sem Value}(hf:∀v u s2 x y H2,Inv X pins σ H2 s2->RelV x v->RelV y u->R x y H2->wpAny (model X.prog X.w) X.A (f v u) Q X.xe s2):wpAny (model X.prog X.w) X.A (eval a X.env) (fun v s₁=>wpAny (model X.prog X.w) X.A (eval b X.env) (fun u s₂=>wpAny (model X.prog X.w) X.A (f v u) Q X.xe s₂) X.xe s₁) X.xe s:=by refine cy (ha pins s σ H _ I h) fun v s1 ⟨x,H1,I1,r1,q1⟩=>?_;refine cy (hb pins s1 σ H1 _ I1 q1) fun u s2 ⟨y,H2,I2,r2,q2⟩=>?_;exact hf v u s2 x y H2 I2 r1 r2 q2
theorem bV{op:Operator}{r:R2}(ho:yb X (binaryOp op) r)(ha:PE X a ta)(hb:PE X b tb):PE X (.BinOp a op b pos) (tOp r ta tb):=by intro pins s σ H Q I h;exact wpAny_BinOp (ads ha hb I h fun v u s2 x y H2 I2 rx ry q=>ho pins s2 σ H2 x y v u Q I2 rx ry q)
theorem ac3{op:UnaryOp}{r:V->Hp->VK->Prop}(ho:UnR X (unaryOp op) r)(ha:PE X a ta):PE X (.UnaryOp op a pos) (tUn r ta):=by intro pins s σ H Q I h;exact UnaryOp_ (cy (ha pins s σ H _ I h) fun v s1 ⟨x,H1,I1,r1,q1⟩=>ho pins s1 σ H1 x v Q I1 r1 q1)
theorem opI{f:Value->Value->Sem Value}{C:Int->Int->Prop}{g:Int->Int->Int}(rule:∀(i j:Int) (t u:Tok) (s:Shared) (Q:Value->Shared->Prop) (E:Value->Shared->Prop),C i j->Q (.int (g i j) s.toks) { s with toks:=s.toks+1}->wpAny (model X.prog X.w) X.A (f (.int i t) (.int j u)) Q E s):yb X f (rI C fun i j=>.int (g i j)):=by intro pins s σ H x y v u Q I rx ry h;obtain⟨i,j,rfl,rfl,hc,q⟩:=h;obtain⟨t,rfl⟩:=rx;obtain⟨t',rfl⟩:=ry;exact rule i j t t' s _ _ hc ⟨.int (g i j),H,I.tok _,⟨_,rfl⟩,q⟩
theorem abF{f:Value->Value->Sem Value}{g:Int->Int->Int}(rule:∀(i j:Int) (t u:Tok) (s:Shared) (Q:Value->Shared->Prop) (E:Value->Shared->Prop),Q (.int (g i j) s.toks) { s with toks:=s.toks+1}->wpAny (model X.prog X.w) X.A (f (.int i t) (.int j u)) Q E s):yb X f (Wn fun i j=>.int (g i j)):=by intro pins s σ H x y v u Q I rx ry h;obtain⟨i,j,rfl,rfl,q⟩:=h;obtain⟨t,rfl⟩:=rx;obtain⟨t',rfl⟩:=ry;exact rule i j t t' s _ _ ⟨.int (g i j),H,I.tok _,⟨_,rfl⟩,q⟩
theorem abE{f:Value->Value->Sem Value}{g:Int->Int->Bool}(rule:∀(i j:Int) (t u:Tok) (s:Shared) (Q:Value->Shared->Prop) (E:Value->Shared->Prop),Q (.bool (g i j)) s->wpAny (model X.prog X.w) X.A (f (.int i t) (.int j u)) Q E s):yb X f (Wn fun i j=>.bl (g i j)):=by intro pins s σ H x y v u Q I rx ry h;obtain⟨i,j,rfl,rfl,q⟩:=h;obtain⟨t,rfl⟩:=rx;obtain⟨t',rfl⟩:=ry;exact rule i j t t' s _ _ ⟨.bl (g i j),H,I,rfl,q⟩
def afp(i j:Int):Prop:=0<=j/\j<=1000000/\i.natAbs<2^64
def ada(i j:Int):Prop:=(-(2^64)<i/\i<2^64)\/(-(2^64)<j/\j<2^64)
theorem ada.ok{i j:Int}(h:ada i j):IntMulOk i j:=by
  rcases h with⟨h1,h2⟩ | ⟨h1,h2⟩
  . exact .of_left (intBits_le_64 h1 h2)
  . exact .of_right (intBits_le_64 h1 h2)
theorem nL:yb X (binaryOp .Add) (Wn fun i j=>.int (i+j)):=abF fun _ _ _ _ _ _ _ q=>add_int q
theorem vD:yb X (binaryOp .Sub) (Wn fun i j=>.int (i-j)):=abF fun _ _ _ _ _ _ _ q=>sub_int q
theorem aeH:yb X (binaryOp .Mult) (rI ada fun i j=>.int (i*j)):=opI fun _ _ _ _ _ _ _ hc q=>mul_int q hc.ok
theorem Ri:yb X (binaryOp .LShift) (rI afp fun i j=>.int (i*2^j.toNat)):=opI fun _ _ _ _ _ _ _ hc q=>lshift_int_small hc.1 hc.2.1 hc.2.2 q
theorem Yo:yb X (binaryOp .BitAnd) (Wn fun i j=>.int (Builtin.bitAnd i j)):=abF fun _ _ _ _ _ _ _ q=>and_int q
theorem agw:yb X (binaryOp .BitOr) (Wn fun i j=>.int (Builtin.bitOr i j)):=abF fun _ _ _ _ _ _ _ q=>or_int q
theorem unI{f:Value->Sem Value}{g:Int->Int}(rule:∀(i:Int) (t:Tok) (s:Shared) (Q:Value->Shared->Prop) (E:Value->Shared->Prop),Q (.int (g i) s.toks) { s with toks:=s.toks+1}->wpAny (model X.prog X.w) X.A (f (.int i t)) Q E s):UnR X f (rU fun i=>.int (g i)):=by intro pins s σ H x v Q I rx h;obtain⟨i,rfl,q⟩:=h;obtain⟨t,rfl⟩:=rx;exact rule i t s _ _ ⟨.int (g i),H,I.tok _,⟨_,rfl⟩,q⟩
theorem Zi:UnR X (unaryOp .USub) (rU fun i=>.int (-i)):=unI fun _ _ _ _ _ q=>neg_int q
end
def agH:V->V->Bool
  | .dZ,.dZ=>true | .dZ,.int _=>true | .int _,.dZ=>true | .dZ,.bl _=>true | .bl _,.dZ=>true | .dZ,.str _=>true | .str _,.dZ=>true
  | .int _,.int _=>true | .bl _,.bl _=>true | .str _,.str _=>true | .JM _,.JM _=>true
  | .int _,.str _=>true | .str _,.int _=>true | .bl _,.str _=>true | .str _,.bl _=>true
  | _,_=>false
def rEq:R2:=fun x y H Q=>agH x y=true/\Q (.bl (decide (x=y))) H
def rNe:R2:=fun x y H Q=>agH x y=true/\Q (.bl (!decide (x=y))) H
theorem SF{i j:Int}:decide (V.int i=V.int j)=(i==j):=by rw[Bool.eq_iff_iff];simp
theorem Xf{i j:Bool}:decide (V.bl i=V.bl j)=(i==j):=by rw[Bool.eq_iff_iff];simp
theorem SG{i j:Str}:decide (V.str i=V.str j)=(i==j):=by rw[Bool.eq_iff_iff];simp
theorem SE{i j:Array UInt8}:decide (V.JM i=V.JM j)=(i.toList==j.toList):=by rw[Bool.eq_iff_iff];cases i;cases j;simp
section
variable{X:Cx}{a b c:Expr}{ta tb tc:TE}{pos:Pos}
theorem bU{pins:List (Addr×Obj)}{σ:St}{H:Hp}{s:Shared}{Q:VK}{k k':Bool}(I:Inv X pins σ H s)(q:Q (.bl k) H)(e:k=k'):EP X pins σ Q (.bool k') s:=by subst e;exact⟨.bl k,H,I,rfl,q⟩
theorem FZ:yb X (compareOp .Eq) rEq:=by
  intro pins s σ H x y v u Q I rx ry h;obtain⟨hs,q⟩:=h;cases x with
  | dZ=>
    cases rx;cases y with
    | dZ=>cases ry;exact PySem.EqNone.eq_none_none (bU I q (by simp))
    | bl j=>cases ry;exact PySem.EqNone.eq_none_bool (bU I q (by simp))
    | int j=>obtain⟨t',rfl⟩:=ry;exact PySem.EqNone.eq_none_int (bU I q (by simp))
    | str j=>obtain⟨t',rfl⟩:=ry;exact PySem.EqNone.eq_none_str (bU I q (by simp))
    | _=>exact absurd (show false=true from hs) Bool.false_ne_true
  | bl i=>
    cases rx;cases y with
    | dZ=>cases ry;exact PySem.EqNone.eq_bool_none (bU I q (by simp))
    | bl j=>cases ry;exact eq_bool (bU I q Xf)
    | str j=>obtain⟨t',rfl⟩:=ry;exact PySem.EqMixed.eq_bool_str (bU I q (by simp))
    | _=>exact absurd (show false=true from hs) Bool.false_ne_true
  | int i=>
    obtain⟨t,rfl⟩:=rx;cases y with
    | dZ=>cases ry;exact PySem.EqNone.eq_int_none (bU I q (by simp))
    | int j=>obtain⟨t',rfl⟩:=ry;exact eq_int (bU I q SF)
    | str j=>obtain⟨t',rfl⟩:=ry;exact PySem.EqMixed.eq_int_str (bU I q (by simp))
    | _=>exact absurd (show false=true from hs) Bool.false_ne_true
  | str i=>
    obtain⟨t,rfl⟩:=rx;cases y with
    | dZ=>cases ry;exact PySem.EqNone.eq_str_none (bU I q (by simp))
    | bl j=>cases ry;exact PySem.EqMixed.eq_str_bool (bU I q (by simp))
    | int j=>obtain⟨t',rfl⟩:=ry;exact PySem.EqMixed.eq_str_int (bU I q (by simp))
    | str j=>obtain⟨t',rfl⟩:=ry;exact eq_str (bU I q SG)
    | _=>exact absurd (show false=true from hs) Bool.false_ne_true
  | JM i=>
    obtain⟨t,rfl⟩:=rx;cases y with
    | JM j=>obtain⟨t',rfl⟩:=ry;exact PySem.W.eq_bytes (bU I q SE)
    | _=>exact absurd (show false=true from hs) Bool.false_ne_true
  | _=>cases y<;>exact absurd (show false=true from hs) Bool.false_ne_true
theorem IZ:yb X (compareOp .NotEq) rNe:=by
  intro pins s σ H x y v u Q I rx ry h;obtain⟨hs,q⟩:=h;cases x with
  | dZ=>
    cases rx;cases y with
    | dZ=>cases ry;exact PySem.EqNone.ne_none_none (bU I q (by simp))
    | bl j=>cases ry;exact PySem.EqNone.ne_none_bool (bU I q (by simp))
    | int j=>obtain⟨t',rfl⟩:=ry;exact PySem.EqNone.ne_none_int (bU I q (by simp))
    | str j=>obtain⟨t',rfl⟩:=ry;exact PySem.EqNone.ne_none_str (bU I q (by simp))
    | _=>exact absurd (show false=true from hs) Bool.false_ne_true
  | bl i=>
    cases rx;cases y with
    | dZ=>cases ry;exact PySem.EqNone.ne_bool_none (bU I q (by simp))
    | bl j=>cases ry;exact ne_bool (bU I q (congrArg not Xf))
    | str j=>obtain⟨t',rfl⟩:=ry;exact PySem.EqMixed.ne_bool_str (bU I q (by simp))
    | _=>exact absurd (show false=true from hs) Bool.false_ne_true
  | int i=>
    obtain⟨t,rfl⟩:=rx;cases y with
    | dZ=>cases ry;exact PySem.EqNone.ne_int_none (bU I q (by simp))
    | int j=>obtain⟨t',rfl⟩:=ry;exact ne_int (bU I q (congrArg not SF))
    | str j=>obtain⟨t',rfl⟩:=ry;exact PySem.EqMixed.ne_int_str (bU I q (by simp))
    | _=>exact absurd (show false=true from hs) Bool.false_ne_true
  | str i=>
    obtain⟨t,rfl⟩:=rx;cases y with
    | dZ=>cases ry;exact PySem.EqNone.ne_str_none (bU I q (by simp))
    | bl j=>cases ry;exact PySem.EqMixed.ne_str_bool (bU I q (by simp))
    | int j=>obtain⟨t',rfl⟩:=ry;exact PySem.EqMixed.ne_str_int (bU I q (by simp))
    | str j=>obtain⟨t',rfl⟩:=ry;exact ne_str (bU I q (congrArg not SG))
    | _=>exact absurd (show false=true from hs) Bool.false_ne_true
  | JM i=>
    obtain⟨t,rfl⟩:=rx;cases y with
    | JM j=>obtain⟨t',rfl⟩:=ry;exact PySem.W.ne_bytes (bU I q (congrArg not SE))
    | _=>exact absurd (show false=true from hs) Bool.false_ne_true
  | _=>cases y<;>exact absurd (show false=true from hs) Bool.false_ne_true
theorem Yp:yb X (compareOp .Lt) (Wn fun i j=>.bl (decide (i<j))):=abE fun _ _ _ _ _ _ _ q=>lt_int q
theorem gT:yb X (compareOp .LtE) (Wn fun i j=>.bl (decide (i<=j))):=abE fun _ _ _ _ _ _ _ q=>le_int q
theorem agv:yb X (compareOp .Gt) (Wn fun i j=>.bl (decide (j<i))):=abE fun _ _ _ _ _ _ _ q=>gt_int q
theorem agu:yb X (compareOp .GtE) (Wn fun i j=>.bl (decide (j<=i))):=abE fun _ _ _ _ _ _ _ q=>ge_int q
theorem ez(b:Expr){op:CmpOp}(h:op≠ .In:=by decide)(h2:op≠ .NotIn:=by decide):behindInMarks op b=false:=by
  have e1:(op==CmpOp.In)=false:=by cases op<;>first | rfl | exact absurd rfl h
  have e2:(op==CmpOp.NotIn)=false:=by cases op<;>first | rfl | exact absurd rfl h2
  cases b<;>simp[behindInMarks,e1,e2]
theorem xD{op:CmpOp}{r:R2}(ho:yb X (compareOp op) r)(ha:PE X a ta)(hb:PE X b tb)(hm:behindInMarks op b=false):PE X (.Compare a [op] [b] pos) (tOp r ta tb):=by intro pins s σ H Q I h;exact wpAny_Compare1 (ads ha hb I h fun v u s2 x y H2 I2 rx ry q=>ho pins s2 σ H2 x y v u Q I2 rx ry q) hm
def ac9(t:TE):TT:=fun σ H Q=>t σ H fun x H'=>∃k,x=.bl k/\Q k H'
theorem cT{op:CmpOp}{r:R2}(ho:yb X (compareOp op) r)(ha:PE X a ta)(hb:PE X b tb)(hm:behindInMarks op b=false):PT X (.Compare a [op] [b] pos) (ac9 (tOp r ta tb)):=by intro pins s σ H Q I h;refine wpAny_isTrue_Compare1 (cy (ha pins s σ H _ I h) fun v s1 ⟨x,H1,I1,r1,q1⟩=>cy (hb pins s1 σ H1 _ I1 q1) fun u s2 ⟨y,H2,I2,r2,q2⟩=>cy (ho pins s2 σ H2 x y v u _ I2 r1 r2 q2) fun c s3 ⟨z,H3,I3,r3,k,e,q3⟩=>?_) hm;subst e;cases r3;exact wpAny_truthy_bool ⟨H3,I3,q3⟩
def Za(r r':R2)(ta tb tc:TE):TE:=fun σ H Q=>ta σ H fun x H1=>tb σ H1 fun y H2=>r x y H2 fun z H3=>∃k,z=.bl k/\
  (if k=true then tc σ H3 fun w' H4=>r' y w' H4 Q else Q (.bl false) H3)
theorem F6{op op':CmpOp}{r r':R2}(ho:yb X (compareOp op) r)(OI:yb X (compareOp op') r')(ha:PE X a ta)(hb:PE X b tb)(hc:PE X c tc)(hm:lastMarks [op,op'] [b,c]=false:=by with_unfolding_all rfl):PE X (.Compare a [op,op'] [b,c] pos) (Za r r' ta tb tc):=by
  intro pins s σ H Q I h;refine Compare_chain (cy (ha pins s σ H _ I h) fun v s1 ⟨x,H1,I1,r1,q1⟩=>chain_link (cy (hb pins s1 σ H1 _ I1 q1) fun u s2 ⟨y,H2,I2,r2,q2⟩=>cy (ho pins s2 σ H2 x y v u _ I2 r1 r2 q2) fun d s3 ⟨z,H3,I3,r3,k,e,q3⟩=>?_)) hm;subst e;cases r3;refine wpAny_truthy_bool ?_;cases k with
  | false=>exact ite_ff ⟨.bl false,H3,I3,rfl,q3⟩
  | true=>exact ite_tt (chain_last (cy (hc pins s3 σ H3 _ I3 q3) fun w' s4 ⟨z',H4,I4,r4,q4⟩=>OI pins s4 σ H4 y z' u w' Q I4 r2 r4 q4))
theorem l9{op op':CmpOp}{r r':R2}(ho:yb X (compareOp op) r)(OI:yb X (compareOp op') r')(ha:PE X a ta)(hb:PE X b tb)(hc:PE X c tc)(hm:lastMarks [op,op'] [b,c]=false:=by with_unfolding_all rfl):PT X (.Compare a [op,op'] [b,c] pos) (ac9 (Za r r' ta tb tc)):=by
  intro pins s σ H Q I h;refine isTrue_chain (cy (ha pins s σ H _ I h) fun v s1 ⟨x,H1,I1,r1,q1⟩=>test_link (cy (hb pins s1 σ H1 _ I1 q1) fun u s2 ⟨y,H2,I2,r2,q2⟩=>cy (ho pins s2 σ H2 x y v u _ I2 r1 r2 q2) fun d s3 ⟨z,H3,I3,r3,k,e,q3⟩=>?_)) hm;subst e;cases r3;refine wpAny_truthy_bool ?_;cases k with
  | false=>obtain⟨k',e',q'⟩:=q3;cases e';exact ite_ff ⟨H3,I3,q'⟩
  | true=>refine ite_tt (test_last (cy (hc pins s3 σ H3 _ I3 q3) fun w' s4 ⟨z',H4,I4,r4,q4⟩=>cy (OI pins s4 σ H4 y z' u w' _ I4 r2 r4 q4) fun d' s5 ⟨z2,H5,I5,r5,k2,e2,q5⟩=>?_));subst e2;cases r5;exact wpAny_truthy_bool ⟨H5,I5,q5⟩
def adj(K:Frag)(x:V)(H:Hp)(k:Bool):Prop:=
  match x with
  | .dZ=>k=false
  | .bl b=>k=b
  | .int i=>k=(i !=0)
  | .str y=>y.length<=sizeLine/\k=((y.length:Int) !=0)
  | .JM y=>y.size<=sizeLine/\k=((y.size:Int) !=0)
  | .ref p=>(∃xs,aN K H p xs/\k= !xs.isEmpty)\/(∃xs,mT K H p xs/\k= !xs.isEmpty)\/∃aB,H p=some (.dK aB)/\k= !aB.isEmpty
  | _=>False
theorem Qk{κ:Type}{aB:List (κ×V)}{vs:List (κ×Value)}(r:KV aB vs):(!vs.isEmpty)= !aB.isEmpty:=by cases r<;>rfl
theorem u7{xs:List V}{aX:List Value}(r:Vals xs aX):(!aX.toArray.isEmpty)= !xs.isEmpty:=by cases r<;>simp
theorem FD:(sizeLine:Nat)<2^63:=by rw[sizeLine_eq];decide
theorem afm:ahg X (fun x H Q=>∃k,adj X.K x H k/\Q k H):=by
  intro pins s σ H x v Q I rx h;obtain⟨k,e,q⟩:=h;have hl:=FD;have hs:sizeLine=16777216:=sizeLine_eq;cases x with
  | dZ=>cases rx;have e':k=false:=e;subst e';exact truthy_none ⟨H,I,q⟩
  | bl b=>cases rx;have e':k=b:=e;subst e';exact wpAny_truthy_bool ⟨H,I,q⟩
  | int i=>obtain⟨t,rfl⟩:=rx;have e':k=(i !=0):=e;subst e';exact PySem.P.truthy_int ⟨H,I,q⟩
  | str y=>obtain⟨t,rfl⟩:=rx;obtain⟨hy,e'⟩:y.length<=sizeLine/\k=((y.length:Int) !=0):=e;subst e';exact PySem.P.truthy_str (by omega) ⟨H,I.tok _,q⟩
  | JM y=>obtain⟨t,rfl⟩:=rx;obtain⟨hy,e'⟩:y.size<=sizeLine/\k=((y.size:Int) !=0):=e;subst e';exact PySem.W.truthy_bytes (by omega) ⟨H,I.tok _,q⟩
  | ref p=>
    cases rx;have e':(∃xs,aN X.K H p xs/\k= !xs.isEmpty)\/(∃xs,mT X.K H p xs/\k= !xs.isEmpty)\/∃aB,H p=some (.dK aB)/\k= !aB.isEmpty:=e;rcases e' with⟨xs,hx,e'⟩ | ⟨xs,hx,e'⟩ | ⟨aB,hx,e'⟩
    . subst e';obtain⟨aX,r,pl,hz⟩:=I.list hx;have hlen:=r.length;exact wpAny_truthy_list pl.isList (by simp only[size_toArray];omega) ⟨H,I.tok _,by rw[u7 r];exact q⟩
    . subst e';obtain⟨aX,r,pl,hz⟩:=I.tuple hx;have hlen:=r.length;exact truthy_tuple pl (by simp only[size_toArray];omega) ⟨H,I.tok _,by rw[u7 r];exact q⟩
    . subst e';obtain⟨hz,hS,vs,r,m⟩:aB.length<=sizeLine/\(p==sysModules)=false/\∃vs,KV aB vs/\s.heap.DictOf (bw X.prog X.w) p vs:=I.bj p _ hx;have hlen:aB.length=vs.length:=Paired.length r;exact wpAny_truthy_dict hS m (by omega) ⟨H,I.tok _,by rw[Qk r];exact q⟩
  | _=>exact(show False from e).elim
theorem r9(ha:PE X a ta)(he:∀whole,isTrue a X.env whole=(do let v <-whole;standAt a.pos;holding [v] (truthy v))):
    PT X a (fun σ H Q=>ta σ H fun x H'=>∃k,adj X.K x H' k/\Q k H'):=by
  intro pins s σ H Q I h;exact isTrue_plain (cy (ha pins s σ H _ I h) fun v s1 ⟨x,H1,I1,r1,q1⟩=>afm pins s1 σ H1 x v Q I1 r1 q1) (he _)
theorem vals1{x:V}{us:List Value}(r:Vals [x] us):∃u,us=[u]/\RelV x u:=by
  cases r with
  | cons r1 r2=>cases r2;exact⟨_,rfl,r1⟩
theorem vals2{x y:V}{us:List Value}(r:Vals [x,y] us):∃u w',us=[u,w']/\RelV x u/\RelV y w':=by
  cases r with
  | cons r1 r2=>
    cases r2 with
    | cons r3 r4=>cases r4;exact⟨_,_,rfl,r1,r3⟩
theorem Ik(hc:X.calm=true):gh X (.builtin "max") (fun xs H Q=>∃i j,xs=[.int i,.int j]/\Q (.int (if j>i then j else i)) H):=by
  intro pins s σ H xs us Q I r h;obtain⟨i,j,rfl,q⟩:=h;obtain⟨u,w',rfl,⟨t,rfl⟩,⟨t',rfl⟩⟩:=vals2 r;refine max_two_ints (I.ok.hd hc) fun h' tk k=>⟨_,H,I.kept k,?_,q⟩;by_cases hj:j>i
  . rw[if_pos hj,if_pos hj];exact⟨_,rfl⟩
  . rw[if_neg hj,if_neg hj];exact⟨_,rfl⟩
theorem Ue(hc:X.calm=true):gh X (.builtin "min") (fun xs H Q=>∃i j,xs=[.int i,.int j]/\Q (.int (if j<i then j else i)) H):=by
  intro pins s σ H xs us Q I r h;obtain⟨i,j,rfl,q⟩:=h;obtain⟨u,w',rfl,⟨t,rfl⟩,⟨t',rfl⟩⟩:=vals2 r;refine min_two_ints (I.ok.hd hc) fun h' tk k=>⟨_,H,I.kept k,?_,q⟩;by_cases hj:j<i
  . rw[if_pos hj,if_pos hj];exact⟨_,rfl⟩
  . rw[if_neg hj,if_neg hj];exact⟨_,rfl⟩
end
end L2
namespace L2
open PySem PySem.Spec PyProof.Rows
structure OT(h:Heap)(x dx C:Addr)(mA:Str->Option Value):Prop where
  obj:h.get? x=some (instObj C dx)
  ns:h.Ns1 dx mA
  ne:dx≠x
theorem U6{h:Heap}{dx:Addr}{mA:Str->Option Value}(n:h.Ns1 dx mA):∃od,h.get? dx=some od/\∀name,lookIn name od=some (mA name):=by
  obtain⟨o,es,ep,ho,hd,hk,_,hm⟩:=n;refine⟨o,ho,fun name=>?_⟩;have e:=hm name;unfold nsFind findBy at e;rw[<-Array.find?_toList]at e;unfold lookIn;rw[hd];dsimp only;split
  . rename_i y q;rw[q]at e;exact congrArg some e
  . rename_i q;rw[q]at e;have a:es.toList.any (·.refKey)=false:=by rw[any_eq_false];intro y hy;obtain⟨z,t,adV⟩:=hk y (Array.mem_toList_iff.mp hy);simp[DictEntry.refKey,adV]
    have a':¬es.toList.any (·.refKey)=true:=by rw[a];exact Bool.false_ne_true
    rw[if_neg a'];exact congrArg some e
theorem OT.look{h:Heap}{x dx C:Addr}{mA:Str->Option Value}(I:OT h x dx C mA):∃od,PySem.W.InstAt h x (instObj C dx) C (some od)/\∀name,lookIn name od=some (mA name):=
  let ⟨od,ho,hl⟩:=U6 I.ns
  ⟨od,⟨I.obj,rfl,rfl,ho⟩,hl⟩
section
variable{prog:Program}{w:World}{A:Around}{E:Value->Shared->Prop}{s:Shared}{K:Frag}{x dx C f:Addr}{mA:Str->Option Value}{name:Str}{v:Value}
theorem get_map{expr:Bool}{Q:Value->Shared->Prop}(X:K.In s.heap)(I:OT s.heap x dx C mA)(hg:plainGet K C name=true)(hh:hasDictIn K C=true)(ha:findIn K (.ref C) name=some none)(hv:mA name=some v)(hv':handedIn v=true)(h:Q v { s with toks:=s.toks+1}):wpAny (model prog w) A (getAttr (.ref x) name expr) Q E s:=by obtain⟨od,J,hl⟩:=I.look;exact PySem.W.get_value X J (plainGet_of hg).1 (PySem.W.findObj_own hh ha rfl (by rw[hl,hv])) hv' h
theorem Xp{pl:Sem Bool}{Q:Value×List Value->Shared->Prop}(X:K.In s.heap)(I:OT s.heap x dx C mA)(hg:plainGet K C name=true)(hf:findIn K (.ref C) name=some (some (.ref f)))(ht:isFn K (.ref f)=true)(hv:mA name=none)(h:Q (.ref f,[.ref x]) s):wpAny (model prog w) A (getMethod (.ref x) name pl) Q E s:=by obtain⟨od,J,hl⟩:=I.look;exact PySem.W.method_fn X J (plainGet_of hg).1 (plainGet_of hg).2 hf (beq_iff_eq.mp ht) (by show(lookIn name od).map (·.isSome)=some false;rw[hl,hv];rfl) h
theorem acd{ns:List Str}{Q:Unit->Shared->Prop}(X:K.In s.heap)(I:OT s.heap x dx C mA)(hs:findIn K (.ref C) "__setattr__"=some (some (.builtin "object.__setattr__")))(hp:plainOver K C=true)(ht:takerIn K C name=some none)(hh:hasDictIn K C=true)(hw:PySem.Within mA ns)(hsz:ns.length<=sizeLine)(h:∀h',OT h' x dx C (fun y=>if y=name then some v else mA y)->SameBut dx s.heap h'->Q () { s with heap:=h',toks:=s.toks+2}):wpAny (model prog w) A (setAttr (.ref x) name v) Q E s:=by obtain⟨od,J,hl⟩:=I.look;refine PySem.W.set_plain X J hs (PySem.W.osa_open (s:={ s with toks:=s.toks+1}) (r:=none) X J hp ht fun b=>?_);obtain⟨cd,hc,hd'⟩:=PySem.W.any_some hh;have hx:s.heap.get? x=some ⟨.ref C,some dx,.plain,#[]⟩:=I.obj;refine wpAny_bind (wpAny_pure (wpAny_bind (wpAny_bind (wpAny_loadPart hx (wpAny_bind (PySem.W.Looks.here (s:={ s with toks:=s.toks+1}) (PySem.W.looks_clsIn X hc) ?_))))));rw[hd'];refine wpAny_pure (a:=some dx) (wpAny_bind (wpAny_pure (wpAny_bind ?_)));refine wpAny_nsSet1 (s:={ s with toks:=s.toks+1}) I.ns fun h' hn2 UR=>?_;obtain⟨oD,esD,epD,hoD,hdD,hcD⟩:=hn2.count (PySem.Within.cons name v hw);refine wpAny_bind (wpAny_lookBehind hoD (by rw[hdD];exact pastItsLine_dict (le_trans hcD (by rw[length_cons];omega))) ?_);exact wpAny_pure (h _ ⟨(UR.2 _ (Ne.symm I.ne)).trans I.obj,hn2,I.ne⟩ UR)
theorem X7{R:Result->Shared->Prop}{vs:List Value}{kw:List (Str×Value)}(X:K.In s.heap)(hm:makesIn K C=true)(hi:findIn K (.ref C) "__init__"=some (some (.ref f)))(hf:PySem.W.typeIn K (.ref f)=some (.type "function"))(h:codeAny (model prog w) (A.under (.builtin "type.__call__" ⟨.ref C::vs,kw⟩)) (.call (.ref f) ⟨.ref (s.heap.objs.size+1)::vs,kw⟩) (PySem.W.InitBack (s.heap.objs.size+1) R) { s with heap:=(s.heap.push emptyDict).push (instObj C s.heap.objs.size)}):codeAny (model prog w) A (.call (.ref C) ⟨vs,kw⟩) R s:=by obtain⟨hh,g,d,t,os⟩:=s;exact PySem.W.make_core (PySem.W.makes_of X hm) (PySem.W.looks_findIn X hi) (fun self=>PySem.W.bind_fn X self hf) (.inl rfl) h
end
def dE(f:Str)(v:V):List (Str×V)->List (Str×V)
  | []=>[(f,v)]
  | (g,x)::r=>if g=f then (g,v)::r else (g,x)::dE f v r
theorem Bj(f g:Str)(v:V):∀fs:List (Str×V),(dE f v fs).lookup g=if g=f then some v else fs.lookup g
  | []=>by
    show List.lookup g [(f,v)]=_;by_cases h:g=f
    . have hb:(g==f)=true:=beq_iff_eq.mpr h;simp only[List.lookup,hb,if_pos h]
    . have hb:(g==f)=false:=beq_eq_false_iff_ne.mpr h;simp only[List.lookup,hb,if_neg h]
  | (k,x)::r=>by
    have ih:=Bj f g v r;rw[show dE f v ((k,x)::r)=(if k=f then (k,v)::r else (k,x)::dE f v r) from rfl];by_cases hk:k=f
    . rw[if_pos hk];by_cases h:g=k
      . have hb:(g==k)=true:=beq_iff_eq.mpr h;simp only[List.lookup,hb,if_pos (h.trans hk)]
      . have hb:(g==k)=false:=beq_eq_false_iff_ne.mpr h;simp only[List.lookup,hb,if_neg (fun e:g=f=>h (e.trans hk.symm))]
    . rw[if_neg hk];by_cases h:g=k
      . have hb:(g==k)=true:=beq_iff_eq.mpr h;simp only[List.lookup,hb,if_neg (fun e:g=f=>hk (h.symm.trans e))]
      . have hb:(g==k)=false:=beq_eq_false_iff_ne.mpr h;simp only[List.lookup,hb];exact ih
theorem zy(f:Str)(v:V):∀fs:List (Str×V),f∈(dE f v fs).map (·.1)/\∀g,g∈fs.map (·.1)->g∈(dE f v fs).map (·.1)
  | []=>⟨by simp[dE],fun g h=>by simp at h⟩
  | (k,x)::r=>by
    obtain⟨i1,i2⟩:=zy f v r;rw[show dE f v ((k,x)::r)=(if k=f then (k,v)::r else (k,x)::dE f v r) from rfl];by_cases hk:k=f
    . rw[if_pos hk];subst hk;exact⟨by simp,fun g h=>by simpa using h⟩
    . rw[if_neg hk];refine⟨?_,fun g h=>?_⟩
      . rw[map_cons];exact mem_cons_of_mem _ i1
      . rw[map_cons]at h ⊢;rcases mem_cons.mp h with e | e
        . exact mem_cons.mpr (.inl e)
        . exact mem_cons_of_mem _ (i2 g e)
theorem Bi(f:Str)(v:V):∀fs:List (Str×V),(dE f v fs).length<=fs.length+1
  | []=>by simp[dE]
  | (k,x)::r=>by
    have ih:=Bi f v r;rw[show dE f v ((k,x)::r)=(if k=f then (k,v)::r else (k,x)::dE f v r) from rfl];by_cases hk:k=f
    . rw[if_pos hk,length_cons,length_cons];omega
    . rw[if_neg hk,length_cons,length_cons];omega
theorem tE.some_of{v:V}{o:Option Value}(r:tE (some v) o):∃u,o=some u/\RelV v u:=by
  cases o with
  | none=>exact(show False from r).elim
  | some u=>exact⟨u,rfl,r⟩
theorem tE.none_of{o:Option Value}(r:tE none o):o=none:=by
  cases o with
  | none=>rfl
  | some u=>exact(show False from r).elim
theorem UK{v:V}{u:Value}(r:RelV v u):handedIn u=true:=by
  cases v with
  | dZ=>cases (show u=Value.none from r);rfl
  | bl b=>cases (show u=Value.bool b from r);rfl
  | int i=>obtain⟨t,e⟩:=(show ∃t,u=Value.int i t from r);cases e;rfl
  | str x=>obtain⟨t,e⟩:=(show ∃t,u=Value.str x t from r);cases e;rfl
  | JM b=>obtain⟨t,e⟩:=(show ∃t,u=Value.bytes b t from r);cases e;rfl
  | flt b=>obtain⟨t,e⟩:=(show ∃t,u=Value.float b t from r);cases e;rfl
  | ref a=>cases (show u=Value.ref a from r);rfl
  | ty n=>cases (show u=Value.type n from r);rfl
section
variable{P:Program}{w:World}{H H':Hp}{h h':Heap}{a C dx:Addr}{fs fs':List (Str×V)}
theorem Ku(bj:qt P w H h)(e:H a=some (.ins C dx fs)):∃mA,OT h a dx C mA/\(∀f,tE (fs.lookup f) (mA f))/\PySem.Within mA (fs.map (·.1))/\fs.length<=1000/\H dx=some (.own a):=by obtain⟨d,z,ne,ob,mA,n,r,q⟩:=(show cJ P w H h a (.ins C dx fs) from bj a _ e);exact⟨mA,⟨ob,n,ne⟩,r,q,z,d⟩
end
structure TX(K:Frag)(C:Addr):Prop where
  pg:plainGet K C Str.empty=true
  hd:hasDictIn K C=true
  po:plainOver K C=true
  sa:findIn K (.ref C) "__setattr__"=some (some (.builtin "object.__setattr__"))
theorem TX.get{K:Frag}{C:Addr}(c:TX K C)(f:Str):plainGet K C f=true:=c.pg
def eI(K:Frag)(C:Addr)(f:Str):Prop:=findIn K (.ref C) f=some none
theorem eI.ahb{K:Frag}{C:Addr}{f:Str}(n:eI K C f):takerIn K C f=some none:=by unfold takerIn;rw[show findIn K (.ref C) f=some none from n];rfl
structure Meth(K:Frag)(C:Addr)(m:Str)(f:Addr):Prop where
  at_:findIn K (.ref C) m=some (some (.ref f))
  fn:isFn K (.ref f)=true
  kp:keepIn K (.ref f)=true
section
variable{X:Cx}{pins:List (Addr×Obj)}{σ:St}{H:Hp}{s:Shared}{a C dx:Addr}{fs:List (Str×V)}{f:Str}{v:V}{A:Around}{E:Value->Shared->Prop}
theorem P8{b:Bool}{Q:Value->Shared->Prop}(I:Inv X pins σ H s)(e:H a=some (.ins C dx fs))(c:TX X.K C)(n:eI X.K C f)(l:fs.lookup f=some v)(h:∀u s',Inv X pins σ H s'->RelV v u->Q u s'):wpAny (model X.prog X.w) A (getAttr (.ref a) f b) Q E s:=by obtain⟨mA,O,r,_,_,_⟩:=Ku I.bj e;obtain⟨u,hu,ru⟩:=tE.some_of (v:=v) (o:=mA f) (by rw[<-l];exact r f);exact get_map I.OJ O (c.get f) c.hd n hu (UK ru) (h u _ (I.tok _) ru)
theorem u5{m:Str}{g:Addr}{pl:Sem Bool}{Q:Value×List Value->Shared->Prop}(I:Inv X pins σ H s)(e:H a=some (.ins C dx fs))(c:TX X.K C)(k:Meth X.K C m g)(l:fs.lookup m=none)(h:Q (.ref g,[.ref a]) s):wpAny (model X.prog X.w) A (getMethod (.ref a) m pl) Q E s:=by obtain⟨mA,O,r,_,_,_⟩:=Ku I.bj e;have hn:mA m=none:=tE.none_of (by rw[<-l];exact r m);exact Xp I.OJ O (c.get m) k.at_ k.fn hn h
theorem RK{y:V}{u:Value}{Q:Unit->Shared->Prop}(I:Inv X pins σ H s)(e:H a=some (.ins C dx fs))(c:TX X.K C)(n:eI X.K C f)(hl:fs.length<1000)(ry:RelV y u)(h:∀s',Inv X pins σ (upd H a (.ins C dx (dE f y fs))) s'->Q () s'):wpAny (model X.prog X.w) A (setAttr (.ref a) f u) Q E s:=by
  obtain⟨mA,O,r,wi,_,ho⟩:=Ku I.bj e;have hz:(fs.map (·.1)).length<=sizeLine:=by rw[length_map,sizeLine_eq];omega
  refine acd I.OJ O c.sa c.po n.ahb c.hd wi hz fun h' O' sb=>h _ ?_;have hd:∃o,h'.get? dx=some o:=let ⟨o,_,_,e',_⟩:=O'.ns;⟨o,e'⟩;refine I.write (x:=a) (e:=dx) (by rw[e];exact True.intro) (.inr ho) (fun b q hb z=>(sb.2 b hb).trans z) hd ?_;refine⟨by rw[au O.ne];exact ho,?_,O.ne,O'.obj,_,O'.ns,fun g=>?_,fun g hg=>?_⟩
  . have:=Bi f y fs;omega
  . show tE ((dE f y fs).lookup g) (if g=f then some u else mA g);rw[Bj];by_cases q:g=f
    . rw[if_pos q,if_pos q];exact ry
    . rw[if_neg q,if_neg q];exact r g
  . by_cases q:g=f
    . rw[q];exact(zy f y fs).1
    . refine(zy f y fs).2 g (wi g fun z=>hg ?_);show(if g=f then some u else mA g)=none;rw[if_neg q];exact z
theorem Inv.made(I:Inv X pins σ H s):Inv X pins σ (upd (upd H s.heap.objs.size (.own (s.heap.objs.size+1))) (s.heap.objs.size+1) (.ins C s.heap.objs.size [])) { s with heap:=(s.heap.push emptyDict).push (instObj C s.heap.objs.size)}:=by
  have e1:(s.heap.push emptyDict).get? s.heap.objs.size=some emptyDict:=get?_push_size s.heap rfl;have e2:((s.heap.push emptyDict).push (instObj C s.heap.objs.size)).get? (s.heap.objs.size+1)=some (instObj C s.heap.objs.size):=by have:=get?_push_size (s.heap.push emptyDict) (o:=instObj C s.heap.objs.size) rfl;rwa[size_push]at this
  have e3:(s.heap.push emptyDict).Ns s.heap.objs.size (fun _=>none):=⟨emptyDict,#[],_,e1,rfl,(fun e he=>absurd he (by simp)),fun _=>rfl⟩;have I1:=I.laid (a:=s.heap.objs.size) (o:=.own (s.heap.objs.size+1)) (h':=s.heap.push emptyDict) (t':=s.toks) (fun b u q=>get?_push_of_some _ q) (le_refl _) ⟨_,e1⟩;refine I1.laid (a:=s.heap.objs.size+1) (o:=.ins C s.heap.objs.size []) (t':=s.toks) (fun b u q=>get?_push_of_some _ q) (le_of_eq (size_push _ _)) ?_;have ne:s.heap.objs.size≠s.heap.objs.size+1:=ne_of_lt (lt_succ_self _);refine⟨by rw[au ne,ae],zero_le _,ne,e2,fun _=>none,(Heap.Ns1.of_empty e3).at fun o q=>get?_push_of_some _ q,fun _=>True.intro,fun y hy=>absurd rfl hy⟩
theorem Z9{prog:Program}{w:World}{env:Env}{e:Expr}{f:Str}{pos:Pos}{s:Shared}{Q:Value->Shared->Prop}(hb:attributeBase e f env (eval e env)=eval e env)(h:wpAny (model prog w) A (eval e env) (fun o s₁=>wpAny (model prog w) A (getAttr o f true) Q E s₁) E s):wpAny (model prog w) A (eval (.Attribute e f pos) env) Q E s:=
  Attribute_any_ h (by rw[arm_eval_Attribute,hb])
end
def ag4(K:Frag)(ta:TE)(f:Str):TE:=fun σ H Q=>ta σ H fun x H1=>∃a C dx fs v,x=.ref a/\H1 a=some (.ins C dx fs)/\TX K C/\eI K C f/\fs.lookup f=some v/\Q v H1
def agG(K:Frag)(ta tv:TE)(f:Str):TS:=fun D σ H=>tv σ H fun y H1=>ta σ H1 fun x H2=>∃a C dx fs,x=.ref a/\H2 a=some (.ins C dx fs)/\TX K C/\eI K C f/\fs.length<1000/\
  D.nx σ (upd H2 a (.ins C dx (dE f y fs)))
section
variable{X:Cx}{o e value:Expr}{f:Str}{pos pos' x8:Pos}{ta tv:TE}
theorem bf(he:PE X e ta)(hb:attributeBase e f X.env (eval e X.env)=eval e X.env):PE X (.Attribute e f pos) (ag4 X.K ta f):=by intro pins s σ H Q I h;refine Z9 hb (cy (he pins s σ H _ I h) fun u s1 ⟨x,H1,I1,rx,a,C,dx,fs,v,ex,ea,c,n,l,q⟩=>?_);subst ex;obtain rfl:u=Value.ref a:=rx;exact P8 I1 ea c n l fun u' s2 I2 ru=>⟨v,H1,I2,ru,q⟩
theorem l8(ha:PE X o ta)(hv:PE X value tv)(hs:swapsWith value (some (.Attribute o f pos')) pos.line X.env=pure false):PS X (.Assign [.Attribute o f pos'] value pos) (agG X.K ta tv f):=by intro pins s σ H D I h;refine plainObj_wpAny_Assign_Attribute (cy (hv pins s σ H _ I h) fun u s1 ⟨y,H1,I1,ry,q⟩=>cy (ha pins s1 σ H1 _ I1 q) fun ov s2 ⟨x,H2,I2,rx,a,C,dx,fs,ex,ea,c,n,l,q2⟩=>?_) hs;subst ex;obtain rfl:ov=Value.ref a:=rx;exact RK I2 ea c n l ry fun s3 I3=>⟨σ,_,I3,q2⟩
theorem acY{pl:Sem Bool}{m:Str}{apos:Pos}{args:List Expr}{pins:List (Addr×Obj)}{s:Shared}{σ:St}{H:Hp}{Q:Value->Shared->Prop}{te:TE}(he:PE X e te)(I:Inv X pins σ H s)(h:te σ H fun x H1=>∃a C dx fs g,x=.ref a/\H1 a=some (.ins C dx fs)/\TX X.K C/\Meth X.K C m g/\fs.lookup m=none/\∀s1,Inv X pins σ H1 s1->wpAny (model X.prog X.w) X.A (callWith pos (.ref g) [.ref a] (backTo pos (starEach args X.env)) (backToKw pos (keywordEach [] X.env))) Q X.xe s1)(ht:eval (.Call (.Attribute e m apos) args [] pos) X.env=(do
      let ov <-eval e X.env
      standAt apos.atName
      let (f,first) <-holding [ov] (getMethod ov m pl)
      callWith pos f first (backTo pos (starEach args X.env)) (backToKw pos (keywordEach [] X.env)))):
    wpAny (model X.prog X.w) X.A (eval (.Call (.Attribute e m apos) args [] pos) X.env) Q X.xe s:=by
  refine methodCall_KW (pl:=pl) (cy (he pins s σ H _ I h) fun u s1 ⟨x,H1,I1,rx,a,C,dx,fs,g,ex,ea,c,k,l,q⟩=>?_) ht;subst ex;obtain rfl:u=Value.ref a:=rx;exact u5 I1 ea c k l (q s1 I1)
end
end L2
namespace L2
open PySem PySem.Spec PyProof.Rows
structure gm(k:Nat)(A:Around):Prop where
  hd:A.handled=none
  dp:A.depth+3*k+5<recursionLimit
  un:A.units+16*k+200<cLine
theorem gm.mono{j k:Nat}{A:Around}(r:gm k A)(h:j<=k):gm j A:=⟨r.hd,by have:=r.dp;omega,by have:=r.un;omega⟩
theorem gm.deeper{k:Nat}{A:Around}(r:gm (k+1) A)(env:Env):gm k (A.deeper env):=
  ⟨r.hd,by have:=r.dp;show A.depth+1+3*k+5<_;omega,by have:=r.un;show A.units+3+16*k+200<_;omega⟩
theorem QP{A:Around}{C:Addr}{us:List Value}{kw:List (Str×Value)}:(A.under (.builtin "type.__call__" ⟨.ref C::us,kw⟩)).depth=A.depth+1:=by first | rfl | simp[Around.under,Code.weight,Code.isCreation,Code.isGuard,Code.isCaller,Code.frames,Code.isFrame,guardIds]
theorem QQ{A:Around}{C:Addr}{us:List Value}{kw:List (Str×Value)}:(A.under (.builtin "type.__call__" ⟨.ref C::us,kw⟩)).units=A.units+1:=by first | rfl | simp[Around.under,Code.cUnits,Code.frames,Code.isFrame]
theorem gm.make{k:Nat}{A:Around}(r:gm (k+1) A)(C:Addr)(us:List Value)(kw:List (Str×Value)):gm k (A.under (.builtin "type.__call__" ⟨.ref C::us,kw⟩)):=
  ⟨r.hd,by have:=r.dp;rw[QP];omega,by have:=r.un;rw[QQ];omega⟩
theorem gm.depth{k:Nat}{A:Around}(r:gm k A):A.depth<recursionLimit:=by have:=r.dp;omega
theorem gm.units{k:Nat}{A:Around}(r:gm k A):A.units+64<cLine:=by have:=r.un;omega
def R1:TA:=fun _ H Q=>Q [] H
def Ot(ta:TE)(tr:TA):TA:=fun σ H Q=>ta σ H fun x H1=>tr σ H1 fun xs H2=>Q (x::xs) H2
section
variable{X:Cx}{e:Expr}{es:List Expr}{te:TE}{t:TA}{pos:Pos}
theorem ab:PA X [] R1:=fun _ _ _ _ H Q I h=>Calls.spliced_nil ⟨[],H,I,.nil,h⟩
theorem aa(ha:PE X e te)(hr:PA X es t)(hs:starEach (e::es) X.env=(false,eval e X.env)::starEach es X.env:=by rfl):PA X (e::es) (Ot te t):=by intro pos pins s σ H Q I h;rw[hs];show wpAny _ _ (spliced ((false,eval e X.env)::backTo pos (starEach es X.env))) _ _ s;refine Calls.spliced_cons (cy (ha pins s σ H _ I h) fun u s1 ⟨x,H1,I1,r1,q1⟩=>?_);exact cy (hr pos pins s1 σ H1 _ I1 q1) fun us s2 ⟨xs,H2,I2,r2,q2⟩=>⟨x::xs,H2,I2,.cons r1 r2,q2⟩
def aha(t:TA):TE:=fun σ H Q=>t σ H fun xs H1=>xs.length<=sizeLine/\∀p,H1 p=none->Q (.ref p) (upd H1 p (.tup xs))
def afh(t:TA):TE:=fun σ H Q=>t σ H fun xs H1=>xs.length<=sizeLine/\∀p,H1 p=none->Q (.ref p) (upd H1 p (.lst xs))
theorem rW{x1}(h:PA X es t):PE X (.Tuple es x1 pos) (aha t):=by intro pins s σ H Q I hq;refine wpAny_Tuple_spliced (cy (h pos pins s σ H _ I hq) fun us s1 ⟨xs,H1,I1,r,z,q⟩=>⟨by rw[<-r.length];exact z,?_⟩);have hf:H1 s1.heap.objs.size=none:=I1.bj.fresh (le_refl _);refine⟨.ref s1.heap.objs.size,upd H1 s1.heap.objs.size (.tup xs),I1.laid (t':=s1.toks) (fun b u e=>get?_push_of_some _ e) (le_refl _) ?_,rfl,q _ hf⟩;exact⟨z,us,r,⟨_,get?_push_size _ rfl,rfl,_,rfl⟩⟩
theorem aS(h:PA X es t):PE X (.List es pos) (afh t):=by intro pins s σ H Q I hq;refine wpAny_List_spliced (cy (h pos pins s σ H _ I hq) fun us s1 ⟨xs,H1,I1,r,z,q⟩=>⟨by rw[<-r.length];exact z,?_⟩);have hf:H1 s1.heap.objs.size=none:=I1.bj.fresh (le_refl _);refine⟨.ref s1.heap.objs.size,upd H1 s1.heap.objs.size (.lst xs),I1.laid (t':=s1.toks) (fun b u e=>get?_push_of_some _ e) (le_refl _) ?_,rfl,q _ hf⟩;exact⟨z,us,0,r,get?_push_size _ rfl⟩
end
abbrev Sp:=List V->Hp->VK->XK->Prop
abbrev Wj:=List Env->Hp->Shared->XK->Value->Shared->Prop
structure OM(P:Program)(w:World)(K:Frag)(mg:Str->Option Value)(base:Heap)(A:Around)(outer:List Env)(s:Shared)(H:Hp):Prop where
  frames:A.frames=some outer
  mod:Mod K mg base
  bs:∀b o,base.get? b=some o->s.heap.get? b=some o/\H b=none
  Zs:base.objs.size<=s.heap.objs.size
  B4:s.heap.FunFrames base outer
  frf:∀b∈Xo outer,H b=none
  bj:qt P w H s.heap
  bare:AllBare s.gens
def CE(outer:List Env)(P:Program)(w:World)(H:Hp)(s:Shared)(Q:VK)(u:Value)(s':Shared):Prop:=
  ∃v H',s'.os=s.os/\AllBare s'.gens/\Un (Xo outer) [] H H' s.heap s'.heap/\qt P w H' s'.heap/\RelV v u/\Q v H'
def CR(CX:Wj)(outer:List Env)(P:Program)(w:World)(H:Hp)(s:Shared)(Q:VK)(E:XK)(r:Result)(s':Shared):Prop:=
  match r with
  | .ok (.ret u)=>CE outer P w H s Q u s'
  | .ok _=>False
  | .error e=>CX outer H s E e s'
structure ay(P:Program)(w:World)(K:Frag)(mg:Str->Option Value)(base:Heap)(CX:Wj)(k:Nat)(f:Addr)(fd:FuncData)(ps:List Str)(sp:Sp):Prop where
  len:∀vs H Q E,sp vs H Q E->vs.length=ps.length
  run:∀(A:Around) (outer:List Env) (s:Shared) (H:Hp) (args:Args) (us:List Value) (vs:List V) (Q:VK) (E:XK),gm k A->OM P w K mg base A outer s H->BindsTo s fd args (ps.zip us)->Vals vs us->sp vs H Q E->
    codeAny (model P w) A (.call (.ref f) args) (CR CX outer P w H s Q E) s
theorem ay.mono{P:Program}{w:World}{K:Frag}{mg:Str->Option Value}{base:Heap}{CX:Wj}{j k:Nat}{f:Addr}{fd:FuncData}{ps:List Str}{sp:Sp}(F:ay P w K mg base CX j f fd ps sp)(h:j<=k):ay P w K mg base CX k f fd ps sp:=⟨F.len,fun A outer s H args us vs Q E hr=>F.run A outer s H args us vs Q E (hr.mono h)⟩
theorem OM.make{P:Program}{w:World}{K:Frag}{mg:Str->Option Value}{base:Heap}{A:Around}{outer:List Env}{s:Shared}{H:Hp}(e:OM P w K mg base A outer s H)(C:Addr)(us:List Value)(kw:List (Str×Value)):OM P w K mg base (A.under (.builtin "type.__call__" ⟨.ref C::us,kw⟩)) outer s H:=⟨by first | exact e.frames | (simpa[Around.under,Code.envs,Code.isFrame,pushEnvs]using e.frames),e.mod,e.bs,e.Zs,e.B4,e.frf,e.bj,e.bare⟩
section
variable{X:Cx}{pins:List (Addr×Obj)}{σ:St}{H:Hp}{s s':Shared}
theorem Inv.afF(I:Inv X pins σ H s):OM X.prog X.w X.K X.mg X.base X.A X.stack s H:=
  ⟨I.ok.frames,I.ok.mod,I.bs,le_trans I.ok.Zs I.sz,I.stack,I.TC,I.bj,I.bare⟩
theorem Inv.after{Q:VK}{u:Value}(I:Inv X pins σ H s)(h:CE X.stack X.prog X.w H s Q u s'):EP X pins σ Q u s':=by obtain⟨v,H',os,bare,un,bj,r,q⟩:=h;obtain⟨hh,g,d,t,os'⟩:=s';obtain rfl:os'=s.os:=os;exact⟨v,H',I.call (h':=hh) (g':=g) (d':=d) (t':=t) (ch:=[]) un bj bare (fun b z=>absurd z (by simp)),r,q⟩
end
def ag0(sp:Sp)(EK:List V)(E:XK)(t:TA):TE:=fun σ H Q=>t σ H fun vs H1=>sp (vs++EK) H1 Q E
def ac8(C:Addr)(m:Str)(sp:Sp)(EK:List V)(E:XK)(ta:TE)(t:TA):TE:=fun σ H Q=>ta σ H fun x H1=>∃a dx fs,x=.ref a/\H1 a=some (.ins C dx fs)/\fs.lookup m=none/\
  t σ H1 fun vs H2=>sp (x::(vs++EK)) H2 Q E
def ac7(C:Addr)(sp:Sp)(EK:List V)(E:XK)(t:TA):TE:=fun σ H Q=>t σ H fun vs H1=>∀x dx,H1 x=none->H1 dx=none->dx≠x->
  sp (.ref x::(vs++EK)) (upd (upd H1 dx (.own x)) x (.ins C dx [])) (fun v H2=>v=.dZ/\Q (.ref x) H2) E
def Binds(K:Frag)(fd:FuncData)(ps:List Str)(ds:List Value):Prop:=
  ∀(s:Shared) (us:List Value),K.In s.heap->(us++ds).length=ps.length->BindsTo s fd ⟨us,[]⟩ (ps.zip (us++ds))
theorem Binds.all{K:Frag}{fd:FuncData}{ps:List Str}(h:∀us:List Value,us.length=ps.length->bindArgs fd ⟨us,[]⟩=pure (ps.zip us)):Binds K fd ps []:=fun s us _ hl=>by rw[append_nil]at hl ⊢;exact .of_eq (h us hl)
def Passes(CX:Wj)(X:Cx)(E:XK):Prop:=∀(pins:List (Addr×Obj)) (σ:St) (H:Hp) (s:Shared) (e:Value) (s':Shared),Inv X pins σ H s->CX X.stack H s E e s'->X.xe e s'
section
variable{X:Cx}{CX:Wj}{k:Nat}{f C:Addr}{fd:FuncData}{ps:List Str}{sp:Sp}{EK:List V}{ds:List Value}{E:XK}{x m:Str}{p pos apos:Pos}{e o:Expr}{es:List Expr}{ta:TE}{t:TA}
theorem Lp{pins:List (Addr×Obj)}{σ:St}{H:Hp}{s:Shared}{Q:VK}{us:List Value}{vs:List V}(F:ay X.prog X.w X.K X.mg X.base CX k f fd ps sp)(hr:gm k X.A)(hb:Binds X.K fd ps ds)(hd:Vals EK ds)(hx:Passes CX X E)(I:Inv X pins σ H s)(r:Vals vs us)(h:sp (vs++EK) H Q E):wpAny (model X.prog X.w) X.A (call (.ref f) us) (EP X pins σ Q) X.xe s:=by
  have r2:Vals (vs++EK) (us++ds):=r.append hd;have hl:(us++ds).length=ps.length:=by rw[<-r2.length];exact F.len _ _ _ _ h
  refine wpAny_call (codeAny_mono (F.run X.A X.stack s H ⟨us,[]⟩ (us++ds) (vs++EK) Q E hr I.afF (hb s us I.OJ hl) r2 h) fun r s' hq=>?_);cases r with
  | error e=>exact hx pins σ H s e s' I hq
  | ok fl=>
    cases fl with
    | ret u=>exact I.after hq
    | next=>exact False.elim hq
    | brk=>exact False.elim hq
    | cont=>exact False.elim hq
theorem aH(F:ay X.prog X.w X.K X.mg X.base CX k f fd ps sp)(hr:gm k X.A)(hg:Gl X x)(hm:X.mg x=some (.ref f))(hk:keepIn X.K (.ref f)=true)(hb:Binds X.K fd ps ds)(hd:Vals EK ds)(hx:Passes CX X E)(ha:PA X (e::es) t)(Xv:(x==("__debug__":Str))=false:=by decide)(he:starEach (e::es) X.env=(false,eval e X.env)::starEach es X.env:=by rfl)(t6:(backTo pos (starEach es X.env)).any (·.1)=false:=by rfl):PE X (.Call (.Name x p) (e::es) [] pos) (ag0 sp EK E t):=by intro pins s σ H Q I h;refine wpAny_Call_Name_kw (Dk I hg hm ?_ Xv);refine callWith_K (h₀:=X.base) I.ok.mod.kin hk (cy (ha pos pins s σ H _ I h) fun us s1 ⟨vs,H1,I1,r,q⟩=>⟨I1.OJ,?_⟩) he t6;exact Lp F hr hb hd hx I1 r q
theorem bT{pl:Sem Bool}(he:PE X o ta)(c:TX X.K C)(hm:Meth X.K C m f)(F:ay X.prog X.w X.K X.mg X.base CX k f fd ps sp)(hr:gm k X.A)(hb:Binds X.K fd ps ds)(hd:Vals EK ds)(hx:Passes CX X E)(ha:PA X (e::es) t)(B7:starEach (e::es) X.env=(false,eval e X.env)::starEach es X.env:=by rfl)(t6:(backTo pos (starEach es X.env)).any (·.1)=false:=by rfl)(ht:eval (.Call (.Attribute o m apos) (e::es) [] pos) X.env=(do
      let ov <-eval o X.env
      standAt apos.atName
      let (f,first) <-holding [ov] (getMethod ov m pl)
      callWith pos f first (backTo pos (starEach (e::es) X.env)) (backToKw pos (keywordEach [] X.env))):=by rfl):
    PE X (.Call (.Attribute o m apos) (e::es) [] pos) (ac8 C m sp EK E ta t):=by
  intro pins s σ H Q I h;refine methodCall_KW (pl:=pl) (cy (he pins s σ H _ I h) fun u s1 ⟨x,H1,I1,rx,a,dx,fs,ex,ea,l,q⟩=>?_) ht;subst ex;obtain rfl:u=Value.ref a:=rx;refine u5 I1 ea c hm l ?_;refine callWith_K (first:=[.ref a]) (h₀:=X.base) I.ok.mod.kin hm.kp (cy (ha pos pins s1 σ H1 _ I1 q) fun us s2 ⟨vs,H2,I2,r,q2⟩=>⟨I2.OJ,?_⟩) B7 t6;exact Lp (us:=.ref a::us) (vs:=.ref a::vs) F hr hb hd hx I2 (.cons rfl r) q2
theorem gU{pl:Sem Bool}(he:PE X o ta)(c:TX X.K C)(hm:Meth X.K C m f)(F:ay X.prog X.w X.K X.mg X.base CX k f fd ps sp)(hr:gm k X.A)(hb:Binds X.K fd ps ds)(hd:Vals EK ds)(hx:Passes CX X E)(ht:eval (.Call (.Attribute o m apos) [] [] pos) X.env=(do
      let ov <-eval o X.env
      standAt apos.atName
      let (f,first) <-holding [ov] (getMethod ov m pl)
      callWith pos f first (backTo pos (starEach [] X.env)) (backToKw pos (keywordEach [] X.env))):=by rfl):
    PE X (.Call (.Attribute o m apos) [] [] pos) (ac8 C m sp EK E ta R1):=by
  intro pins s σ H Q I h;refine methodCall_KW (pl:=pl) (cy (he pins s σ H _ I h) fun u s1 ⟨x,H1,I1,rx,a,dx,fs,ex,ea,l,q⟩=>?_) ht;subst ex;obtain rfl:u=Value.ref a:=rx;refine u5 I1 ea c hm l ?_;exact callWith_K0 (first:=[.ref a]) I1.OJ hm.kp (Lp (us:=[.ref a]) (vs:=[.ref a]) F hr hb hd hx I1 (.cons rfl .nil) q)
structure Mk(K:Frag)(C f:Addr):Prop where
  makes:makesIn K C=true
  init:findIn K (.ref C) "__init__"=some (some (.ref f))
  fn:isFn K (.ref f)=true
  kp:keepIn K (.ref C)=true
theorem N4{pins:List (Addr×Obj)}{σ:St}{H:Hp}{s:Shared}{Q:VK}{us:List Value}{vs:List V}(M:Mk X.K C f)(F:ay X.prog X.w X.K X.mg X.base CX k f fd ps sp)(hr:gm (k+1) X.A)(hb:Binds X.K fd ps ds)(hd:Vals EK ds)(hx:Passes CX X E)(I:Inv X pins σ H s)(r:Vals vs us)(h:∀x dx,H x=none->H dx=none->dx≠x->sp (.ref x::(vs++EK)) (upd (upd H dx (.own x)) x (.ins C dx [])) (fun v H2=>v=.dZ/\Q (.ref x) H2) E):wpAny (model X.prog X.w) X.A (call (.ref C) us) (EP X pins σ Q) X.xe s:=by
  have hq:=h (s.heap.objs.size+1) s.heap.objs.size (I.bj.fresh (le_succ _)) (I.bj.fresh (le_refl _)) (ne_of_lt (lt_succ_self _));have I2:=Inv.made (C:=C) I;have r2:Vals (V.ref (s.heap.objs.size+1)::(vs++EK)) (Value.ref (s.heap.objs.size+1)::(us++ds)):=.cons rfl (r.append hd);have hl:(Value.ref (s.heap.objs.size+1)::us++ds).length=ps.length:=by have e:=r2.length;rw[F.len _ _ _ _ hq]at e;exact e.symm
  refine wpAny_call (X7 (f:=f) I.OJ M.makes M.init (beq_iff_eq.mp M.fn) (codeAny_mono (F.run _ X.stack _ _ ⟨Value.ref (s.heap.objs.size+1)::us,[]⟩ (Value.ref (s.heap.objs.size+1)::(us++ds)) _ _ E (hr.make C us [])
    (I2.afF.make C us []) (hb _ (Value.ref (s.heap.objs.size+1)::us) I2.OJ hl) r2 hq) fun r s' LR=>?_))
  cases r with
  | error e=>exact hx pins σ _ _ e s' I2 LR
  | ok fl=>
    cases fl with
    | ret u=>obtain⟨v,H',I3,rv,ev,q3⟩:=I2.after LR;subst ev;exact⟨rv,⟨V.ref (s.heap.objs.size+1),H',I3,rfl,q3⟩⟩
    | next=>exact False.elim LR
    | brk=>exact False.elim LR
    | cont=>exact False.elim LR
theorem Lf(M:Mk X.K C f)(F:ay X.prog X.w X.K X.mg X.base CX k f fd ps sp)(hr:gm (k+1) X.A)(hg:Gl X x)(hm:X.mg x=some (.ref C))(hb:Binds X.K fd ps ds)(hd:Vals EK ds)(hx:Passes CX X E)(ha:PA X (e::es) t)(Xv:(x==("__debug__":Str))=false:=by decide)(he:starEach (e::es) X.env=(false,eval e X.env)::starEach es X.env:=by rfl)(t6:(backTo pos (starEach es X.env)).any (·.1)=false:=by rfl):PE X (.Call (.Name x p) (e::es) [] pos) (ac7 C sp EK E t):=by intro pins s σ H Q I h;refine wpAny_Call_Name_kw (Dk I hg hm ?_ Xv);refine callWith_K (h₀:=X.base) I.ok.mod.kin M.kp (cy (ha pos pins s σ H _ I h) fun us s1 ⟨vs,H1,I1,r,q⟩=>⟨I1.OJ,?_⟩) he t6;exact N4 M F hr hb hd hx I1 r q
theorem Yt(M:Mk X.K C f)(F:ay X.prog X.w X.K X.mg X.base CX k f fd ps sp)(hr:gm (k+1) X.A)(hg:Gl X x)(hm:X.mg x=some (.ref C))(hb:Binds X.K fd ps ds)(hd:Vals EK ds)(hx:Passes CX X E)(Xv:(x==("__debug__":Str))=false:=by decide):PE X (.Call (.Name x p) [] [] pos) (ac7 C sp EK E R1):=by intro pins s σ H Q I h;refine wpAny_Call_Name_kw (Dk I hg hm ?_ Xv);exact callWith_K0 I.OJ M.kp (N4 (us:=[]) M F hr hb hd hx I .nil h)
end
structure aw(N P:List Str)(sc:Scope):Prop where
  kind:sc.kind=.function
  co:sc.isCoroutine=false
  gen:sc.isGenerator=false
  nd:N.Nodup
  pre:N.take P.length=P
  par:∀x∈P,sc.names.lookup x=some .local\/sc.names.lookup x=some .cell
  aeo:∀y∈sc.names,y.2≠ .free
theorem Ig{kindOf:Str->Option NameKind}{x:Str}:∀{binds:List (Str×Value)} {m:Str->Option Value},(∀v,(x,v)∉binds)->bindL kindOf binds m x=m x
  | [],_,_=>rfl
  | (n,v)::r,m,h=>by
    unfold bindL;rw[Ig fun w hw=>h w (mem_cons_of_mem _ hw)];split
    . have:x≠n:=by rintro rfl;exact h v mem_cons_self
      simp[this]
    . rfl
theorem Ic{kindOf:Str->Option NameKind}{x:Str}:∀{binds:List (Str×Value)} {m:Str->Option Value},(∀v,(x,v)∉binds)->bindC kindOf binds m x=m x
  | [],_,_=>rfl
  | (n,v)::r,m,h=>by
    unfold bindC;rw[Ic fun w hw=>h w (mem_cons_of_mem _ hw)];split
    . rfl
    . have:x≠n:=by rintro rfl;exact h v mem_cons_self
      simp[this]
theorem Ie{kindOf:Str->Option NameKind}{x:Str}{v:Value}:∀{P:List Str} {vs:List Value} {i:Nat} {m:Str->Option Value},P.Nodup->P[i]? =some x->vs[i]? =some v->kindOf x=some .local->bindL kindOf (P.zip vs) m x=some v
  | [],_,_,_,_,h,_,_=>by simp at h
  | _::_,[],_,_,_,_,h,_=>by simp at h
  | p::P,w::vs,0,m,nd,h1,h2,hk=>by simp at h1 h2;subst h1;subst h2;show bindL kindOf ((p,w)::P.zip vs) m p=_;unfold bindL;rw[Ig fun v hv=>(nodup_cons.mp nd).1 (of_mem_zip hv).1,if_pos hk];simp
  | p::P,w::vs,i+1,m,nd,h1,h2,hk=>by show bindL kindOf ((p,w)::P.zip vs) m x=_;unfold bindL;exact Ie (i:=i) (nodup_cons.mp nd).2 (by simpa using h1) (by simpa using h2) hk
theorem Ib{kindOf:Str->Option NameKind}{x:Str}{v:Value}:∀{P:List Str} {vs:List Value} {i:Nat} {m:Str->Option Value},P.Nodup->P[i]? =some x->vs[i]? =some v->kindOf x≠some .local->bindC kindOf (P.zip vs) m x=some v
  | [],_,_,_,_,h,_,_=>by simp at h
  | _::_,[],_,_,_,_,h,_=>by simp at h
  | p::P,w::vs,0,m,nd,h1,h2,hk=>by simp at h1 h2;subst h1;subst h2;show bindC kindOf ((p,w)::P.zip vs) m p=_;unfold bindC;rw[Ic fun v hv=>(nodup_cons.mp nd).1 (of_mem_zip hv).1,if_neg hk];simp
  | p::P,w::vs,i+1,m,nd,h1,h2,hk=>by show bindC kindOf ((p,w)::P.zip vs) m x=_;unfold bindC;exact Ib (i:=i) (nodup_cons.mp nd).2 (by simpa using h1) (by simpa using h2) hk
def start(N:List Str)(vs:List V):St:=vs.map some++List.replicate (N.length-vs.length) none
def Uq(CX:Wj)(P:Program)(w:World)(K:Frag)(mg:Str->Option Value)(base:Heap)(N:List Str)(qual:Str)(scope:Scope)(f:Addr)(cd:Value)(A:Around)(outer:List Env)(s:Shared)(H:Hp)(E:XK):Cx where
  prog:=P
  w:=w
  K:=K
  mg:=mg
  base:=base
  A:=A.deeper (envOfC qual scope s.heap.objs.size f cd)
  N:=N
  Jj:=s
  H_0:=H
  env:=envOfC qual scope s.heap.objs.size f cd
  outer:=outer
  stack:=envOfC qual scope s.heap.objs.size f cd::outer
  ex:=[]
  calm:=true
  fn:=fun _=>true
  pn:=[]
  xe:=fun e s'=>wpAny (model P w) (A.deeper (envOfC qual scope s.heap.objs.size f cd)) (leaving (envOfC qual scope s.heap.objs.size f cd) e) (fun _ s''=>CX outer H s E e s'') (fun e' s''=>CX outer H s E e' s'') s'
theorem Mo{sc:Scope}{n:Nat}{x:Str}(h:sc.names.lookup x=some .cell):∃c,(cellsFrom n sc.names []).lookup x=some c:=by have q:=PySem.W.cellsFrom_some sc.names n [] (.inl h);exact Option.isSome_iff_exists.mp q
theorem UW{CX:Wj}{P:Program}{w:World}{K:Frag}{mg:Str->Option Value}{base:Heap}{N ps:List Str}{qual:Str}{scope:Scope}{f:Addr}{cd:Value}{A:Around}{outer:List Env}{s s1:Shared}{H:Hp}{E:XK}{us:List Value}{vs:List V}(S:aw N ps scope)(hd:A.handled=none)(e0:OM P w K mg base A outer s H)(hl:vs.length=ps.length)(r:Vals vs us)(x:InCallC s s.heap.objs.size (bindL (envOfC qual scope s.heap.objs.size f cd).kindOf (ps.zip us) fun _=>none) (cellsFrom (s.heap.objs.size+1) scope.names []) (bindC (envOfC qual scope s.heap.objs.size f cd).kindOf (ps.zip us) fun _=>none) s1):Inv (Uq CX P w K mg base N qual scope f cd A outer s H E) [] (start N vs) H s1:=by
  have t6:ps.length<=N.length:=by have:=congrArg List.length S.pre;rw[length_take]at this;omega
  obtain⟨h1,tk,rfl,hk⟩:=x.done;have noA:∀b:Addr,b∉(Uq CX P w K mg base N qual scope f cd A outer s H E).ex:=fun b z=>absurd (show b∈([]:List Addr) from z) (by simp);refine⟨⟨e0.mod,S.kind,rfl,rfl,le_refl _,fun y z c h1 h2=>?_,fun y hy=>?_,fun y c _ h=>?_,fun _=>hd,Around.frames_deeper e0.frames,.inr ⟨rfl,rfl⟩,fun b z=>absurd z (noA b),e0.bs,e0.Zs,fun b _ _=>noA b,fun b z=>absurd z (noA b),e0.B4,e0.frf⟩,
    rfl,e0.bare,Un.kept hk,⟨_,x.toInCall.ns,fun i y v h1 h2 h3=>?_⟩,fun y c h=>⟨_,x.cell y c h⟩,e0.bj.fresh (le_refl _),fun y c h=>?_,fun p hp=>absurd (show p∈([]:List (Addr×Obj)) from hp) (by simp),e0.bj.kept hk,?_⟩
  . exact name_of_addr x.apart (PySem.mem_of_lookup h1) (PySem.mem_of_lookup h2)
  . have hy:scope.names.lookup y=some .cell\/scope.names.lookup y=some .free:=hy;rcases hy with hy | hy
    . exact Mo hy
    . exact absurd rfl (S.aeo _ (PySem.mem_of_lookup hy))
  . exact le_of_lt (x.above y c (PySem.mem_of_lookup h))
  . have hi:i<vs.length:=by
      unfold start at h2;by_cases hi:i<vs.length
      . exact hi
      . rw[getElem?_append_right (by simpa using hi)]at h2;rw[List.getElem?_replicate]at h2;split at h2<;>cases h2
    have ha:vs[i]? =some v:=by
      unfold start at h2;rw[getElem?_append_left (by simpa using hi),getElem?_map]at h2;cases e:vs[i]? with
      | none=>rw[e]at h2;cases h2
      | some a=>rw[e]at h2;cases h2;rfl
    obtain⟨u,hu,rv⟩:=r.get ha;have hp:ps[i]? =some y:=by rw[<-S.pre,List.getElem?_take_of_lt (by omega)];exact h1
    have ndP:ps.Nodup:=by rw[<-S.pre];exact S.nd.sublist (List.take_sublist _ _)
    refine⟨u,rv,?_⟩;rcases S.par y (mem_of_getElem? hp)with k | k
    . exact .inl ⟨k,Ie ndP hp hu k⟩
    . obtain⟨c,e⟩:=Mo (n:=s.heap.objs.size+1) k;refine .inr ⟨.inl k,c,e,?_⟩;have q:=x.cell y c e;rw[Ib ndP hp hu (by show scope.names.lookup y≠_;rw[k];decide)]at q;exact q
  . exact e0.bj.fresh (le_of_lt (x.above y c (PySem.mem_of_lookup h)))
  . unfold start;show _=N.length;rw[length_append,length_map,length_replicate];omega
theorem afG{CX:Wj}{P:Program}{w:World}{K:Frag}{mg:Str->Option Value}{base:Heap}{k:Nat}{f:Addr}{name qual:Str}{params:Arguments}{body:List Stmt}{scope:Scope}{dV kV doc pm bP ct oc:Value}{an od:Option Addr}{LV:Array (Option Value)}{N ps:List Str}{sp:Sp}(lk:K.lookup f=some ⟨oc,od,.func (fnOf name qual params body scope dV kV doc pm an bP ct),LV⟩)(S5:codeIn K bP qual=true)(S:aw N ps scope)(len:∀vs H Q E,sp vs H Q E->vs.length=ps.length)(Xt:∀(A:Around) (outer:List Env) (s:Shared) (H:Hp) (vs:List V) (Q:VK) (E:XK),gm k (A.deeper (envOfC qual scope s.heap.objs.size f bP))->sp vs H Q E->∃t,OF (Uq CX P w K mg base N qual scope f bP A outer s H E) body t/\t { nx:=fun _ H'=>Q .dZ H',rt:=Q} (start N vs) H):ay P w K mg base CX (k+1) f (fnOf name qual params body scope dV kV doc pm an bP ct) ps sp:=by
  refine⟨len,fun A outer s H args us vs Q E hr e0 hb r Ta=>?_⟩;have hl:=len _ _ _ _ Ta;have KX:K.In s.heap:=e0.mod.kin.keeps fun b o e=>(e0.bs b o e).1;have lim:s.heap.NoLimit:=e0.mod.nolimit.keeps fun b o e=>(e0.bs b o e).1;have af1:∀y∈ps.zip us,scope.names.lookup y.1=some .local\/(scope.names.lookup y.1=some .cell/\((cellsFrom (s.heap.objs.size+1) scope.names []).lookup y.1).isSome=true):=fun⟨n,v⟩ hy=>by
    rcases S.par n (of_mem_zip hy).1 with q | q
    . exact .inl q
    . exact .inr ⟨q,PySem.W.cellsFrom_some _ _ _ (.inl q)⟩
  refine codeAny_call_function hr.depth (KX _ _ lk) rfl S.co S.gen rfl (PySem.W.codeRec_of KX S5) (hb _ _ _ _ ?_);refine wpAny_newFunctionEnv_cells S.kind af1 fun env he s1 x=>?_;subst he;refine⟨lim.keeps x.toInCall.keep,codeAny_func ?_⟩;obtain⟨t,ht,hq⟩:=Xt A outer s H vs Q E (hr.deeper _) Ta;have I:Inv (Uq CX P w K mg base N qual scope f bP A outer s H E) [] (start N vs) H s1:=UW S hr.hd e0 hl r x;refine wpAny_mono (ht [] s1 (start N vs) H _ I hq) (fun fl s' hs=>?_) fun e s' hs=>hs;have fin:∀{σ':St} {H':Hp} {v:V} {u:Value},Inv (Uq CX P w K mg base N qual scope f bP A outer s H E) [] σ' H' s'->RelV v u->Q v H'->CE outer P w H s Q u s':=
    fun {σ' H' v u} J rv q=>⟨v,H',J.os,J.bare,J.base,J.bj,rv,q⟩
  cases fl with
  | ret u=>obtain⟨v,σ',H',J,rv,q⟩:=hs;exact fin J rv q
  | next=>obtain⟨σ',H',J,q⟩:=hs;exact fin (v:=V.dZ) (u:=Value.none) J rfl q
  | brk=>obtain⟨_,_,_,q⟩:=hs;exact False.elim q
  | cont=>obtain⟨_,_,_,q⟩:=hs;exact False.elim q
end L2
namespace L2
open PySem PySem.Spec PyProof.Rows
section
variable{X:Cx}{x:Str}{p pos:Pos}{e:Expr}{es:List Expr}{t:TA}{id T:String}{r:List V->Hp->VK->Prop}
def tCB(r:List V->Hp->VK->Prop)(t:TA):TE:=fun σ H Q=>t σ H fun vs H1=>r vs H1 Q
theorem aJ(hc:gh X (.builtin id) r)(hg:Gl X x)(hm:X.mg x=none)(hv:bootBuiltins x=some (.builtin id))(ha:PA X (e::es) t)(hn:x≠"__name__":=by decide)(Xv:(x==("__debug__":Str))=false:=by decide)(he:starEach (e::es) X.env=(false,eval e X.env)::starEach es X.env:=by rfl)(t6:(backTo pos (starEach es X.env)).any (·.1)=false:=by rfl):PE X (.Call (.Name x p) (e::es) [] pos) (tCB r t):=by intro pins s σ H Q I h;refine wpAny_Call_Name_kw (pE I hg hm hv ?_ hn Xv);exact PyProof.Rows.callWith_builtin1 (cy (ha pos pins s σ H _ I h) fun us s1 ⟨vs,H1,I1,r1,q1⟩=>hc pins s1 σ H1 vs us Q I1 r1 q1) he t6
theorem cY(hc:gh X (.type T) r)(hg:Gl X x)(hm:X.mg x=none)(hv:bootBuiltins x=some (.type T))(ha:PA X (e::es) t)(hn:x≠"__name__":=by decide)(Xv:(x==("__debug__":Str))=false:=by decide)(he:starEach (e::es) X.env=(false,eval e X.env)::starEach es X.env:=by rfl)(t6:(backTo pos (starEach es X.env)).any (·.1)=false:=by rfl):PE X (.Call (.Name x p) (e::es) [] pos) (tCB r t):=by intro pins s σ H Q I h;refine wpAny_Call_Name_kw (pE I hg hm hv ?_ hn Xv);exact PyProof.Rows.callWith_type1 (cy (ha pos pins s σ H _ I h) fun us s1 ⟨vs,H1,I1,r1,q1⟩=>hc pins s1 σ H1 vs us Q I1 r1 q1) he t6
end
end L2
namespace HT
open PySem PyProof.Rows
def lexLt:List Int->List Int->Bool
  | [],[]=>false
  | [],_::_=>true
  | _::_,[]=>false
  | x::xs,y::ys=>if x=y then lexLt xs ys else decide (x<y)
theorem bK(x y:Int)(xs ys:List Int):lexLt (x::xs) (y::ys)=if x=y then lexLt xs ys else decide (x<y):=rfl
theorem Hu:lexLt [] []=false:=rfl
theorem FC(y:Int)(ys:List Int):lexLt [] (y::ys)=true:=rfl
theorem Fz(x:Int)(xs:List Int):lexLt (x::xs) []=false:=rfl
theorem MK(A:Around)(s:Shared)(a:Int)(t:Tok)(c:Int)(u:Tok):∃e,SeqAt.EqAt A s (.int a t) (.int c u) e/\(e=true↔a=c):=
  ⟨(a==c),SeqAt.EqAt.int_int a t c u,by simp⟩
theorem N0(A:Around)(s:Shared)(a:Int)(t:Tok)(c:Int)(u:Tok)(prog:Program)(w:World)(E:Value->Shared->Prop)(Q:Value->Shared->Prop)(h:Q (.bool (decide (a<c))) s):wpAny (model prog w) A (richCompare .Lt (.int a t) (.int c u)) Q E s:=
  (PyProof.Rows.lt_int h:wpAny (model prog w) A (compareOp .Lt (.int a t) (.int c u)) Q E s)
section
variable{prog:Program}{w:World}{A:Around}{E:Value->Shared->Prop}{s:Shared}
def OK(n d:Nat):Option Int->Nat
  | none=>d
  | some v=>if v<0 then (v+(n:Int)).toNat else min v.toNat n
theorem Dq(n d k:Nat):OK n d (some (k:Int))=min k n:=by show(if (k:Int)<0 then ((k:Int)+(n:Int)).toNat else min (k:Int).toNat n)=min k n;rw[if_neg (by omega),toNat_natCast]
end
end HT
namespace L2
open PySem PySem.Spec PyProof.Rows
abbrev TO:=St->Hp->(Option Int->Hp->Prop)->Prop
def PO(X:Cx)(e:Option Expr)(t:TO):Prop:=
  ∀(pins:List (Addr×Obj)) (s:Shared) (σ:St) (H:Hp) (Q:Option Int->Hp->Prop),Inv X pins σ H s->t σ H Q->
    wpAny (model X.prog X.w) X.A (evalPart e X.env) (fun u s'=>∃o H',Inv X pins σ H' s'/\IsPart u o/\Q o H') X.xe s
def ag9(t:TE):TO:=fun σ H Q=>t σ H fun x H1=>∃i,x=.int i/\Q (some i) H1
section
variable{X:Cx}{e:Expr}{te:TE}{lo hi:Option Expr}{tl th:TO}{pos p2:Pos}
theorem Tt(h:PE X e te):PO X (some e) (ag9 te):=by intro pins s σ H Q I hw;rw[evalPart_some];refine cy (h pins s σ H _ I hw) fun u s1 ⟨x,H1,I1,r1,q1⟩=>?_;obtain⟨i,rfl,q⟩:=q1;obtain⟨t,rfl⟩:=r1;exact⟨some i,H1,I1,.int i t,q⟩
def SlR(X:Cx)(r:V->Option Int->Option Int->Hp->VK->Prop):Prop:=
  ∀(pins:List (Addr×Obj)) (s:Shared) (σ:St) (H:Hp) (x:V) (v vl vu:Value) (lo hi:Option Int) (sl:Addr) (Q:VK),Inv X pins σ H s->RelV x v->s.heap.IsSliceOf sl vl vu .none->IsPart vl lo->IsPart vu hi->r x lo hi H Q->
    ∃T id,typeLookup (.type T) "__getitem__"=pure (some (.builtin id))/\s.TypeIs v T/\wpAny (model X.prog X.w) X.A (getItem v (.ref sl)) (EP X pins σ Q) X.xe s
def tSl(r:V->Option Int->Option Int->Hp->VK->Prop)(te:TE)(tl th:TO):TE:=fun σ H Q=>te σ H fun x H1=>tl σ H1 fun l H2=>th σ H2 fun u H3=>r x l u H3 Q
theorem Yu{r:V->Option Int->Option Int->Hp->VK->Prop}(hr:SlR X r)(he:PE X e te)(hl:PO X lo tl)(hu:PO X hi th):PE X (.Subscript e (.Slice lo hi none p2) pos) (tSl r te tl th):=by intro pins s σ H Q I h;refine Subscript_ (cy (he pins s σ H _ I h) fun v s1 ⟨x,H1,I1,r1,q1⟩=>?_);refine wpAny_Slice (cy (hl pins s1 σ H1 _ I1 q1) fun vl s2 ⟨l,H2,I2,pl,q2⟩=>cy (hu pins s2 σ H2 _ I2 q2) fun vu s3 ⟨u,H3,I3,pu,q3⟩=>?_);rw[evalPart_none];refine wpAny_pure ?_;have I4:Inv X pins σ H3 { s3 with heap:=s3.heap.push { cls:=.type "slice",data:=.fields #[vl,vu,.none]}}:=I3.kept (t':=s3.toks) fun b ob q=>get?_push_of_some _ q;obtain⟨T,id,hT,ht,hg⟩:=hr pins { s3 with heap:=s3.heap.push { cls:=.type "slice",data:=.fields #[vl,vu,.none]}} σ H3 x v vl vu l u s3.heap.objs.size Q I4 r1 (Heap.IsSliceOf.new ..) pl pu q3;show wpAny (model X.prog X.w) X.A (subscriptTail e (.Slice lo hi none p2) v (.ref s3.heap.objs.size)) (EP X pins σ Q) X.xe { s3 with heap:=s3.heap.push { cls:=.type "slice",data:=.fields #[vl,vu,.none]}};exact tail_any (ops:=[.ref s3.heap.objs.size,v]) ht hT hg (by with_unfolding_all rfl)
def BU(xs:List V)(lo hi:Option Int):List V:=(xs.drop (HT.OK xs.length 0 lo)).take (HT.OK xs.length xs.length hi-HT.OK xs.length 0 lo)
theorem Mx(xs:List V)(lo hi:Option Int):(BU xs lo hi).length<=xs.length:=by unfold BU;rw[length_take,length_drop];omega
end
end L2
namespace L2
open PySem PySem.Spec PyProof.Rows
def ixN(n:Nat)(i:Int):Option Nat:=if 0<=i then (if i<n then some i.toNat else none) else if -(n:Int)<=i then some (i+n).toNat else none
def Sj{α:Type}(xs:List α)(i:Int):Option α:=(ixN xs.length i).bind fun j=>xs[j]?
theorem Tc{n:Nat}{i:Int}{j:Nat}(h:ixN n i=some j):seqIndex? i n=some j/\j<n/\ -(n:Int)<=i/\i<n:=by
  unfold ixN at h;by_cases h0:0<=i
  . rw[if_pos h0]at h;by_cases h1:i<n
    . rw[if_pos h1]at h;have e:i.toNat=j:=Option.some.inj h;exact⟨by rw[seqIndex_of h0 h1,e],by omega,by omega,h1⟩
    . rw[if_neg h1]at h;cases h
  . rw[if_neg h0]at h;by_cases h1: -(n:Int)<=i
    . rw[if_pos h1]at h;have e:(i+n).toNat=j:=Option.some.inj h;exact⟨by rw[seqIndex_neg (by omega) h1,e],by omega,h1,by omega⟩
    . rw[if_neg h1]at h;cases h
theorem Sk{α:Type}{xs:List α}{i:Int}{v:α}(h:Sj xs i=some v):∃j,seqIndex? i xs.length=some j/\xs[j]? =some v/\j<xs.length/\ -(xs.length:Int)<=i/\i<xs.length:=by
  unfold Sj at h;cases e:ixN xs.length i with
  | none=>rw[e]at h;cases h
  | some j=>rw[e]at h;obtain⟨h1,h2,h3,h4⟩:=Tc e;exact⟨j,h1,h,h2,h3,h4⟩
theorem JF{α:Type}{xs:List α}{j:Nat}{v:α}(h:xs[j]? =some v):Sj xs (j:Int)=some v:=by
  have hj:j<xs.length:=(List.getElem?_eq_some_iff.mp h).1;have e:ixN xs.length (j:Int)=some j:=by unfold ixN;rw[if_pos (by omega),if_pos (by omega)];simp
  unfold Sj;rw[e];exact h
def ZS(b:Expr):Prop:=∀o i,subscripted b false o i=operate [o,i] (getItem o i)
def IxR(X:Cx)(r:R2):Prop:=
  ∀(value slice:Expr) (pins:List (Addr×Obj)) (s:Shared) (σ:St) (H:Hp) (x y:V) (v u:Value) (Q:VK),Inv X pins σ H s->RelV x v->RelV y u->r x y H Q->
    subscripted slice false v u=operate [v,u] (getItem v u)->wpAny (model X.prog X.w) X.A (subscriptTail value slice v u) (EP X pins σ Q) X.xe s
def MtR(X:Cx)(id:String)(r:V->List V->Hp->VK->Prop):Prop:=
  ∀(pins:List (Addr×Obj)) (s:Shared) (σ:St) (H:Hp) (x:V) (xs:List V) (v:Value) (us:List Value) (Q:VK),Inv X pins σ H s->RelV x v->Vals xs us->r x xs H Q->
    wpAny (model X.prog X.w) X.A (call (.builtin id) (v::us)) (EP X pins σ Q) X.xe s
section
variable{X:Cx}{a b:Expr}{ta tb:TE}{pos:Pos}
theorem a9{r:R2}(hr:IxR X r)(ha:PE X a ta)(hb:PE X b tb)(hs:ZS b):PE X (.Subscript a b pos) (tOp r ta tb):=by intro pins s σ H Q I h;exact Subscript_ (ads ha hb I h fun v u s2 x y H2 I2 rx ry q=>hr a b pins s2 σ H2 x y v u Q I2 rx ry q (hs _ _))
def agB(K:Frag):R2:=fun x y H Q=>∃p xs i v,x=.ref p/\y=.int i/\aN K H p xs/\Sj xs i=some v/\Q v H
def agC(K:Frag):R2:=fun x y H Q=>∃p xs i v,x=.ref p/\y=.int i/\mT K H p xs/\Sj xs i=some v/\Q v H
theorem aW:IxR X (agB X.K):=by
  intro value slice pins s σ H x y v u Q I rx ry h hs;obtain⟨p,xs,i,z,rfl,rfl,hq,he,q⟩:=h;cases rx;obtain⟨t,rfl⟩:=ry;obtain⟨aX,r,pl,hz⟩:=I.list hq;obtain⟨j,h1,h2,h3,h4,h5⟩:=Sk he;obtain⟨w,ew,YG⟩:=r.get h2;have hl:=r.length;have hn:=FD;have fin:EP X pins σ Q w s:=⟨z,H,I,YG,q⟩;by_cases h0:0<=i
  . have hj:i.toNat=j:=by rw[seqIndex_of h0 h5]at h1;exact Option.some.inj h1
    exact item_listR pl.isList h0 (by omega) (by rw[hj];simpa using ew) fin hs
  . have hj:(i+(aX.toArray.size:Int)).toNat=j:=by rw[seqIndex_neg (by omega) h4]at h1;rw[size_toArray,<-hl];exact Option.some.inj h1
    exact subscriptTail_builtinR (x:=w) pl.isList.typeIs slot_list_getitem.lookup
      (wpAny_getItem_list_neg (Q:=fun r s'=>r=w/\EP X pins σ Q r s') pl.isList (by omega) (by rw[size_toArray]<;>omega) (by omega) (by rw[hj];simpa using ew) ⟨rfl,fin⟩) hs
theorem lA:IxR X (agC X.K):=by
  intro value slice pins s σ H x y v u Q I rx ry h hs;obtain⟨p,xs,i,z,rfl,rfl,hq,he,q⟩:=h;cases rx;obtain⟨t,rfl⟩:=ry;obtain⟨aX,r,pl,hz⟩:=I.tuple hq;obtain⟨j,h1,h2,h3,h4,h5⟩:=Sk he;obtain⟨w,ew,YG⟩:=r.get h2;have hl:=r.length;have hn:=FD;have fin:EP X pins σ Q w s:=⟨z,H,I,YG,q⟩;exact subscriptTail_builtinR (x:=w) pl.typeIs slot_tuple_getitem.lookup
    (getItem_tuple (j:=j) (Q:=fun r s'=>r=w/\EP X pins σ Q r s') pl (by omega) (by omega) (by rw[size_toArray,<-hl];exact h1) (by simpa using ew) ⟨rfl,fin⟩) hs
theorem QR(aX:List Value)(n j:Nat)(u:Value):Obj.mapSeq (·.setIfInBounds j u) { cls:=.type "list",data:=.seq aX.toArray n}={ cls:=.type "list",data:=.seq (aX.set j u).toArray n}:=by simp[Obj.mapSeq]
theorem Inv.lst{pins:List (Addr×Obj)}{σ:St}{H:Hp}{s:Shared}{p:Addr}{xs:List V}(I:Inv X pins σ H s)(h:H p=some (.lst xs)):∃(aX:List Value) (n:Nat),Vals xs aX/\s.heap.get? p=some { cls:=.type "list",data:=.seq aX.toArray n}/\xs.length<=sizeLine:=by obtain⟨z,aX,n,r,e⟩:=I.bj p _ h;exact⟨aX,n,r,e,z⟩
theorem Inv.aek{pins:List (Addr×Obj)}{σ:St}{H:Hp}{s:Shared}{p:Addr}{xs ys:List V}{aX its':List Value}{n n':Nat}{f:Obj->Obj}(I:Inv X pins σ H s)(h:H p=some (.lst xs))(ho:s.heap.get? p=some { cls:=.type "list",data:=.seq aX.toArray n})(hf:f { cls:=.type "list",data:=.seq aX.toArray n}={ cls:=.type "list",data:=.seq its'.toArray n'})(r:Vals ys its')(hz:ys.length<=sizeLine)(t:Nat):Inv X pins σ (upd H p (.lst ys)) { s with heap:=s.heap.update p f,toks:=t}:=by
  have e:(s.heap.update p f).get? p=some { cls:=.type "list",data:=.seq its'.toArray n'}:=by rw[get?_update_self f ho (by rw[hf]<;>rfl),hf]
  refine I.write (x:=p) (e:=p) (by rw[h];trivial) (.inl rfl) (fun b u hb q=>(get?_update_other _ _ (Ne.symm hb)).trans q) ⟨_,e⟩ ?_;exact⟨hz,its',n',r,e⟩
def agE:V->V->V->Hp->(Hp->Prop)->Prop:=fun o i v H Q=>∃p xs k j,o=.ref p/\i=.int k/\H p=some (.lst xs)/\ixN xs.length k=some j/\Q (upd H p (.lst (xs.set j v)))
theorem set_list:afu X agE:=by
  intro pins s σ H o i v ov iv u Q I ro ri rv h;obtain⟨p,xs,k,j,rfl,rfl,hp,hj,q⟩:=h;cases ro;obtain⟨t,rfl⟩:=ri;obtain⟨aX,n,r,ho,hz⟩:=I.lst hp;obtain⟨h1,h2,h3,h4⟩:=Tc hj;have hl:=r.length;have hn:=FD;have I':Inv X pins σ (upd H p (.lst (xs.set j v))) { s with heap:=s.heap.update p (Obj.mapSeq (·.setIfInBounds j u))}:=
    I.aek hp ho (QR aX n j u) (r.set rv j) (by rw[length_set];exact hz) s.toks
  by_cases h0:0<=k
  . have hk:k.toNat=j:=by rw[seqIndex_of h0 h4]at h1;exact Option.some.inj h1
    exact PySem.W.ki_setAt ho h0 (by omega) (by rw[size_toArray,<-hl];exact h4) (by rw[hk];exact⟨_,I',q⟩)
  . have hk:(k+(aX.toArray.size:Int)).toNat=j:=by rw[seqIndex_neg (by omega) h3]at h1;rw[size_toArray,<-hl];exact Option.some.inj h1
    exact PySem.W.ki_setBack ho (by omega) (by rw[size_toArray,<-hl];exact h3) (by omega) (by rw[hk];exact⟨_,I',q⟩)
theorem LC(lo hi:Option Int)(n:Nat):(sliceBounds lo hi none n).1=((HT.OK n 0 lo:Nat):Int)/\(sliceBounds lo hi none n).2.1=((HT.OK n n hi:Nat):Int)/\(sliceBounds lo hi none n).2.2=1:=by
  refine⟨?_,?_,rfl⟩
  . cases lo with
    | none=>simp[sliceBounds,HT.OK]
    | some i=>
      simp only[sliceBounds,HT.OK,Option.getD_none,show(1:Int)>0 by decide,if_true];by_cases h:i<0
      . simp only[h,if_true]<;>omega
      . simp only[h,if_false]<;>omega
  . cases hi with
    | none=>simp[sliceBounds,HT.OK]
    | some i=>
      simp only[sliceBounds,HT.OK,Option.getD_none,show(1:Int)>0 by decide,if_true];by_cases h:i<0
      . simp only[h,if_true]<;>omega
      . simp only[h,if_false]<;>omega
theorem HQ(aX:List Value)(lo hi:Option Int):slicePick aX.toArray lo hi none=((aX.drop (HT.OK aX.length 0 lo)).take (HT.OK aX.length aX.length hi-HT.OK aX.length 0 lo)).toArray:=by obtain⟨h1,h2,h3⟩:=LC lo hi aX.toArray.size;unfold slicePick;rw[h1,h2,h3];simp only[sliceRange_one,pick_run,size_toArray]<;>rfl
def ail(K:Frag):V->Option Int->Option Int->Hp->VK->Prop:=fun x lo hi H Q=>∃a xs,x=.ref a/\aN K H a xs/\∀p,H p=none->Q (.ref p) (upd H p (.lst (BU xs lo hi)))
theorem acj:SlR X (ail X.K):=by intro pins s σ H x v vl vu lo hi sl Q I rx hs pl pu h;obtain⟨a,xs,rfl,hx,q⟩:=h;cases rx;obtain⟨aX,r,ht,hz⟩:=I.list hx;have hlen:=r.length;refine⟨"list",_,slot_list_getitem.lookup,ht.isList.typeIs,?_⟩;refine wpAny_getItem_list_slice ht.isList hs pl pu .none (by simp) ?_ (by rw[size_toArray]<;>omega);rw[HQ,<-hlen];refine⟨.ref s.heap.objs.size,_,I.laid (t':=s.toks) (o:=.lst (BU xs lo hi)) (fun b ob q=>get?_push_of_some _ q) (le_refl _) ?_,rfl,q _ (I.bj.fresh (le_refl _))⟩;exact⟨le_trans (Mx xs lo hi) hz,_,0,(r.drop (HT.OK xs.length 0 lo)).take (HT.OK xs.length xs.length hi-HT.OK xs.length 0 lo),get?_push_size _ rfl⟩
def wK:V->Bool
  | .dZ=>true
  | .bl _=>true
  | .int _=>true
  | .str _=>true
  | _=>false
def eqV:V->V->Bool
  | .dZ,.dZ=>true
  | .bl a,.bl b=>a==b
  | .bl a,.int b=>(if a then 1 else 0)==b
  | .int a,.bl b=>a==(if b then 1 else 0)
  | .int a,.int b=>a==b
  | .str a,.str b=>a==b
  | _,_=>false
theorem adK{A:Around}{s:Shared}{y x:V}{u v:Value}(ry:RelV y u)(rx:RelV x v)(fy:wK y=true)(fx:wK x=true):SeqAt.EqAt A s u v (eqV y x):=by
  cases y with
  | dZ=>
    cases ry;cases x with
    | dZ=>cases rx;exact SeqAt.EqAt.same _
    | bl b=>cases rx;exact SeqAt.EqAt.none_bool b
    | int b=>obtain⟨t,rfl⟩:=rx;exact SeqAt.EqAt.none_int b t
    | str b=>obtain⟨t,rfl⟩:=rx;exact SeqAt.EqAt.none_str b t
    | _=>exact absurd (show false=true from fx) Bool.false_ne_true
  | bl a=>
    cases ry;cases x with
    | dZ=>cases rx;exact SeqAt.EqAt.bool_none a
    | bl b=>cases rx;exact SeqAt.EqAt.bool_bool a b
    | int b=>obtain⟨t,rfl⟩:=rx;exact SeqAt.EqAt.bool_int a b t
    | str b=>obtain⟨t,rfl⟩:=rx;exact SeqAt.EqAt.bool_str a b t
    | _=>exact absurd (show false=true from fx) Bool.false_ne_true
  | int a=>
    obtain⟨t',rfl⟩:=ry;cases x with
    | dZ=>cases rx;exact SeqAt.EqAt.int_none a t'
    | bl b=>cases rx;exact SeqAt.EqAt.int_bool a t' b
    | int b=>obtain⟨t,rfl⟩:=rx;exact SeqAt.EqAt.int_int a t' b t
    | str b=>obtain⟨t,rfl⟩:=rx;exact SeqAt.EqAt.int_str a t' b t
    | _=>exact absurd (show false=true from fx) Bool.false_ne_true
  | str a=>
    obtain⟨t',rfl⟩:=ry;cases x with
    | dZ=>cases rx;exact SeqAt.EqAt.str_none a t'
    | bl b=>cases rx;exact SeqAt.EqAt.str_bool a t' b
    | int b=>obtain⟨t,rfl⟩:=rx;exact SeqAt.EqAt.str_int a t' b t
    | str b=>obtain⟨t,rfl⟩:=rx;exact SeqAt.EqAt.str_str a t' b t
    | _=>exact absurd (show false=true from fx) Bool.false_ne_true
  | _=>exact absurd (show false=true from fy) Bool.false_ne_true
def eqU(x:V)(u:Value):Bool:=match u with
  | .none=>eqV .dZ x
  | .bool b=>eqV (.bl b) x
  | .int i _=>eqV (.int i) x
  | .str z _=>eqV (.str z) x
  | _=>false
theorem Xj{x y:V}{u:Value}(r:RelV y u)(f:wK y=true):eqU x u=eqV y x:=by
  cases y with
  | dZ=>cases r;rfl
  | bl b=>cases r;rfl
  | int i=>obtain⟨t,rfl⟩:=r;rfl
  | str z=>obtain⟨t,rfl⟩:=r;rfl
  | _=>exact absurd (show false=true from f) Bool.false_ne_true
theorem JE{x:V}:∀{xs:List V} {us:List Value},Vals xs us->xs.all wK=true->us.any (eqU x)=xs.any fun y=>eqV y x
  | _,_,.nil,_=>rfl
  | y::xs,u::us,.cons r t,f=>by rw[all_cons,and_eq_true]at f;rw[any_cons,any_cons,Xj r f.1,JE t f.2]
theorem FJ{A:Around}{s:Shared}{x:V}{v:Value}(rx:RelV x v)(fx:wK x=true):∀{xs:List V} {us:List Value},Vals xs us->xs.all wK=true->∀u∈us,SeqAt.EqAt A s u v (eqU x u)
  | _,_,.nil,_=>fun u hu=>by cases hu
  | y::xs,u::us,.cons r t,f=>fun u' hu=>by
    rw[all_cons,and_eq_true]at f;rcases mem_cons.mp hu with rfl | hu
    . rw[Xj r f.1];exact adK r rx f.1 fx
    . exact FJ rx fx t f.2 u' hu
def inV(x:V)(xs:List V):Bool:=xs.any fun y=>eqV y x
def rIn(K:Frag)(neg:Bool):R2:=fun x y H Q=>∃p xs,y=.ref p/\(aN K H p xs\/mT K H p xs)/\wK x=true/\xs.all wK=true/\Q (.bl (if neg then !inV x xs else inV x xs)) H
theorem zZ:yb X (compareOp .In) (rIn X.K false):=by
  intro pins s σ H x y v u Q I rx ry h;obtain⟨p,xs,rfl,hq,fx,fs,q⟩:=h;cases ry;rcases hq with hq | hq
  . obtain⟨aX,r,pl,hz⟩:=I.list hq;refine SeqAt.in_listAt (eqU x) pl.isList (fun w hw=>FJ rx fx r fs w (by simpa using hw)) ⟨.bl _,H,I,rfl,?_⟩;rw[show aX.toArray.any (eqU x)=aX.any (eqU x) by simp,JE r fs];exact q
  . obtain⟨aX,r,pl,hz⟩:=I.tuple hq;refine SeqAt.in_tupleAt (eqU x) pl (fun w hw=>FJ rx fx r fs w (by simpa using hw)) ⟨.bl _,H,I,rfl,?_⟩;rw[show aX.toArray.any (eqU x)=aX.any (eqU x) by simp,JE r fs];exact q
theorem aP:gh X (.builtin "len") (fun xs H Q=>∃p ys,xs=[.ref p]/\(aN X.K H p ys\/mT X.K H p ys)/\Q (.int ys.length) H):=by
  intro pins s σ H xs us Q I r h;obtain⟨p,ys,rfl,hq,q⟩:=h;obtain⟨u,rfl,rx⟩:=vals1 r;cases rx;have hn:=FD;rcases hq with hq | hq
  . obtain⟨aX,r',pl,hz⟩:=I.list hq;have hlen:=r'.length;exact Calls.call_len_list pl.isList (by simp only[size_toArray]<;>omega) ⟨.int ys.length,H,I.tok _,⟨s.toks+1,by rw[size_toArray,hlen]⟩,q⟩
  . obtain⟨aX,r',pl,hz⟩:=I.tuple hq;have hlen:=r'.length;exact len_tuple pl (by simp only[size_toArray]<;>omega) ⟨.int ys.length,H,I.tok _,⟨s.toks+1,by rw[size_toArray,hlen]⟩,q⟩
theorem JT:gh X (.type "list") (fun xs H Q=>∃p ys,xs=[.ref p]/\(aN X.K H p ys\/mT X.K H p ys)/\∀l,H l=none->Q (.ref l) (upd H l (.lst ys))):=by
  intro pins s σ H xs us Q I r h;obtain⟨p,ys,rfl,hq,q⟩:=h;obtain⟨u,rfl,rx⟩:=vals1 r;cases rx;have fin:∀(aX:List Value),Vals ys aX->ys.length<=sizeLine->∀(h':Heap) (c':Nat),(∀b o',s.heap.get? b=some o'->h'.get? b=some o')->
      h'.get? s.heap.objs.size=some { cls:=.type "list",dict:=none,data:=.seq aX.toArray c',slots:= #[]}->EP X pins σ Q (.ref s.heap.objs.size) { s with heap:=h'}:=fun aX r' hz h' c' kp e=>
    ⟨.ref s.heap.objs.size,_,I.laid (t':=s.toks) kp (le_refl _) (show cJ X.prog X.w _ h' _ (.lst ys) from⟨hz,aX,c',r',e⟩),rfl,q _ (I.bj.fresh (le_refl _))⟩
  rcases hq with hq | hq
  . obtain⟨aX,r',pl,hz⟩:=I.list hq;have hlen:=r'.length;obtain⟨o,ho,hc,n,hd⟩:=pl.isList;exact call_list_seq p (.inl rfl) ho hc hd (fun h' c' kp e=>fin aX r' hz h' c' kp e) (by simp only[size_toArray]<;>omega)
  . obtain⟨aX,r',pl,hz⟩:=I.tuple hq;have hlen:=r'.length;obtain⟨o,ho,hc,n,hd⟩:=pl;exact call_list_seq p (.inr rfl) ho hc hd (fun h' c' kp e=>fin aX r' hz h' c' kp e) (by simp only[size_toArray]<;>omega)
def tyV(K:Frag)(T:String)(x:V)(H:Hp):Prop:=match x with
  | .str _=>T="str"
  | .int _=>T="int"
  | .ref p=>(T="list"/\∃xs,aN K H p xs)\/(T="tuple"/\∃o,K.lookup p=some o/\o.cls=.type "tuple"/\o.dict=none)\/
      (T="dict"/\((∃aB,H p=some (.dK aB))\/∃aB,H p=some (.dT aB)))\/(T="set"/\∃S n,H p=some (.set S n))
  | _=>False
theorem Zh{pins:List (Addr×Obj)}{σ:St}{H:Hp}{s:Shared}{T:String}{x:V}{v:Value}(I:Inv X pins σ H s)(r:RelV x v)(ty:tyV X.K T x H):s.TypeIs v T/\∀a,v=.ref a->∃ob,s.heap.get? a=some ob/\ob.dict=none:=by
  cases x with
  | str z=>obtain⟨t,rfl⟩:=r;cases (show T="str" from ty);exact⟨typeIs_str s z t,fun _ e=>nomatch e⟩
  | int i=>obtain⟨t,rfl⟩:=r;cases (show T="int" from ty);exact⟨typeIs_int s i t,fun _ e=>nomatch e⟩
  | ref p=>
    cases r;rcases ty with⟨rfl,xs,hq⟩ | ⟨rfl,o,hk,hc,hd⟩ | ⟨rfl,hk⟩ | ⟨rfl,S,n,hk⟩
    . obtain⟨aX,_,pl,_⟩:=I.list hq;refine⟨pl.isList.typeIs,fun a e=>?_⟩;cases e;obtain⟨o,n,e,c,hd,_⟩:=pl;exact⟨o,e,hd⟩
    . refine⟨⟨o,I.OJ p o hk,hc⟩,fun a e=>?_⟩;cases e;exact⟨o,I.OJ _ o hk,hd⟩
    . have z:∃o,s.heap.get? p=some o/\o.ExactDict:=by
        rcases hk with⟨aB,hk⟩ | ⟨aB,hk⟩
        . obtain⟨_,_,_,_,o,_,_,e,ex,_⟩:=I.bj p _ hk;exact⟨o,e,ex⟩
        . obtain⟨_,_,_,_,o,_,_,e,ex,_⟩:=I.bj p _ hk;exact⟨o,e,ex⟩
      obtain⟨o,e,ex⟩:=z;refine⟨⟨o,e,ex.1⟩,fun a e2=>?_⟩;cases e2;exact⟨o,e,ex.2.1⟩
    . obtain⟨o,_,_,_,e,ex,_⟩:=I.bj p _ hk;refine⟨⟨o,e,ex.1⟩,fun a e2=>?_⟩;cases e2;exact⟨o,e,ex.2.1⟩
  | _=>exact False.elim ty
def aiE(K:Frag)(T:String)(r:V->List V->Hp->VK->Prop)(to:TE):TE:=fun σ H Q=>to σ H fun x H1=>tyV K T x H1/\r x [] H1 Q
def tBM(K:Frag)(T:String)(r:V->List V->Hp->VK->Prop)(to:TE)(t:TA):TE:=fun σ H Q=>to σ H fun x H1=>tyV K T x H1/\t σ H1 fun xs H2=>r x xs H2 Q
variable{o e:Expr}{es:List Expr}{to:TE}{t:TA}{name:Str}{apos my:Pos}{T id:String}{r:V->List V->Hp->VK->Prop}
theorem aeL(pa:PlainAttrs T)(slot:Slot T name id)(hty:typeOf (.builtin id)=pure (.type "method_descriptor"))(hm:MtR X id r)(ho:PE X o to)(wQ:attributeBase o name X.env (eval o X.env)=eval o X.env:=by rfl)(wV:(apos.endLine==my.line)=true:=by rfl):PE X (.Call (.Attribute o name apos) [] [] my) (aiE X.K T r to):=by intro pins s σ H Q I h;refine wpAny_Call_method0_late wQ wV (cy (ho pins s σ H _ I h) fun v s1 ⟨x,H1,I1,r1,ty,q1⟩=>?_);obtain⟨h1,h2⟩:=Zh I1 r1 ty;exact⟨T,id,pa,slot,hty,h1,h2,Calls.callWith_builtin rfl (PySem.evalArgs_none (hm pins s1 σ H1 x [] v [] Q I1 r1 .nil q1))⟩
theorem xC(pa:PlainAttrs T)(slot:Slot T name id)(hty:typeOf (.builtin id)=pure (.type "method_descriptor"))(hm:MtR X id r)(ho:PE X o to)(ha:PA X (e::es) t)(wQ:attributeBase o name X.env (eval o X.env)=eval o X.env:=by rfl)(ahG:((backTo my (starEach (e::es) X.env)).all (fun x=> !x.1)&&(backToKw my (keywordEach [] X.env)).all (fun x=>x.1.isSome)
      &&decide ((e::es).length+([]:List Keyword).length+(if ([]:List Keyword).isEmpty then 0 else 1)<30))=true:=by rfl)
    (wV:(apos.endLine==my.line)=true:=by rfl) (hs:starEach (e::es) X.env=(false,eval e X.env)::starEach es X.env:=by rfl) (ad3:(backTo my (starEach es X.env)).any (·.1)=false:=by rfl):
    PE X (.Call (.Attribute o name apos) (e::es) [] my) (tBM X.K T r to t):=by
  intro pins s σ H Q I h;refine wpAny_Call_method_late wQ ahG wV rfl (cy (ho pins s σ H _ I h) fun v s1 ⟨x,H1,I1,r1,ty,q1⟩=>?_);obtain⟨h1,h2⟩:=Zh I1 r1 ty;refine⟨T,id,pa,slot,hty,h1,h2,?_⟩;have hA:=ha my pins s1 σ H1 _ I1 q1;rw[hs]at hA ⊢;refine Calls.callWith_builtin (by show(false||(backTo my (starEach es X.env)).any (·.1))=false;rw[ad3]<;>rfl) (Calls.evalArgs_plain ?_);exact cy hA fun us s2 ⟨vs,H2,I2,r2,q2⟩=>hm pins s2 σ H2 x vs v us Q I2 r1 r2 q2
end
end L2
namespace L2
open PySem PySem.Spec PyProof.Rows
def MtM(X:Cx)(id:String)(r:V->List V->Hp->VK->Prop):Prop:=
  ∀(pins:List (Addr×Obj)) (s:Shared) (σ:St) (H:Hp) (x:V) (xs:List V) (v:Value) (us:List Value) (Q:VK),Inv X pins σ H s->RelV x v->Vals xs us->r x xs H Q->
    wpAny (model X.prog X.w) X.A (call (.builtin id) (v::us)) (EP X pins σ Q) X.xe s
theorem Vals.one:∀{x:V} {us:List Value},Vals [x] us->∃u,us=[u]/\RelV x u
  | _,_,.cons r .nil=>⟨_,rfl,r⟩
theorem Vals.zero:∀{us:List Value},Vals [] us->us=[]
  | _,.nil=>rfl
theorem Vals.dropLast{xs:List V}{us:List Value}(h:Vals xs us):Vals xs.dropLast us.dropLast:=by
  induction h with
  | nil=>exact .nil
  | cons r t ih=>
    cases t with
    | nil=>exact .nil
    | cons q t'=>exact .cons r ih
theorem Vals.rep{xs:List V}{us:List Value}(h:Vals xs us):∀k:Nat,Vals (List.replicate k xs).flatten (List.replicate k us).flatten
  | 0=>.nil
  | k+1=>by rw[replicate_succ,replicate_succ,flatten_cons,flatten_cons];exact Vals.append h (Vals.rep h k)
theorem P0{α:Type}(l:List α):l.eraseIdx (l.length-1)=l.dropLast:=by
  induction l with
  | nil=>rfl
  | cons a r ih=>
    cases r with
    | nil=>rfl
    | cons b r=>
      have e:(a::b::r).length-1=((b::r).length-1)+1:=by have h1:(a::b::r).length=r.length+2:=rfl;have h2:(b::r).length=r.length+1:=rfl;omega
      rw[e,List.eraseIdx_cons_succ,ih];all_goals rfl
theorem foldl_rep(aX:List Value):∀(k:Nat) (acc:List Value),List.foldl (fun x1 x2=>x1++x2) acc.toArray (List.replicate k aX.toArray)=(acc++(List.replicate k aX).flatten).toArray
  | 0,acc=>by simp
  | k+1,acc=>by
    have e:acc.toArray++aX.toArray=(acc++aX).toArray:=by simp
    have e2:(acc++aX)++(List.replicate k aX).flatten=acc++(List.replicate (k+1) aX).flatten:=by rw[replicate_succ,flatten_cons,append_assoc]
    rw[<-e2,<-foldl_rep aX k (acc++aX),<-e,replicate_succ,foldl_cons]
section
variable{X:Cx}{pins:List (Addr×Obj)}{σ:St}{H:Hp}{s:Shared}{l b:Addr}{xs ys zs:List V}
theorem Inv.aej{aX its':List Value}{n:Nat}{f:Array Value->Array Value}{t':Nat}(I:Inv X pins σ H s)(hH:H l=some (.lst xs))(e:s.heap.get? l=some { cls:=.type "list",data:=.seq aX.toArray n})(hf:f aX.toArray=its'.toArray)(hv:Vals ys its')(hz:ys.length<=sizeLine):Inv X pins σ (upd H l (.lst ys)) { s with heap:=s.heap.update l (Obj.mapSeq f),toks:=t'}:=by have q:=PySem.IsL.update e f;rw[hf]at q;refine I.write (x:=l) (e:=l) (by rw[hH];exact trivial) (.inl rfl) (fun b' u hb hu=>(get?_update_other s.heap (Obj.mapSeq f) (Ne.symm hb)).trans hu) ⟨_,q⟩ ?_;exact⟨hz,its',_,hv,q⟩
theorem Inv.agp{aX:List Value}{t':Nat}(I:Inv X pins σ H s)(hv:Vals ys aX)(hz:ys.length<=sizeLine):Inv X pins σ (upd H s.heap.objs.size (.lst ys)) { s with heap:=s.heap.push { cls:=.type "list",data:=.seq aX.toArray},toks:=t'}:=
  I.laid (fun _ _ q=>get?_push_of_some _ q) (le_refl _) ⟨hz,aX,0,hv,get?_push_size _ rfl⟩
theorem Inv.fresh(I:Inv X pins σ H s):H s.heap.objs.size=none:=I.bj.fresh (le_refl _)
theorem Inv.QO(I:Inv X pins σ H s)(hH:H l=some (.lst xs)):xs.length<=sizeLine/\∃(aX:List Value) (n:Nat),Vals xs aX/\xs.length=aX.length/\s.heap.get? l=some { cls:=.type "list",data:=.seq aX.toArray n}:=by obtain⟨z,aX,n,r,e⟩:=I.bj l _ hH;exact⟨z,aX,n,r,r.length,e⟩
theorem Np{n:Nat}(h:n<=sizeLine):Builtin.List.listTooLong n=false:=by unfold Builtin.List.listTooLong;exact decide_eq_false (by omega)
end
section
variable{X:Cx}
def abZ:V->List V->Hp->VK->Prop:=fun x vs H Q=>∃l xs y,x=.ref l/\vs=[y]/\H l=some (.lst xs)/\xs.length<sizeLine/\Q .dZ (upd H l (.lst (xs++ [y])))
theorem tm:MtM X "list.append" abZ:=by intro pins s σ H x vs v us Q I rx rv h;obtain⟨l,xs,y,rfl,rfl,hH,hz,q⟩:=h;cases rx;obtain⟨u,rfl,ru⟩:=rv.one;obtain⟨z,aX,n,r,hl,e⟩:=I.QO hH;refine call_meets F.slot_list_append ⟨_,e,rfl⟩ F.entry_list_append (F.args_list_append_2 _ _) (PySem.list_append l aX.toArray n u (by rw[size_toArray];omega)) ⟨e,?_⟩;refine⟨.dZ,_,I.aej (its':=aX++ [u]) hH e (by simp) (r.append (.cons ru .nil)) ?_,rfl,q⟩;rw[length_append,length_singleton];omega
def ab1:V->List V->Hp->VK->Prop:=fun x vs H Q=>∃l b xs zs,x=.ref l/\vs=[.ref b]/\H l=some (.lst xs)/\H b=some (.lst zs)/\xs.length+zs.length<=sizeLine/\Q .dZ (upd H l (.lst (xs++zs)))
theorem tp:MtM X "list.extend" ab1:=by
  intro pins s σ H x vs v us Q I rx rv h;obtain⟨l,b,xs,zs,rfl,rfl,hH,hB,hz,q⟩:=h;cases rx;obtain⟨u,rfl,ru⟩:=rv.one;cases ru;obtain⟨z,aX,n,r,hl,e⟩:=I.QO hH;obtain⟨z2,u9,n2,r2,Xz,e2⟩:=I.QO hB;have hsz:aX.toArray.size+u9.toArray.size<=sizeLine:=by rw[size_toArray,size_toArray];omega
  have XA:¬(!aX.toArray.isEmpty&&Builtin.List.listTooLong (aX.toArray.size+u9.toArray.size))=true:=by rw[Np hsz,Bool.and_false];exact Bool.false_ne_true
  refine call_meets F.slot_list_extend ⟨_,e,rfl⟩ F.entry_list_extend (F.args_list_extend_2 _ _)
    (AutoSeq1.list_extend_list_list_0 l aX.toArray n b u9.toArray n2 XA (by rw[size_toArray];omega) (by omega)) ⟨e,e2,?_⟩
  refine⟨.dZ,_,I.aej (its':=aX++u9) hH e (by simp) (r.append r2) ?_,rfl,q⟩;rw[length_append];omega
def aik:V->List V->Hp->VK->Prop:=fun x vs H Q=>∃l xs y,x=.ref l/\vs=[]/\H l=some (.lst xs)/\xs[xs.length-1]? =some y/\Q y (upd H l (.lst xs.dropLast))
theorem aem:MtM X "list.pop" aik:=by
  intro pins s σ H x vs v us Q I rx rv h;obtain⟨l,xs,y,rfl,rfl,hH,hy,q⟩:=h;cases rx;have hus:=rv.zero;subst hus;obtain⟨z,aX,n,r,hl,e⟩:=I.QO hH;obtain⟨u,hu,ru⟩:=r.get hy;have hy':aX.toArray[aX.toArray.size-1]? =some u:=by show aX.toArray[aX.length-1]? =some u;rw[<-getElem?_toList,<-hl];exact hu
  refine call_meets F.slot_list_pop ⟨_,e,rfl⟩ F.entry_list_pop (F.args_list_pop_1 _) (MeetsSeq.list_pop_last l aX.toArray n u hy' (by rw[size_toArray];omega)) ⟨e,?_⟩;refine⟨y,_,I.aej (its':=aX.dropLast) hH e ?_ r.dropLast ?_,ru,q⟩
  . show aX.toArray.eraseIdxIfInBounds (aX.toArray.size-1)=aX.dropLast.toArray;rw[size_toArray,List.eraseIdxIfInBounds_toArray,P0]
  . rw[List.length_dropLast];omega
def aig:R2:=fun x y H Q=>∃l b xs zs,x=.ref l/\y=.ref b/\H l=some (.lst xs)/\H b=some (.lst zs)/\xs.length+zs.length<=sizeLine/\∀p,H p=none->Q (.ref p) (upd H p (.lst (xs++zs)))
theorem pJ:yb X (binaryOp .Add) aig:=by
  intro pins s σ H x y v u Q I rx ry h;obtain⟨l,b,xs,zs,rfl,rfl,hH,hB,hz,q⟩:=h;cases rx;cases ry;obtain⟨z,aX,n,r,hl,e⟩:=I.QO hH;obtain⟨z2,u9,n2,r2,Xz,e2⟩:=I.QO hB;refine PySem.P.add_list e e2 ?_ (by rw[size_toArray,size_toArray];omega);have ea:aX.toArray++u9.toArray=(aX++u9).toArray:=by simp
  rw[ea];exact⟨.ref _,_,I.agp (t':=s.toks) (r.append r2) (by rw[length_append];omega),rfl,q _ I.fresh⟩
def agD:R2:=fun x y H Q=>∃l k xs,x=.ref l/\y=.int k/\H l=some (.lst xs)/\ -(2^63)<=k/\k<2^63/\xs.length*k.toNat<=sizeLine/\
  ∀p,H p=none->Q (.ref p) (upd H p (.lst (List.replicate k.toNat xs).flatten))
theorem len_rep{α:Type}(xs:List α)(k:Nat):(List.replicate k xs).flatten.length=k*xs.length:=by
  induction k with
  | zero=>simp
  | succ k ih=>rw[replicate_succ,flatten_cons,length_append,ih,Nat.succ_mul,Nat.add_comm]
theorem z5:yb X (binaryOp .Mult) agD:=by
  intro pins s σ H x y v u Q I rx ry h;obtain⟨l,k,xs,rfl,rfl,hH,h1,h2,hz,q⟩:=h;cases rx;obtain⟨t,rfl⟩:=ry;obtain⟨z,aX,n,r,hl,e⟩:=I.QO hH;have hlen:aX.toArray.size*k.toNat<=sizeLine:=by rw[size_toArray,<-hl];exact hz
  have ahD:¬aX.toArray.size*k.toNat>(2^63-1)/8:=by
    have:(sizeLine:Nat)<=(2^63-1)/8:=by decide
    omega
  have adR:¬(!Builtin.List.listFitsIndex k)=true:=by rw[fitsIndex_both h1 h2];exact Bool.false_ne_true
  have XA:¬Builtin.List.listTooLong (aX.toArray.size*k.toNat)=true:=by rw[Np hlen];exact Bool.false_ne_true
  have wW:List.foldl (fun x1 x2=>x1++x2) #[] (List.replicate (if aX.toArray.isEmpty=true then 0 else k.toNat) aX.toArray)=(List.replicate k.toNat aX).flatten.toArray:=by
    have f0:∀m:Nat,List.foldl (fun x1 x2=>x1++x2) #[] (List.replicate m aX.toArray)=(List.replicate m aX).flatten.toArray:=fun m=>by have:=foldl_rep aX m [];rw[nil_append]at this;exact this
    rw[f0];cases aX with
    | nil=>simp
    | cons a r'=>rw[if_neg (by simp)]
  refine wpAny_binaryOp_repeat_ref (T:="list") (U:="int") (by decide) ⟨_,e,rfl⟩ (fun s'=>typeIs_int s' k t) noFill_list_mul F.fills_int_mul F.slot_int_rmul repeat_list F.slot_int_index.lookup
    (call_meets F.slot_int_rmul (typeIs_int s k t) F.entry_int_rmul (F.args_int_rmul_2 _ _) (int___rmul___int_list k t l aX.toArray n)
      ⟨e,rfl,⟨_,e,rfl⟩,call_meets F.slot_list_mul ⟨_,e,rfl⟩ F.entry_list_mul (F.args_list_mul_2 _ _) (AutoListH.list___mul___list_int_3 l aX.toArray n k t adR ahD XA) ⟨e,?_⟩⟩)
  rw[wW];exact⟨.ref _,_,I.agp (t':=s.toks) (r.rep k.toNat) (by rw[len_rep,mul_comm];exact hz),rfl,q _ I.fresh⟩
end
end L2
namespace L2
open PySem PySem.Spec PyProof.Rows
theorem Vals.ints:∀{ns:List Int} {us:List Value},Vals (ns.map V.int) us->IntsAre us ns
  | [],us,h=>by rw[map_nil]at h;cases h;exact IntsAre.nil
  | n::ns,us,h=>by
    rw[map_cons]at h;cases h with
    | cons r t=>obtain⟨k,rfl⟩:=r;exact IntsAre.cons n k (Vals.ints t)
theorem g8:∀{us:List Value} {ns:List Int},IntsAre us ns->Vals (ns.map V.int) us
  | _,_,.nil=>by rw[map_nil];exact Paired.nil
  | _,_,.cons n t h=>by rw[map_cons];exact Paired.cons (show RelV (V.int n) (Value.int n t) from⟨t,rfl⟩) (g8 h)
theorem Vals.bls:∀{bs:List Bool} {us:List Value},Vals (bs.map V.bl) us->us=bs.map Value.bool
  | [],us,h=>by rw[map_nil]at h;cases h;rfl
  | b::bs,us,h=>by
    rw[map_cons]at h;cases h with
    | cons r t=>cases r;rw[Vals.bls t,map_cons]
theorem Vals.Gn{a:Addr}{us:List Value}(r:Vals [V.ref a] us):us=[Value.ref a]:=by
  cases r with
  | cons r t=>cases t;cases r;rfl
section
variable{prog:Program}{w:World}{A:Around}{E:Value->Shared->Prop}{s:Shared}{l:Addr}{aX:List Value}{ns:List Int}{Q:Value->Shared->Prop}
theorem acy(hh:A.handled=none)(hl:s.heap.IsList l aX.toArray)(hi:IntsAre aX ns)(h:∀h' tk t',(∀b o,s.heap.get? b=some o->h'.get? b=some o)->Q (.int ns.sum t') { s with heap:=h',toks:=tk}):wpAny (model prog w) A (call (.builtin "sum") [.ref l]) Q E s:=by
  obtain⟨xs,e⟩:=hi.allInts.items;have hn:numsOf (intItems xs).toList=ns:=by rw[<-e];exact hi.numsOf
  rw[nums_intItems]at hn;rw[e]at hl;refine PySem.sum_intListG hh hl fun h' tk t' hk=>?_;have:=h h' tk t' hk;rw[preSum_eq,List.take_of_length_le (by simp),hn];exact this
theorem aaY(hh:A.handled=none)(hl:s.heap.IsList l aX.toArray)(hi:IntsAre aX ns)(eZ:0<ns.length)(h:∀h' tk M t',(∀b o,s.heap.get? b=some o->h'.get? b=some o)->M∈ns->(∀a,a∈ns->a<=M)->Q (.int M t') { s with heap:=h',toks:=tk}):wpAny (model prog w) A (call (.builtin "max") [.ref l]) Q E s:=by
  obtain⟨xs,e⟩:=hi.allInts.items;have hn:numsOf (intItems xs).toList=ns:=by rw[<-e];exact hi.numsOf
  rw[nums_intItems]at hn;subst hn;rw[e]at hl;have hsz:0<xs.size:=by simpa using eZ
  refine PySem.max_intList hh hl hsz fun v h' tk hv hk=>?_;obtain⟨t,rfl⟩:=intItems_at hv;obtain⟨h1,h2⟩:=argBest_gt (numAt xs) (xs.size-1);refine h h' tk _ t hk ?_ fun a ha=>?_
  . rw[numAt_eq];exact PySem.getD_mem (by rw[length_map,length_toList];omega)
  . obtain⟨j,hj,rfl⟩:=mem_getD ha;rw[length_map,length_toList]at hj;rw[<-numAt_eq];exact h2 j (by omega)
theorem aa0(hh:A.handled=none)(hl:s.heap.IsList l aX.toArray)(hi:IntsAre aX ns)(eZ:0<ns.length)(h:∀h' tk M t',(∀b o,s.heap.get? b=some o->h'.get? b=some o)->M∈ns->(∀a,a∈ns->M<=a)->Q (.int M t') { s with heap:=h',toks:=tk}):wpAny (model prog w) A (call (.builtin "min") [.ref l]) Q E s:=by
  obtain⟨xs,e⟩:=hi.allInts.items;have hn:numsOf (intItems xs).toList=ns:=by rw[<-e];exact hi.numsOf
  rw[nums_intItems]at hn;subst hn;rw[e]at hl;have hsz:0<xs.size:=by simpa using eZ
  refine PySem.min_intList hh hl hsz fun v h' tk hv hk=>?_;obtain⟨t,rfl⟩:=intItems_at hv;obtain⟨h1,h2⟩:=argBest_lt (numAt xs) (xs.size-1);refine h h' tk _ t hk ?_ fun a ha=>?_
  . rw[numAt_eq];exact PySem.getD_mem (by rw[length_map,length_toList];omega)
  . obtain⟨j,hj,rfl⟩:=mem_getD ha;rw[length_map,length_toList]at hj;rw[<-numAt_eq];exact h2 j (by omega)
end
section
variable{X:Cx}
def aim(K:Frag):List V->Hp->VK->Prop:=fun vs H Q=>∃(a:Addr) (ns:List Int),vs=[V.ref a]/\aN K H a (ns.map V.int)/\Q (.int ns.sum) H
def aii(K:Frag):List V->Hp->VK->Prop:=fun vs H Q=>∃(a:Addr) (ns:List Int),vs=[V.ref a]/\aN K H a (ns.map V.int)/\0<ns.length/\∀m,m∈ns->(∀y,y∈ns->y<=m)->Q (.int m) H
def aij(K:Frag):List V->Hp->VK->Prop:=fun vs H Q=>∃(a:Addr) (ns:List Int),vs=[V.ref a]/\aN K H a (ns.map V.int)/\0<ns.length/\∀m,m∈ns->(∀y,y∈ns->m<=y)->Q (.int m) H
theorem W8(hc:X.calm=true):gh X (.builtin "sum") (aim X.K):=by intro pins s σ H vs us Q I r h;obtain⟨a,ns,rfl,hs,q⟩:=h;obtain⟨aX,rv,hl,_⟩:=I.list hs;rw[Vals.Gn r];exact acy (I.ok.hd hc) hl.isList rv.ints fun h' tk t' hk=>⟨.int _,H,I.kept hk,⟨_,rfl⟩,q⟩
theorem W6(hc:X.calm=true):gh X (.builtin "max") (aii X.K):=by intro pins s σ H vs us Q I r h;obtain⟨a,ns,rfl,hs,eZ,q⟩:=h;obtain⟨aX,rv,hl,_⟩:=I.list hs;rw[Vals.Gn r];exact aaY (I.ok.hd hc) hl.isList rv.ints eZ fun h' tk m t' hk h1 h2=>⟨.int _,H,I.kept hk,⟨_,rfl⟩,q m h1 h2⟩
theorem W7(hc:X.calm=true):gh X (.builtin "min") (aij X.K):=by intro pins s σ H vs us Q I r h;obtain⟨a,ns,rfl,hs,eZ,q⟩:=h;obtain⟨aX,rv,hl,_⟩:=I.list hs;rw[Vals.Gn r];exact aa0 (I.ok.hd hc) hl.isList rv.ints eZ fun h' tk m t' hk h1 h2=>⟨.int _,H,I.kept hk,⟨_,rfl⟩,q m h1 h2⟩
def ab2(K:Frag):List V->Hp->VK->Prop:=fun vs H Q=>∃(a:Addr) (ns:List Int),vs=[V.ref a]/\aN K H a (ns.map V.int)/\ns.length<64/\
  ∀(Nq:List Int) (p:Addr),Nq.Perm ns->Nq.Pairwise (· <= ·)->H p=none->Q (.ref p) (upd H p (.lst (Nq.map V.int)))
theorem acq{n:Nat}(h:n<64):n<=sizeLine:=by rw[sizeLine_eq];omega
theorem Ui:gh X (.builtin "sorted") (ab2 X.K):=by
  intro pins s σ H vs us Q I r h;obtain⟨a,ns,rfl,hs,h64,q⟩:=h;obtain⟨aX,rv,hl,_⟩:=I.list hs;rw[Vals.Gn r];have hi:=rv.ints;refine PyProof.Rows.sorted_ints hl.isList hi (by rw[hi.length];exact h64) fun out Nq h1 h2 h3=>?_;obtain⟨ep,Qc⟩:=PyProof.Rows.sortedAll_at s.heap aX out;have hlen:(Nq.map V.int).length<=sizeLine:=by rw[length_map,h2.length_eq];exact acq h64
  exact⟨.ref _,upd H (s.heap.objs.size+1) (.lst (Nq.map V.int)),I.laid (t':=s.toks) (fun _ _=>PyProof.Rows.sortedAll_old) (le_succ _) ⟨hlen,out.toList,ep,g8 h1,Qc⟩,rfl,q Nq _ h2 h3 (I.bj.fresh (le_succ _))⟩
end
theorem M6{prog:Program}{w:World}{A:Around}{E:Value->Shared->Prop}{s:Shared}{l:Addr}{items:Array Value}{Q:Value->Shared->Prop}(hl:s.heap.IsList l items)(h:∀s₂:Shared,s₂={ s with heap:=s.heap.push { cls:=.type "list_iterator",data:=.fields #[.ref l,.int 0 0]}}->(s₂.heap.IsListIter s.heap.objs.size l 0/\s₂.heap.IsList l items)->l≠s.heap.objs.size->Q (.ref s.heap.objs.size) s₂):wpAny (model prog w) A (pyIter (.ref l)) Q E s:=by
  have dD:l<s.heap.objs.size:=by obtain⟨_,e,_⟩:=hl;exact lt_size e
  exact wpAny_pyIter_list hl (h _ rfl ⟨⟨_,get?_push_size _ rfl,rfl,rfl⟩,hl.push _⟩ (ne_of_lt dD))
theorem Ov{prog:Program}{w:World}{A:Around}{bs:List Bool}{aX:List Value}(e:aX=bs.map Value.bool):TruthOf prog w A (fun i v=>aX.toArray[i]? =some v) (fun i=>bs.getD i false):=fun i v s Q E hv hq=>by
  have hv':aX[i]? =some v:=by simpa using hv
  rw[e,getElem?_map]at hv';obtain⟨b,hb,rfl⟩:=Option.map_eq_some_iff.mp hv';have hg:bs.getD i false=b:=by rw[getD_eq_getElem?_getD,hb]<;>rfl
  have LR:Q (bs.getD i false) s:=hq;rw[hg]at LR;exact wpAny_truthy_bool LR
theorem any_range:∀bs:List Bool,(List.range bs.length).any (fun i=>bs.getD i false)=bs.any id
  | []=>rfl
  | b::bs=>by rw[length_cons,List.range_succ_eq_map,any_cons,any_map,any_cons,<-any_range bs];all_goals rfl
theorem all_range:∀bs:List Bool,(List.range bs.length).all (fun i=>bs.getD i false)=bs.all id
  | []=>rfl
  | b::bs=>by rw[length_cons,List.range_succ_eq_map,all_cons,all_map,all_cons,<-all_range bs];all_goals rfl
section
variable{X:Cx}
def aif(K:Frag):List V->Hp->VK->Prop:=fun vs H Q=>∃(a:Addr) (bs:List Bool),vs=[V.ref a]/\aN K H a (bs.map V.bl)/\Q (.bl (bs.all id)) H
theorem yI(hc:X.calm=true):gh X (.builtin "all") (aif X.K):=by
  intro pins s σ H vs us Q I r h;obtain⟨a,bs,rfl,hs,q⟩:=h;obtain⟨aX,rv,hl,_⟩:=I.list hs;rw[Vals.Gn r];have hb:=rv.bls;refine call_all_walk (M6 hl.isList fun s₂ e2 st eZ=>?_);subst e2;refine⟨_,_,_,_,_,_,_,rfl,Walks.list (A:=X.A.in1) (I.ok.hd hc) _ a eZ aX.toArray,st,Ov hb,fun h' tk hk=>?_⟩;refine⟨.bl _,H,I.kept fun b o eo=>hk b o (fun mz=>?_) (get?_push_of_some _ eo),?_,q⟩
  . rcases mem_cons.mp mz with e1 | mz
    . exact absurd (e1▸lt_size eo) (lt_irrefl _)
    . cases mz
  . show Value.bool _=Value.bool _;rw[<-all_range,hb,size_toArray,length_map]
end
end L2
namespace L2
open PySem PySem.Spec PyProof.Rows
abbrev Wq(h:Heap)(c:Addr)(v:Option Value):Prop:=h.IsCell c v
def ain(scope sc:Scope):Scope:=
  { scope with names:=scope.names.map fun(n,k)=>if (k== .free&&sc.kind== .function&&sc.names.lookup n==some .cell) then (n,.cell) else (n,k)}
def cn(cells:List (Str×Addr)):List (Str×NameKind)->List (Str×Addr)->List (Str×Addr)
  | [],acc=>acc
  | (n,k)::r,acc=>if k== .free then cn cells r ((n,(cells.lookup n).getD 0)::acc) else cn cells r acc
theorem wo(env:Env)(f:Str×NameKind->List (Str×Addr)->Sem (ForInStep (List (Str×Addr))))(hf:∀n k c,f (n,k) c=if k== .free then (do let a <-cellOf env n;pure (.yield ((n,a)::c))) else pure (.yield c)):
    ∀(names:List (Str×NameKind)) (acc:List (Str×Addr)),(∀y∈names,y.2=.free->∃c,env.cells.lookup y.1=some c)->forIn names acc f=pure (cn env.cells names acc)
  | [],acc,_=>by rw[forIn_nil];rfl
  | (n,k)::r,acc,h=>by
    rw[forIn_cons,hf];have ih:=fun acc=>wo env f hf r acc fun y hy=>h y (mem_cons_of_mem _ hy);unfold cn;by_cases hk:(k==NameKind.free)=true
    . rw[if_pos hk,if_pos hk];obtain⟨c,hc⟩:=h (n,k) mem_cons_self (by simpa using hk);have e:cellOf env n=pure c:=by unfold cellOf;rw[hc]
      rw[e];have e2:(env.cells.lookup n).getD 0=c:=by rw[hc];rfl
      rw[e2];exact ih _
    . rw[if_neg hk,if_neg hk];exact ih _
theorem Py{scope:Scope}{env:Env}(h:∀y∈scope.names,y.2=.free->∃c,env.cells.lookup y.1=some c):closureFor scope env=pure (cn env.cells scope.names []):=by simp only[closureFor];rw[wo env _ (fun n k c=>rfl) scope.names [] h];rfl
theorem mem_lookup{α:Type}:∀{l:List (Str×α)} {n:Str} {c:α},(n,c)∈l->∃c',l.lookup n=some c'
  | (k,v)::r,n,c,h=>by
    rw[lookup_cons];cases hb:n==k with
    | true=>exact⟨_,rfl⟩
    | false=>
      rcases mem_cons.mp h with e | h
      . cases e;simp at hb
      . exact mem_lookup h
theorem mG{cells:List (Str×Addr)}:∀{names:List (Str×NameKind)} {acc:List (Str×Addr)} {n:Str} {c:Addr},(n,c)∈cn cells names acc->(n,c)∈acc\/((n,.free)∈names/\c=(cells.lookup n).getD 0)
  | [],_,_,_,h=>.inl h
  | (m,k)::r,acc,n,c,h=>by
    unfold cn at h;split at h
    . rename_i hk;have hk:k=.free:=by simpa using hk
      rcases mG h with h | ⟨h1,h2⟩
      . rcases mem_cons.mp h with e | h
        . cases e;exact .inr ⟨hk▸mem_cons_self,rfl⟩
        . exact .inl h
      . exact .inr ⟨mem_cons_of_mem _ h1,h2⟩
    . rcases mG h with h | ⟨h1,h2⟩
      . exact .inl h
      . exact .inr ⟨mem_cons_of_mem _ h1,h2⟩
theorem qN{cells:List (Str×Addr)}:∀{names:List (Str×NameKind)} {acc:List (Str×Addr)} {p:Str×Addr},p∈acc->p∈cn cells names acc
  | [],_,_,h=>h
  | (m,k)::r,acc,p,h=>by
    unfold cn;split
    . exact qN (mem_cons_of_mem _ h)
    . exact qN h
theorem qO{cells:List (Str×Addr)}:∀{names:List (Str×NameKind)} {acc:List (Str×Addr)} {n:Str},(n,.free)∈names->(n,(cells.lookup n).getD 0)∈cn cells names acc
  | (m,k)::r,acc,n,h=>by
    unfold cn;rcases mem_cons.mp h with e | h
    . cases e;exact qN mem_cons_self
    . split
      . exact qO h
      . exact qO h
theorem n9:∀{names:List (Str×NameKind)} {h:Heap} {acc:List (Str×Addr)} {x:Str} {c:Addr},(x,c)∈cellsFrom h.objs.size names acc->(x,c)∈acc\/((x,.cell)∈names/\h.objs.size<=c/\Wq (pushCells h names) c none)
  | [],_,_,_,_,h=>.inl h
  | (n,k)::r,h,acc,x,c,hm=>by
    unfold cellsFrom at hm;unfold pushCells;split at hm
    . rename_i hk;rw[if_pos hk];have hk:k=.cell:=by simpa using hk
      rw[<-size_push h { cls:=.type "cell",data:=.cell none}]at hm;rcases n9 hm with hm | ⟨h1,h2,h3⟩
      . rcases mem_cons.mp hm with e | hm
        . cases e;exact .inr ⟨hk▸mem_cons_self,le_refl _,_,pushCells_keeps r _ _ _ (get?_push_size _ rfl),rfl⟩
        . exact .inl hm
      . rw[size_push]at h2;exact .inr ⟨mem_cons_of_mem _ h1,le_of_succ_le h2,h3⟩
    . rename_i hk;rw[if_neg hk];rcases n9 hm with hm | ⟨h1,h2,h3⟩
      . exact .inl hm
      . exact .inr ⟨mem_cons_of_mem _ h1,h2,h3⟩
theorem sO:∀{names:List (Str×NameKind)} {n:Nat} {acc:List (Str×Addr)} {p:Str×Addr},p∈acc->p∈cellsFrom n names acc
  | [],_,_,_,h=>h
  | (m,k)::r,n,acc,p,h=>by
    unfold cellsFrom;split
    . exact sO (mem_cons_of_mem _ h)
    . exact sO h
theorem yF:∀{names:List (Str×NameKind)} {n:Nat} {acc:List (Str×Addr)} {x:Str},(x,.cell)∈names->∃c,(x,c)∈cellsFrom n names acc
  | (m,k)::r,n,acc,x,h=>by
    unfold cellsFrom;rcases mem_cons.mp h with e | h
    . cases e;exact⟨n,sO mem_cons_self⟩
    . split
      . exact yF h
      . exact yF h
theorem yG:∀{names:List (Str×NameKind)} {h:Heap} {acc:List (Str×Addr)} {x y:Str} {c:Addr},(∀p∈acc,p.2<h.objs.size)->(∀x y c,(x,c)∈acc->(y,c)∈acc->x=y)->(x,c)∈cellsFrom h.objs.size names acc->(y,c)∈cellsFrom h.objs.size names acc->x=y
  | [],_,_,_,_,_,_,hi,h1,h2=>hi _ _ _ h1 h2
  | (n,k)::r,h,acc,x,y,c,hl,hi,h1,h2=>by
    unfold cellsFrom at h1 h2;split at h1
    . rename_i hk;rw[if_pos hk]at h2;rw[<-size_push h { cls:=.type "cell",data:=.cell none}]at h1 h2;refine yG (h:=h.push _) (fun p hp=>?_) (fun x y c a b=>?_) h1 h2
      . rw[size_push];rcases mem_cons.mp hp with rfl | hp
        . exact lt_succ_self _
        . exact lt_succ_of_lt (hl p hp)
      . rcases mem_cons.mp a with e | a<;>rcases mem_cons.mp b with e' | b
        . cases e;cases e';rfl
        . cases e;exact absurd (hl _ b) (lt_irrefl _)
        . cases e';exact absurd (hl _ a) (lt_irrefl _)
        . exact hi _ _ _ a b
    . rename_i hk;rw[if_neg hk]at h2;exact yG hl hi h1 h2
theorem Nk{M:Model}{A:Around}{E:Value->Shared->Prop}{s:Shared}{scope:Scope}{globals:Addr}{closure:List (Str×Addr)}{qual:Str}{func:Option Addr}{code:Value}{around:Env}{builtins:Addr}{Q:Env->Shared->Prop}(h:Q (newEnv scope s.heap.objs.size globals (cellsFrom (s.heap.objs.size+1) scope.names closure) qual func code (some around) builtins) { s with heap:=pushCells (s.heap.push { cls:=.type "dict",data:=.dict #[]}) scope.names}):wpAny M A (newFunctionEnv scope globals closure [] qual func code (some around) builtins) Q E s:=by simp only[newFunctionEnv,Option.isSome_some,if_true];refine wpAny_bind (wpAny_alloc ?_);refine wpAny_bind (wpAny_layCells _ (fun n k c=>rfl) scope.names closure _ _ ?_);rw[show({ s with heap:=s.heap.push { cls:=.type "dict",data:=.dict #[]}}:Shared).heap.objs.size=s.heap.objs.size+1 from size_push ..];rw[forIn_nil];exact wpAny_bind (wpAny_pure (wpAny_pure h))
theorem rM{sc:Scope}:∀{names:List (Str×NameKind)} {x:Str} {k:NameKind},(names.map fun(n,k)=>if (k==NameKind.free&&sc.kind== .function&&sc.names.lookup n==some .cell) then (n,NameKind.cell) else (n,k)).lookup x=some k->∃k',names.lookup x=some k'/\(k=k'\/(k'=.free/\k=.cell))
  | [],_,_,h=>by simp at h
  | (n,k₀)::r,x,k,h=>by
    have ih:=@rM sc r x k;have h':List.lookup x ((if (k₀==NameKind.free&&sc.kind== .function&&sc.names.lookup n==some .cell)=true then (n,NameKind.cell) else (n,k₀))::(r.map _))=some k:=h;cases hx:x==n with
    | true=>
      simp only[lookup_cons,hx];by_cases hc:(k₀==NameKind.free&&sc.kind== .function&&sc.names.lookup n==some .cell)=true
      . rw[if_pos hc]at h';simp only[lookup_cons,hx]at h';cases h';simp only[and_eq_true,beq_iff_eq]at hc;exact⟨k₀,rfl,.inr ⟨hc.1.1,rfl⟩⟩
      . rw[if_neg hc]at h';simp only[lookup_cons,hx]at h';cases h';exact⟨_,rfl,.inl rfl⟩
    | false=>
      simp only[lookup_cons,hx];by_cases hc:(k₀==NameKind.free&&sc.kind== .function&&sc.names.lookup n==some .cell)=true
      . rw[if_pos hc]at h';simp only[lookup_cons,hx]at h';exact ih h'
      . rw[if_neg hc]at h';simp only[lookup_cons,hx]at h';exact ih h'
structure LX(N:List Str)(sc scope:Scope)(own:List (Str×Nat)):Prop where
  kind:scope.kind=.function
  uniq:∀y∈scope.names,scope.names.lookup y.1=some y.2
  ix:∀p∈own,N[p.2]? =some p.1
  free:∀y∈scope.names,y.2=.free->sc.names.lookup y.1=some .cell\/sc.names.lookup y.1=some .free
  own:∀y∈scope.names,y.2=.local\/y.2=.cell->y.1∈own.map (·.1)\/y.1∉N
def wipe(σ:St):List Nat->St
  | []=>σ
  | v::vs=>(wipe σ vs).set v none
theorem sJ(σ:St):∀vs:List Nat,(wipe σ vs).length=σ.length
  | []=>rfl
  | v::vs=>by unfold wipe;rw[length_set,sJ σ vs]
theorem AQ{σ:St}{i:Nat}{x:V}:∀{vs:List Nat},(wipe σ vs)[i]? =some (some x)->σ[i]? =some (some x)/\i∉vs
  | [],h=>⟨h,by simp⟩
  | v::vs,h=>by
    unfold wipe at h;by_cases hi:v=i
    . subst hi;by_cases hv:v<(wipe σ vs).length
      . rw[List.getElem?_set_self hv]at h;cases h
      . rw[getElem?_eq_none (by simpa using hv)]at h;cases h
    . rw[List.getElem?_set_ne hi]at h;obtain⟨h1,h2⟩:=AQ h;exact⟨h1,by simp only[mem_cons,not_or];exact⟨fun e=>hi e.symm,h2⟩⟩
abbrev Cx.JH(X:Cx)(s:Shared)(H:Hp)(scope:Scope)(gg:Env)(fp:List Addr):Cx:={ X with Jj:=s,H_0:=H,env:=gg,outer:=X.stack,ex:=fp,fn:=fun x=>scope.names.lookup x==some .cell,pn:=[],xe:=fun _ _=>False}
section
variable{X:Cx}{pins:List (Addr×Obj)}{σ:St}{H:Hp}{s:Shared}
theorem Mf{scope:Scope}{own:List (Str×Nat)}{fp:List Addr}(I:Inv X pins σ H s)(ok:LX X.N X.env.scope scope own)(hN:X.N.Nodup)(hfp:∀b∈fp,Bv X pins H b/\b<s.heap.objs.size):Inv (X.JH s H scope (compEnvC scope (cellsFrom (s.heap.objs.size+1) scope.names (cn X.env.cells scope.names [])) s.heap.objs.size X.env) fp) [] (wipe σ (own.map (·.2))) H { s with heap:=pushCells (s.heap.push { cls:=.type "dict",data:=.dict #[]}) scope.names}:=by
  have wR:∀y∈scope.names,y.2=.free->∃c,X.env.cells.lookup y.1=some c:=fun y hy e=>by
    rcases ok.free y hy e with k | k
    . exact I.ok.has _ (.inl k)
    . exact I.ok.has _ (.inr k)
  generalize MV:compEnvC scope (cellsFrom (s.heap.objs.size+1) scope.names (cn X.env.cells scope.names [])) s.heap.objs.size X.env=gg;have kp:∀b o,s.heap.get? b=some o->(pushCells (s.heap.push { cls:=.type "dict",data:=.dict #[]}) scope.names).get? b=some o:=fun b o e=>pushCells_keeps _ _ _ _ (get?_push_of_some _ e);have hL:gg.locals=s.heap.objs.size:=by rw[<-MV];rfl
  have nR:gg.cells=cellsFrom (s.heap.objs.size+1) scope.names (cn X.env.cells scope.names []):=by rw[<-MV];rfl
  have hsc:gg.scope=ain scope X.env.scope:=by rw[<-MV];rfl
  rw[<-size_push s.heap { cls:=.type "dict",data:=.dict #[]}]at nR;have cm:∀{y c},(y,c)∈cn X.env.cells scope.names []->X.env.cells.lookup y=some c/\c<s.heap.objs.size:=fun {y c} hm=>by
    rcases mG hm with hm | ⟨h1,rfl⟩
    . cases hm
    . obtain⟨c,hc⟩:=wR _ h1 rfl;rw[hc];obtain⟨w,z⟩:=I.cell _ _ hc;exact⟨rfl,z.lt⟩
  have mem:∀{y c},gg.cells.lookup y=some c->(X.env.cells.lookup y=some c/\c<s.heap.objs.size)\/(s.heap.objs.size+1<=c/\Wq (pushCells (s.heap.push { cls:=.type "dict",data:=.dict #[]}) scope.names) c none):=fun {y c} e=>by
    rw[nR]at e;rcases n9 (PySem.mem_of_lookup e)with hm | ⟨_,h2,h3⟩
    . exact .inl (cm hm)
    . rw[size_push]at h2;exact .inr ⟨h2,h3⟩
  have look:∀{y},scope.names.lookup y=some .free->∃c,gg.cells.lookup y=some c/\X.env.cells.lookup y=some c:=fun {y} hl=>by
    have hy:(y,NameKind.free)∈scope.names:=PySem.mem_of_lookup hl;obtain⟨c',e'⟩:=mem_lookup (sO (names:=scope.names) (n:=(s.heap.push { cls:=.type "dict",data:=.dict #[]}).objs.size) (qO (cells:=X.env.cells) (acc:=[]) hy));rw[<-nR]at e';refine⟨c',e',?_⟩;rw[nR]at e';rcases n9 (PySem.mem_of_lookup e')with hm | ⟨h1,_,_⟩
    . exact(cm hm).1
    . have:=ok.uniq _ h1;rw[hl]at this;cases this
  have okB:(X.JH s H scope gg fp).Ok:=by
    refine⟨I.ok.mod,by show gg.scope.kind=_;rw[hsc];exact ok.kind,by show gg.globals=_;rw[<-MV];exact I.ok.glob,by show gg.builtins=_;rw[<-MV];exact I.ok.blt,by show s.heap.objs.size<=gg.locals;rw[hL];exact le_refl _,
      fun y z c e1 e2=>?_,fun y hy=>?_,fun y c z e=>?_,I.ok.hd,I.ok.frames,.inl rfl,fun b hb=>⟨?_,fun y c e z=>?_⟩,I.bs,le_trans I.ok.Zs I.sz,fun b o e hb=>?_,fun b hb z=>?_,I.stack,I.TC⟩
    . have e1:gg.cells.lookup y=some c:=e1;have e2:gg.cells.lookup z=some c:=e2;rw[nR]at e1 e2;refine yG (fun p hp=>?_) (fun y z c a b=>I.ok.inj y z c (cm a).1 (cm b).1) (PySem.mem_of_lookup e1) (PySem.mem_of_lookup e2);rw[size_push];exact lt_succ_of_lt (cm (y:=p.1) (c:=p.2) hp).2
    . show ∃c,gg.cells.lookup y=some c;have key:∀k,gg.kindOf y=some k->(k=.cell\/k=.free)->∃c,gg.cells.lookup y=some c:=fun k hk Bb=>by
        unfold Env.kindOf at hk;rw[hsc]at hk;obtain⟨k',e,r⟩:=rM hk;have:k'=.cell\/k'=.free:=by
          rcases r with rfl | ⟨rfl,_⟩
          . exact Bb
          . exact .inr rfl
        rcases this with rfl | rfl
        . obtain⟨c,hm⟩:=yF (n:=(s.heap.push { cls:=.type "dict",data:=.dict #[]}).objs.size) (acc:=cn X.env.cells scope.names []) (PySem.mem_of_lookup e);obtain⟨c',e'⟩:=mem_lookup hm;exact⟨c',by rw[nR];exact e'⟩
        . obtain⟨c,h1,_⟩:=look e;exact⟨c,h1⟩
      rcases hy with hy | hy
      . exact key _ hy (.inl rfl)
      . exact key _ hy (.inr rfl)
    . have z:(scope.names.lookup y==some NameKind.cell)=true:=z;have z:scope.names.lookup y=some .cell:=by simpa using z
      have e:gg.cells.lookup y=some c:=e;rw[nR]at e;rcases n9 (PySem.mem_of_lookup e)with hm | ⟨_,h2,_⟩
      . rcases mG hm with hm | ⟨h1,_⟩
        . cases hm
        . have q:=ok.uniq _ h1;rw[z]at q;cases q
      . rw[size_push]at h2;exact le_of_succ_le h2
    . show b≠gg.locals;rw[hL];exact ne_of_lt (hfp b hb).2
    . have e:gg.cells.lookup y=some c:=e;rcases mem e with⟨h1,_⟩ | ⟨h1,_⟩
      . exact(hfp b hb).1.2.2.2.2.1 y c h1 z
      . have h2:s.heap.objs.size+1<=b:=by rw[<-z];exact h1
        exact absurd (lt_of_lt_of_le (hfp b hb).2 (le_of_succ_le h2)) (lt_irrefl _)
    . rcases (hfp b hb).1.2.2.2.1 with z | z
      . exact I.ok.Ye b o e z
      . exact absurd (lt_of_lt_of_le (lt_size e) (le_trans I.ok.Zs z)) (lt_irrefl _)
    . rcases mem_cons.mp (I.RY b z)with z | z
      . exact(hfp b hb).1.2.1 z
      . exact(hfp b hb).1.2.2.1 z
  refine⟨okB,rfl,I.bare,Un.kept kp,⟨fun _=>none,?_,fun i y av e1 e2 e3=>?_⟩,fun y c e=>?_,?_,fun y c e=>?_,fun p hp=>?_,I.bj.kept kp,by rw[sJ];exact I.len⟩
  . show Ns _ gg.locals _;rw[hL];exact Ns.keeps (Ns.new ..) fun b o e=>pushCells_keeps _ _ _ _ e
  . obtain⟨e2,eZ⟩:=AQ e2;have hfr:scope.names.lookup y=some .free/\(gg.kindOf y=some .cell\/gg.kindOf y=some .free):=by
      have key:∀k,gg.scope.names.lookup y=some k->k=.local\/k=.cell\/k=.free->scope.names.lookup y=some .free/\(gg.kindOf y=some .cell\/gg.kindOf y=some .free):=fun k hk Bb=>by
        have hk0:=hk;rw[hsc]at hk;obtain⟨k',e,r⟩:=rM hk;have no:¬(k'=.local\/k'=.cell):=fun hh=>by
          rcases ok.own _ (PySem.mem_of_lookup e) hh with e' | e'
          . obtain⟨p,hp,hpy⟩:=mem_map.mp e';have e3:=ok.ix p hp;have:p.1=y:=hpy;rw[this]at e3;exact eZ (mem_map.mpr ⟨p,hp,FN hN e3 e1⟩)
          . exact e' (mem_of_getElem? e1)
        rcases r with rfl | ⟨rfl,rfl⟩
        . rcases Bb with rfl | rfl | rfl
          . exact absurd (.inl rfl) no
          . exact absurd (.inr rfl) no
          . exact⟨e,.inr hk0⟩
        . exact⟨e,.inl hk0⟩
      have e3:Vis gg.scope y:=e3;rcases e3 with e3 | e3 | e3
      . exact key _ e3 (.inl rfl)
      . exact key _ e3 (.inr (.inl rfl))
      . exact key _ e3 (.inr (.inr rfl))
    obtain⟨m,hn,hl⟩:=I.loc;have ah3:Vis X.env.scope y:=(ok.free _ (PySem.mem_of_lookup hfr.1) rfl).elim (fun k=>.inr (.inl k)) (fun k=>.inr (.inr k));obtain⟨w,r,q⟩:=hl i y av e1 e2 ah3;refine⟨w,r,.inr ⟨hfr.2,?_⟩⟩;obtain⟨c,h1,h2⟩:=look hfr.1;rcases q with⟨k,_⟩ | ⟨_,c',e',z⟩
    . have k:X.env.scope.names.lookup y=some .local:=k;rcases ok.free _ (PySem.mem_of_lookup hfr.1) rfl with k' | k'<;>rw[show X.env.scope.names.lookup y=_ from k']at k<;>cases k
    . rw[h2]at e';cases e';exact⟨c,h1,z.keeps kp⟩
  . have e:gg.cells.lookup y=some c:=e;rcases mem e with⟨h1,_⟩ | ⟨_,z⟩
    . obtain⟨w,z⟩:=I.cell y c h1;exact⟨w,z.keeps kp⟩
    . exact⟨_,z⟩
  . show H gg.locals=none;rw[hL];exact I.bj.fresh (le_refl _)
  . have e:gg.cells.lookup y=some c:=e;rcases mem e with⟨h1,_⟩ | ⟨h1,_⟩
    . exact I.oq y c h1
    . exact I.bj.fresh (le_of_succ_le h1)
  . exact absurd (show p∈([]:List (Addr×Obj))++ [] from hp) (by simp)
theorem adp{E:Value->Shared->Prop}{D:Addr}{xs:List V}{y:V}{v:Value}{Q:Value->Shared->Prop}(I:Inv X pins σ H s)(hD:H D=some (.lst xs))(hz:xs.length<sizeLine)(r:RelV y v)(h:∀s',Inv X pins σ (upd H D (.lst (xs++ [y]))) s'->Q .none s'):wpAny (model X.prog X.w) X.A (call (.builtin "list.append") [.ref D,v]) Q E s:=by obtain⟨hz',aX,n,ri,e⟩:=I.bj D _ hD;have hl:=ri.length;refine append_at (hsz:=by rw[size_toArray];omega) e fun h' sb OI=>?_;refine h { s with heap:=h'} (I.write (t':=s.toks) (by rw[hD];trivial) (.inl rfl) (fun b u hb q=>(sb.2 b hb).trans q) ⟨_,OI⟩ ⟨by rw[length_append];exact hz,aX++ [v],n+1,ri.append (.cons r .nil),?_⟩);rw[OI];simp
def PTs(X:Cx)(ifs:List Expr)(t:TT):Prop:=
  ∀(pins:List (Addr×Obj)) (s:Shared) (σ:St) (H:Hp) (Q:Bool->Hp->Prop),Inv X pins σ H s->t σ H Q->
    wpAny (model X.prog X.w) X.A (forIn ifs true fun c r=>if r=true then do let ok <-isTrue c X.env (eval c X.env);pure (ForInStep.yield ok) else pure (ForInStep.yield r)) (TP X pins σ Q) X.xe s
def afk:TT:=fun _ H Q=>Q true H
theorem bI:PTs X [] afk:=fun _ _ _ H _ I h=>wpAny_tests_nil ⟨H,I,h⟩
theorem pO{c:Expr}{t:TT}(h:PT X c t):PTs X [c] t:=fun pins s σ H Q I hw=>wpAny_tests_one (h pins s σ H Q I hw)
end
theorem Wa{α:Type}{t:Sem α}{Q Q':α->Shared->Prop}{M:Model}{A:Around}{E:Value->Shared->Prop}{s:Shared}(h:wpAny M A t Q (fun _ _=>False) s)(hQ:∀a s,Q a s->Q' a s):wpAny M A t Q' E s:=wpAny_mono h hQ fun _ _ z=>False.elim z
theorem JU{prog:Program}{w:World}{A:Around}{R:Result->Shared->Prop}{s:Shared}{elt target iter:Expr}{ifs:List Expr}{scope:Scope}{pos:Pos}{it acc:Value}{env:Env}(I:Nat->Shared->Prop)(turn:∀n s,I n s->wpAny (model prog w) A (pyNext it) (fun r s₁=>match r with
      | none=>R (.ok .next) s₁
      | some v=>wpAny (model prog w) A (letOwnedTupleGo target it v) (fun _ aiV=>wpAny (model prog w) A (assign target env v) (fun _ s₂=>
          wpAny (model prog w) A (forIn ifs true fun c r=>if r=true then do let ok <-isTrue c env (eval c env);pure (ForInStep.yield ok) else pure (ForInStep.yield r)) (fun ok s₃=>
            if ok=true then wpAny (model prog w) A (eval elt env) (fun x s₄=>wpAny (model prog w) A (call (.builtin "list.append") [acc,x]) (fun _ s₅=>∃m,m<n/\I m s₅) (notedBy (model prog w) A env fun e s'=>R (.error e) s') s₄) (notedBy (model prog w) A env fun e s'=>R (.error e) s') s₃
            else ∃m,m<n/\I m s₃) (notedBy (model prog w) A env fun e s'=>R (.error e) s') s₂) (notedBy (model prog w) A env fun e s'=>R (.error e) s') aiV) (notedBy (model prog w) A env fun e s'=>R (.error e) s') s₁) (notedBy (model prog w) A env fun e s'=>R (.error e) s') s)
    (n:Nat) (h:I n s):
    codeAny (model prog w) A (.compLoop (.ListComp elt [⟨target,iter,ifs,0⟩] scope pos) 0 it acc env) R s:=by
  refine codeAny_loop rfl I (fun n s hI=>?_) n h;show wpAny _ A ((compTurn (.ListComp elt [⟨target,iter,ifs,0⟩] scope pos) 0 it acc env).onRaise (fun x=>do noteFrame x env;theTreesLotGoes x)) _ _ s;refine wpAny_noted ?_;rw[compTurn_list];refine wpAny_bind (wpAny_standAt (wpAny_bind (wpAny_mono (turn n s hI) (fun r s₁ h₁=>?_) fun _ _ h'=>h')));cases r with
  | none=>exact wpAny_pure h₁
  | some v=>
    refine wpAny_bind (wpAny_mono h₁ (fun _ aiV ai6=>?_) fun _ _ h'=>h');refine wpAny_bind (wpAny_mono ai6 (fun _ s₂ h₂=>wpAny_bind (wpAny_mono h₂ (fun ok s₃ h₃=>?_) fun _ _ h'=>h')) fun _ _ h'=>h');cases ok with
    | false=>exact wpAny_pure ⟨rfl,h₃⟩
    | true=>exact wpAny_bind (wpAny_bind (wpAny_mono h₃ (fun x s₄ h₄=>wpAny_bind (wpAny_mono h₄ (fun _ s₅ h₅=>wpAny_pure (wpAny_pure ⟨rfl,h₅⟩)) fun _ _ h'=>h')) fun _ _ h'=>h'))
section
variable{X:Cx}
def tLc(wi:TI)(g:TG)(tt:TT)(te:TE)(vs:List Nat):TE:=fun σ H Q=>wi σ H fun J H1=>∀D,H1 D=none->∃W:Nat->Nat->Hp->Prop,(∃m,W 0 m (upd H1 D (.lst [])))/\∀i m H,W i m H->
  (J.stop i H/\Q (.ref D) H)\/(J.go i H/\∃Nx:Hp->Prop,(∀H',Nx H'->∃m',m'<m/\W (i+1) m' H')/\∀x H',J.LW i H x H'->g x (wipe σ vs) H' fun σ2 H2=>wipe σ2 vs=wipe σ vs/\tt σ2 H2 fun b H3=>if b=true then te σ2 H3 fun y H4=>∃acc,H4 D=some (.lst acc)/\acc.length<sizeLine/\Nx (upd H4 D (.lst (acc++ [y]))) else Nx H3)
theorem Td{pins:List (Addr×Obj)}{s:Shared}{σ:St}{H:Hp}{Q:VK}{elt tg iter:Expr}{ifs:List Expr}{scope:Scope}{own:List (Str×Nat)}{pos pos':Pos}{wi:TI}{g:TG}{tt:TT}{te:TE}{use:Option (Value->Sem Unit)}{Qf:Value->Shared->Prop}(hc:X.calm=true)(hN:X.N.Nodup)(I:Inv X pins σ H s)(hi:PI X tg iter wi)(ok:LX X.N X.env.scope scope own)(hg:∀(s:Shared) (H:Hp) (C:Addr) (cl:List (Str×Addr)) (fp:List Addr),PG (X.JH s H scope (compEnvC scope cl C X.env) fp) tg g)(ht:∀(s:Shared) (H:Hp) (C:Addr) (cl:List (Str×Addr)) (fp:List Addr),PTs (X.JH s H scope (compEnvC scope cl C X.env) fp) ifs tt)(he:∀(s:Shared) (H:Hp) (C:Addr) (cl:List (Str×Addr)) (fp:List Addr),PE (X.JH s H scope (compEnvC scope cl C X.env) fp) elt te)(hs:∀x,foldedSetIterable iter X.env x=pure x)(h:tLc wi g tt te (own.map (·.2)) σ H Q)(hRR:∀D C s' m H',Inv X pins σ H' s'->Q (.ref D) H'->s'.heap.Ns C m->Bv X pins H' C->compPost (model X.prog X.w) X.A X.xe use Qf (.ref D) C (.ok .next) s'):wpAny (model X.prog X.w) X.A (comprehension (.ListComp elt [⟨tg,iter,ifs,0⟩] scope pos) scope X.env pos' (newList []) false (eval iter X.env) use) Qf X.xe s:=by
  have wR:∀y∈scope.names,y.2=.free->∃c,X.env.cells.lookup y.1=some c:=fun y hy e=>by
    rcases ok.free y hy e with k | k
    . exact I.ok.has _ (.inl k)
    . exact I.ok.has _ (.inr k)
  refine wpAny_comprehension_free (use:=use) rfl hs (Py wR) ok.kind (fun y hy e=>by rw[ok.uniq y hy,e])
    (cy (hi pins s σ H _ I h) fun xv s1 hx=>cy hx fun itv s2 h2=>?_)
  obtain⟨it,fp,tn,J,H2,e,I2,T,st2,f2,q⟩:=h2;subst e;refine wpAny_newObj_type (Nk ?_) (by show 0<=sizeLine;decide);generalize hD:s2.heap.objs.size=D;have hDn:H2 D=none:=I2.bj.fresh (le_of_eq hD);obtain⟨W,⟨m0,w0⟩,turn⟩:=q D hDn;generalize hs3:({ s2 with heap:=s2.heap.push { cls:=.type "list",data:=.seq ([]:List Value).toArray}}:Shared)=s3;have I3:Inv X pins σ (upd H2 D (.lst [])) s3:=by rw[<-hs3];refine I2.laid (t':=s2.toks) (fun b o e=>get?_push_of_some _ e) (le_of_eq hD) ⟨zero_le _,[],0,.nil,?_⟩;rw[<-hD];exact get?_push_size _ rfl
  have h3:s3.heap=s2.heap.push { cls:=.type "list",data:=.seq ([]:List Value).toArray}:=by rw[<-hs3]
  have sz:∀b∈fp,b<s2.heap.objs.size:=fun b hb=>by obtain⟨o,e,_⟩:=T.obj _ _ st2 b hb;exact lt_size e
  have f3:∀b∈fp,Bv X pins (upd H2 D (.lst [])) b/\b<s3.heap.objs.size:=fun b hb=>by have dD:=sz b hb;refine⟨⟨?_,(f2 b hb).2⟩,by rw[h3,size_push];exact lt_succ_of_lt dD⟩;rw[au (by rw[<-hD];exact ne_of_lt dD)];exact(f2 b hb).1
  have st3:tn 0 s3.heap:=T.keep _ _ _ st2 fun b _ o e=>by rw[h3];exact get?_push_of_some _ e
  have I4:=Mf I3 ok hN f3;have pg:=hg s3 (upd H2 D (.lst [])) s3.heap.objs.size (cellsFrom (s3.heap.objs.size+1) scope.names (cn X.env.cells scope.names [])) fp;have pt:=ht s3 (upd H2 D (.lst [])) s3.heap.objs.size (cellsFrom (s3.heap.objs.size+1) scope.names (cn X.env.cells scope.names [])) fp;have pe:=he s3 (upd H2 D (.lst [])) s3.heap.objs.size (cellsFrom (s3.heap.objs.size+1) scope.names (cn X.env.cells scope.names [])) fp;show codeAny _ _ (.compStart (.ListComp elt [⟨tg,iter,ifs,0⟩] scope pos) 0 (.ref it) (.ref D) (compEnvC scope (cellsFrom (s3.heap.objs.size+1) scope.names (cn X.env.cells scope.names [])) s3.heap.objs.size X.env)) (compPost (model X.prog X.w) X.A X.xe use Qf (.ref D) s3.heap.objs.size) { s3 with heap:=pushCells (s3.heap.push { cls:=.type "dict",data:=.dict #[]}) scope.names};have nfp:∀b∈fp,(upd H2 D (.lst [])) b=none:=fun b hb=>(f3 b hb).1.1;generalize hce:compEnvC scope (cellsFrom (s3.heap.objs.size+1) scope.names (cn X.env.cells scope.names [])) s3.heap.objs.size X.env=ce at I4 pg pt pe ⊢;have cL:ce.locals=s3.heap.objs.size:=by subst hce;rfl
  generalize hH3:upd H2 D (.lst [])=H3 at I3 I4 pg pt pe w0 nfp f3;generalize hs4:({ s3 with heap:=pushCells (s3.heap.push { cls:=.type "dict",data:=.dict #[]}) scope.names}:Shared)=s4 at I4 ⊢;have st4:tn 0 s4.heap:=T.keep _ _ _ st3 fun b _ o e=>by rw[<-hs4];exact pushCells_keeps _ _ _ _ (get?_push_of_some _ e)
  have RX:∀{σ':St} {H':Hp} {s':Shared},Inv (X.JH s3 H3 scope ce fp) [] σ' H' s'->(∀b∈fp,H' b=none)->∀b∈fp,Bv (X.JH s3 H3 scope ce fp) [] H' b:=fun {σ' H' s'} I' hn b hb=>⟨hn b hb,(I'.ok.exf b hb).1,I'.ok.Xk b hb,.inl hb,fun x c e=>(I'.ok.exf b hb).2 x c e,fun p hp=>absurd (show p∈([]:List (Addr×Obj))++ [] from hp) (by simp)⟩;have loop:codeAny (model X.prog X.w) X.A (.compLoop (.ListComp elt [⟨tg,iter,ifs,0⟩] scope pos) 0 (.ref it) (.ref D) ce) (compPost (model X.prog X.w) X.A X.xe use Qf (.ref D) s3.heap.objs.size) s4:=by
    refine JU (fun n s'=>∃i H',Inv (X.JH s3 H3 scope ce fp) [] (wipe σ (own.map (·.2))) H' s'/\tn i s'.heap/\(∀b∈fp,H' b=none)/\W i n H') ?_ m0 ⟨0,H3,I4,st4,nfp,w0⟩;rintro n s5 ⟨i,H5,I5,st5,n5,w5⟩;rcases turn i n H5 w5 with⟨stop,qq⟩ | ⟨go,Nx,hNx,step⟩
    . have td:=T.done (X.JH s3 H3 scope ce fp) rfl rfl rfl hc i [] s5 _ H5 (fun _ _=>False) I5 (RX I5 n5) st5 stop;refine Wa td fun r s6 ⟨hr,I6⟩=>?_;subst hr;have I7:Inv X pins σ H5 s6:=I3.afC (ch:=fp) I6.os I6.base I6.bj I6.bare fun b hb=>⟨(f3 b hb).1.2.2.2.1,(f3 b hb).1.2.1,(f3 b hb).1.2.2.2.2.1,(f3 b hb).1.2.2.2.2.2⟩;have nC:H5 s3.heap.objs.size=none:=by have z:H5 ce.locals=none:=I6.free;rw[cL]at z;exact z
      obtain⟨m,hn,_⟩:=I6.loc;have hn:s6.heap.Ns ce.locals m:=hn;rw[cL]at hn;exact hRR D s3.heap.objs.size s6 m H5 I7 qq hn (I3.UC (le_refl _) nC)
    . have ti:=T.item (X.JH s3 H3 scope ce fp) rfl rfl rfl hc i [] s5 _ H5 (fun _ _=>False) I5 (RX I5 n5) st5 go;refine Wa ti fun r s6 ⟨u,hr,h6⟩=>?_;subst hr;refine Wa h6 fun _ s7 ⟨x,H7,I7,r7,y7,st7,n7⟩=>?_;have I7':=I7.pinned (RX I7 n7) (T.obj _ _ st7);refine Wa (pg _ s7 _ H7 x u _ I7' r7 (step x H7 y7)) fun _ s8 ⟨σ8,H8,I8,hw8,q8⟩=>?_;refine Wa (pt _ s8 σ8 H8 _ I8 q8) fun b s9 ⟨H9,I9,q9⟩=>?_;have fin:∀{s':Shared} {H':Hp},Inv (X.JH s3 H3 scope ce fp) ([]++Gb fp s7.heap) σ8 H' s'->Nx H'->∃m,m<n/\∃i H',Inv (X.JH s3 H3 scope ce fp) [] (wipe σ (own.map (·.2))) H' s'/\tn i s'.heap/\(∀b∈fp,H' b=none)/\W i m H':=fun {s' H'} I' nx=>by
        obtain⟨m',hm,w'⟩:=hNx H' nx;have agy:∀b∈fp,∀o,s7.heap.get? b=some o->s'.heap.get? b=some o/\H' b=none:=fun b hb o e=>
          let z:=I'.pin (b,o) (mem_append_right _ (mem_append_right _ (vt hb e)))
          ⟨z.1,z.2.1⟩
        have hl:(wipe σ (own.map (·.2))).length=σ8.length:=by rw[<-hw8,sJ]
        refine⟨m',hm,i+1,H',(I'.x9 (pins:=[])).weak hl (fun j v e=>?_),T.keep _ _ _ st7 fun b hb o e=>(agy b hb o e).1,fun b hb=>?_,w'⟩
        . rw[<-hw8]at e;exact(AQ e).1
        . obtain⟨o,e,_⟩:=T.obj _ _ st7 b hb;exact(agy b hb o e).2
      cases b with
      | false=>simp only[false_eq_true,if_false]at q9 ⊢;exact fin I9 q9
      | true=>simp only[if_true]at q9 ⊢;refine Wa (pe _ s9 σ8 H9 _ I9 q9) fun z s10 ⟨yv,H10,I10,r10,acc,ahv,ah5,nx⟩=>?_;exact adp (X:=X.JH s3 H3 scope ce fp) I10 ahv ah5 r10 fun s11 I11=>fin I11 nx
  exact codeAny_compStart_list loop (T.self X.A 0 _ _ _ st4 loop)
theorem dh{elt tg iter:Expr}{ifs:List Expr}{scope:Scope}{own:List (Str×Nat)}{pos:Pos}{wi:TI}{g:TG}{tt:TT}{te:TE}(hc:X.calm=true)(hN:X.N.Nodup)(hi:PI X tg iter wi)(ok:LX X.N X.env.scope scope own)(hg:∀(s:Shared) (H:Hp) (C:Addr) (cl:List (Str×Addr)) (fp:List Addr),PG (X.JH s H scope (compEnvC scope cl C X.env) fp) tg g)(ht:∀(s:Shared) (H:Hp) (C:Addr) (cl:List (Str×Addr)) (fp:List Addr),PTs (X.JH s H scope (compEnvC scope cl C X.env) fp) ifs tt)(he:∀(s:Shared) (H:Hp) (C:Addr) (cl:List (Str×Addr)) (fp:List Addr),PE (X.JH s H scope (compEnvC scope cl C X.env) fp) elt te)(hs:∀x,foldedSetIterable iter X.env x=pure x:=by intro _;rfl):PE X (.ListComp elt [⟨tg,iter,ifs,0⟩] scope pos) (tLc wi g tt te (own.map (·.2))):=by intro pins s σ H Q I h;rw[eval_ListComp];refine Td hc hN I hi ok hg ht he hs h fun D C s' m H' I' q hn f=>⟨m,hn,fun GX sb=>?_⟩;obtain⟨f0,f1,f2,f3,f4,f5⟩:=f;exact⟨.ref D,H',I'.turned (t':=s'.toks) (fun b o hb e=>(sb.2 b hb).trans e) f0 f1 f3 f4 f5,rfl,q⟩
theorem oE{i:Nat}{y:Str}{py:Pos}{elt tg iter:Expr}{ifs:List Expr}{scope:Scope}{own:List (Str×Nat)}{pos agY:Pos}{wi:TI}{g:TG}{tt:TT}{te:TE}(hc:X.calm=true)(hN:X.N.Nodup)(hy:X.N[i]? =some y)(hyl:X.env.scope.names.lookup y=some .local)(hsw:swapsWith (.ListComp elt [⟨tg,iter,ifs,0⟩] scope pos) (some (.Name y py)) agY.line X.env=pure true)(hi:PI X tg iter wi)(ok:LX X.N X.env.scope scope own)(hg:∀(s:Shared) (H:Hp) (C:Addr) (cl:List (Str×Addr)) (fp:List Addr),PG (X.JH s H scope (compEnvC scope cl C X.env) fp) tg g)(ht:∀(s:Shared) (H:Hp) (C:Addr) (cl:List (Str×Addr)) (fp:List Addr),PTs (X.JH s H scope (compEnvC scope cl C X.env) fp) ifs tt)(he:∀(s:Shared) (H:Hp) (C:Addr) (cl:List (Str×Addr)) (fp:List Addr),PE (X.JH s H scope (compEnvC scope cl C X.env) fp) elt te)(hs:∀x,foldedSetIterable iter X.env x=pure x:=by intro _;rfl):PS X (.Assign [.Name y py] (.ListComp elt [⟨tg,iter,ifs,0⟩] scope pos) agY) (acz (tLc wi g tt te (own.map (·.2))) (IH i)):=by
  intro pins s σ H D I h;rw[exec_Assign_Name_used _ _ _ _ hsw];refine wpAny_bind (wpAny_standAt (wpAny_bind ?_));show wpAny _ X.A (do let _ <-comprehension (.ListComp elt [⟨tg,iter,ifs,0⟩] scope pos) scope X.env (firstIterPos [⟨tg,iter,ifs,0⟩] pos) (newList []) false (eval iter X.env) (some (assign (.Name y py) X.env))) _ _ s;have h:tLc wi g tt te (own.map (·.2)) σ H (fun x H1=>IH i x σ H1 D.nx):=h;refine wpAny_bind (cy (Td (Qf:=fun _ s'=>SP X pins D .next s') hc hN I hi ok hg ht he hs h fun L C s' m H' I' q hn f=>?_) fun _ s' hq=>wpAny_pure (wpAny_pure hq));show wpAny _ _ (assign (.Name y py) X.env (.ref L)) _ _ _;refine wpAny_assign_Name (Jm (v:=V.ref L) I' hN hy (.inl hyl) rfl (fun s2 I2 ⟨a,sb,ha⟩=>?_) (.inr hyl));obtain⟨f0,f1,f2,f3,f4,f5⟩:=f;have haC:C≠a:=by
    rcases ha with z | z
    . rw[z];exact f1
    . exact fun e=>f4 y a z e.symm
  refine⟨m,hn.sameBut sb haC,fun h3 sb3=>?_⟩;exact⟨_,H',I2.turned (t':=s2.toks) (fun b o hb e=>(sb3.2 b hb).trans e) f0 f1 f3 f4 f5,q⟩
end
end L2
namespace L2
open PySem PySem.Spec PyProof.Rows
section
variable{κ:Type}[DecidableEq κ]
def sE(aB:List (κ×V))(k:κ):Option V:=(aB.find? fun kv=>decide (kv.1=k)).map (·.2)
def putK(aB:List (κ×V))(k:κ)(v:V):List (κ×V):=
  if (aB.any fun kv=>decide (kv.1=k))=true then aB.map (fun kv=>if kv.1=k then (kv.1,v) else kv) else aB++ [(k,v)]
theorem sG{p:κ×V}{r:List (κ×V)}{k:κ}(e:p.1=k):sE (p::r) k=some p.2:=by simp[sE,find?_cons,e]
theorem sF{p:κ×V}{r:List (κ×V)}{k:κ}(e:¬p.1=k):sE (p::r) k=sE r k:=by simp[sE,find?_cons,e]
theorem ya(k:κ):∀aB:List (κ×V),(aB.any fun kv=>decide (kv.1=k))=(sE aB k).isSome
  | []=>rfl
  | p::r=>by
    rw[any_cons];by_cases e:p.1=k
    . simp only[sG e,decide_eq_true e,Bool.true_or,Option.isSome_some]
    . rw[sF e,decide_eq_false e,Bool.false_or];exact ya k r
theorem rL(aB:List (κ×V))(k:κ)(v:V):(putK aB k v).length<=aB.length+1:=by
  unfold putK;split
  . rw[length_map];omega
  . rw[length_append,length_cons,length_nil];omega
theorem NZ{aB:List (κ×V)}{k:κ}(v:V)(h:sE aB k=none):putK aB k v=aB++ [(k,v)]:=by unfold putK;rw[ya,h];exact if_neg (by decide)
theorem tE.zh{o:Option V}{u:Option Value}(r:tE o u):o.isSome=u.isSome:=by
  cases o with
  | none=>cases u with
    | none=>rfl
    | some _=>exact(show False from r).elim
  | some _=>cases u with
    | none=>exact(show False from r).elim
    | some _=>rfl
theorem KV.val{aB:List (κ×V)}{vs:List (κ×Value)}(r:KV aB vs)(k:κ):tE (sE aB k) (valueAt vs k):=by
  unfold KV at r;induction r with
  | nil=>exact True.intro
  | @cons p q ps qs h t ih=>
    obtain⟨h1,h2⟩:=h;by_cases e:p.1=k
    . have e':q.1=k:=h1.symm.trans e;have b:valueAt (q::qs) k=some q.2:=by simp[valueAt,find?_cons,e']
      rw[sG e,b];exact h2
    . have e':¬q.1=k:=fun z=>e (h1.trans z);have b:valueAt (q::qs) k=valueAt qs k:=by simp[valueAt,find?_cons,e']
      rw[sF e,b];exact ih
theorem KV.any{aB:List (κ×V)}{vs:List (κ×Value)}(r:KV aB vs)(k:κ):(aB.any fun kv=>decide (kv.1=k))=vs.any fun kv=>decide (kv.1=k):=by
  unfold KV at r;induction r with
  | nil=>rfl
  | cons h t ih=>rw[any_cons,any_cons,ih,h.1]
theorem KV.aeX{aB:List (κ×V)}{vs:List (κ×Value)}(r:KV aB vs)(k:κ){y:V}{u:Value}(ry:RelV y u):KV (aB.map fun kv=>if kv.1=k then (kv.1,y) else kv) (vs.map fun kv=>if kv.1=k then (kv.1,u) else kv):=by
  unfold KV at r ⊢;induction r with
  | nil=>exact .nil
  | @cons p q ps qs h t ih=>
    rw[map_cons,map_cons];refine .cons ?_ ih;obtain⟨h1,h2⟩:=h;by_cases e:p.1=k
    . rw[if_pos e,if_pos (h1.symm.trans e)];exact⟨h1,ry⟩
    . rw[if_neg e,if_neg (fun z=>e (h1.trans z))];exact⟨h1,h2⟩
theorem KV.put{aB:List (κ×V)}{vs:List (κ×Value)}(r:KV aB vs)(k:κ){y:V}{u:Value}(ry:RelV y u):KV (putK aB k y) (stored vs k u):=by
  unfold putK stored;rw[r.any k];by_cases e:(vs.any fun kv=>decide (kv.1=k))=true
  . rw[if_pos e,if_pos e];exact r.aeX k ry
  . rw[if_neg e,if_neg e];exact Paired.snoc r ⟨rfl,ry⟩
theorem KV.length{aB:List (κ×V)}{vs:List (κ×Value)}(r:KV aB vs):aB.length=vs.length:=Paired.length r
end
theorem IQ{P:Program}{w:World}{k:Key}{u:Value}(r:RelV (kV k) u):(bw P w).is k u=true:=by
  cases k with
  | inl i=>obtain⟨t,e⟩:=(show ∃t,u=Value.int i t from r);subst e;exact Ni P w i t
  | inr x=>obtain⟨t,e⟩:=(show ∃t,u=Value.str x t from r);subst e;exact Nj P w x t
theorem IP{P:Program}{w:World}:∀{ks:List Key} {us:List Value},Vals (ks.map kV) us->ItemsAre (bw P w) ks us
  | [],_,r=>by rw[map_nil]at r;cases r;exact .nil
  | k::ks,_,r=>by
    rw[map_cons]at r;cases r with
    | cons h t=>exact .cons (IQ h) (IP t)
abbrev KT(H:Hp):List (List Key×V)->List (List Key×Addr×Value)->Prop:=Paired fun p q=>p.1=q.1/\H q.2.1=some (.tup (p.1.map kV))/\RelV p.2 q.2.2
theorem KT.val{H:Hp}{aB:List (List Key×V)}{xs:List (List Key×Addr×Value)}(r:KT H aB xs)(k:List Key):tE (sE aB k) ((atKey xs k).map (·.2)):=by
  induction r with
  | nil=>exact True.intro
  | @cons p q ps qs h t ih=>
    obtain⟨h1,_,h2⟩:=h;by_cases e:p.1=k
    . have e':q.1=k:=h1.symm.trans e;have b:atKey (q::qs) k=some q.2:=by simp[atKey,find?_cons,e']
      rw[sG e,b];exact h2
    . have e':¬q.1=k:=fun z=>e (h1.trans z);have b:atKey (q::qs) k=atKey qs k:=by simp[atKey,find?_cons,e']
      rw[sF e,b];exact ih
theorem KT.aeX{H:Hp}{aB:List (List Key×V)}{xs:List (List Key×Addr×Value)}(r:KT H aB xs)(k:List Key){y:V}{u:Value}(ry:RelV y u):KT H (aB.map fun kv=>if kv.1=k then (kv.1,y) else kv) (xs.map (putAt k u)):=by
  induction r with
  | nil=>exact .nil
  | @cons p q ps qs h t ih=>
    rw[map_cons,map_cons];refine .cons ?_ ih;obtain⟨h1,h2,h3⟩:=h;unfold putAt;by_cases e:p.1=k
    . rw[if_pos e,if_pos (h1.symm.trans e)];exact⟨h1,h2,ry⟩
    . rw[if_neg e,if_neg (fun z=>e (h1.trans z))];exact⟨h1,h2,h3⟩
theorem KT.put{H:Hp}{aB:List (List Key×V)}{xs:List (List Key×Addr×Value)}(r:KT H aB xs)(k:List Key){b:Addr}{y:V}{u:Value}(hb:H b=some (.tup (k.map kV)))(ry:RelV y u):KT H (putK aB k y) (storedH xs k b u):=by
  have e:(aB.any fun kv=>decide (kv.1=k))=(atKey xs k).isSome:=by rw[ya,(r.val k).zh,Option.isSome_map]
  unfold putK storedH;rw[e];by_cases q:(atKey xs k).isSome=true
  . rw[if_pos q,if_pos q];exact r.aeX k ry
  . rw[if_neg q,if_neg q];exact Paired.snoc r ⟨rfl,hb,ry⟩
theorem KT.keeps{H H':Hp}{aB:List (List Key×V)}{xs:List (List Key×Addr×Value)}(r:KT H aB xs)(ht:∀b ys,H b=some (.tup ys)->H' b=some (.tup ys)):KT H' aB xs:=
  Paired.et r fun _ _ z=>⟨z.1,ht _ _ z.2.1,z.2.2⟩
section
variable{P:Program}{w:World}{H:Hp}{h:Heap}{a:Addr}
theorem ac5{u:HO}(ok:qt P w H h)(e:Rd H a u):cJ P w H h a u:=e.ok ok
theorem SH{aB:List (Key×V)}(ok:qt P w H h)(e:Rd H a (.dK aB)):aB.length<=sizeLine/\(a==sysModules)=false/\∃vs,KV aB vs/\h.DictOf (bw P w) a vs:=
  show cJ P w H h a (.dK aB) from ac5 ok e
theorem Xh{aB:List (Key×V)}(ok:qt P w H h)(e:H a=some (.dK aB)):aB.length<=sizeLine/\(a==sysModules)=false/\∃vs,KV aB vs/\h.DictOf (bw P w) a vs:=SH ok (.inl e)
theorem KG{ks:List Key}(ok:qt P w H h)(e:H a=some (.tup (ks.map kV))):(tupleKind (bw P w)).is h ks a:=by obtain⟨_,aX,r,o,h1,h2,n,h3⟩:=(show cJ P w H h a (.tup (ks.map kV)) from ok a _ e);exact⟨o,aX.toArray,n,h1,h2,h3,by simpa using IP r⟩
theorem SJ{aB:List (List Key×V)}(ok:qt P w H h)(e:Rd H a (.dT aB)):aB.length<=sizeLine/\(a==sysModules)=false/\∃xs,KT H aB xs/\h.DictOfH (tupleKind (bw P w)) a xs:=by
  obtain⟨z,y,xs,r,o,es,ep,h1,h2,h3,h4,h5⟩:=(show cJ P w H h a (.dT aB) from ac5 ok e);refine⟨z,y,xs,r,o,es,ep,h1,h2,h3,h4,fun x hx=>?_,h5⟩;have all:∀{l:List (List Key×V)} {m:List (List Key×Addr×Value)},KT H l m->∀x∈m,(tupleKind (bw P w)).is h x.1 x.2.1:=by
    intro l m q;induction q with
    | nil=>intro x hx;exact nomatch hx
    | @cons p q ps qs hq t ih=>
      intro x hx;rcases mem_cons.mp hx with e | hx
      . subst e;exact KG ok (by rw[<-hq.1];exact hq.2.1)
      . exact ih x hx
  exact all r x hx
theorem afE{aB:List (List Key×V)}(ok:qt P w H h)(e:H a=some (.dT aB)):aB.length<=sizeLine/\(a==sysModules)=false/\∃xs,KT H aB xs/\h.DictOfH (tupleKind (bw P w)) a xs:=SJ ok (.inl e)
end
def Wr(H:Hp)(a:Addr)(y:V)(r:Option V):Prop:=
  (∃aB k,Rd H a (.dK aB)/\y=kV k/\r=sE aB k)\/∃aB k b,Rd H a (.dT aB)/\y=.ref b/\H b=some (.tup (k.map kV))/\r=sE aB k
def afq(H:Hp)(a:Addr)(y v:V)(H':Hp):Prop:=
  (∃aB k,H a=some (.dK aB)/\y=kV k/\aB.length<sizeLine/\H'=upd H a (.dK (putK aB k v)))\/
  ∃aB k b,H a=some (.dT aB)/\y=.ref b/\H b=some (.tup (k.map kV))/\aB.length<sizeLine/\H'=upd H a (.dT (putK aB k v))
section
variable{X:Cx}{pins:List (Addr×Obj)}{σ:St}{H:Hp}{s:Shared}{a:Addr}{y v:V}{u r:Value}{o:Option V}{A:Around}{E:Value->Shared->Prop}
theorem Inv.big(I:Inv X pins σ H s):sysModules<s.heap.objs.size:=by have h:mainGlobals<s.heap.objs.size:=(I.mod.glob.keeps I.bk).lt;exact lt_trans (by decide) h
theorem Ur{Q:Value->Shared->Prop}(hu:A.units+1<cLine)(I:Inv X pins σ H s)(g:Wr H a y (some v))(ry:RelV y u)(h:∀w' s',Inv X pins σ H s'->RelV v w'->Q w' s'):wpAny (model X.prog X.w) A (getItem (.ref a) u) Q E s:=by
  rcases g with⟨aB,k,e,ey,l⟩ | ⟨aB,k,b,e,ey,eb,l⟩
  . subst ey;obtain⟨z,hd,vs,rel,dd⟩:=SH I.bj e;obtain⟨w',hw,YG⟩:=tE.some_of (v:=v) (o:=valueAt vs k) (by rw[l];exact rel.val k);exact wpAny_getItem_of (IQ ry) dd.mapOf hw (h w' _ (I.tok _) YG)
  . subst ey;cases (show u=Value.ref b from ry);obtain⟨z,hd,xs,rel,dd⟩:=SJ I.bj e;obtain⟨w',hw,YG⟩:=tE.some_of (v:=v) (o:=(atKey xs k).map (·.2)) (by rw[l];exact rel.val k);obtain⟨p,hp,Hn⟩:=Option.map_eq_some_iff.mp hw;refine wpAny_getItem_heap (tupleKind_room_in1 hu) (KG I.bj eb) dd hp ?_;rw[Hn];exact h w' _ (I.tok _) YG
theorem aam{Q:Value->Shared->Prop}(hu:A.units+1<cLine)(I:Inv X pins σ H s)(g:Wr H a y o)(ry:RelV y u)(h:∀s',Inv X pins σ H s'->Q (.bool (!o.isSome)) s'):wpAny (model X.prog X.w) A (compareOp .NotIn u (.ref a)) Q E s:=by
  rcases g with⟨aB,k,e,ey,l⟩ | ⟨aB,k,b,e,ey,eb,l⟩
  . subst ey;obtain⟨z,hd,vs,rel,dd⟩:=SH I.bj e;refine wpAny_notIn_of (IQ ry) hd dd.mapOf ?_;rw[<-(rel.val k).zh,<-l];exact h _ (I.tok _)
  . subst ey;cases (show u=Value.ref b from ry);obtain⟨z,hd,xs,rel,dd⟩:=SJ I.bj e;refine wpAny_notIn_heap (tupleKind_room_in1 hu) (KG I.bj eb) hd dd ?_;have q:=(rel.val k).zh;rw[Option.isSome_map]at q;rw[<-q,<-l];exact h _ (I.tok _)
theorem JZ{h':Heap}{t':Nat}{ob:HO}(I:Inv X pins σ H s)(mu:ZP (H a))(hs:SameBut a s.heap h')(he:∃q,h'.get? a=some q)(new:cJ X.prog X.w (upd H a ob) h' a ob):Inv X pins σ (upd H a ob) { s with heap:=h',toks:=t'}:=
  I.write (x:=a) (e:=a) mu (.inl rfl) (fun b q hb z=>(hs.2 b hb).trans z) he new
theorem Xg{P:Program}{w:World}{H':Hp}{h':Heap}{aB:List (Key×V)}{vs:List (Key×Value)}(z:aB.length<=sizeLine)(hd:(a==sysModules)=false)(rel:KV aB vs)(dd:h'.DictOf (bw P w) a vs):cJ P w H' h' a (.dK aB):=⟨z,hd,vs,rel,dd⟩
theorem Us{H':Hp}{Q:Unit->Shared->Prop}(hu:A.units+1<cLine)(I:Inv X pins σ H s)(g:afq H a y v H')(ry:RelV y u)(rv:RelV v r)(h:∀s',Inv X pins σ H' s'->Q () s'):wpAny (model X.prog X.w) A (setItem (.ref a) u r) Q E s:=by
  rcases g with⟨aB,k,e,ey,l,eH⟩ | ⟨aB,k,b,e,ey,eb,l,eH⟩
  . subst ey eH;obtain⟨z,hd,vs,rel,dd⟩:=Xh I.bj e;have hz:vs.length<=sizeLine:=by rw[<-rel.length];exact z
    have hl:(putK aB k v).length<=sizeLine:=by have:=rL aB k v;omega
    refine wpAny_setItem_pairs (hsz:=hz) (IQ ry) dd fun h' dd' hs=>h _ ?_;have he:∃q,h'.get? a=some q:=let ⟨q,_,_,hq,_⟩:=dd';⟨q,hq⟩;exact JZ I (by rw[e];exact True.intro) hs he (Xg hl hd (rel.put k rv) dd')
  . subst ey eH;cases (show u=Value.ref b from ry);obtain⟨z,hd,xs,rel,dd⟩:=afE I.bj e;have hz:xs.length<=sizeLine:=by rw[<-Paired.length rel];exact z
    have hl:(putK aB k v).length<=sizeLine:=by have:=rL aB k v;omega
    refine wpAny_setItem_heap (hsz:=hz) (tupleKind_room_in1 hu) (KG I.bj eb) dd fun h' dd' hs=>h _ ?_;obtain⟨q,es,ep,hq,h2,h3,h4,_,h5⟩:=dd';refine JZ I (by rw[e];exact True.intro) hs ⟨q,hq⟩ ⟨hl,hd,_,(rel.put k eb rv).keeps fun c ys ec=>?_,q,es,ep,hq,h2,h3,h4,h5⟩;rw[au (agq ec e (fun z=>nomatch z))];exact ec
end
def afs(i:Expr):Prop:=∀ov iv,subscripted i false ov iv=operate [ov,iv] (getItem ov iv)
theorem acx{prog:Program}{w:World}{A:Around}{E:Value->Shared->Prop}{s:Shared}{env:Env}{value slice:Expr}{pos:Pos}{T id:String}{Q:Value->Shared->Prop}(hl:typeLookup (.type T) "__getitem__"=pure (some (.builtin id)))(hs:afs slice)(h:wpAny (model prog w) A (eval value env) (fun o s₁=>wpAny (model prog w) A (eval slice env) (fun i s₂=>s₂.TypeIs o T/\wpAny (model prog w) A (getItem o i) Q E s₂) E s₁) E s):wpAny (model prog w) A (eval (.Subscript value slice pos) env) Q E s:=by
  refine Subscript_ (wpAny_mono h (fun o s₁ h₁=>wpAny_mono h₁ (fun i s₂ h₂=>?_) fun _ _ x=>x) fun _ _ x=>x);obtain⟨hT,h₂⟩:=h₂;unfold subscriptTail;refine wpAny_bind ?_;rw[getitemInPython_of_ne hT.not_modules];refine wpAny_bind (wpAny_specialOf hT hl ?_);have fin:wpAny (model prog w) A (subscripted slice false o i) (fun r s₃=>wpAny (model prog w) A (letTemporaryGo value o r>>=fun _=>pure r) Q E s₃) E s₂:=by rw[hs o i];exact wpAny_operating (wpAny_mono h₂ (fun r s₃ h₃=>wpAny_bind (wpAny_letTemporaryGo (wpAny_pure h₃))) fun _ _ x=>x)
  first
    | exact wpAny_pure (wpAny_bind fin)
    | exact wpAny_bind (wpAny_pure (wpAny_bind fin))
    | exact wpAny_bind fin
theorem MG{X:Cx}{pins:List (Addr×Obj)}{σ:St}{H:Hp}{s:Shared}{a:Addr}{y:V}{o:Option V}(I:Inv X pins σ H s)(g:Wr H a y o):s.TypeIs (.ref a) "dict":=by
  rcases g with⟨aB,k,e,_,_⟩ | ⟨aB,k,b,e,_,_,_⟩
  . obtain⟨_,_,vs,_,dd⟩:=SH I.bj e;exact dd.typeIs
  . obtain⟨_,_,xs,_,dd⟩:=SJ I.bj e;exact dd.typeIs
def ag2(td ty:TE):TE:=fun σ H Q=>td σ H fun x H1=>ty σ H1 fun y H2=>∃a v,x=.ref a/\Wr H2 a y (some v)/\Q v H2
def acA(ty td:TE):TE:=fun σ H Q=>ty σ H fun y H1=>td σ H1 fun x H2=>∃a o,x=.ref a/\Wr H2 a y o/\Q (.bl (!o.isSome)) H2
def agF(td ty tv:TE):TS:=fun D σ H=>tv σ H fun v H1=>td σ H1 fun x H2=>ty σ H2 fun y H3=>∃a H4,x=.ref a/\afq H3 a y v H4/\D.nx σ H4
section
variable{X:Cx}{o i e value:Expr}{pos pos' x8:Pos}{td ty tv:TE}
theorem Ti(hu:X.A.units+1<cLine)(ho:PE X o td)(hi:PE X i ty)(hs:afs i):PE X (.Subscript o i pos) (ag2 td ty):=by intro pins s σ H Q I h;refine acx PySem.F.slot_dict_getitem.lookup hs (cy (ho pins s σ H _ I h) fun u s1 ⟨x,H1,I1,rx,q1⟩=>cy (hi pins s1 σ H1 _ I1 q1) fun iv s2 ⟨y,H2,I2,ry,a,v,ex,g,q2⟩=>?_);subst ex;obtain rfl:u=Value.ref a:=rx;exact⟨MG I2 g,Ur hu I2 g ry fun w' s3 I3 YG=>⟨v,H2,I3,YG,q2⟩⟩
theorem Vu(hu:X.A.units+1<cLine)(hi:PE X i ty)(ho:PE X o td):PC X .NotIn i o (acA ty td):=by intro pins s σ H Q I h;refine cy (hi pins s σ H _ I h) fun iv s1 ⟨y,H1,I1,ry,q1⟩=>cy (ho pins s1 σ H1 _ I1 q1) fun u s2 ⟨x,H2,I2,rx,a,ov,ex,g,q2⟩=>?_;subst ex;obtain rfl:u=Value.ref a:=rx;exact aam hu I2 g ry fun s3 I3=>⟨.bl (!ov.isSome),H2,I3,rfl,q2⟩
theorem Tu(hu:X.A.units+1<cLine)(ho:PE X o td)(hi:PE X i ty)(hv:PE X value tv)(hs:swapsWith value (some (.Subscript o i pos')) pos.line X.env=pure false):PS X (.Assign [.Subscript o i pos'] value pos) (agF td ty tv):=by intro pins s σ H D I h;refine wpAny_Assign_Subscript (cy (hv pins s σ H _ I h) fun r s1 ⟨v,H1,I1,rv,q1⟩=>cy (ho pins s1 σ H1 _ I1 q1) fun u s2 ⟨x,H2,I2,rx,q2⟩=>cy (hi pins s2 σ H2 _ I2 q2) fun iv s3 ⟨y,H3,I3,ry,a,H4,ex,g,q3⟩=>?_) hs;subst ex;obtain rfl:u=Value.ref a:=rx;exact Us hu I3 g ry rv fun s4 I4=>⟨σ,H4,I4,q3⟩
end
theorem MH{P:Program}{w:World}{H:Hp}(h:Heap)(hb:sysModules<h.objs.size):cJ P w H (h.push { cls:=.type "dict",data:=.dict #[]}) h.objs.size (.dK []):=
  ⟨zero_le _,beq_eq_false_iff_ne.mpr (Ne.symm (ne_of_lt hb)),[],.nil,Heap.DictOf.new h⟩
def aff:TE:=fun _ H Q=>∀p,H p=none->Q (.ref p) (upd H p (.dK []))
section
variable{X:Cx}{pos:Pos}
theorem NM:PE X (.Dict [] [] pos) aff:=fun pins s σ H Q I h=>wpAny_Dict_empty ⟨.ref s.heap.objs.size,_,I.laid (a:=s.heap.objs.size) (o:=.dK []) (t':=s.toks) (fun _ _ q=>get?_push_of_some _ q) (le_refl _) (MH s.heap I.big),rfl,h _ (I.bj.fresh (le_refl _))⟩
end
def R3:List (TE×TE)->St->Hp->(List (V×V)->Hp->Prop)->Prop
  | [],_,H,Q=>Q [] H
  | (tk,tv)::r,σ,H,Q=>tk σ H fun x H1=>tv σ H1 fun y H2=>R3 r σ H2 fun ps H3=>Q ((x,y)::ps) H3
abbrev VV:List (V×V)->List (Value×Value)->Prop:=Paired fun p q=>RelV p.1 q.1/\RelV p.2 q.2
def PPs(X:Cx)(pos:Pos)(keys:List (Option Expr))(values:List Expr)(trs:List (TE×TE)):Prop:=
  ∀(pins:List (Addr×Obj)) (s:Shared) (σ:St) (H:Hp) (Q:List (V×V)->Hp->Prop),Inv X pins σ H s->R3 trs σ H Q->
    wpAny (model X.prog X.w) X.A (evalPairs (pairTrees keys values X.env pos)) (fun vs s'=>∃ps H',Inv X pins σ H' s'/\VV ps vs/\Q ps H') X.xe s
theorem abX{X:Cx}{pos:Pos}:PPs X pos [] [] []:=fun pins s σ H Q I h=>pairTrees_nil_walk ⟨[],H,I,.nil,h⟩
theorem YB{X:Cx}{pos:Pos}{k v:Expr}{ks:List (Option Expr)}{vs:List Expr}{tk tv:TE}{trs:List (TE×TE)}(hk:PE X k tk)(hv:PE X v tv)(hr:PPs X pos ks vs trs):PPs X pos (some k::ks) (v::vs) ((tk,tv)::trs):=fun pins s σ H Q I h=>pairTrees_cons_walk (cy (hk pins s σ H _ I h) fun u s1 ⟨x,H1,I1,rx,q1⟩=>cy (hv pins s1 σ H1 _ I1 q1) fun w2 s2 ⟨y,H2,I2,ry,q2⟩=>cy (hr pins s2 σ H2 _ I2 q2) fun ws s3 ⟨ps,H3,I3,rel,q3⟩=>⟨(x,y)::ps,H3,I3,.cons ⟨rx,ry⟩ rel,q3⟩)
def fR(aB more:List (Key×V)):List (Key×V):=more.foldl (fun acc kv=>putK acc kv.1 kv.2) aB
theorem KV.merge:∀{more:List (Key×V)} {rs:List (Key×Value)} {aB:List (Key×V)} {vs:List (Key×Value)},KV more rs->KV aB vs->KV (fR aB more) (merged vs rs):=by
  intro more rs aB vs r;unfold KV at r;induction r generalizing aB vs with
  | nil=>intro q;exact q
  | @cons p q ps qs h t ih=>
    intro r0;have e:KV (putK aB p.1 p.2) (stored vs q.1 q.2):=by have:=r0.put p.1 h.2;rw[<-h.1];exact this
    exact ih e
theorem nJ:∀(more aB:List (Key×V)),(fR aB more).length<=aB.length+more.length
  | [],aB=>by show aB.length<=aB.length+0;omega
  | p::r,aB=>by have h1:=nJ r (putK aB p.1 p.2);have h2:=rL aB p.1 p.2;show(fR (putK aB p.1 p.2) r).length<=_;rw[length_cons];omega
theorem Ed{P:Program}{w:World}:∀{aB:List (Key×V)} {ws:List (Value×Value)},VV (aB.map fun kv=>(kV kv.1,kv.2)) ws->∃rs,Carries (bw P w) ws rs/\KV aB rs
  | [],_,r=>by rw[map_nil]at r;cases r;exact⟨[],True.intro,.nil⟩
  | p::aB,_,r=>by
    rw[map_cons]at r;cases r with
    | @cons a b as bs h t=>obtain⟨rs,c,q⟩:=Ed (P:=P) (w:=w) t;obtain⟨b1,b2⟩:=b;exact⟨(p.1,b2)::rs,⟨IQ h.1,rfl,c⟩,.cons ⟨rfl,h.2⟩ q⟩
def ac6(trs:List (TE×TE)):TE:=fun σ H Q=>∀p,H p=none->R3 trs σ (upd H p (.dK [])) fun ps H2=>H2 p=some (.dK [])/\∃aB:List (Key×V),ps=aB.map (fun kv=>(kV kv.1,kv.2))/\aB.length<=15/\Q (.ref p) (upd H2 p (.dK (fR [] aB)))
theorem abH{X:Cx}{pos:Pos}{keys:List (Option Expr)}{values:List Expr}{trs:List (TE×TE)}(h:PPs X pos keys values trs)(rm:keys.all (·.isSome)=true)(hl:keys.length=values.length)(h0:keys≠ [])(h15:keys.length<=15):PE X (.Dict keys values pos) (ac6 trs):=by
  intro pins s σ H Q I q;have hn:=I.bj.fresh (le_refl s.heap.objs.size);have I1:=I.laid (a:=s.heap.objs.size) (o:=.dK []) (h':=s.heap.push { cls:=.type "dict",data:=.dict #[]}) (t':=s.toks) (fun _ _ q=>get?_push_of_some _ q) (le_refl _) (MH s.heap I.big);refine wpAny_Dict_walk (knd:=bw X.prog X.w) rm hl h0 h15 (cy (h pins _ σ _ _ I1 (q _ hn)) fun ws s2 ⟨ps,H2,I2,rel,e,aB,ep,lk,q2⟩=>?_);subst ep;obtain⟨rs,c,rk⟩:=Ed (P:=X.prog) (w:=X.w) rel;obtain⟨z,hd,vs0,r0,dd⟩:=Xh I2.bj e;cases r0;refine⟨rs,c,dd,fun h' dd' hs=>⟨.ref s.heap.objs.size,_,?_,rfl,q2⟩⟩;have hz:(fR [] aB).length<=sizeLine:=by have h1:=nJ aB [];rw[length_nil]at h1;rw[sizeLine_eq];omega
  have he:∃q,h'.get? s.heap.objs.size=some q:=let ⟨q,_,_,hq,_⟩:=dd';⟨q,hq⟩;exact JZ I2 (by rw[e];exact True.intro) hs he (Xg hz hd (rk.merge .nil) dd')
end L2
namespace L2
open PySem PySem.Spec PyProof.Rows
theorem FE:typeLookup (.type "list") "keys"=pure none:=am_miss_of_fast (by first | decide +kernel | rfl)
theorem Oy:entryFor table "dict.update.loop"=some Builtin.«dict.update.loop»:=entryFor_of_tree (by kernel_rfl)
theorem sC:plainId "dict.update.loop"=true:=by decide +kernel
section
variable{prog:Program}{w:World}{A:Around}{E:Value->Shared->Prop}
theorem U9{s:Shared}{a:Addr}{o:Obj}{xs:Array Value}{k:Nat}{Q:Option Value->Shared->Prop}(hx:s.heap.get? a=some o)(hc:o.cls=.type "list")(Qb:o.data=.seq xs k)(hd:o.dict=none)(hA:A.handled=none)(h:∀h' tk,(∀b ob,s.heap.get? b=some ob->h'.get? b=some ob)->Q none { s with heap:=h',toks:=tk}):wpAny (model prog w) A (getAttr? (.ref a) "keys") Q E s:=by
  obtain⟨c,dct,dat,sl⟩:=o;simp only at hc Qb hd;subst hc Qb hd;obtain⟨hp,g,d,tk,os⟩:=s;have hT:∀ZH,(⟨hp,g,d,ZH,os⟩:Shared).TypeIs (.ref a) "list":=fun _=>⟨_,hx,rfl⟩;have af6:=FE;have Bd:(["__module__","__name__","__qualname__","__doc__","__annotations__"]:List Str).contains "keys"=false:=by decide +kernel
  have hsz:("keys":Str).length+100<=sizeLine:=by first | size_fits | decide +kernel
  have f1:=sub_AttributeError;have f3:=PySem.F.slot_list_getattribute.lookup;have f4:=PySem.F.slot_list_getattribute.bind (.ref a);have f5:=am_list_getattr_none;unfold getAttr? getAttrBy? getAttrBy;repeat (any_goals (first | assumption | exact hT _ | ((with_reducible show wpAny _ _ (call (Value.builtin "list.__getattribute__") _ _) _ _ _);refine call_meets PySem.F.slot_list_getattribute (hT _) am_entry_list_getattribute (PySem.F.args_list_getattribute_2 _ _) (meets_getattribute_miss_list a xs k sl "keys" _ af6 Bd hsz) ⟨hx,hA,fun h' ZH e Qj=>?_⟩) | wp_step))
  obtain⟨t',u',he⟩:=Qj.there;show wpAny _ _ (getattributeRaised _ _ _ _ _ _ _) _ _ _;unfold getattributeRaised;repeat (any_goals (first | assumption | wp_step))
  all_goals first | exact h _ _ Qj.keeps | (dsimp only;repeat (any_goals (first | assumption | exact h _ _ Qj.keeps | wp_step)))
theorem Oz{R:Result->Shared->Prop}{S I l:Addr}{items:Array Value}{res:Value}(hh:A.handled=none)(hlI:l≠I)(hSI:S≠I)(hSl:S≠l):∀(rest:List (Key×Value)) (i:Nat) (acc:List (Key×Value)) (ix:Int) (t:Tok) (s:Shared),items.size=i+rest.length->acc.length+rest.length<=sizeLine->(∀(j:Nat) (q:Key×Value),rest[j]? =some q->∃(b:Addr) (u:Value),items[i+j]? =some (.ref b)/\b≠S/\b≠I/\IsTup s.heap b #[u,q.2]/\rF q.1 u=true)->s.heap.IsListIter I l i->s.heap.IsList l items->s.heap.DictOf (bw prog w) S acc->(∀h' tk,h'.DictOf (bw prog w) S (merged acc rest)->(∀b o,b≠S->b≠I->s.heap.get? b=some o->h'.get? b=some o)->R (.ok (.ret res)) { s with heap:=h',toks:=tk})->codeAny (model prog w) A (.builtin "dict.update.loop" ⟨[.ref S,.ref I,.int ix t,res],[]⟩) R s
  | [],i,acc,ix,t,s,hsz,hln,ht,hit,hl,hm,hR=>by refine codeAny_builtin Oy ?_;rw[Around.under_plainId sC _];show wpAny _ A.in1 (pyNext (.ref I)>>=_) _ _ s;refine wpAny_bind (wpAny_pyNext_list_end (A:=A.in1) hh hit hl (by first | exact Array.getElem?_eq_none (le_of_eq hsz) | (simp at hsz;simp;omega)) fun h' he=>?_);show wpAny _ A.in1 (Builtin.Dict.addKeywords S []>>=_) _ _ _;refine wpAny_bind (wpAny_pure (wpAny_pure ?_));exact hR h' s.toks (hm.extBut he hSI) fun b o _ hb e=>he b o hb e
  | q::rest,i,acc,ix,t,s,hsz,hln,ht,hit,hl,hm,hR=>by
    obtain⟨b,u,hb,Zy,hbI,ah2,hk⟩:=ht 0 q rfl;rw[length_cons]at hsz hln;refine codeAny_builtin Oy ?_;rw[Around.under_plainId sC _];show wpAny _ A.in1 (pyNext (.ref I)>>=_) _ _ s;refine wpAny_bind (wpAny_pyNext_list_item (x:=.ref b) hit hl (by simpa using hb) fun h1 adU hs1=>?_);have ht1:IsTup h1 b #[u,q.2]:=ah2.extBut hs1.extBut hbI;have Hm:h1.IsList l items:=hl.extBut hs1.extBut hlI;have ZC:h1.DictOf (bw prog w) S acc:=hm.extBut hs1.extBut hSI;obtain⟨o,ho,hc,n,hd⟩:=id ht1;show wpAny _ A.in1 (holding [Value.ref b] _>>=_) _ _ _;refine wpAny_bind (wpAny_holding ?_);refine wpAny_bind (wpAny_tryCatch ?_);unfold Builtin.Dict.pairItems;refine wpAny_bind (wpAny_typeOf (T:="tuple") ⟨o,ho,hc⟩ ?_);rw[if_pos (by first | decide | rfl | simp)];refine wpAny_bind (wpAny_seqItems ho hd (wpAny_pure ?_));show wpAny _ A.in1 (holding [u,q.2] (dictSet S u q.2)) _ _ _;refine wpAny_holding (wpAny_dictSet_pairs (knd:=bw prog w) (k:=q.1) hk ZC (fun h2 hm2 UR=>?_) (by omega));refine wpAny_pure ⟨plainId_quiet sC _,Oz (items:=items) hh hlI hSI hSl rest (i+1) (stored acc q.1 q.2) (ix+1) 0 _ (show items.size=i+1+rest.length by omega) ?_ (fun j q' e=>?_) ?_ ?_ hm2 fun h' tk hd' k=>?_⟩
    . have z:=stored_length_le acc q.1 q.2;omega
    . obtain⟨b',u',GY,afS,afR,agi,Bb⟩:=ht (j+1) q' (by simpa using e);refine⟨b',u',?_,afS,afR,(agi.extBut hs1.extBut afR).extBut UR.extBut afS,Bb⟩;rw[show i+1+j=i+(j+1) by omega];exact GY
    . exact adU.at fun o' e=>UR.extBut I o' (Ne.symm hSI) e
    . exact Hm.extBut UR.extBut (Ne.symm hSl)
    . exact hR h' tk hd' fun c oc h3 h4 e=>k c oc h3 h4 (UR.extBut c oc h3 (hs1.extBut c oc h4 e))
theorem BK{s:Shared}{l:Addr}{ol:Obj}{items:Array Value}{n:Nat}{prs:List (Key×Value)}{Q:Value->Shared->Prop}(hh:A.handled=none)(hl:s.heap.get? l=some ol)(hc:ol.cls=.type "list")(hd:ol.dict=none)(Qb:ol.data=.seq items n)(hsz:items.size=prs.length)(hln:prs.length<=sizeLine)(ht:∀(j:Nat) (q:Key×Value),prs[j]? =some q->∃(b:Addr) (u:Value),items[j]? =some (.ref b)/\IsTup s.heap b #[u,q.2]/\rF q.1 u=true)(h:∀h' tk,h'.DictOf (bw prog w) s.heap.objs.size (merged [] prs)->(∀b o,s.heap.get? b=some o->h'.get? b=some o)->Q (.ref s.heap.objs.size) { s with heap:=h',toks:=tk}):wpAny (model prog w) A (call (.type "dict") [.ref l]) Q E s:=by
  refine callType_codes (Q₁:=fun obj s₁=>obj=.ref s.heap.objs.size/\s₁={ s with heap:=s.heap.push { cls:=.type "dict",data:=.dict #[]}}) PySem.F.kt_called_dict (PySem.F.kt_typeCall_dict_1 _) PySem.F.entry_dict_init (kt_code_dict_new _ ⟨rfl,rfl⟩) ?_;rintro obj s₁ ⟨rfl,rfl⟩;have wW:(s.heap.push { cls:=.type "dict",data:=.dict #[]}).DictOf (bw prog w) s.heap.objs.size []:=Heap.DictOf.new s.heap;have k0:∀b o,s.heap.get? b=some o->(s.heap.push { cls:=.type "dict",data:=.dict #[]}).get? b=some o:=fun b o e=>get?_push_of_some _ e;refine⟨wW.typeIs,PySem.F.args_dict_init_2 _ _,?_⟩;unfold Builtin.«dict.__init__»;refine wpAny_bind ?_;unfold Builtin.Dict.selfAndRest;refine wpAny_bind (wpAny_notOrdered_dict wW.typeIs ?_);show wpAny _ _ (pure (s.heap.objs.size,[Value.ref l])) _ _ _;refine wpAny_pure ?_;show wpAny _ _ (Builtin.Dict.updateFrom "dict.__init__" s.heap.objs.size (.ref l) [] .none) _ _ _;unfold Builtin.Dict.updateFrom;refine wpAny_bind (wpAny_typeOf (T:="list") ⟨ol,k0 _ _ hl,hc⟩ ?_);rw[if_pos (by first | decide | rfl | simp)];refine wpAny_bind (U9 (k0 _ _ hl) hc Qb hd hh fun h1 tk1 ZA=>?_);rw[if_pos (show(none:Option Value).isNone=true from rfl)];refine wpAny_bind (wpAny_rule ?_);have Hm:h1.IsList l items:=⟨ol,ZA _ _ (k0 _ _ hl),hc,n,Qb⟩;have UH:s.heap.objs.size<h1.objs.size:=by have e:(s.heap.push { cls:=.type "dict",data:=.dict #[]}).get? s.heap.objs.size=some { cls:=.type "dict",data:=.dict #[]}:=get?_push_size _ rfl;exact lt_size (ZA _ _ e)
  refine wpAny_bind (wpAny_pyIter_list Hm ?_);have k2:∀b o,h1.get? b=some o->(h1.push { cls:=.type "list_iterator",data:=.fields #[.ref l,.int 0 0]}).get? b=some o:=fun b o e=>get?_push_of_some _ e;have dD:l<s.heap.objs.size:=lt_size hl;have key:=Oz (prog:=prog) (w:=w) (A:=A.in1) (R:=wants (fun r s₂=>r=.none/\Q (.ref s.heap.objs.size) s₂) E) (S:=s.heap.objs.size) (I:=h1.objs.size) (l:=l) (items:=items) (res:=Value.none) hh
    (ne_of_lt (lt_trans dD UH)) (ne_of_lt UH) (ne_of_gt dD) prs 0 [] 0 0
    { s with heap:=h1.push { cls:=.type "list_iterator",data:=.fields #[.ref l,.int 0 0]},toks:=tk1} (by rw[hsz,zero_add]) (by rw[length_nil,zero_add];exact hln)
    (fun j q e=>by obtain⟨b,u,e1,e2,e3⟩:=ht j q e;have hb:b<s.heap.objs.size:=e2.lt;exact⟨b,u,by rw[zero_add];exact e1,ne_of_lt hb,ne_of_lt (lt_trans hb UH),e2.keeps fun c o z=>k2 _ _ (ZA _ _ (k0 _ _ z)),e3⟩)
    ⟨_,get?_push_size _ rfl,rfl,rfl⟩ (Hm.at fun o e=>k2 _ _ e) ((wW.at fun o e=>ZA _ _ e).at fun o e=>k2 _ _ e)
    (fun h' tk hd' k=>⟨rfl,h h' tk hd' fun b o e=>k b o (ne_of_lt (lt_size e)) (ne_of_lt (lt_trans (lt_size e) UH)) (k2 _ _ (ZA _ _ (k0 _ _ e)))⟩)
  first
    | exact wpAny_pure ⟨plainId_quiet sC _,key⟩
    | exact wpAny_bind (wpAny_pure (wpAny_pure ⟨plainId_quiet sC _,key⟩))
end
section
variable{X:Cx}
theorem NL{pins:List (Addr×Obj)}{σ:St}{H:Hp}{s:Shared}(I:Inv X pins σ H s):∀{ps:List Addr} {aB:List (Key×V)},Paired (fun p kv=>mT X.K H p [kV kv.1,kv.2]) ps aB->∃prs:List (Key×Value),KV aB prs/\prs.length=ps.length/\∀(j:Nat) (q:Key×Value),prs[j]? =some q->∃(b:Addr) (u:Value),ps[j]? =some b/\IsTup s.heap b #[u,q.2]/\rF q.1 u=true
  | _,_,.nil=>⟨[],.nil,rfl,fun j q e=>by simp at e⟩
  | _,_,.cons (a:=p) (b:=kv) h t=>by
    obtain⟨prs,r,hl,hp⟩:=NL I t;obtain⟨aX,rv,ht,_⟩:=I.tuple h;obtain⟨u,y,ei,ru,ry⟩:=vals2 rv;subst ei;refine⟨(kv.1,y)::prs,.cons ⟨rfl,ry⟩ r,by rw[length_cons,length_cons,hl],fun j q e=>?_⟩;cases j with
    | zero=>have e':(kv.1,y)=q:=Option.some.inj e;subst e';exact⟨p,u,rfl,ht,IQ (P:=X.prog) (w:=X.w) ru⟩
    | succ j=>obtain⟨b,u',e1,e2,e3⟩:=hp j q (by simpa using e);exact⟨b,u',by simpa using e1,e2,e3⟩
theorem cq:∀{ps:List Addr} {us:List Value},Vals (ps.map V.ref) us->us=ps.map Value.ref
  | [],us,r=>by rw[map_nil]at r;cases r;rfl
  | p::ps,us,r=>by
    rw[map_cons]at r;cases r with
    | cons h t=>cases h;rw[map_cons,<-cq t]
theorem oW(afU:X.calm=true):gh X (.type "dict") (fun xs H Q=>∃(a:Addr) (ps:List Addr) (aB:List (Key×V)),xs=[.ref a]/\aN X.K H a (ps.map V.ref)/\Paired (fun p kv=>mT X.K H p [kV kv.1,kv.2]) ps aB/\∀p,H p=none->Q (.ref p) (upd H p (.dK (fR [] aB)))):=by
  intro pins s σ H xs us Q I r q;obtain⟨a,ps,aB,ex,hq,hp,q⟩:=q;subst ex;obtain⟨u,eu,rx⟩:=vals1 r;subst eu;cases rx;obtain⟨aX,rv,pl,hz⟩:=I.list hq;have ei:=cq rv;subst ei;rw[length_map]at hz;obtain⟨prs,rel,hl,Ks⟩:=NL I hp;obtain⟨o,n,ho,hc,hd,Qb⟩:=pl;refine BK (prs:=prs) (I.ok.hd afU) ho hc hd Qb (by simp[hl]) (by rw[hl];exact hz) (fun j q' e=>?_) fun h' tk hd' k=>?_
  . obtain⟨b,u,e1,e2,e3⟩:=Ks j q' e;exact⟨b,u,by simp[e1],e2,e3⟩
  . have hm:(s.heap.objs.size==sysModules)=false:=beq_eq_false_iff_ne.mpr (ne_of_gt I.big);have hlen:(fR [] aB).length<=sizeLine:=by refine le_trans (nJ aB []) ?_;rw[length_nil,zero_add,rel.length,hl];exact hz
    exact⟨.ref s.heap.objs.size,upd H s.heap.objs.size (.dK (fR [] aB)),I.laid (t':=tk) k (le_refl _) (show cJ X.prog X.w _ _ _ (.dK (fR [] aB)) from⟨hlen,hm,merged [] prs,KV.merge rel .nil,hd'⟩),rfl,q _ (I.bj.fresh (le_refl _))⟩
end
end L2
namespace L2
open PySem PySem.Spec PyProof.Rows
section
variable{X:Cx}{pins:List (Addr×Obj)}{σ:St}{H:Hp}{s:Shared}{h':Heap}
theorem Inv.acC{t':Nat}{ch:List Addr}(I:Inv X pins σ H s)(k:∀b o,b∉ch->s.heap.get? b=some o->h'.get? b=some o)(hf:∀b∈ch,Bv X pins H b):Inv X pins σ H { s with heap:=h',toks:=t'}:=by
  have ZF:∀b u,H b=some u->b∉ch:=fun b u e z=>by have q:=(hf b z).1;rw[q]at e;cases e
  refine I.step (g':=s.gens) (d':=s.drawn) (ch:=ch) (fun b hb=>⟨(hf b hb).2.2.2.1,(hf b hb).2.1,(hf b hb).2.2.2.2.1,(hf b hb).2.2.2.2.2⟩) (fun b o _ _ hc e _=>k b o hc e) (fun b o _ _ hc e _=>⟨o.slots,k b o hc e⟩)
    (fun _ _ _ _ n=>n) (fun b o hc e=>⟨o,k b o hc e⟩) (fun _ _ e=>e) (fun _ _ _ e=>e) (fun b ps e=>⟨#[],by rw[e];simp⟩) (fun m hm=>?_) (fun b u e=>?_) I.bare
  . obtain⟨o,es,ep,ho,r⟩:=hm;exact⟨o,es,ep,k _ o (fun z=>(hf _ z).2.1 rfl) ho,r⟩
  . refine(I.bj b u e).GK (fun c v hc q=>k c v ?_ q) (fun _ q=>q) fun _ _ q=>q;rcases hc with z | z
    . rw[z];exact ZF b u e
    . exact ZF c _ z
theorem Inv.AO{t':Nat}{ch:List Addr}{T:Addr}{ob:HO}(I:Inv X pins σ H s)(k:∀b o,b∉ch->s.heap.get? b=some o->h'.get? b=some o)(hf:∀b∈ch,Bv X pins H b)(hT:s.heap.objs.size<=T)(new:cJ X.prog X.w (upd H T ob) h' T ob):Inv X pins σ (upd H T ob) { s with heap:=h',toks:=t'}:=by
  have hn:H T=none:=I.bj.fresh hT;have ZF:∀b u,H b=some u->b∉ch:=fun b u e z=>by have q:=(hf b z).1;rw[q]at e;cases e
  refine I.step (g':=s.gens) (d':=s.drawn) (ch:=ch) (fun b hb=>⟨(hf b hb).2.2.2.1,(hf b hb).2.1,(hf b hb).2.2.2.2.1,(hf b hb).2.2.2.2.2⟩) (fun b o _ _ hc e _=>k b o hc e) (fun b o _ _ hc e _=>⟨o.slots,k b o hc e⟩)
    (fun b o _ e n=>?_) (fun b o hc e=>⟨o,k b o hc e⟩) (fun b xs e=>?_) (fun b o u e=>?_) (fun b ps e=>⟨#[],?_⟩) (fun m hm=>?_) (fun b u e=>?_) I.bare
  . rw[au (ne_of_lt (lt_of_lt_of_le (lt_size e) hT))];exact n
  . rw[au (aM e hn)];exact e
  . rw[au (aM e hn)];exact e
  . rw[au (aM e hn),e];simp
  . obtain⟨o,es,ep,ho,r⟩:=hm;exact⟨o,es,ep,k _ o (fun z=>(hf _ z).2.1 rfl) ho,r⟩
  . by_cases hb:b=T
    . subst hb;rw[ae]at e;cases e;exact new
    . rw[au hb]at e;refine(I.bj b u e).GK (fun c v hc q=>k c v ?_ q) (fun c q=>by rw[au (aM q hn)];exact q) fun c xs q=>by rw[au (aM q hn)];exact q
      rcases hc with z | z
      . rw[z];exact ZF b u e
      . exact ZF c _ z
theorem Inv.lock{d:Addr}{u:HO}(I:Inv X pins σ H s)(h:H d=some u)(mu:ZP (some u)):∃od,Inv X pins σ (upd H d (.gG od u)) s:=by
  have x:=I.bj d u h;have ex:∃od,s.heap.get? d=some od:=by
    cases u with
    | lst xs=>obtain⟨_,_,_,_,e⟩:=x;exact⟨_,e⟩
    | dK aB=>obtain⟨_,_,_,_,o,_,_,e,_⟩:=x;exact⟨o,e⟩
    | dT aB=>obtain⟨_,_,_,_,o,_,_,e,_⟩:=x;exact⟨o,e⟩
    | set S n=>obtain⟨o,_,_,_,e,_⟩:=x;exact⟨o,e⟩
    | ins C dx fs=>obtain⟨_,_,_,e,_⟩:=x;exact⟨_,e⟩
    | ext φ=>obtain⟨_,⟨_,e⟩,_⟩:=x;exact⟨_,e⟩
    | _=>exact False.elim mu
  obtain⟨od,e⟩:=ex;have new:cJ X.prog X.w (upd H d (.gG od u)) s.heap d (.gG od u):=by
    refine⟨e,x.GK (fun b v _ q=>q) (fun b q=>?_) fun b xs q=>?_⟩
    . rw[au (fun z=>by rw[z,h]at q;cases q;exact mu)];exact q
    . rw[au (fun z=>by rw[z,h]at q;cases q;exact mu)];exact q
  exact⟨od,I.write (x:=d) (e:=d) (t':=s.toks) (h':=s.heap) (by rw[h];exact mu) (.inl rfl) (fun b v _ q=>q) ⟨od,e⟩ new⟩
theorem Inv.Nl{d:Addr}{u:HO}(I:Inv X pins σ H s)(h:H d=some u)(mu:ZP (some u)):∀o' u',X.H_0 d≠some (.gG o' u'):=fun o' u' e=>by have q:=I.base.EX d o' u' e;rw[h]at q;cases q;exact mu
theorem Inv.unlock{d:Addr}{od:Obj}{u:HO}(I:Inv X pins σ H s)(h:H d=some (.gG od u))(hn:∀o' u',X.H_0 d≠some (.gG o' u')):Inv X pins σ (upd H d u) s:=by
  have neH:∀b o,H b=some o->(∀o' u',o≠ .gG o' u')->b≠d:=fun b o e eZ z=>by rw[z,h]at e;cases e;exact eZ _ _ rfl
  have neN:∀b,H b=none->b≠d:=fun b e z=>by rw[z,h]at e;cases e
  refine⟨I.ok,I.os,I.bare,⟨I.base.keep,I.base.slot,fun b o e n hx=>?_,I.base.there,fun b xs e=>?_,fun b o x e=>?_,fun b ps e=>?_⟩,I.loc,I.cell,?_,fun x c e=>?_,fun p hp=>?_,fun b o e=>?_,I.len⟩
  . rw[au (neN b (I.base.free b o e n hx))];exact I.base.free b o e n hx
  . have q:=I.base.LJ b xs e;rw[au (neH b _ q (fun _ _ z=>nomatch z))];exact q
  . have q:=I.base.EX b o x e;rw[au (fun z=>by rw[z]at e;exact hn _ _ e)];exact q
  . obtain⟨m,q⟩:=I.base.LH b ps e;exact⟨m,by rw[au (neH b _ q (fun _ _ z=>nomatch z))];exact q⟩
  . rw[au (neN _ I.free)];exact I.free
  . rw[au (neN c (I.oq x c e))];exact I.oq x c e
  . obtain⟨e,n,r⟩:=I.pin p hp;exact⟨e,by rw[au (neN _ n)];exact n,r⟩
  . by_cases hb:b=d
    . rw[hb,ae]at e;cases e;rw[hb];obtain⟨_,x⟩:=I.bj d _ h;exact x.GK (fun c v _ q=>q) (fun c q=>by rw[au (neH c _ q (fun _ _ z=>nomatch z))];exact q) fun c xs q=>by rw[au (neH c _ q (fun _ _ z=>nomatch z))];exact q
    . rw[au hb]at e;exact(I.bj b o e).GK (fun c v _ q=>q) (fun c q=>by rw[au (neH c _ q (fun _ _ z=>nomatch z))];exact q) fun c xs q=>by rw[au (neH c _ q (fun _ _ z=>nomatch z))];exact q
end
def ag5(t:TS):TS:=fun D σ H=>∃d u,H d=some u/\ZP (some u)/\∀od,t ⟨fun σ' H'=>H' d=some (.gG od u)/\D.nx σ' (upd H' d u),fun v H'=>H' d=some (.gG od u)/\D.rt v (upd H' d u),fun σ' H'=>H' d=some (.gG od u)/\D.bk σ' (upd H' d u),fun σ' H'=>H' d=some (.gG od u)/\D.ct σ' (upd H' d u)⟩ σ (upd H d (.gG od u))
def afg(t:TE):TE:=fun σ H Q=>∃d u,H d=some u/\ZP (some u)/\∀od,t σ (upd H d (.gG od u)) fun v H'=>H' d=some (.gG od u)/\Q v (upd H' d u)
section
variable{X:Cx}
theorem Ll{st:Stmt}{t:TS}(h:PS X st t):PS X st (ag5 t):=by
  intro pins s σ H D I hw;obtain⟨d,u,hd,mu,hw⟩:=hw;obtain⟨od,I1⟩:=I.lock hd mu;refine cy (h pins s σ _ _ I1 (hw od)) fun f s1 q=>?_;cases f with
  | next=>obtain⟨σ',H',I2,e,q⟩:=q;exact⟨σ',_,I2.unlock e (I.Nl hd mu),q⟩
  | brk=>obtain⟨σ',H',I2,e,q⟩:=q;exact⟨σ',_,I2.unlock e (I.Nl hd mu),q⟩
  | cont=>obtain⟨σ',H',I2,e,q⟩:=q;exact⟨σ',_,I2.unlock e (I.Nl hd mu),q⟩
  | ret v=>obtain⟨x,σ',H',I2,r,e,q⟩:=q;exact⟨x,σ',_,I2.unlock e (I.Nl hd mu),r,q⟩
theorem abI{e:Expr}{t:TE}(h:PE X e t):PE X e (afg t):=by intro pins s σ H Q I hw;obtain⟨d,u,hd,mu,hw⟩:=hw;obtain⟨od,I1⟩:=I.lock hd mu;refine cy (h pins s σ _ _ I1 (hw od)) fun v s1 ⟨x,H1,I2,r,e2,q⟩=>?_;exact⟨x,_,I2.unlock e2 (I.Nl hd mu),r,q⟩
theorem Rl{tg:Expr}{pins:List (Addr×Obj)}{σ:St}{H:Hp}{s:Shared}{R:It->Hp->Prop}{J:It}{tn:Nat->Heap->Prop}{tk:Nat}(I:Inv X pins σ H s)(o:Obj)(T:Turn X.prog X.w X.K tg J [s.heap.objs.size] s.heap.objs.size tn)(st:tn 0 (s.heap.push o))(q:R J H):PIE X pins σ tg R (.ref s.heap.objs.size) { s with heap:=s.heap.push o,toks:=tk}:=by
  refine⟨s.heap.objs.size,[s.heap.objs.size],tn,J,H,rfl,I.kept fun b ob e=>get?_push_of_some _ e,T,st,fun b hb=>?_,q⟩;have e:b=s.heap.objs.size:=by simpa using hb
  subst e;exact I.UC (le_refl _) (I.bj.fresh (le_refl _))
end
def Itc(lo c:Int)(n:Nat):It:=⟨fun i _=>i<n,fun i H x H'=>H'=H/\x=.int (lo+(i:Nat)*c),fun i _=>n<=i⟩
theorem Ox{P:Program}{w:World}{K:Frag}{tg:Expr}(it:Addr)(lo c:Int)(n:Nat):Turn P w K tg (Itc lo c n) [it] it (fun i h=>IsRangeIter h it (lo+(i:Nat)*c) ((n:Int)-(i:Nat)) c) where
  mem:=by simp
  obj:=fun i h st b hb=>by
    have e:b=it:=by simpa using hb
    subst e;exact⟨_,st,fun v z=>nomatch z⟩
  keep:=fun i h h' st k=>k it (by simp) _ st
  item:=by intro X hP hw hK hc i pins s σ H E I hf st hg;subst hP hw hK;obtain⟨f0,f1,f2,f3,f4,f5⟩:=hf it (by simp);have W:=Walks.range (prog:=X.prog) (w:=X.w) (I.ok.hd hc) it lo c n;refine W.item i s _ _ hg st fun v h' tk hv V7 kk=>?_;obtain⟨t,rfl⟩:=hv;have I1:Inv X pins σ H { s with heap:=h',toks:=tk}:=I.turned (fun b o hb e=>kk b o (by simpa using hb) e) f0 f1 f3 f4 f5;exact⟨_,rfl,S0 (s:={ s with heap:=h',toks:=tk}) (n:="range_iterator") V7 rfl rfl (by decide) ⟨.int (lo+(i:Nat)*c),H,I1,⟨t,rfl⟩,⟨rfl,rfl⟩,V7,fun b hb=>(hf b hb).1⟩⟩
  done:=by intro X hP hw hK hc i pins s σ H E I hf st hg;subst hP hw hK;obtain⟨f0,f1,f2,f3,f4,f5⟩:=hf it (by simp);exact wpAny_pyNext_range_end (I.ok.hd hc) st (by have:n<=i:=hg;omega) fun h' eb=>⟨rfl,I.turned (t':=s.toks) (fun b o hb e=>eb b o hb e) f0 f1 f3 f4 f5⟩
  self:=fun A i s Q E st h=>wpAny_pyIter_rangeiter st h
def RgC(i j c:Int)(n:Nat):Prop:=c≠0/\c.natAbs<1073741824/\Builtin.Range.small i j c=true/\Builtin.Range.rangeSize i j c=n
theorem RgC.neg{i j:Int}(ha: -(2^62)<=i)(ha':i<2^62)(hb: -(2^62)<=j)(GY:j<2^62):RgC i j (-1) (i-j).toNat:=
  ⟨by decide,by decide,PySem.W.small_down ha ha' hb GY,PySem.W.rangeSize_downNat i j⟩
def agm(ta:TA):TI:=fun σ H R=>ta σ H fun vs H1=>∃(i j c:Int) (n:Nat),vs=[.int i,.int j,.int c]/\RgC i j c n/\R (Itc i c n) H1
section
variable{X:Cx}{tg:Expr}
theorem Vv{a b c:Expr}{ta:TA}{p pos:Pos}(hg:Gl X "range")(hm:X.mg "range"=none)(ha:PA X [a,b,c] ta)(hs:starEach [a,b,c] X.env=(false,eval a X.env)::starEach [b,c] X.env:=by rfl)(t6:(backTo pos (starEach [b,c] X.env)).any (·.1)=false:=by rfl):PI X tg (.Call (.Name "range" p) [a,b,c] [] pos) (agm ta):=by
  intro pins s σ H R I h;refine Call_ (pE I hg hm boot_range (PyProof.Rows.callWith_type1 (cy (ha pos pins s σ H _ I h) fun us s1 ⟨vs,H1,I1,r1,q1⟩=>?_) hs t6));obtain⟨i,j,k,n,e,⟨c0,c1,c2,c3⟩,q⟩:=q1;subst e;cases r1 with
  | cons r rr=>
    cases rr with
    | cons r' rr=>
      cases rr with
      | cons r'' rr=>
        cases rr;obtain⟨t,rfl⟩:=r;obtain⟨t',rfl⟩:=r';obtain⟨t'',rfl⟩:=r'';refine call_range_3 c0 ?_ (.inl (PyProof.noPylong_small c1));refine wpAny_pyIter_range (IsRange.new ..) c2 ?_;have I2:Inv X pins σ H1 { s1 with heap:=s1.heap.push { cls:=.type "range",data:=.fields #[.int i t,.int j t',.int k t'']}}:=I1.kept (t':=s1.toks) fun b o e=>get?_push_of_some _ e;refine Rl (tk:=s1.toks) I2 _ (Ox _ i k n) ?_ q;have e1:i+((0:Nat):Int)*k=i:=by simp
        have e2:(n:Int)-((0:Nat):Int)=Builtin.Range.rangeSize i j k:=by rw[c3];simp
        show IsRangeIter _ _ (i+((0:Nat):Int)*k) ((n:Int)-((0:Nat):Int)) k;rw[e1,e2];exact get?_push_size _ rfl
end
theorem QC{κ:Type}{aB:List (κ×V)}{vs:List (κ×Value)}(h:KV aB vs):∀{i:Nat} {k:κ} {v:V},aB[i]? =some (k,v)->∃u,vs[i]? =some (k,u)/\RelV v u:=by
  unfold KV at h;induction h with
  | nil=>intro i k v e;simp at e
  | @cons a b l₁ l₂ r t ih=>
    intro i k v e;cases i with
    | zero=>simp only[List.getElem?_cons_zero,Option.some.injEq]at e;subst e;refine⟨b.2,?_,r.2⟩;simp only[List.getElem?_cons_zero];exact congrArg some (Prod.ext r.1.symm rfl)
    | succ j=>simp only[List.getElem?_cons_succ]at e ⊢;exact ih e
theorem YD{k:Key}{u:Value}(h:rF k u=true):RelV (kV k) u:=by
  rcases cE h with⟨i,t,rfl,rfl⟩ | ⟨x,t,rfl,rfl⟩
  . exact⟨t,rfl⟩
  . exact⟨t,rfl⟩
section
variable{X:Cx}{pins:List (Addr×Obj)}{σ:St}{H:Hp}{s:Shared}{d:Addr}{o:Obj}
theorem Inv.UE{aB:List (Key×V)}(I:Inv X pins σ H s)(h:H d=some (.gG o (.dK aB))):(d==sysModules)=false/\s.heap.get? d=some o/\o.ExactDict/\∃(es:Array DictEntry) (ep:Nat) (vs:List (Key×Value)),o.data=.dict es ep/\es.size=aB.length/\KV aB vs/\s.heap.DictAt (bw X.prog X.w) d vs ep:=by obtain⟨hd,z,hs,vs,kv,o',es,ep,ho,hx,OG,r⟩:=I.bj d _ h;rw[hd]at ho;cases ho;refine⟨hs,hd,hx,es,ep,vs,OG,?_,kv,o,es,hd,hx,OG,r⟩;have l1:=r.2.1.length;have l2:aB.length=vs.length:=Paired.length kv;rw[length_toList]at l1;omega
end
def Itd(d:Addr)(o:Obj)(aB:List (Key×V)):It:=
  ⟨fun i H=>H d=some (.gG o (.dK aB))/\i<aB.length,fun i H x H'=>H'=H/\∃k,aB[i]? =some (k,x),fun i H=>H d=some (.gG o (.dK aB))/\aB.length<=i⟩
def Iti(d:Addr)(o:Obj)(aB:List (Key×V)):It:=
  ⟨fun i H=>H d=some (.gG o (.dK aB))/\i<aB.length,fun i H x H'=>∃T k v,aB[i]? =some (k,v)/\x=.ref T/\H T=none/\H'=upd H T (.tup [kV k,v]),fun i H=>H d=some (.gG o (.dK aB))/\aB.length<=i⟩
theorem C9{o:Obj}{es tV:Array DictEntry}{ep qm:Nat}(h:o.data=.dict es ep)(h':o.data=.dict tV qm):tV=es/\qm=ep:=by rw[h]at h';cases h';exact⟨rfl,rfl⟩
section
variable{P:Program}{w:World}{K:Frag}{tg:Expr}{d:Addr}{o:Obj}{es:Array DictEntry}{ep:Nat}
theorem Wg{aB:List (Key×V)}(it:Addr)(hod:o.data=.dict es ep):Turn P w K tg (Itd d o aB) [it] it (fun i h=>h.IsValIter it d i aB.length ep) where
  mem:=by simp
  obj:=fun i h st b hb=>by
    have e:b=it:=by simpa using hb
    subst e;obtain⟨oi,e,c,dd⟩:=st;exact⟨oi,e,fun v z=>by rw[dd]at z;cases z⟩
  keep:=fun i h h' st k=>st.at fun oi e=>k it (by simp) oi e
  item:=by intro X hP hw hK hc i pins s σ H E I hf st hg;subst hP hw hK;obtain⟨hd,hi⟩:=hg;obtain⟨f0,f1,f2,f3,f4,f5⟩:=hf it (by simp);obtain⟨hs,hgd,hx,tV,qm,vs,OG,hsz,kv,hm⟩:=I.UE hd;obtain⟨rfl,rfl⟩:=C9 hod OG;obtain⟨⟨k,v⟩,wU⟩:∃p,aB[i]? =some p:=⟨aB[i],getElem?_eq_getElem hi⟩;obtain⟨u,hu,ru⟩:=QC kv wU;have hl:aB.length=vs.length:=Paired.length kv;rw[hl]at st;refine wpAny_pyNext_values_item st hm hu fun h' V7 sb=>?_;have I1:Inv X pins σ H { s with heap:=h'}:=I.turned (t':=s.toks) (fun b ob hb e=>(sb.2 b hb).trans e) f0 f1 f3 f4 f5;obtain⟨oi,e,c,dd⟩:=id V7;refine⟨u,rfl,S0 (s:={ s with heap:=h'}) e c dd (by decide) ⟨v,H,I1,ru,⟨rfl,k,wU⟩,?_,fun b hb=>(hf b hb).1⟩⟩;show h'.IsValIter it d (i+1) aB.length _;rw[hl];exact V7
  done:=by intro X hP hw hK hc i pins s σ H E I hf st hg;subst hP hw hK;obtain⟨hd,hi⟩:=hg;obtain⟨f0,f1,f2,f3,f4,f5⟩:=hf it (by simp);obtain⟨hs,hgd,hx,tV,qm,vs,OG,hsz,kv,hm⟩:=I.UE hd;obtain⟨rfl,rfl⟩:=C9 hod OG;have hl:aB.length=vs.length:=Paired.length kv;rw[hl]at st;exact wpAny_pyNext_values_end (I.ok.hd hc) st hm (getElem?_eq_none (by omega)) fun h' eb=>⟨rfl,I.turned (t':=s.toks) (fun b ob hb e=>eb b ob hb e) f0 f1 f3 f4 f5⟩
  self:=fun A i s Q E st h=>wpAny_pyIter_valiter st h
theorem R5{aB:List (Key×V)}{elts:List Expr}{kk:Nat}{x8:Pos}(it:Addr)(hod:o.data=.dict es ep):Turn P w K (.Tuple elts kk x8) (Iti d o aB) [it] it (fun i h=>∃ok ov,IsItemIter h it d i aB.length ep ok ov) where
  mem:=by simp
  obj:=fun i h st b hb=>by
    have e:b=it:=by simpa using hb
    subst e;obtain⟨ok,ov,e⟩:=st;exact⟨_,e,fun v z=>nomatch z⟩
  keep:=fun i h h' st k=>let ⟨ok,ov,e⟩:=st;⟨ok,ov,k it (by simp) _ e⟩
  item:=by
    intro X hP hw hK hc i pins s σ H E I hf st hg;subst hP hw hK;obtain⟨hd,hi⟩:=hg;obtain⟨hs,hgd,hx,tV,qm,vs,OG,hsz,kv,hm⟩:=I.UE hd;obtain⟨rfl,rfl⟩:=C9 hod OG;obtain⟨⟨k,v⟩,wU⟩:∃p,aB[i]? =some p:=⟨aB[i],getElem?_eq_getElem hi⟩;obtain⟨u,hu,ru⟩:=QC kv wU;have hl:aB.length=vs.length:=Paired.length kv;obtain⟨ok,ov,he⟩:=st;rw[hl]at he;have dD:it<s.heap.objs.size:=lt_size he;refine wpAny_pyNext_items_item he hm hu fun key h' adV ho hT hz hk=>?_;refine⟨_,rfl,wpAny_letOwnedTupleGo_items (s:={ s with heap:=h'}) ho fun GX Qc sb=>?_⟩;have hT2:GX.get? s.heap.objs.size=some { cls:=.type "tuple",data:=.seq #[key,u]}:=(sb.2 _ (ne_of_gt dD)).trans hT;have new:cJ X.prog X.w (upd H s.heap.objs.size (.tup [kV k,v])) GX s.heap.objs.size (.tup [kV k,v]):=
      ⟨by show 2<=sizeLine;decide,[key,u],.cons (YD (show rF k key=true from adV)) (.cons ru .nil),⟨_,hT2,rfl,_,rfl⟩⟩
    have I1:Inv X pins σ (upd H s.heap.objs.size (.tup [kV k,v])) { s with heap:=GX}:=
      I.AO (t':=s.toks) (ch:=[it]) (fun b ob hb e=>(sb.2 b (by simpa using hb)).trans (hk b ob (by simpa using hb) e)) hf (le_refl _) new
    refine⟨.ref s.heap.objs.size,_,I1,rfl,⟨_,k,v,wU,rfl,I.bj.fresh (le_refl _),rfl⟩,⟨key,u,?_⟩,fun b hb=>?_⟩
    . rw[hl];exact Qc
    . have e:b=it:=by simpa using hb
      rw[e,au (ne_of_lt dD)];exact(hf it (by simp)).1
  done:=by intro X hP hw hK hc i pins s σ H E I hf st hg;subst hP hw hK;obtain⟨hd,hi⟩:=hg;obtain⟨f0,f1,f2,f3,f4,f5⟩:=hf it (by simp);obtain⟨hs,hgd,hx,tV,qm,vs,OG,hsz,kv,hm⟩:=I.UE hd;obtain⟨rfl,rfl⟩:=C9 hod OG;have hl:aB.length=vs.length:=Paired.length kv;obtain⟨ok,ov,he⟩:=st;rw[hl]at he;exact wpAny_pyNext_items_end (I.ok.hd hc) he hm (getElem?_eq_none (by omega)) fun h' eb=>⟨rfl,I.turned (t':=s.toks) (fun b ob hb e=>eb b ob hb e) f0 f1 f3 f4 f5⟩
  self:=fun A i s Q E st h=>let ⟨_,_,e⟩:=st;PySem.W.kcp_self e h
end
def agn(td:TE):TI:=fun σ H R=>td σ H fun x H1=>∃d o aB,x=.ref d/\H1 d=some (.gG o (.dK aB))/\R (Itd d o aB) H1
def ad7(td:TE):TI:=fun σ H R=>td σ H fun x H1=>∃d o aB,x=.ref d/\H1 d=some (.gG o (.dK aB))/\R (Iti d o aB) H1
section
variable{X:Cx}{tg e:Expr}{td:TE}{apos my:Pos}
theorem Vw(he:PE X e td)(wQ:attributeBase e "values" X.env (eval e X.env)=eval e X.env:=by rfl)(wV:(apos.endLine==my.line)=true:=by rfl):PI X tg (.Call (.Attribute e "values" apos) [] [] my) (agn td):=by
  intro pins s σ H R I h;refine wpAny_Call_method (T:="dict") (id:="dict.values") wQ rfl wV F.plainAttrs_dict F.slot_dict_values F.type_dict_values (cy (he pins s σ H _ I h) fun u s1 ⟨x,H1,I1,rx,d,o,aB,ex,hd,q⟩=>?_);subst ex;obtain rfl:u=Value.ref d:=rx;obtain⟨hs,hgd,hx,es,ep,vs,OG,hsz,kv,hm⟩:=I1.UE hd;have hl:aB.length=vs.length:=Paired.length kv;refine⟨hm.dictOf.typeIs,hm.dictOf.mapOf.noDict,?_⟩;have I2:Inv X pins σ H1 { s1 with heap:=s1.heap.push { cls:=.type "dict_values",data:=.fields #[.ref d]}}:=I1.kept (t':=s1.toks) fun b ob q=>get?_push_of_some _ q;have fin:wpAny (model X.prog X.w) X.A (pyIter (.ref s1.heap.objs.size)) (PIE X pins σ tg R) X.xe { s1 with heap:=s1.heap.push { cls:=.type "dict_values",data:=.fields #[.ref d]}}:=by refine wpAny_pyIter_values (d:=d) (knd:=bw X.prog X.w) ⟨_,get?_push_size _ rfl,rfl,rfl⟩ (hm.push _) (Rl (tk:=s1.toks) I2 _ (Wg _ OG) ⟨_,get?_push_size _ rfl,rfl,?_⟩ q);rw[hl]<;>rfl
  show wpAny _ _ (callWith my (.builtin "dict.values") [.ref d] [] []) _ X.xe s1;exact method_meetsIn F.slot_dict_values F.entry_dict_values rfl (PySem.evalArgs_none ⟨rfl,hm.dictOf.typeIs,F.args_dict_values_1 _,_,meets_dict_values (bw X.prog X.w) d hs,⟨vs,hm.dictOf⟩,fin⟩)
theorem F9{elts:List Expr}{kk:Nat}{x8:Pos}(he:PE X e td)(wQ:attributeBase e "items" X.env (eval e X.env)=eval e X.env:=by rfl)(wV:(apos.endLine==my.line)=true:=by rfl):PI X (.Tuple elts kk x8) (.Call (.Attribute e "items" apos) [] [] my) (ad7 td):=by
  intro pins s σ H R I h;refine wpAny_Call_method (T:="dict") (id:="dict.items") wQ rfl wV F.plainAttrs_dict F.slot_dict_items F.type_dict_items (cy (he pins s σ H _ I h) fun u s1 ⟨x,H1,I1,rx,d,o,aB,ex,hd,q⟩=>?_);subst ex;obtain rfl:u=Value.ref d:=rx;obtain⟨hs,hgd,hx,es,ep,vs,OG,hsz,kv,hm⟩:=I1.UE hd;have hl:aB.length=vs.length:=Paired.length kv;refine⟨hm.dictOf.typeIs,hm.dictOf.mapOf.noDict,?_⟩;have I2:Inv X pins σ H1 { s1 with heap:=s1.heap.push { cls:=.type "dict_items",data:=.fields #[.ref d]}}:=I1.kept (t':=s1.toks) fun b ob q=>get?_push_of_some _ q;have fin:wpAny (model X.prog X.w) X.A (pyIter (.ref s1.heap.objs.size)) (PIE X pins σ (.Tuple elts kk x8) R) X.xe { s1 with heap:=s1.heap.push { cls:=.type "dict_items",data:=.fields #[.ref d]}}:=by refine wpAny_pyIter_items (d:=d) (knd:=bw X.prog X.w) ⟨_,get?_push_size _ rfl,rfl,rfl⟩ (hm.push _) (Rl (tk:=s1.toks) I2 _ (R5 _ OG) ⟨.none,.none,?_⟩ q);rw[hl];exact get?_push_size _ rfl
  show wpAny _ _ (callWith my (.builtin "dict.items") [.ref d] [] []) _ X.xe s1;exact method_meetsIn F.slot_dict_items F.entry_dict_items rfl (PySem.evalArgs_none ⟨rfl,hm.dictOf.typeIs,F.args_dict_items_1 _,_,meets_dict_items (bw X.prog X.w) d hs,⟨vs,hm.dictOf⟩,fin⟩)
end
def Ite(K:Frag)(a:Addr):It:=
  ⟨fun i H=>∃(xs:List V) (x:V),aN K H a xs/\xs[i]? =some x,fun i H v H'=>∃T x,v=.ref T/\H T=none/\H'=upd H T (.tup [.int (i:Nat),x])/\∀xs,aN K H a xs->xs[i]? =some x,fun i H=>∃xs:List V,aN K H a xs/\xs.length<=i⟩
theorem Wc{P:Program}{w:World}{K:Frag}{elts:List Expr}{kk:Nat}{x8:Pos}(a e it:Addr):Turn P w K (.Tuple elts kk x8) (Ite K a) [e,it] e (fun i h=>(∃old,IsEnum h e it ((i:Nat):Int) old)/\h.IsListIter it a i/\e≠it) where
  mem:=by simp
  obj:=fun i h st b hb=>by
    obtain⟨⟨old,he⟩,⟨o,ho,hc,hd⟩,_⟩:=st;have e':b=e\/b=it:=by simpa using hb
    rcases e' with z | z
    . rw[z];exact⟨_,he,fun v q=>nomatch q⟩
    . rw[z];exact⟨o,ho,fun v q=>by rw[hd]at q;cases q⟩
  keep:=fun i h h' st k=>let ⟨⟨old,he⟩,hi,eZ⟩:=st;⟨⟨old,k e (by simp) _ he⟩,hi.at fun o q=>k it (by simp) o q,eZ⟩
  item:=by
    intro X hP hw hK hc i pins s σ H E I hf st hg;subst hP hw hK;obtain⟨⟨old,he⟩,hit,eZ⟩:=st;obtain⟨xs,x,hq,hx⟩:=hg;obtain⟨aX,rv,p,hz⟩:=I.list hq;obtain⟨u,hu,ru⟩:=rv.get hx;have hel:e<s.heap.objs.size:=lt_size he;have hil:it<s.heap.objs.size:=by obtain⟨_,q,_⟩:=hit;exact lt_size q
    refine wpAny_pyNext_enum_item he hit p.isList (x:=u) (by simpa using hu) eZ fun h' ho adT hT hsz hk=>?_;refine⟨_,rfl,wpAny_letOwnedTupleGo_enum (s:={ s with heap:=h',toks:=s.toks+1}) ho fun GX Qc sb=>?_⟩;have hT2:GX.get? s.heap.objs.size=some { cls:=.type "tuple",data:=.seq #[.int i s.toks,u]}:=(sb.2 _ (ne_of_gt hel)).trans hT;have new:cJ X.prog X.w (upd H s.heap.objs.size (.tup [.int (i:Nat),x])) GX s.heap.objs.size (.tup [.int (i:Nat),x]):=
      ⟨by show 2<=sizeLine;decide,[.int i s.toks,u],.cons ⟨_,rfl⟩ (.cons ru .nil),⟨_,hT2,rfl,_,rfl⟩⟩
    have I1:Inv X pins σ (upd H s.heap.objs.size (.tup [.int (i:Nat),x])) { s with heap:=GX,toks:=s.toks+1}:=
      I.AO (ch:=[e,it]) (fun b ob hb q=>(sb.2 b (fun z=>hb (by simp[z]))).trans (hk b ob (fun z=>hb (by simp[z])) (fun z=>hb (by simp[z])) q)) hf (le_refl _) new
    refine⟨.ref s.heap.objs.size,_,I1,rfl,⟨_,x,rfl,I.bj.fresh (le_refl _),rfl,fun ys hy=>by rw[I.xc hy hq];exact hx⟩,⟨⟨u,?_⟩,adT.at fun o q=>(sb.2 it (Ne.symm eZ)).trans q,eZ⟩,fun b hb=>?_⟩
    . have e1:((i+1:Nat):Int)=(i:Int)+1:=by omega
      rw[e1];exact Qc
    . have GY:b<s.heap.objs.size:=by
        have e':b=e\/b=it:=by simpa using hb
        rcases e' with z | z
        . rw[z];exact hel
        . rw[z];exact hil
      rw[au (ne_of_lt GY)];exact(hf b hb).1
  done:=by intro X hP hw hK hc i pins s σ H E I hf st hg;subst hP hw hK;obtain⟨⟨old,he⟩,hit,eZ⟩:=st;obtain⟨xs,hq,hx⟩:=hg;obtain⟨aX,rv,p,hz⟩:=I.list hq;obtain⟨f0,f1,f2,f3,f4,f5⟩:=hf it (by simp);have hl:=rv.length;exact wpAny_pyNext_enum_end (I.ok.hd hc) he hit p.isList (by simp;omega) fun h' eb=>⟨rfl,I.turned (t':=s.toks) (fun b o hb q=>eb b o hb q) f0 f1 f3 f4 f5⟩
  self:=fun A i s Q E st h=>let ⟨⟨_,he⟩,_⟩:=st;wpAny_pyIter_enum he h
def agk(K:Frag)(ta:TA):TI:=fun σ H R=>ta σ H fun vs H1=>∃a xs,vs=[.ref a]/\aN K H1 a xs/\R (Ite K a) H1
theorem abL{X:Cx}{e:Expr}{ta:TA}{p pos x8:Pos}{elts:List Expr}{kk:Nat}(hg:Gl X "enumerate")(hm:X.mg "enumerate"=none)(ha:PA X [e] ta)(hs:starEach [e] X.env=[(false,eval e X.env)]:=by rfl):PI X (.Tuple elts kk x8) (.Call (.Name "enumerate" p) [e] [] pos) (agk X.K ta):=by
  intro pins s σ H R I h;refine Call_ (pE I hg hm boot_enumerate (PyProof.Rows.callWith_type1 (cy (ha pos pins s σ H _ I h) fun us s1 ⟨vs,H1,I1,r1,q1⟩=>?_) hs rfl));obtain⟨a,xs,ex,hq,q⟩:=q1;subst ex;cases r1 with
  | cons r rr=>
    cases rr;cases r;obtain⟨aX,rv,p',hz⟩:=I1.list hq;refine call_enumerate_list p'.isList fun h' he hit hsz hk=>wpAny_pyIter_enum he ?_;have I2:Inv X pins σ H1 { s1 with heap:=h'}:=I1.kept (t':=s1.toks) hk;refine⟨s1.heap.objs.size+1,[s1.heap.objs.size+1,s1.heap.objs.size],_,_,H1,rfl,I2,Wc a (s1.heap.objs.size+1) s1.heap.objs.size,⟨⟨.none,he⟩,hit,Nat.succ_ne_self _⟩,fun b hb=>?_,q⟩;have e':b=s1.heap.objs.size+1\/b=s1.heap.objs.size:=by simpa using hb
    have hle:s1.heap.objs.size<=b:=by
      rcases e' with z | z
      . rw[z];exact le_add_right _ _
      . rw[z];exact le_refl _
    exact I1.UC hle (I1.bj.fresh hle)
theorem Ud:bootBuiltins "zip"=some (.type "zip"):=by decide +kernel
def Itz(K:Frag)(a b:Addr):It:=
  ⟨fun i H=>∃(xs ys:List V) (x y:V),aN K H a xs/\aN K H b ys/\xs[i]? =some x/\ys[i]? =some y,
    fun i H v H'=>∃T x y,v=.ref T/\H T=none/\H'=upd H T (.tup [x,y])/\(∀xs,aN K H a xs->xs[i]? =some x)/\∀ys,aN K H b ys->ys[i]? =some y,
    fun i H=>∃xs ys:List V,aN K H a xs/\aN K H b ys/\(xs.length<=i\/ys.length<=i)⟩
theorem Zg{P:Program}{w:World}{K:Frag}{elts:List Expr}{kk:Nat}{x8:Pos}{a b z TI TO i1 i2:Addr}(D:ZipApart z TI TO i1 i2 a b):Turn P w K (.Tuple elts kk x8) (Itz K a b) [z,TI,TO,i1,i2] z (fun i h=>IsZip h z TI TO .none/\IsPair h TI (.ref i1) (.ref i2)/\(∃x y,IsPair h TO x y)/\h.IsListIter i1 a i/\h.IsListIter i2 b i) where
  mem:=by simp
  obj:=fun i h st c hc=>by
    obtain⟨hz,Hl,⟨x,y,LO⟩,⟨o1,e1,_,d1⟩,⟨o2,e2,_,d2⟩⟩:=st;have e':c=z\/c=TI\/c=TO\/c=i1\/c=i2:=by simpa using hc
    rcases e' with q | q | q | q | q
    . rw[q];exact⟨_,hz,fun v q=>nomatch q⟩
    . rw[q];exact⟨_,Hl,fun v q=>nomatch q⟩
    . rw[q];exact⟨_,LO,fun v q=>nomatch q⟩
    . rw[q];exact⟨o1,e1,fun v q=>by rw[d1]at q;cases q⟩
    . rw[q];exact⟨o2,e2,fun v q=>by rw[d2]at q;cases q⟩
  keep:=fun i h h' st k=>by obtain⟨hz,Hl,⟨x,y,LO⟩,h1,h2⟩:=st;exact⟨k z (by simp) _ hz,k TI (by simp) _ Hl,⟨x,y,k TO (by simp) _ LO⟩,h1.at fun o q=>k i1 (by simp) o q,h2.at fun o q=>k i2 (by simp) o q⟩
  item:=by
    intro X hP hw hK hc i pins s σ H E I hf st hg;subst hP hw hK;obtain⟨hz,Hl,⟨x0,y0,LO⟩,h1,h2⟩:=st;obtain⟨xs,ys,x,y,Dh,hqy,hx,hy⟩:=hg;obtain⟨aX,rv,p,_⟩:=I.list Dh;obtain⟨u9,rv2,p2,_⟩:=I.list hqy;obtain⟨u,hu,ru⟩:=rv.get hx;obtain⟨u2,E4,ru2⟩:=rv2.get hy;have hzl:z<s.heap.objs.size:=lt_size hz;refine wpAny_pyNext_zip_item D hz Hl LO h1 h2 p.isList p2.isList (x:=u) (y:=u2) (by simpa using hu) (by simpa using E4) fun h' z' TO' h1' h2' hT hsz hk=>?_;refine⟨_,rfl,wpAny_letOwnedTupleGo_zip (s:={ s with heap:=h'}) z' fun GX z'' sb=>?_⟩;have hT2:GX.get? s.heap.objs.size=some { cls:=.type "tuple",data:=.seq #[u,u2]}:=(sb.2 _ (ne_of_gt hzl)).trans hT;have new:cJ X.prog X.w (upd H s.heap.objs.size (.tup [x,y])) GX s.heap.objs.size (.tup [x,y]):=
      ⟨by show 2<=sizeLine;decide,[u,u2],.cons ru (.cons ru2 .nil),⟨_,hT2,rfl,_,rfl⟩⟩
    have I1:Inv X pins σ (upd H s.heap.objs.size (.tup [x,y])) { s with heap:=GX}:=
      I.AO (t':=s.toks) (ch:=[z,TI,TO,i1,i2]) (fun c o hb q=>(sb.2 c (fun q'=>hb (by simp[q']))).trans (hk c o (fun q'=>hb (by simp[q'])) (fun q'=>hb (by simp[q'])) (fun q'=>hb (by simp[q'])) (fun q'=>hb (by simp[q'])) q)) hf (le_refl _) new
    refine⟨.ref s.heap.objs.size,_,I1,rfl,⟨_,x,y,rfl,I.bj.fresh (le_refl _),rfl,fun l hl=>by rw[I.xc hl Dh];exact hx,fun l hl=>by rw[I.xc hl hqy];exact hy⟩,⟨z'',?_,⟨u,u2,?_⟩,?_,?_⟩,fun c hcm=>?_⟩
    . exact(sb.2 _ D.TIz).trans (hk _ _ D.TIz D.TITO D.TIi1 D.TIi2 Hl)
    . exact(sb.2 _ D.TOz).trans TO'
    . exact h1'.at fun o q=>(sb.2 _ D.i1z).trans q
    . exact h2'.at fun o q=>(sb.2 _ D.i2z).trans q
    . have dD:c<s.heap.objs.size:=by
        have e':c=z\/c=TI\/c=TO\/c=i1\/c=i2:=by simpa using hcm
        rcases e' with q | q | q | q | q
        . rw[q];exact hzl
        . rw[q];exact lt_size Hl
        . rw[q];exact lt_size LO
        . rw[q];obtain⟨_,e1,_⟩:=h1;exact lt_size e1
        . rw[q];obtain⟨_,e2,_⟩:=h2;exact lt_size e2
      rw[au (ne_of_lt dD)];exact(hf c hcm).1
  done:=by
    intro X hP hw hK hc i pins s σ H E I hf st hg;subst hP hw hK;obtain⟨hz,Hl,⟨x0,y0,LO⟩,h1,h2⟩:=st;obtain⟨xs,ys,Dh,hqy,E2⟩:=hg;obtain⟨aX,rv,p,_⟩:=I.list Dh;obtain⟨u9,rv2,p2,_⟩:=I.list hqy;have l1:=rv.length;have l2:=rv2.length;have he:aX.toArray[i]? =none\/u9.toArray[i]? =none:=by
      rcases E2 with q | q
      . exact .inl (by simp;omega)
      . exact .inr (by simp;omega)
    exact wpAny_pyNext_zip_end (I.ok.hd hc) D hz Hl LO h1 h2 p.isList p2.isList he fun h' hk=>⟨rfl,I.acC (t':=s.toks) (ch:=[z,TI,TO,i1,i2]) (fun c o hb q=>hk c o (fun q'=>hb (by simp[q'])) (fun q'=>hb (by simp[q'])) (fun q'=>hb (by simp[q'])) (fun q'=>hb (by simp[q'])) q) hf⟩
  self:=fun A i s Q E st h=>wpAny_pyIter_zip st.1 h
def ah6(K:Frag)(ta:TA):TI:=fun σ H R=>ta σ H fun vs H1=>∃a b xs ys,vs=[.ref a,.ref b]/\aN K H1 a xs/\aN K H1 b ys/\R (Itz K a b) H1
theorem Ga{X:Cx}{e e2:Expr}{ta:TA}{p pos x8:Pos}{elts:List Expr}{kk:Nat}(hg:Gl X "zip")(hm:X.mg "zip"=none)(ha:PA X [e,e2] ta)(hs:starEach [e,e2] X.env=(false,eval e X.env)::starEach [e2] X.env:=by rfl)(t6:(backTo pos (starEach [e2] X.env)).any (·.1)=false:=by rfl):PI X (.Tuple elts kk x8) (.Call (.Name "zip" p) [e,e2] [] pos) (ah6 X.K ta):=by
  intro pins s σ H R I h;refine Call_ (pE I hg hm Ud (PyProof.Rows.callWith_type1 (cy (ha pos pins s σ H _ I h) fun us s1 ⟨vs,H1,I1,r1,q1⟩=>?_) hs t6));obtain⟨a,b,xs,ys,ex,Dh,hqy,q⟩:=q1;subst ex;cases r1 with
  | cons r rr=>
    cases rr with
    | cons r' rr=>
      cases rr;cases r;cases r';obtain⟨aX,rv,p1,_⟩:=I1.list Dh;obtain⟨u9,rv2,p2,_⟩:=I1.list hqy;have la:a<s1.heap.objs.size:=p1.lt;have lb:b<s1.heap.objs.size:=p2.lt;refine call_zip_2 p1.isList p2.isList fun h' hz Hl LO h1 h2 hsz hk=>wpAny_pyIter_zip hz ?_;have I2:Inv X pins σ H1 { s1 with heap:=h'}:=I1.kept (t':=s1.toks) hk;refine⟨s1.heap.objs.size+4,[s1.heap.objs.size+4,s1.heap.objs.size+2,s1.heap.objs.size+3,s1.heap.objs.size,s1.heap.objs.size+1],_,_,H1,rfl,I2,Zg (ktu_apart s1.heap.objs.size a b la lb),⟨hz,Hl,⟨_,_,LO⟩,h1,h2⟩,fun c hcm=>?_,q⟩;have e':c=s1.heap.objs.size+4\/c=s1.heap.objs.size+2\/c=s1.heap.objs.size+3\/c=s1.heap.objs.size\/c=s1.heap.objs.size+1:=by simpa using hcm
      have hle:s1.heap.objs.size<=c:=by
        rcases e' with z | z | z | z | z
        . rw[z];exact le_add_right _ _
        . rw[z];exact le_add_right _ _
        . rw[z];exact le_add_right _ _
        . rw[z];exact le_refl _
        . rw[z];exact le_add_right _ _
      exact I1.UC hle (I1.bj.fresh hle)
end L2
section
namespace Bits
open PySem PyProof.Rows
theorem WJ{x y:Int}(hx:0<=x)(hy:0<=y):Builtin.bitOr x y=((x.toNat||| y.toNat:Nat):Int):=by have e:=nat_or_add_and x.toNat y.toNat;rw[bitOr_and,bitAnd_pp hx hy];omega
end Bits
end
namespace L2
open PySem PySem.Spec PyProof.Rows
def inClass(s:Stmt)(j:Nat):Stmt:=match s with
  | .ClassDef _ _ _ body _ _ _ _ _ _ _=>body.getD j (.Pass ⟨0,0,0,0⟩)
  | _=>.Pass ⟨0,0,0,0⟩
def wD(s:Stmt):Arguments:=match s with
  | .FunctionDef _ a _ _ _ _ _ _ _ _=>a
  | _=>{ posonlyargs:=[],args:=[],vararg:=none,kwonlyargs:=[],kw_defaults:=[],kwarg:=none,defaults:=[]}
def sQ(s:Stmt):List Stmt:=match s with
  | .FunctionDef _ _ b _ _ _ _ _ _ _=>b
  | _=>[]
def am(s:Stmt):Scope:=match s with
  | .FunctionDef _ _ _ _ _ _ sc _ _ _=>sc
  | _=>{ kind:=.function,names:=[],isGenerator:=false,isCoroutine:=false}
abbrev bo:Wj:=fun _ _ _ _ _ _=>False
abbrev E0:XK:=fun _ _ _=>False
theorem aI{X:Cx}:Passes bo X E0:=fun _ _ _ _ _ _ _ h=>h.elim
structure Fun(K:Frag)(x qual:Str)(st:Stmt)(f:Addr)(fd:FuncData):Prop where
  ex:∃(oc:Value) (od:Option Addr) (kV doc pm:Value) (an:Option Addr) (bP ct:Value) (LV:Array (Option Value)),
    fd=fnOf x qual (wD st) (sQ st) (am st) .none kV doc pm an bP ct/\K.lookup f=some ⟨oc,od,.func fd,LV⟩/\codeIn K bP qual=true
  kp:keepIn K (.ref f)=true
section
variable{P:Program}{w:World}{K:Frag}{mg:Str->Option Value}{base:Heap}
theorem Fun.ok{x qual:Str}{st:Stmt}{f:Addr}{fd:FuncData}{N ps:List Str}{k:Nat}{sp:Sp}(F:Fun K x qual st f fd)(S:aw N ps (am st))(len:∀vs H Q E,sp vs H Q E->vs.length=ps.length)(Xt:∀(bP:Value) (A:Around) (outer:List Env) (s:Shared) (H:Hp) (vs:List V) (Q:VK) (E:XK),gm k (A.deeper (envOfC qual (am st) s.heap.objs.size f bP))->sp vs H Q E->∃t,OF (Uq bo P w K mg base N qual (am st) f bP A outer s H E).nox (sQ st) t/\t { nx:=fun _ H'=>Q .dZ H',rt:=Q} (start N vs) H):ay P w K mg base bo (k+1) f fd ps sp:=by obtain⟨oc,od,kV,doc,pm,an,bP,ct,LV,rfl,lk,S5⟩:=F.ex;refine afG lk S5 S len fun A outer s H vs Q E hr Ta=>?_;obtain⟨t,h,q⟩:=Xt bP A outer s H vs Q E hr Ta;exact⟨t,h.nox,q⟩
theorem Fun.binds{x qual:Str}{st:Stmt}{f:Addr}{fd:FuncData}{ps:List Str}(F:Fun K x qual st f fd)(h:∀(kV doc pm:Value) (an:Option Addr) (bP ct:Value) (us:List Value),us.length=ps.length->bindArgs (fnOf x qual (wD st) (sQ st) (am st) .none kV doc pm an bP ct) ⟨us,[]⟩=pure (ps.zip us)):Binds K fd ps []:=by obtain⟨oc,od,kV,doc,pm,an,bP,ct,LV,rfl,lk,S5⟩:=F.ex;exact .all (h kV doc pm an bP ct)
theorem gH{x qual:Str}{st:Stmt}{f:Addr}{oc:Value}{od an:Option Addr}{LV:Array (Option Value)}{kV doc pm bP ct:Value}(l:K.lookup f=some ⟨oc,od,.func (fnOf x qual (wD st) (sQ st) (am st) .none kV doc pm an bP ct),LV⟩)(c:codeIn K bP qual=true)(k:keepIn K (.ref f)=true):Fun K x qual st f (fnOf x qual (wD st) (sQ st) (am st) .none kV doc pm an bP ct):=⟨⟨oc,od,kV,doc,pm,an,bP,ct,LV,rfl,l,c⟩,k⟩
end
theorem M5{A:Around}{k:Nat}(hr:gm k A):A.units+1<cLine:=Nat.lt_of_le_of_lt (Nat.add_le_add_left (by decide:1<=64) _) hr.units
section
variable{X:Cx}
theorem pv(i:Nat){x:Str}{pos:Pos}(hN:X.N[i]? =some x:=by rfl)(hv:Vis X.env.scope x:=by first | exact Or.inl rfl | exact Or.inr (Or.inl rfl) | exact Or.inr (Or.inr rfl))(hd:(x==("__debug__":Str))=false:=by decide)(S5:(x==("__classdict__":Str))=false:=by decide):PE X (.Name x pos) (acB i):=Yv hN hv hd S5
end
theorem cU{A B:Prop}(h:B):if false=true then A else B:=by rw[if_neg Bool.false_ne_true];exact h
theorem cx{A B:Prop}(h:A):if true=true then A else B:=by rw[if_pos rfl];exact h
def aA(H H':Hp):Prop:=∀b o,H b=some o->H' b=some o
theorem aA.refl(H:Hp):aA H H:=fun _ _ h=>h
theorem aA.trans{H H1 H2:Hp}(a:aA H H1)(b:aA H1 H2):aA H H2:=fun c o h=>b c o (a c o h)
theorem aA.free{H H':Hp}(e:aA H H'){l:Addr}(h:H' l=Option.none):H l=Option.none:=by
  cases q:H l with
  | none=>rfl
  | some o=>rw[e l o q]at h;cases h
theorem aA.seq{K:Frag}{H H':Hp}{a:Addr}{xs:List V}(e:aA H H')(h:aN K H a xs):aN K H' a xs:=by
  rcases h with(h | ⟨o,h⟩) | h
  . exact .inl (.inl (e _ _ h))
  . exact .inl (.inr ⟨o,e _ _ h⟩)
  . exact .inr h
section
variable{κ:Type}[DecidableEq κ]
theorem acE{aB:List (κ×V)}{k:κ}{v:V}(h:sE aB k=some v):k∈aB.map (·.1):=by
  have q:(aB.any fun kv=>decide (kv.1=k))=true:=by rw[ya,h];all_goals rfl
  obtain⟨p,hp,e⟩:=any_eq_true.mp q;exact mem_map.mpr ⟨p,hp,of_decide_eq_true e⟩
end
theorem aA.made{H H1:Hp}{x dx C:Addr}(nx:H x=Option.none)(nd:H dx=Option.none)(k:∀b o,(upd (upd H dx (.own x)) x (.ins C dx [])) b=some o->b≠x->H1 b=some o):aA H H1:=fun b o e=>k b o (by rw[au (aM e nx),au (aM e nd)];exact e) (aM e nx)
end L2
section
set_option maxHeartbeats 2000000
namespace L2
open PySem PySem.Spec PyProof.Rows
open PySem.W (WData Codec OpenSpec Well WellAll ReadsW ReadsAllW)
mutual
inductive Dw(K:Frag)(H:Hp):V->WData->Prop
  | dZ:Dw K H .dZ .none
  | bl (b:Bool):Dw K H (.bl b) (.bool b)
  | int (i:Int):Dw K H (.int i) (.int i)
  | str (x:Str):Dw K H (.str x) (.str x)
  | JM (b:Array UInt8):Dw K H (.JM b) (.bytes b.toList)
  | lst {a:Addr} {xs:List V} {ds:List WData}:aN K H a xs->pX K H xs ds->Dw K H (.ref a) (.list ds)
  | tup {a:Addr} {xs:List V} {ds:List WData}:mT K H a xs->pX K H xs ds->Dw K H (.ref a) (.tuple ds)
inductive pX(K:Frag)(H:Hp):List V->List WData->Prop
  | nil:pX K H [] []
  | cons {v:V} {vs:List V} {d:WData} {ds:List WData}:Dw K H v d->pX K H vs ds->pX K H (v::vs) (d::ds)
end
theorem SK{K:Frag}{H:Hp}:∀ns:List Int,pX K H (ns.map V.int) (ns.map WData.int)
  | []=>.nil
  | n::r=>.cons (.int n) (SK r)
theorem Tb{K:Frag}{H:Hp}:∀(ns:List Int) (xs:List V),pX K H xs (ns.map WData.int)->xs=ns.map V.int
  | [],xs,h=>by cases h;rfl
  | n::r,xs,h=>by
    cases h with
    | cons h1 h2=>cases h1;rw[Tb r _ h2]<;>rfl
section
variable{P:Program}{w:World}{K:Frag}{H:Hp}{h:Heap}{R:WRecords}{cl:Str->Option Addr}
theorem afb{a:Addr}{xs:List V}(bj:qt P w H h)(KX:K.In h)(q:aN K H a xs):∃(aX:List Value) (o:Obj) (n:Nat),Vals xs aX/\h.get? a=some o/\o.cls=.type "list"/\o.data=.seq aX.toArray n:=by
  rcases q with q | ⟨o,aX,n,e,hc,_,hd,_,hv⟩
  . obtain⟨_,aX,n,hv,e⟩:=(show cJ P w H h a (.lst xs) from q.ok bj);exact⟨aX,_,n,hv,e,rfl,rfl⟩
  . exact⟨aX.toList,o,n,hv,KX _ _ e,hc,by simp[hd]⟩
theorem afc{a:Addr}{xs:List V}(bj:qt P w H h)(KX:K.In h)(q:mT K H a xs):∃(aX:List Value) (o:Obj) (n:Nat),Vals xs aX/\h.get? a=some o/\o.cls=.type "tuple"/\o.data=.seq aX.toArray n:=by
  rcases q with q | ⟨o,aX,n,e,hc,hd,_,hv⟩
  . obtain⟨_,aX,hv,o,e,hc,n,hd⟩:=(show cJ P w H h a (.tup xs) from q.ok bj);exact⟨aX,o,n,hv,e,hc,hd⟩
  . exact⟨aX.toList,o,n,hv,KX _ _ e,hc,by simp[hd]⟩
mutual
theorem Dw.reads(bj:qt P w H h)(KX:K.In h):∀(d:WData) (v:V) (u:Value),Dw K H v d->RelV v u->∃as,ReadsW R cl h u d as
  | .none,_,_,x,r=>by cases x;cases r;exact⟨_,ReadsW.none⟩
  | .bool b,_,_,x,r=>by cases x;cases r;exact⟨_,ReadsW.bool b⟩
  | .int i,_,_,x,r=>by cases x;obtain⟨t,rfl⟩:=r;exact⟨_,ReadsW.int i t⟩
  | .str s,_,_,x,r=>by cases x;obtain⟨t,rfl⟩:=r;exact⟨_,ReadsW.str s t⟩
  | .bytes b,_,_,x,r=>by cases x;obtain⟨t,rfl⟩:=r;exact⟨_,ReadsW.bytes _ t⟩
  | .list ds,_,_,x,r=>by
    cases x with
    | lst hs ha=>cases r;obtain⟨aX,o,n,rv,ho,hc,hd⟩:=afb bj KX hs;obtain⟨as,hr⟩:=Dw.readsAll bj KX ds _ aX ha rv;exact⟨_,ReadsW.list ho hc hd hr⟩
  | .tuple ds,_,_,x,r=>by
    cases x with
    | tup hs ha=>cases r;obtain⟨aX,o,n,rv,ho,hc,hd⟩:=afc bj KX hs;obtain⟨as,hr⟩:=Dw.readsAll bj KX ds _ aX ha rv;exact⟨_,ReadsW.tuple ho hc hd hr⟩
  | .float _,_,_,x,_=>by cases x
  | .dict _,_,_,x,_=>by cases x
  | .bytearray _,_,_,x,_=>by cases x
  | .set _,_,_,x,_=>by cases x
  | .frozenset _,_,_,x,_=>by cases x
  | .obj _ _,_,_,x,_=>by cases x
theorem Dw.readsAll(bj:qt P w H h)(KX:K.In h):∀(ds:List WData) (vs:List V) (us:List Value),pX K H vs ds->Vals vs us->∃as,ReadsAllW R cl h us ds as
  | [],_,_,x,r=>by cases x;cases r;exact⟨_,ReadsAllW.nil⟩
  | d::ds,_,_,x,r=>by
    cases x with
    | cons h1 h2=>
      cases r with
      | cons r1 r2=>obtain⟨as,q1⟩:=Dw.reads bj KX d _ _ h1 r1;obtain⟨bs,q2⟩:=Dw.readsAll bj KX ds _ _ h2 r2;exact⟨_,ReadsAllW.cons q1 q2⟩
end
end
mutual
def Tq:WData->Bool
  | .none=>true
  | .bool _=>true
  | .int _=>true
  | .str _=>true
  | .bytes _=>true
  | .list xs=>CG xs
  | .tuple xs=>CG xs
  | _=>false
def CG:List WData->Bool
  | []=>true
  | x::r=>Tq x&&CG r
end
theorem NO{α:Type}{f:α->WData}(h:∀a,Tq (f a)=true):∀l:List α,CG (l.map f)=true
  | []=>rfl
  | x::r=>by show(Tq (f x)&&CG (r.map f))=true;rw[h x,NO h r]<;>rfl
theorem rX:∀(c:Codec) (a:c.denote),Tq (c.enc a)=true
  | .unit,_=>rfl
  | .bool,_=>rfl
  | .int _ _,_=>rfl
  | .nat _ _,_=>rfl
  | .u8,_=>rfl
  | .bytes _ _,_=>rfl
  | .text _ _ _ _,_=>rfl
  | .list _ _ c,a=>NO (fun x=>rX c x) a
  | .pair c d,a=>by show(Tq (c.enc a.1)&&(Tq (d.enc a.2)&&true))=true;rw[rX c a.1,rX d a.2]<;>rfl
  | .triple c d e,a=>by show(Tq (c.enc a.1)&&(Tq (d.enc a.2.1)&&(Tq (e.enc a.2.2)&&true)))=true;rw[rX c a.1,rX d a.2.1,rX e a.2.2]<;>rfl
  | .option c,none=>rfl
  | .option c,some x=>rX c x
theorem Jd:∀(cs:List Codec) (a:Codec.denoteAll cs),CG (Codec.encAll cs a)=true
  | [],_=>rfl
  | c::cs,a=>by show(Tq (c.enc a.1)&&CG (Codec.encAll cs a.2))=true;rw[rX c a.1,Jd cs a.2]<;>rfl
theorem v0:∀{xs:List WData} {d:WData},d∈xs->d.weight<=WData.weightAll xs
  | [],d,h=>absurd h (by simp)
  | x::r,d,h=>by
    show d.weight<=x.weight+1+WData.weightAll r;rcases mem_cons.mp h with e | m
    . rw[e];omega
    . have z:=v0 m;omega
def toV:Value->V
  | .none=>.dZ
  | .bool b=>.bl b
  | .int i _=>.int i
  | .str x _=>.str x
  | .bytes b _=>.JM b
  | .ref a=>.ref a
  | _=>.dZ
def T3(A:List Addr):Value->Prop
  | .none=>True
  | .bool _=>True
  | .int _ _=>True
  | .str _ _=>True
  | .bytes _ _=>True
  | .ref a=>a∈A
  | _=>False
theorem T3.mono{A B:List Addr}(h:∀a∈A,a∈B):∀{u:Value},T3 A u->T3 B u:=fun {u} x=>by
  cases u with
  | ref a=>exact h a x
  | none=>trivial
  | bool b=>trivial
  | int i t=>trivial
  | str s t=>trivial
  | bytes b t=>trivial
  | _=>exact False.elim x
theorem YE{A:List Addr}{u:Value}(x:T3 A u):RelV (toV u) u:=by
  cases u with
  | ref a=>rfl
  | none=>rfl
  | bool b=>rfl
  | int i t=>exact⟨t,rfl⟩
  | str s t=>exact⟨t,rfl⟩
  | bytes b t=>exact⟨t,rfl⟩
  | _=>exact False.elim x
theorem oH{A:List Addr}:∀{vs:List Value},(∀u∈vs,T3 A u)->Vals (vs.map toV) vs
  | [],_=>.nil
  | u::r,h=>.cons (YE (h u (mem_cons_self ..))) (oH fun x hx=>h x (mem_cons_of_mem _ hx))
def pW(h:Heap)(A:List Addr)(a:Addr):Prop:=∃vs:List Value,vs.length<=sizeLine/\(∀u∈vs,T3 A u)/\
  (h.get? a=some { cls:=.type "list",data:=.seq vs.toArray}\/h.get? a=some { cls:=.type "tuple",data:=.seq vs.toArray})
theorem pW.mono{h:Heap}{A B:List Addr}{a:Addr}(k:∀a∈A,a∈B)(x:pW h A a):pW h B a:=by obtain⟨vs,h1,h2,h3⟩:=x;exact⟨vs,h1,fun u hu=>(h2 u hu).mono k,h3⟩
theorem mQ{P:Params}{h:Heap}:∀{vs:List Value} {ds:List WData},WellAll P h vs ds->vs.length=ds.length
  | _,_,.nil=>rfl
  | _,_,.cons _ b=>by show _+1=_+1;rw[mQ b]
theorem Jq{P:Params}{h:Heap}{v:Value}{ds:List WData}(x:Well P h v (.list ds)):∃(a:Addr) (vs:List Value),v=.ref a/\h.get? a=some { cls:=.type "list",data:=.seq vs.toArray}/\WellAll P h vs ds:=by
  cases x with
  | list ho rm=>exact⟨_,_,rfl,ho,rm⟩
theorem GS{P:Params}{h:Heap}{v:Value}{ds:List WData}(x:Well P h v (.tuple ds)):∃(a:Addr) (vs:List Value),v=.ref a/\h.get? a=some { cls:=.type "tuple",data:=.seq vs.toArray}/\WellAll P h vs ds:=by
  cases x with
  | tuple ho rm=>exact⟨_,_,rfl,ho,rm⟩
theorem Jp{P:Params}{h:Heap}{us:List Value}{d:WData}{ds:List WData}(x:WellAll P h us (d::ds)):∃(v:Value) (vs:List Value),us=v::vs/\Well P h v d/\WellAll P h vs ds:=by
  cases x with
  | cons a b=>exact⟨_,_,rfl,a,b⟩
theorem Tf{n:Nat}(h:n<=1048576):n<=sizeLine:=le_trans h (by decide)
section
variable{P:Params}{h:Heap}
mutual
theorem WI:∀(d:WData) (v:Value),Well P h v d->Tq d=true->d.weight<=1048576->∃A:List Addr,T3 A v/\∀a∈A,pW h A a
  | .none,_,x,_,_=>by cases x;exact⟨[],trivial,fun a m=>absurd m (by simp)⟩
  | .bool b,_,x,_,_=>by cases x;exact⟨[],trivial,fun a m=>absurd m (by simp)⟩
  | .int i,_,x,_,_=>by cases x;exact⟨[],trivial,fun a m=>absurd m (by simp)⟩
  | .str s,_,x,_,_=>by cases x;exact⟨[],trivial,fun a m=>absurd m (by simp)⟩
  | .bytes b,_,x,_,_=>by cases x;exact⟨[],trivial,fun a m=>absurd m (by simp)⟩
  | .list ds,_,x,p,z=>by
    obtain⟨a,vs,rfl,ho,rm⟩:=Jq x;have z2:WData.weightAll ds<=1048576:=z;obtain⟨A,h1,h2⟩:=wa ds _ rm p fun d hd=>le_trans (v0 hd) z2;have k:∀b∈A,b∈a::A:=fun b hb=>mem_cons_of_mem _ hb;refine⟨a::A,mem_cons_self ..,fun b hb=>?_⟩;rcases mem_cons.mp hb with e | m
    . rw[e];exact⟨vs,Tf (by rw[mQ rm];exact le_trans (PySem.W.length_le_weightAllW ds) z2),fun u hu=>(h1 u hu).mono k,.inl ho⟩
    . exact(h2 b m).mono k
  | .tuple ds,_,x,p,z=>by
    obtain⟨a,vs,rfl,ho,rm⟩:=GS x;have z2:WData.weightAll ds<=1048576:=z;obtain⟨A,h1,h2⟩:=wa ds _ rm p fun d hd=>le_trans (v0 hd) z2;have k:∀b∈A,b∈a::A:=fun b hb=>mem_cons_of_mem _ hb;refine⟨a::A,mem_cons_self ..,fun b hb=>?_⟩;rcases mem_cons.mp hb with e | m
    . rw[e];exact⟨vs,Tf (by rw[mQ rm];exact le_trans (PySem.W.length_le_weightAllW ds) z2),fun u hu=>(h1 u hu).mono k,.inr ho⟩
    . exact(h2 b m).mono k
  | .float _,_,_,p,_=>Bool.noConfusion (show false=true from p)
  | .dict _,_,_,p,_=>Bool.noConfusion (show false=true from p)
  | .bytearray _,_,_,p,_=>Bool.noConfusion (show false=true from p)
  | .set _,_,_,p,_=>Bool.noConfusion (show false=true from p)
  | .frozenset _,_,_,p,_=>Bool.noConfusion (show false=true from p)
  | .obj _ _,_,_,p,_=>Bool.noConfusion (show false=true from p)
theorem wa:∀(ds:List WData) (vs:List Value),WellAll P h vs ds->CG ds=true->(∀d∈ds,d.weight<=1048576)->∃A:List Addr,(∀u∈vs,T3 A u)/\∀a∈A,pW h A a
  | [],_,x,_,_=>by cases x;exact⟨[],fun u m=>absurd m (by simp),fun a m=>absurd m (by simp)⟩
  | d::ds,_,x,p,z=>by
    obtain⟨v,vs,rfl,x1,x2⟩:=Jp x;have q:Tq d=true/\CG ds=true:=Bool.and_eq_true_iff.mp p;obtain⟨A,a1,a2⟩:=WI d v x1 q.1 (z d (mem_cons_self ..));obtain⟨B,b1,b2⟩:=wa ds vs x2 q.2 fun e he=>z e (mem_cons_of_mem _ he);have kA:∀b∈A,b∈A++B:=fun b hb=>mem_append.mpr (.inl hb);have kB:∀b∈B,b∈A++B:=fun b hb=>mem_append.mpr (.inr hb);refine⟨A++B,fun u hu=>?_,fun b hb=>?_⟩
    . rcases mem_cons.mp hu with e | m
      . rw[e];exact a1.mono kA
      . exact(b1 u m).mono kB
    . rcases mem_append.mp hb with m | m
      . exact(a2 b m).mono kA
      . exact(b2 b m).mono kB
end
end
def aaC(o:Obj):Option HO:=match o.data with
  | .seq vs _=>if (o.cls==Value.type "list")=true then some (.gG o (.lst (vs.toList.map toV))) else some (.gG o (.tup (vs.toList.map toV)))
  | _=>none
def oQ(K:Frag)(h:Heap)(A:List Addr):Hp:=fun b=>if b∈A then (if (K.lookup b).isNone=true then (h.get? b).bind aaC else none) else none
def L7(H:Hp):Prop:=∀b,H b=none\/∃o u,H b=some (.gG o u)
theorem M0(vs:List Value):aaC { cls:=.type "list",data:=.seq vs.toArray}=some (.gG { cls:=.type "list",data:=.seq vs.toArray} (.lst (vs.map toV))):=by show(if (Value.type "list"==Value.type "list")=true then some (HO.gG { cls:=.type "list",data:=.seq vs.toArray} (.lst (vs.toArray.toList.map toV))) else some (HO.gG { cls:=.type "list",data:=.seq vs.toArray} (.tup (vs.toArray.toList.map toV))))=_;rw[if_pos (beq_self_eq_true _)]
theorem M1(vs:List Value):aaC { cls:=.type "tuple",data:=.seq vs.toArray}=some (.gG { cls:=.type "tuple",data:=.seq vs.toArray} (.tup (vs.map toV))):=by show(if (Value.type "tuple"==Value.type "list")=true then some (HO.gG { cls:=.type "tuple",data:=.seq vs.toArray} (.lst (vs.toArray.toList.map toV))) else some (HO.gG { cls:=.type "tuple",data:=.seq vs.toArray} (.tup (vs.toArray.toList.map toV))))=_;rw[if_neg (by decide)]
section
variable{P:Program}{w:World}{K:Frag}{h:Heap}{A:List Addr}
theorem C4{b:Addr}{o:Obj}(hb:b∈A)(hk:K.lookup b=none)(e:h.get? b=some o):oQ K h A b=aaC o:=by unfold oQ;rw[if_pos hb,hk,if_pos (show(none:Option Obj).isNone=true from rfl),e]<;>rfl
theorem abq{b:Addr}{u:HO}(q:oQ K h A b=some u):b∈A/\K.lookup b=none:=by
  unfold oQ at q;by_cases hb:b∈A
  . rw[if_pos hb]at q;cases hk:K.lookup b with
    | none=>exact⟨hb,rfl⟩
    | some o=>rw[hk,if_neg (by simp)]at q;cases q
  . rw[if_neg hb]at q;cases q
theorem C5(ar:∀a∈A,pW h A a){b:Addr}{u:HO}(q:oQ K h A b=some u):K.lookup b=none/\∃vs:List Value,vs.length<=sizeLine/\(∀u∈vs,T3 A u)/\((h.get? b=some { cls:=.type "list",data:=.seq vs.toArray}/\u=.gG { cls:=.type "list",data:=.seq vs.toArray} (.lst (vs.map toV)))\/(h.get? b=some { cls:=.type "tuple",data:=.seq vs.toArray}/\u=.gG { cls:=.type "tuple",data:=.seq vs.toArray} (.tup (vs.map toV)))):=by
  obtain⟨hb,hk⟩:=abq q;obtain⟨vs,h1,h2,h3⟩:=ar b hb;refine⟨hk,vs,h1,h2,?_⟩;rcases h3 with e | e
  . rw[C4 hb hk e,M0]at q;exact .inl ⟨e,(Option.some.inj q).symm⟩
  . rw[C4 hb hk e,M1]at q;exact .inr ⟨e,(Option.some.inj q).symm⟩
theorem Ub(ar:∀a∈A,pW h A a):L7 (oQ K h A):=fun b=>by
  cases q:oQ K h A b with
  | none=>exact .inl rfl
  | some u=>
    obtain⟨_,vs,_,_,⟨_,e⟩ | ⟨_,e⟩⟩:=C5 ar q
    . exact .inr ⟨_,_,by rw[e]⟩
    . exact .inr ⟨_,_,by rw[e]⟩
theorem Z7(ar:∀a∈A,pW h A a):qt P w (oQ K h A) h:=fun b u q=>by
  obtain⟨_,vs,h1,h2,⟨e,rfl⟩ | ⟨e,rfl⟩⟩:=C5 ar q
  . exact⟨e,by rw[length_map];exact h1,vs,_,oH h2,e⟩
  . exact⟨e,by rw[length_map];exact h1,vs,oH h2,_,e,rfl,_,rfl⟩
theorem Dt{c c':Value}{vs us:List Value}(e:(some { cls:=c,data:=.seq vs.toArray}:Option Obj)=some { cls:=c',data:=.seq us.toArray}):c=c'/\vs=us:=by have e1:=Option.some.inj e;have e2:c=c':=congrArg Obj.cls e1;have e3:Data.seq vs.toArray=Data.seq us.toArray:=congrArg Obj.data e1;injection e3 with e4;refine⟨e2,?_⟩;have e5:=congrArg Array.toList e4;simpa using e5
theorem ahi(KX:K.In h)(ar:∀a∈A,pW h A a){a:Addr}{vs:List Value}(ha:a∈A)(e:h.get? a=some { cls:=.type "list",data:=.seq vs.toArray}):(∀u∈vs,T3 A u)/\aN K (oQ K h A) a (vs.map toV):=by
  obtain⟨us,h1,h2,h3⟩:=ar a ha;have hu:us=vs:=by
    rcases h3 with q | q
    . rw[e]at q;exact(Dt q).2.symm
    . rw[e]at q;exact absurd (Value.type.inj (Dt q).1) (by decide)
  subst hu;refine⟨h2,?_⟩;cases hk:K.lookup a with
  | none=>exact .inl (.inr ⟨_,by rw[C4 ha hk e,M0]⟩)
  | some o=>have e2:=KX a o hk;rw[e]at e2;obtain rfl:=Option.some.inj e2;exact .inr ⟨_,us.toArray,_,hk,rfl,rfl,rfl,by rw[size_toArray];exact h1,by simpa using oH h2⟩
theorem ahj(KX:K.In h)(ar:∀a∈A,pW h A a){a:Addr}{vs:List Value}(ha:a∈A)(e:h.get? a=some { cls:=.type "tuple",data:=.seq vs.toArray}):(∀u∈vs,T3 A u)/\mT K (oQ K h A) a (vs.map toV):=by
  obtain⟨us,h1,h2,h3⟩:=ar a ha;have hu:us=vs:=by
    rcases h3 with q | q
    . rw[e]at q;exact absurd (Value.type.inj (Dt q).1) (by decide)
    . rw[e]at q;exact(Dt q).2.symm
  subst hu;refine⟨h2,?_⟩;cases hk:K.lookup a with
  | none=>exact .inl (.inr ⟨_,by rw[C4 ha hk e,M1]⟩)
  | some o=>have e2:=KX a o hk;rw[e]at e2;obtain rfl:=Option.some.inj e2;exact .inr ⟨_,us.toArray,_,hk,rfl,rfl,by rw[size_toArray];exact h1,by simpa using oH h2⟩
mutual
theorem adJ{Pm:Params}(KX:K.In h)(ar:∀a∈A,pW h A a):∀(d:WData) (v:Value),Well Pm h v d->Tq d=true->T3 A v->Dw K (oQ K h A) (toV v) d
  | .none,_,x,_,_=>by cases x;exact .dZ
  | .bool b,_,x,_,_=>by cases x;exact .bl b
  | .int i,_,x,_,_=>by cases x;exact .int i
  | .str s,_,x,_,_=>by cases x;exact .str s
  | .bytes b,_,x,_,_=>by cases x;have z:=Dw.JM (K:=K) (H:=oQ K h A) b.toArray;exact z
  | .list ds,_,x,p,hu=>by obtain⟨a,vs,rfl,ho,rm⟩:=Jq x;obtain⟨h2,hs⟩:=ahi KX ar hu ho;exact .lst hs (J4 KX ar ds _ rm p h2)
  | .tuple ds,_,x,p,hu=>by obtain⟨a,vs,rfl,ho,rm⟩:=GS x;obtain⟨h2,hs⟩:=ahj KX ar hu ho;exact .tup hs (J4 KX ar ds _ rm p h2)
  | .float _,_,_,p,_=>Bool.noConfusion (show false=true from p)
  | .dict _,_,_,p,_=>Bool.noConfusion (show false=true from p)
  | .bytearray _,_,_,p,_=>Bool.noConfusion (show false=true from p)
  | .set _,_,_,p,_=>Bool.noConfusion (show false=true from p)
  | .frozenset _,_,_,p,_=>Bool.noConfusion (show false=true from p)
  | .obj _ _,_,_,p,_=>Bool.noConfusion (show false=true from p)
theorem J4{Pm:Params}(KX:K.In h)(ar:∀a∈A,pW h A a):∀(ds:List WData) (vs:List Value),WellAll Pm h vs ds->CG ds=true->(∀u∈vs,T3 A u)->pX K (oQ K h A) (vs.map toV) ds
  | [],_,x,_,_=>by cases x;exact .nil
  | d::ds,_,x,p,hu=>by obtain⟨v,vs,rfl,x1,x2⟩:=Jp x;have q:Tq d=true/\CG ds=true:=Bool.and_eq_true_iff.mp p;exact .cons (adJ KX ar d v x1 q.1 (hu _ (mem_cons_self ..))) (J4 KX ar ds vs x2 q.2 fun u m=>hu u (mem_cons_of_mem _ m))
end
end
theorem V6{P:Program}{w:World}{K:Frag}{mg mb:Str->Option Value}{CX:Wj}{k:Nat}{fa:Addr}{fd:FuncData}{ps:List Str}{sp:Sp}{s₁:Shared}{vals:List Value}{ds:List WData}{R:WRecords}{cl:Str->Option Addr}{d0:WData}(KX:K.In s₁.heap)(hns:s₁.heap.Ns mainGlobals mg)(hb:s₁.heap.Ns builtinsNs mb)(hbb:∀x:Str,x≠"__name__"->mb x=bootBuiltins x)(ahJ:s₁.heap.NoLimit)(hg:s₁.gens= #[])(hwl:WellAll w.params s₁.heap vals ds)(t6:CG ds=true)(hwt:∀d∈ds,d.weight<=1048576)(hr:gm k callerA)(F:∀base:Heap,K.In base->base.Ns mainGlobals mg->ay P w K mg base CX k fa fd ps sp)(afT:∀(s:Shared) (us:List Value),us.length=ps.length->BindsTo s fd ⟨us,[]⟩ (ps.zip us))(hlen:ds.length=ps.length)(Ta:∀(H:Hp) (xs:List V),L7 H->pX K H xs ds->sp xs H (fun v H'=>Dw K H' v d0) fun _ _ _=>False)(hCX:∀H e s',CX [] H s₁ (fun _ _ _=>False) e s'->False):codeAny (model P w) callerA (.call (.ref fa) ⟨vals,[]⟩) (fun r s'=>∃u as,r=.ok (.ret u)/\ReadsW R cl s'.heap u d0 as/\OldK s₁.heap s'.heap/\s'.os=s₁.os/\AllBare s'.gens) s₁:=by
  obtain⟨A,ho,ar⟩:=wa ds vals hwl t6 hwt;have hO:L7 (oQ K s₁.heap A):=Ub ar;have bj:qt P w (oQ K s₁.heap A) s₁.heap:=Z7 ar;have hS:=J4 KX ar ds vals hwl t6 ho;have hV:=oH ho;have hK:∀b u,oQ K s₁.heap A b=some u->K.lookup b=none:=fun b u q=>(C5 ar q).1;have noA:∀{b:Addr} {o:Obj} {es:Array DictEntry} {ep:Nat},s₁.heap.get? b=some o->o.data=.dict es ep->oQ K s₁.heap A b=none:=fun {b o es ep} e d=>by
    cases q:oQ K s₁.heap A b with
    | none=>rfl
    | some u=>
      obtain⟨_,vs,_,_,⟨e2,_⟩ | ⟨e2,_⟩⟩:=C5 ar q
      . rw[e2]at e;cases e;have d':Data.seq vs.toArray _=Data.dict es ep:=d;cases d'
      . rw[e2]at e;cases e;have d':Data.seq vs.toArray _=Data.dict es ep:=d;cases d'
  generalize oQ K s₁.heap A=H at hO bj hS hK noA;have Sl:∀{b:Addr} {o:Obj},s₁.heap.get? b=some o->H b=none->(Kr s₁.heap H).get? b=some o:=fun e n=>Xx e n;have nsK:∀{b:Addr} {m:Str->Option Value},s₁.heap.Ns b m->(Kr s₁.heap H).Ns b m:=fun {b m} ⟨o,es,ep,e,d,r⟩=>⟨o,es,ep,Sl e (noA e d),d,r⟩;have nK:∀b o,K.lookup b=some o->H b=none:=fun b o e=>by
    cases q:H b with
    | none=>rfl
    | some u=>rw[hK b u q]at e;cases e
  have hKb:K.In (Kr s₁.heap H):=fun b o e=>Sl (KX b o e) (nK b o e);have hM:Mod K mg (Kr s₁.heap H):=⟨hKb,nsK hns,⟨mb,nsK hb,hbb⟩,let ⟨mc,h1,h2⟩:=ahJ;⟨mc,nsK h1,h2⟩⟩;have e0:OM P w K mg (Kr s₁.heap H) callerA [] s₁ H:=⟨rfl,hM,fun b o e=>abr e,le_of_eq (UL _ _),trivial,fun b hb=>absurd (show b∈([]:List Addr) from hb) (by simp),bj,.of_eq hg⟩;have hl:vals.length=ps.length:=by rw[mQ hwl];exact hlen
  refine codeAny_mono ((F _ hKb (nsK hns)).run callerA [] s₁ H ⟨vals,[]⟩ vals (vals.map toV) _ _ hr e0 (afT s₁ vals hl) hV (Ta H _ hO hS)) fun r s' x=>?_;cases r with
  | error e=>exact(hCX H e s' x).elim
  | ok fl=>
    cases fl with
    | next=>exact False.elim x
    | brk=>exact False.elim x
    | cont=>exact False.elim x
    | ret u=>
      obtain⟨v,H',os,bare,un,af8,r',q⟩:=x;have kept:∀b o,s₁.heap.get? b=some o->s'.heap.get? b=some o:=fun b o e=>by
        cases q2:H b with
        | none=>exact un.keep b o e q2 (by intro z;exact absurd (show b∈([]:List Addr) from z) (by simp)) (by simp)
        | some u2=>
          rcases hO b with z | ⟨ob,u3,z⟩
          . rw[q2]at z;cases z
          . have z2:=un.EX b ob _ z;obtain⟨e1,_⟩:=bj b _ z;obtain⟨e2,_⟩:=af8 b _ z2;rw[e]at e1;cases e1;exact e2
      have KX':K.In s'.heap:=fun b o e=>kept b o (KX b o e);obtain⟨as,hrd⟩:=Dw.reads (R:=R) (cl:=cl) af8 KX' d0 v u q r';exact⟨u,as,rfl,hrd,OldK.of_keep kept,os,bare⟩
theorem Fv{ds:List WData}(h:WData.layableAll ds=true):∀d∈ds,d.weight<=1048576:=fun d hd=>(PySem.W.layableW_iff.mp (all_eq_true.mp h d hd)).2.2
theorem EL:∀(cs:List Codec) (a:Codec.denoteAll cs),(Codec.encAll cs a).length=cs.length
  | [],_=>rfl
  | c::cs,a=>by show(Codec.encAll cs a.2).length+1=cs.length+1;rw[EL cs a.2]
theorem Wh{r:OpenSpec}{k:Nat}{q:Program}{loose:List Str}{XP:(Str->Option Value)->Heap->Prop}{YP:World->Heap->Prop}{d:DefRec}{K:Params->Frag}{CX:World->Wj}{ps:List Str}{sp:World->Sp}(XI:r.wellSaid=true)(hdf:d.params.defaults=[])(hlen:r.args.length=ps.length)(hr:gm k callerA)(hY:∀(w:World) (h:Heap),YP w h->(K w.params).In h)(F:∀(w:World) (mg:Str->Option Value) (fa:Addr) (h:Heap),YP w h->(K w.params).In h->h.Ns mainGlobals mg->mg d.name=some (.ref fa)->∃fd:FuncData,(∀(s:Shared) (us:List Value),us.length=ps.length->BindsTo s fd ⟨us,[]⟩ (ps.zip us))/\∀base:Heap,(K w.params).In base->base.Ns mainGlobals mg->ay r.prog w (K w.params) mg base (CX w) k fa fd ps (sp w))(Ta:∀(w:World) (H:Hp) (xs:List V) (a:Codec.denoteAll r.args),L7 H->Codec.withinAll r.args a=true->Codec.app r.args r.asked a=true->pX (K w.params) H xs (Codec.encAll r.args a)->sp w xs H (fun v H'=>Dw (K w.params) H' v (r.ret.enc (Codec.app r.args r.f a))) fun _ _ _=>False)(hCX:∀(w:World) (H:Hp) (s:Shared) (e:Value) (s':Shared),CX w [] H s (fun _ _ _=>False) e s'->False):WalkOS q loose XP YP r d [] (fun f vs=>PySem.call f vs):=by
  intro w Jj s₁ mg mb G Y fa o pm cd doc dV kV ho hd S5 hD hmg hg args vals as aaD adX hrd hwl B5;obtain⟨a,e1,e2⟩:=PySem.W.os_pre_some aaD;obtain⟨e3,hwi⟩:=Codec.encAll_of_decAll r.args args a e1;subst e3;have KX:=hY w _ Y;obtain⟨fd,hb,hF⟩:=F w mg fa _ Y KX G.T.g hmg;refine PySem.W.enter_call (codeAny_mono (V6 (R:=[]) (cl:=classAt Jj.heap) (d0:=r.ret.enc (Codec.app r.args r.f a)) KX G.T.g G.T.b G.T.builtins G.T.nolimit hg hwl (Jd _ _) (Fv adX) hr hF hb (by rw[EL];exact hlen)
    (fun H xs hO hS=>Ta w H xs a hO hwi e2 hS) fun H e s'=>hCX w H s₁ e s') fun r' s' hq=>?_)
  obtain⟨u,Z8,rfl,h1,h2,h3,h4⟩:=hq;exact⟨.inl ⟨u,_,Z8,rfl,fun _=>rfl,h1,(OpenSpec.post_iff XI hwi _ _).mpr rfl,fun z=>Bool.noConfusion (show false=true from z)⟩,h2,h3,h4⟩
theorem R9{r:OpenSpec}{k:Nat}{q:Program}{loose:List Str}{XP:(Str->Option Value)->Heap->Prop}{YP:World->Heap->Prop}{d:DefRec}{K:Params->Frag}{CX:Wj}{ps:List Str}{sp:Frag->Sp}(XI:r.wellSaid=true)(hdf:d.params.defaults=[])(hlen:r.args.length=ps.length)(hr:gm k callerA)(hY:∀(w:World) (h:Heap),YP w h->(K w.params).In h)(F:∀(w:World) (mg:Str->Option Value) (fa:Addr) (h:Heap),YP w h->(K w.params).In h->h.Ns mainGlobals mg->mg d.name=some (.ref fa)->∃fd:FuncData,(∀(s:Shared) (us:List Value),us.length=ps.length->BindsTo s fd ⟨us,[]⟩ (ps.zip us))/\∀base:Heap,(K w.params).In base->base.Ns mainGlobals mg->ay r.prog w (K w.params) mg base CX k fa fd ps (sp (K w.params)))(Ta:∀(K:Frag) (H:Hp) (xs:List V) (a:Codec.denoteAll r.args),L7 H->Codec.withinAll r.args a=true->Codec.app r.args r.asked a=true->pX K H xs (Codec.encAll r.args a)->sp K xs H (fun v H'=>Dw K H' v (r.ret.enc (Codec.app r.args r.f a))) fun _ _ _=>False)(hCX:∀(H:Hp) (s:Shared) (e:Value) (s':Shared),CX [] H s (fun _ _ _=>False) e s'->False):WalkOS q loose XP YP r d [] (fun f vs=>PySem.call f vs):=
  Wh (K:=K) (CX:=fun _=>CX) (sp:=fun w=>sp (K w.params)) XI hdf hlen hr hY F (fun w H xs a h1 h2 h3 h4=>Ta (K w.params) H xs a h1 h2 h3 h4) fun _ H s e s'=>hCX H s e s'
end L2
end
namespace My
open PySem PySem.Spec PyProof.Rows L2
def top(i:Nat):Stmt:=PySem.Challenge.pw_flightplans_s01_answers.main.body.getD i (.Pass ⟨0,0,0,0⟩)
abbrev nP:Stmt:=top 1
abbrev se:Stmt:=top 2
abbrev Rz:Stmt:=top 3
abbrev Gu:Stmt:=top 4
abbrev mf:Stmt:=top 6
abbrev RA:Stmt:=top 7
abbrev gW:Stmt:=top 8
abbrev iU:Stmt:=top 9
abbrev pR:Stmt:=top 11
abbrev jT:Stmt:=top 12
abbrev vN:Stmt:=top 13
abbrev gX:Stmt:=top 14
abbrev vQ:Stmt:=top 15
abbrev As:Stmt:=top 16
abbrev Gr:Stmt:=top 17
abbrev nN:Stmt:=inClass (top 19) 0
abbrev me:Stmt:=inClass (top 19) 1
abbrev fw:Stmt:=inClass (top 19) 2
abbrev jS:Stmt:=inClass (top 19) 3
abbrev Au:Stmt:=top 20
abbrev jU:Stmt:=top 21
abbrev mj:Stmt:=top 22
abbrev vO:Stmt:=top 23
abbrev mh:Stmt:=top 24
abbrev Av:Stmt:=top 25
abbrev Aw:Stmt:=top 26
abbrev fz:Stmt:=top 27
abbrev sd:Stmt:=top 28
abbrev vR:Stmt:=top 29
abbrev Lr:Stmt:=top 45
abbrev Gv:Stmt:=top 46
abbrev YJ:Stmt:=top 47
abbrev Ry:Stmt:=top 48
abbrev YM:Stmt:=top 49
abbrev YI:Stmt:=top 50
abbrev YL:Stmt:=top 51
abbrev RG:Stmt:=top 52
abbrev Aq:Stmt:=top 53
abbrev Lu:Stmt:=top 54
abbrev Rx:Stmt:=top 55
abbrev Gs:Stmt:=top 56
abbrev Ls:Stmt:=top 57
abbrev RD:Stmt:=top 58
abbrev RB:Stmt:=top 59
abbrev RE:Stmt:=top 60
abbrev RC:Stmt:=top 61
abbrev RF:Stmt:=top 62
abbrev Rw:Stmt:=top 63
abbrev YK:Stmt:=top 64
abbrev Gw:Stmt:=top 65
abbrev Gq:Stmt:=top 66
abbrev ml:Stmt:=top 67
abbrev sh:Stmt:=top 68
abbrev sg:Stmt:=top 69
abbrev vP:Stmt:=top 70
abbrev mo:Stmt:=top 71
abbrev mi:Stmt:=top 72
abbrev jV:Stmt:=top 73
abbrev jW:Stmt:=top 74
abbrev Ar:Stmt:=top 75
abbrev nO:Stmt:=top 77
abbrev pP:Stmt:=inClass (top 79) 0
abbrev nM:Stmt:=inClass (top 79) 1
abbrev iR:Stmt:=inClass (top 79) 2
abbrev iQ:Stmt:=inClass (top 79) 3
abbrev iT:Stmt:=inClass (top 79) 4
abbrev gV:Stmt:=inClass (top 79) 5
abbrev fV:Stmt:=inClass (top 79) 6
abbrev pQ:Stmt:=inClass (top 79) 7
abbrev md:Stmt:=inClass (top 79) 8
abbrev eA:Stmt:=inClass (top 79) 9
abbrev Ap:Stmt:=top 83
theorem eF{N P:List Str}{sc:Scope}(a:sc.kind=.function:=by rfl)(b:sc.isCoroutine=false:=by rfl)(c:sc.isGenerator=false:=by rfl)(d:N.Nodup:=by decide +kernel)(e:N.take P.length=P:=by rfl)(f:∀x∈P,sc.names.lookup x=some .local\/sc.names.lookup x=some .cell:=by decide +kernel)(g:∀y∈sc.names,y.2≠ .free:=by decide +kernel):aw N P sc:=⟨a,b,c,d,e,f,g⟩
theorem cP:aw ["fleet","cheapest","prices","turn","crew","own","worth","boat"] ["fleet","cheapest"] (am nP):=eF
theorem pS:aw ["fleet","prices","crew"] ["fleet","prices"] (am se):=eF
theorem Lv:aw ["fleet","crew","prices","boat"] ["fleet","crew","prices"] (am Rz):=eF
theorem AB:aw ["fleet","prices","charged","boat"] ["fleet","prices"] (am Gu):=eF
theorem fI:aw ["offers","found","offer"] ["offers"] (am mf):=eF
theorem Lw:aw ["boats","boat"] ["boats"] (am RA):=eF
theorem dS:aw ["offers","found","offer"] ["offers"] (am gW):=eF
theorem bM:aw ["found","offer","longer","taken","beginning","boat","cost","now_taken","candidate"] ["found","offer"] (am iU):=eF
theorem nQ:aw ["fleet","pair"] ["fleet"] (am pR):=eF
theorem bz:aw ["fleet","pairs","worst","pair","worst_sets","crew"] ["fleet"] (am jT):=eF
theorem mN:aw ["fleet","crews","boats","crew"] ["fleet","crews"] (am vN):=eF
theorem bF:aw ["fleet","pairs","crew","offered","crews","boats"] ["fleet"] (am gX):=eF
theorem sm:aw ["sets","crew","crews"] ["sets","crew"] (am vQ):=eF
theorem RJ:aw ["pair"] ["pair"] (am As):=eF
theorem VL:aw ["boats","more"] ["boats","more"] (am Gr):=eF
theorem gY:aw ["self","offers","boat","offer"] ["self","offers"] (am nN):=eF
theorem cv:aw ["self","flights","places","crews","takers","had","more"] ["self","flights"] (am me):=eF
theorem si:aw ["self","flights"] ["self","flights"] (am fw):=eF
theorem ff:aw ["self","flights","boat","takers"] ["self","flights"] (am jS):=eF
theorem vT:aw ["offers","boats","offer"] ["offers"] (am Au):=eF
theorem cH:aw ["marks","counts","mark","count"] ["marks"] (am jU):=eF
theorem fK:aw ["limit","counts","number","count"] ["limit","counts"] (am mj):=eF
theorem N5:aw ["offers","flights"] ["offers","flights"] (am vO):=eF
theorem fJ:aw ["offers","places","flights"] ["offers"] (am mh):=eF
theorem fX:aw ["offers","flights","plan","left","flight","offer","boat"] ["offers","flights"] (am Av):=eF
theorem vU:aw ["offer","taken","boat"] ["offer","taken"] (am Aw):=eF
theorem jh:aw ["offers","flights","places"] ["offers","flights"] (am fz):=eF
theorem cB:aw ["beginning","offers","scarce","spare","crew","boat","losing","number","flight"] ["beginning","offers","scarce","spare"] (am sd):=eF
theorem so:aw ["spare","losing","left","number"] ["spare","losing"] (am vR):=eF
theorem Gz:aw ["fleet","numbers","crews","boats"] ["fleet","numbers"] (am Lr):=eF
theorem VM:aw ["fleet","numbers"] ["fleet","numbers"] (am Gv):=eF
theorem ae0:aw ["fleet","numbers"] ["fleet","numbers"] (am YJ):=eF
theorem Dr:aw ["fleet","numbers","crew","boat","refusal"] ["fleet","numbers"] (am Ry):=eF
theorem YQ:aw ["fleet","numbers","boat"] ["fleet","numbers"] (am YM):=eF
theorem RI:aw ["fleet","row","crew"] ["fleet","row"] (am YI):=eF
theorem YO:aw ["fleet","numbers","refusal"] ["fleet","numbers"] (am YL):=eF
theorem acb:aw ["fleet","numbers"] ["fleet","numbers"] (am RG):=eF
theorem GA:aw ["fleet","numbers","crews"] ["fleet","numbers"] (am Aq):=eF
theorem YN:aw ["fleet","numbers"] ["fleet","numbers"] (am Lu):=eF
theorem ab6:aw ["fleet","numbers"] ["fleet","numbers"] (am Rx):=eF
theorem AA:aw ["fleet","numbers","found","told"] ["fleet","numbers"] (am Gs):=eF
theorem xR:aw ["fleet","row","price","proof"] ["fleet","row"] (am Ls):=eF
theorem ab8:aw ["fleet","numbers"] ["fleet","numbers"] (am RD):=eF
theorem ab7:aw ["fleet","numbers"] ["fleet","numbers"] (am RB):=eF
theorem ab9:aw ["fleet","numbers"] ["fleet","numbers"] (am RE):=eF
theorem Ds:aw ["fleet","numbers","flights","answer","flight"] ["fleet","numbers"] (am RC):=eF
theorem aca:aw ["fleet","row"] ["fleet","row"] (am RF):=eF
theorem ab5:aw ["fleet","numbers"] ["fleet","numbers"] (am Rw):=eF
theorem GB:aw ["fleet","numbers","answer","pairs","crew","boat"] ["fleet","numbers"] (am YK):=eF
theorem kf:aw ["fleet","row","boat","offers","boats","told"] ["fleet","row"] (am Gw):=eF
theorem VJ:aw ["fleet","numbers"] ["fleet","numbers"] (am Gq):=eF
theorem CT:aw ["fleet","crew","boat"] ["fleet","crew","boat"] (am ml):=eF
theorem xS:aw ["fleet","crew","boat","refused","refusal"] ["fleet","crew","boat","refused"] (am sh):=eF
theorem j7:aw ["fleet","row","boat","offer"] ["fleet","row"] (am sg):=eF
theorem sk:aw ["fleet","crew"] ["fleet"] (am vP):=eF
theorem jY:aw ["fleet","crew","boat"] ["fleet","crew"] (am mo):=eF
theorem jX:aw ["boats","told","boat"] ["boats","told"] (am mi):=eF
theorem Ay:aw ["flight"] ["flight"] (am jV):=eF
theorem Az:aw ["found"] ["found"] (am jW):=eF
theorem RH:aw ["numbers"] ["numbers"] (am Ar):=eF
theorem sj:aw ["fleet","number","numbers","call"] ["fleet","number","numbers"] (am nO):=eF
theorem HJ:aw ["self"] ["self"] (am pP):=eF
theorem cN:aw ["self","crews","boats","crew"] ["self","crews","boats"] (am nM):=eF
theorem xP:aw ["self","crew"] ["self","crew"] (am iR):=eF
theorem xO:aw ["self","boat"] ["self","boat"] (am iQ):=eF
theorem xQ:aw ["self","crew","boat"] ["self","crew","boat"] (am iT):=eF
theorem fW:aw ["self","crew","boat"] ["self","crew"] (am gV):=eF
theorem fA:aw ["self","crew"] ["self"] (am fV):=eF
theorem ud:aw ["self","flight","pairs"] ["self","flight"] (am pQ):=eF
theorem CS:aw ["self"] ["self"] (am md):=eF
theorem dR:aw ["self","pairs","together","crew","boat"] ["self","pairs","together"] (am eA):=eF
theorem cO:aw ["calls","fleet","given","place","number","start","length","answer"] ["calls"] (am Ap):=eF
structure Fn(K:Frag)(mg:Str->Option Value)(x:Str)(st:Stmt)(ps:List Str) where
  f:Addr
  fd:FuncData
  F:Fun K x x st f fd
  b:Binds K fd ps []
  g:mg x=some (.ref f)
structure Mt(K:Frag)(C:Addr)(x qual:Str)(st:Stmt)(ps:List Str) where
  f:Addr
  fd:FuncData
  F:Fun K x qual st f fd
  b:Binds K fd ps []
  m:Meth K C x f
def uh(mg:Str->Option Value)(x:Str)(i:Int):Prop:=∃t,mg x=some (.int i t)
structure Ww(K:Frag)(mg:Str->Option Value)(x:Str)(xs:List V) where
  a:Addr
  g:mg x=some (.ref a)
  q:∀H:Hp,mT K H a xs
set_option genInjectivity false in
set_option genSizeOf false in
structure Txt(K:Frag)(mg:Str->Option Value) where
  aK:Addr
  cV:TX K aK
  yH:mg "Places"=some (.ref aK)
  ah:Addr
  ao:TX K ah
  W3:mg "Fleet"=some (.ref ah)
  dY:Fn K mg "boat_prices" nP ["fleet","cheapest"]
  c5:Fn K mg "due_fares" se ["fleet","prices"]
  yQ:Fn K mg "fare" Rz ["fleet","crew","prices"]
  oe:Fn K mg "proven" Gu ["fleet","prices"]
  bZ:Fn K mg "first_flight" mf ["offers"]
  yR:Fn K mg "free" RA ["boats"]
  a8:Fn K mg "cheapest_flight" gW ["offers"]
  cG:Fn K mg "with_next_crew" iU ["found","offer"]
  eQ:Fn K mg "worst_lack" pR ["fleet"]
  cW:Fn K mg "blocked_crews" jT ["fleet"]
  ik:Fn K mg "boats_of" vN ["fleet","crews"]
  bC:Fn K mg "sets_with_boats" gX ["fleet"]
  io:Fn K mg "in_every" vQ ["sets","crew"]
  cX:Fn K mg "lack_of" As ["pair"]
  gB:Fn K mg "joined" Gr ["boats","more"]
  dc:Mt K aK "__init__" "Places.__init__" nN ["self","offers"]
  cK:Mt K aK "spare" "Places.spare" me ["self","flights"]
  bp:Mt K aK "enough_for" "Places.enough_for" fw ["self","flights"]
  dW:Mt K aK "scarce" "Places.scarce" jS ["self","flights"]
  j8:Fn K mg "offered" Au ["offers"]
  bQ:Fn K mg "counts_by_set" jU ["marks"]
  dt:Fn K mg "no_more_than" mj ["limit","counts"]
  il:Fn K mg "can_sail" vO ["offers","flights"]
  dq:Fn K mg "most_flights" mh ["offers"]
  j9:Fn K mg "plan_of" Av ["offers","flights"]
  kb:Fn K mg "without" Aw ["offer","taken"]
  bq:Fn K mg "first_safe_flight" fz ["offers","flights"]
  cD:Fn K mg "completed" sd ["beginning","offers","scarce","spare"]
  ip:Fn K mg "one_less" vR ["spare","losing"]
  oZ:Fn K mg "begin" Lr ["fleet","numbers"]
  kW:Fn K mg "refuse" Gv ["fleet","numbers"]
  Ez:Fn K mg "let" YJ ["fleet","numbers"]
  uG:Fn K mg "cost" Ry ["fleet","numbers"]
  EC:Fn K mg "out" YM ["fleet","numbers"]
  Ey:Fn K mg "due" YI ["fleet","row"]
  EB:Fn K mg "may" YL ["fleet","numbers"]
  uM:Fn K mg "size" RG ["fleet","numbers"]
  ij:Fn K mg "blocked" Aq ["fleet","numbers"]
  o4:Fn K mg "first" Lu ["fleet","numbers"]
  uF:Fn K mg "best" Rx ["fleet","numbers"]
  kU:Fn K mg "prices" Gs ["fleet","numbers"]
  o3:Fn K mg "check" Ls ["fleet","row"]
  uJ:Fn K mg "rest" RD ["fleet","numbers"]
  uH:Fn K mg "most" RB ["fleet","numbers"]
  uK:Fn K mg "safe" RE ["fleet","numbers"]
  uI:Fn K mg "plan" RC ["fleet","numbers"]
  uL:Fn K mg "sail" RF ["fleet","row"]
  uE:Fn K mg "back" Rw ["fleet","numbers"]
  EA:Fn K mg "log" YK ["fleet","numbers"]
  kX:Fn K mg "repair" Gw ["fleet","row"]
  kT:Fn K mg "counts" Gq ["fleet","numbers"]
  bx:Fn K mg "pair_refusal" ml ["fleet","crew","boat"]
  c6:Fn K mg "mark_pair" sh ["fleet","crew","boat","refused"]
  f9:Fn K mg "is_flight" sg ["fleet","row"]
  dM:Fn K mg "cheapest" vP ["fleet"]
  du:Fn K mg "priced_offer" mo ["fleet","crew"]
  dr:Fn K mg "moving_offer" mi ["boats","told"]
  bR:Fn K mg "flight_answer" jV ["flight"]
  bS:Fn K mg "priced_answer" jW ["found"]
  bh:Fn K mg "counted" Ar ["numbers"]
  dX:Fn K mg "answer_call" nO ["fleet","number","numbers"]
  gz:Mt K ah "__init__" "Fleet.__init__" pP ["self"]
  da:Mt K ah "begin" "Fleet.begin" nM ["self","crews","boats"]
  cc:Mt K ah "has_crew" "Fleet.has_crew" iR ["self","crew"]
  bH:Mt K ah "has_boat" "Fleet.has_boat" iQ ["self","boat"]
  cg:Mt K ah "may_have" "Fleet.may_have" iT ["self","crew","boat"]
  aU:Mt K ah "boats_for" "Fleet.boats_for" gV ["self","crew"]
  aF:Mt K ah "due_offers" "Fleet.due_offers" fV ["self"]
  gA:Mt K ah "sail" "Fleet.sail" pQ ["self","flight"]
  eK:Mt K ah "unsail" "Fleet.unsail" md ["self"]
  bB:Mt K ah "mark_together" "Fleet.mark_together" eA ["self","pairs","together"]
  yP:Fn K mg "answers" Ap ["calls"]
  iL:Mk K aK dc.f
  rP:Mk K ah gz.f
  dv:eI K aK "sizes"
  b8:eI K aK "takers"
  df:eI K ah "crews"
  bN:eI K ah "boats"
  b6:eI K ah "refused"
  bX:eI K ah "costs"
  bD:eI K ah "boats_out"
  aQ:eI K ah "due_crews"
  be:eI K ah "sailed"
  ci:eI K ah "together"
  qB:mg "all"=none
  mY:mg "dict"=none
  i6:mg "enumerate"=none
  cC:mg "len"=none
  ut:mg "list"=none
  AU:mg "max"=none
  AV:mg "min"=none
  fF:mg "range"=none
  qC:mg "set"=none
  kH:mg "sorted"=none
  HZ:mg "sum"=none
  tQ:mg "zip"=none
  JP:uh mg "DONE" (0)
  Ii:uh mg "NO_CREW" (-1)
  dm:uh mg "OUT_OF_RANGE" (-2)
  qE:uh mg "WRONG_ROW" (-3)
  Ih:uh mg "NO_BOAT" (-4)
  DW:uh mg "REPEATED" (-5)
  G6:uh mg "NONE_SAILED" (-6)
  mB:uh mg "NO_FLIGHT" (-7)
  JN:uh mg "ALL_SAILED" (-8)
  qD:uh mg "MOST_OF_EACH" (7)
  DV:uh mg "HIGHEST_COST" (1000)
  BJ:uh mg "HIGHEST_PRICE" (1000000)
  oU:uh mg "MOST_ASKED" (20)
  G5:uh mg "MOST_SAILED" (20)
  JO:Ww K mg "CALLS" [.ref oZ.f,.ref kW.f,.ref Ez.f,.ref uG.f,.ref EC.f,.ref Ey.f,.ref EB.f,.ref uM.f,.ref ij.f,.ref o4.f,.ref uF.f,.ref kU.f,.ref o3.f,.ref uJ.f,.ref uH.f,.ref uK.f,.ref uI.f,.ref uL.f,.ref uE.f,.ref EA.f,.ref kX.f,.ref kT.f]
  jr:Ww K mg "WHOLE_NUMBERS" ([.int 2,.int 2,.int 2,.int 3,.int 2,.int 0,.int 2,.int 0,.int 0,.int 0,.int 0,.int 0,.int 0,.int 1,.int 0,.int 1,.int 1,.int 0,.int 0,.int 0,.int 0,.int 0])
  uv:Ww K mg "WITH_ROW" ([.int 5,.int 12,.int 17,.int 20])
end My
namespace My
open PySem PySem.Spec PyProof.Rows L2
section
variable{X:Cx}
theorem a0{x:Str}{i:Int}{pos:Pos}(h:uh X.mg x i)(hg:Gl X x:=by rfl)(hd:(x==("__debug__":Str))=false:=by decide):PE X (.Name x pos) (tC (.int i)):=
  let ⟨t,e⟩:=h
  Tj hg e ⟨t,rfl⟩ hd
theorem F7{x:Str}{xs:List V}{pos:Pos}(h:Ww X.K X.mg x xs)(hg:Gl X x:=by rfl)(hd:(x==("__debug__":Str))=false:=by decide):PE X (.Name x pos) (tC (.ref h.a)):=
  Tj hg h.g rfl hd
end
def afB(N:List Str)(sc scope:Scope)(own:List (Str×Nat)):Bool:=
  decide (scope.kind=.function)&&scope.names.all (fun y=>decide (scope.names.lookup y.1=some y.2))&&own.all (fun p=>decide (N[p.2]? =some p.1))&&
  scope.names.all (fun y=>decide (y.2≠ .free)||decide (sc.names.lookup y.1=some .cell)||decide (sc.names.lookup y.1=some .free))&&
  scope.names.all (fun y=>(decide (y.2≠ .local)&&decide (y.2≠ .cell))||decide (y.1∈own.map (·.1))||decide (y.1∉N))
theorem bG{N:List Str}{sc scope:Scope}{own:List (Str×Nat)}(h:afB N sc scope own=true):LX N sc scope own:=by
  unfold afB at h;simp only[and_eq_true,all_eq_true,decide_eq_true_eq,or_eq_true]at h;obtain⟨⟨⟨⟨h1,h2⟩,h3⟩,h4⟩,h5⟩:=h;refine⟨h1,h2,h3,fun y hy e=>?_,fun y hy e=>?_⟩
  . rcases h4 y hy with(z | z) | z
    . exact absurd e z
    . exact .inl z
    . exact .inr z
  . rcases h5 y hy with(z | z) | z
    . rcases e with e | e
      . exact absurd e z.1
      . exact absurd e z.2
    . exact .inl z
    . exact .inr z
def Off(D:Addr)(H:Hp):Hp:=fun b=>if b=D then none else H b
theorem Off.ne{D b:Addr}{H:Hp}(h:b≠D):Off D H b=H b:=by unfold Off;rw[if_neg h]
theorem Off.at_{D:Addr}{H:Hp}:Off D H D=none:=by unfold Off;rw[if_pos rfl]
theorem Off.same{D:Addr}{H:Hp}:aA (Off D H) H:=fun b o e=>by
  by_cases h:b=D
  . rw[h,Off.at_]at e;cases e
  . rwa[Off.ne h]at e
theorem Off.put{D:Addr}{H:Hp}{o:HO}:Off D (upd H D o)=Off D H:=by
  funext b;by_cases h:b=D
  . rw[h,Off.at_,Off.at_]
  . rw[Off.ne h,Off.ne h,au h]
theorem Off.mono{D:Addr}{H H':Hp}(s:aA H H'):aA (Off D H) (Off D H'):=fun b o e=>by
  by_cases h:b=D
  . rw[h,Off.at_]at e;cases e
  . rw[Off.ne h]at e ⊢;exact s b o e
theorem Off.old{D:Addr}{H H':Hp}(s:aA H H')(n:H D=none):aA H (Off D H'):=fun b o e=>by rw[Off.ne (aM e n)];exact s b o e
theorem ak{H:Hp}{D:Addr}{o:HO}(n:H D=none):aA H (upd H D o):=fun b u e=>by rw[au (aM e n)];exact e
theorem bv{H H':Hp}{D:Addr}{o:HO}(s:aA H H')(n:H D=none):aA H (upd H' D o):=fun b u e=>by rw[au (aM e n)];exact s b u e
theorem Fw{J:It}{g:TG}{tt:TT}{te:TE}{vs:List Nat}{σ:L2.St}{H:Hp}{Qd:Addr->Hp->Prop}(n:Nat)(Rel:Nat->List V->Hp->Prop)(hn:n<=sizeLine)(h0:∀D,H D=none->Rel 0 [] (Off D H))(go:∀i H',i<n->aA H H'->J.go i H')(stop:∀H',aA H H'->J.stop n H')(step:∀(D:Addr) (acc:List V) (i:Nat) (H1:Hp) (x:V) (H2:Hp) (Y:VK) (N:Hp->Prop),i<n->H D=none->aA H H1->H1 D=some (.lst acc)->Rel i acc (Off D H1)->J.LW i H1 x H2->(∀y H5,aA H1 H5->Rel (i+1) (acc++ [y]) (Off D H5)->Y y H5)->(∀H4,aA H1 H4->Rel (i+1) acc (Off D H4)->N H4)->g x (wipe σ vs) H2 fun σ2 H3=>wipe σ2 vs=wipe σ vs/\tt σ2 H3 fun b H4=>if b=true then te σ2 H4 Y else N H4)(fin:∀D acc H1,H D=none->aA H H1->H1 D=some (.lst acc)->acc.length<=n->Rel n acc (Off D H1)->Qd D H1):∀D,H D=none->∃W:Nat->Nat->Hp->Prop,(∃m,W 0 m (upd H D (.lst [])))/\∀i m H,W i m H->(J.stop i H/\Qd D H)\/(J.go i H/\∃Nx:Hp->Prop,(∀H',Nx H'->∃m',m'<m/\W (i+1) m' H')/\∀x H',J.LW i H x H'->g x (wipe σ vs) H' fun σ2 H2=>wipe σ2 vs=wipe σ vs/\tt σ2 H2 fun b H3=>if b=true then te σ2 H3 fun y H4=>∃acc,H4 D=some (.lst acc)/\acc.length<sizeLine/\Nx (upd H4 D (.lst (acc++ [y]))) else Nx H3):=by
  intro D hD;refine⟨fun i m H'=>m=n-i/\i<=n/\∃acc,aA H H'/\H' D=some (.lst acc)/\acc.length<=i/\Rel i acc (Off D H'),⟨n,by simp,zero_le _,[],ak hD,ae,zero_le _,by rw[Off.put];exact h0 D hD⟩,?_⟩;rintro i m H1 ⟨rfl,hi,acc,s1,hd,hl,r⟩;by_cases dD:i<n
  . refine .inr ⟨go i H1 dD s1,fun H'=>∃acc,aA H H'/\H' D=some (.lst acc)/\acc.length<=i+1/\Rel (i+1) acc (Off D H'),fun H' ⟨L8,a,b,c,d⟩=>⟨n-(i+1),by omega,rfl,dD,L8,a,b,c,d⟩,fun x H2 y=>?_⟩;refine step D acc i H1 x H2 _ _ dD hD s1 hd r y (fun y H5 s5 r5=>?_) fun H4 s4 r4=>?_
    . have e5:=s5 _ _ hd;refine⟨acc,e5,by omega,acc++ [y],bv (s1.trans s5) hD,ae,?_,by rw[Off.put];exact r5⟩;rw[length_append,length_singleton];omega
    . exact⟨acc,s1.trans s4,s4 _ _ hd,Nat.le_succ_of_le hl,r4⟩
  . have e:i=n:=by omega
    subst e;exact .inl ⟨stop H1 s1,fin D acc H1 hD s1 hd hl r⟩
theorem lR{K:Frag}{a:Addr}{xs:List V}{g:TG}{tt:TT}{te:TE}{vs:List Nat}{σ:L2.St}{H:Hp}{Qd:Addr->Hp->Prop}(Rel:Nat->List V->Hp->Prop)(hq:aN K H a xs)(hn:xs.length<=sizeLine)(h0:∀D,H D=none->Rel 0 [] (Off D H))(step:∀(D:Addr) (acc:List V) (i:Nat) (H1:Hp) (x:V) (Y:VK) (N:Hp->Prop),xs[i]? =some x->H D=none->aA H H1->H1 D=some (.lst acc)->Rel i acc (Off D H1)->(∀y H5,aA H1 H5->Rel (i+1) (acc++ [y]) (Off D H5)->Y y H5)->(∀H4,aA H1 H4->Rel (i+1) acc (Off D H4)->N H4)->g x (wipe σ vs) H1 fun σ2 H3=>wipe σ2 vs=wipe σ vs/\tt σ2 H3 fun b H4=>if b=true then te σ2 H4 Y else N H4)(fin:∀D acc H1,H D=none->aA H H1->H1 D=some (.lst acc)->acc.length<=xs.length->Rel xs.length acc (Off D H1)->Qd D H1):∀D,H D=none->∃W:Nat->Nat->Hp->Prop,(∃m,W 0 m (upd H D (.lst [])))/\∀i m H,W i m H->((Itl K a).stop i H/\Qd D H)\/((Itl K a).go i H/\∃Nx:Hp->Prop,(∀H',Nx H'->∃m',m'<m/\W (i+1) m' H')/\∀x H',(Itl K a).LW i H x H'->g x (wipe σ vs) H' fun σ2 H2=>wipe σ2 vs=wipe σ vs/\tt σ2 H2 fun b H3=>if b=true then te σ2 H3 fun y H4=>∃acc,H4 D=some (.lst acc)/\acc.length<sizeLine/\Nx (upd H4 D (.lst (acc++ [y]))) else Nx H3):=
  Fw xs.length Rel hn h0 (fun i H' hi s=>⟨xs,xs[i],s.seq hq,by simp[hi]⟩) (fun H' s=>⟨xs,s.seq hq,le_refl _⟩)
    (fun D acc i H1 x H2 Y N hi hD s1 hd r y hY hN=>by obtain⟨e,y⟩:=y;subst e;exact step D acc i _ x Y N (y xs (s1.seq hq)) hD s1 hd r hY hN) fin
theorem aei{lo:Int}{n:Nat}{g:TG}{tt:TT}{te:TE}{vs:List Nat}{σ:L2.St}{H:Hp}{Qd:Addr->Hp->Prop}(Rel:Nat->List V->Hp->Prop)(hn:n<=sizeLine)(h0:∀D,H D=none->Rel 0 [] (Off D H))(step:∀(D:Addr) (acc:List V) (i:Nat) (H1:Hp) (Y:VK) (N:Hp->Prop),i<n->H D=none->aA H H1->H1 D=some (.lst acc)->Rel i acc (Off D H1)->(∀y H5,aA H1 H5->Rel (i+1) (acc++ [y]) (Off D H5)->Y y H5)->(∀H4,aA H1 H4->Rel (i+1) acc (Off D H4)->N H4)->g (.int (lo+i)) (wipe σ vs) H1 fun σ2 H3=>wipe σ2 vs=wipe σ vs/\tt σ2 H3 fun b H4=>if b=true then te σ2 H4 Y else N H4)(fin:∀D acc H1,H D=none->aA H H1->H1 D=some (.lst acc)->acc.length<=n->Rel n acc (Off D H1)->Qd D H1):∀D,H D=none->∃W:Nat->Nat->Hp->Prop,(∃m,W 0 m (upd H D (.lst [])))/\∀i m H,W i m H->((ZO lo n).stop i H/\Qd D H)\/((ZO lo n).go i H/\∃Nx:Hp->Prop,(∀H',Nx H'->∃m',m'<m/\W (i+1) m' H')/\∀x H',(ZO lo n).LW i H x H'->g x (wipe σ vs) H' fun σ2 H2=>wipe σ2 vs=wipe σ vs/\tt σ2 H2 fun b H3=>if b=true then te σ2 H3 fun y H4=>∃acc,H4 D=some (.lst acc)/\acc.length<sizeLine/\Nx (upd H4 D (.lst (acc++ [y]))) else Nx H3):=
  Fw n Rel hn h0 (fun i H' hi s=>hi) (fun H' s=>le_refl _)
    (fun D acc i H1 x H2 Y N hi hD s1 hd r y hY hN=>by obtain⟨e,y⟩:=y;subst e y;exact step D acc i _ Y N hi hD s1 hd r hY hN) fin
theorem aaU{K:Frag}{a b:Addr}{xs ys:List V}{g:TG}{tt:TT}{te:TE}{vs:List Nat}{σ:L2.St}{H:Hp}{Qd:Addr->Hp->Prop}(Rel:Nat->List V->Hp->Prop)(hq:aN K H a xs)(LR:aN K H b ys)(hn:xs.length<=sizeLine)(h0:∀D,H D=none->Rel 0 [] (Off D H))(step:∀(D:Addr) (acc:List V) (i:Nat) (H1:Hp) (x y:V) (T:Addr) (Y:VK) (N:Hp->Prop),xs[i]? =some x->ys[i]? =some y->H1 T=none->H D=none->aA H H1->H1 D=some (.lst acc)->Rel i acc (Off D H1)->(∀y H5,aA H1 H5->Rel (i+1) (acc++ [y]) (Off D H5)->Y y H5)->(∀H4,aA H1 H4->Rel (i+1) acc (Off D H4)->N H4)->g (.ref T) (wipe σ vs) (upd H1 T (.tup [x,y])) fun σ2 H3=>wipe σ2 vs=wipe σ vs/\tt σ2 H3 fun b H4=>if b=true then te σ2 H4 Y else N H4)(fin:∀D acc H1,H D=none->aA H H1->H1 D=some (.lst acc)->acc.length<=min xs.length ys.length->Rel (min xs.length ys.length) acc (Off D H1)->Qd D H1):∀D,H D=none->∃W:Nat->Nat->Hp->Prop,(∃m,W 0 m (upd H D (.lst [])))/\∀i m H,W i m H->((Itz K a b).stop i H/\Qd D H)\/((Itz K a b).go i H/\∃Nx:Hp->Prop,(∀H',Nx H'->∃m',m'<m/\W (i+1) m' H')/\∀x H',(Itz K a b).LW i H x H'->g x (wipe σ vs) H' fun σ2 H2=>wipe σ2 vs=wipe σ vs/\tt σ2 H2 fun b H3=>if b=true then te σ2 H3 fun y H4=>∃acc,H4 D=some (.lst acc)/\acc.length<sizeLine/\Nx (upd H4 D (.lst (acc++ [y]))) else Nx H3):=
  Fw (min xs.length ys.length) Rel (le_trans (min_le_left _ _) hn) h0
    (fun i H' hi s=>⟨xs,ys,xs[i]'(lt_of_lt_of_le hi (min_le_left _ _)),ys[i]'(lt_of_lt_of_le hi (Nat.min_le_right _ _)),s.seq hq,s.seq LR,by simp,by simp⟩)
    (fun H' s=>⟨xs,ys,s.seq hq,s.seq LR,by omega⟩)
    (fun D acc i H1 x H2 Y N hi hD s1 hd r y hY hN=>by obtain⟨T,x',y',e,n,e2,y1,y2⟩:=y;subst e e2;exact step D acc i _ x' y' T Y N (y1 xs (s1.seq hq)) (y2 ys (s1.seq LR)) n hD s1 hd r hY hN) fin
theorem ah9{K:Frag}{a:Addr}{xs:List V}{g:TG}{tt:TT}{te:TE}{vs:List Nat}{σ:L2.St}{H:Hp}{Qd:Addr->Hp->Prop}(Rel:Nat->List V->Hp->Prop)(hq:aN K H a xs)(hn:xs.length<=sizeLine)(h0:∀D,H D=none->Rel 0 [] (Off D H))(step:∀(D:Addr) (acc:List V) (i:Nat) (H1:Hp) (x:V) (T:Addr) (Y:VK) (N:Hp->Prop),xs[i]? =some x->H1 T=none->H D=none->aA H H1->H1 D=some (.lst acc)->Rel i acc (Off D H1)->(∀y H5,aA H1 H5->Rel (i+1) (acc++ [y]) (Off D H5)->Y y H5)->(∀H4,aA H1 H4->Rel (i+1) acc (Off D H4)->N H4)->g (.ref T) (wipe σ vs) (upd H1 T (.tup [.int (i:Nat),x])) fun σ2 H3=>wipe σ2 vs=wipe σ vs/\tt σ2 H3 fun b H4=>if b=true then te σ2 H4 Y else N H4)(fin:∀D acc H1,H D=none->aA H H1->H1 D=some (.lst acc)->acc.length<=xs.length->Rel xs.length acc (Off D H1)->Qd D H1):∀D,H D=none->∃W:Nat->Nat->Hp->Prop,(∃m,W 0 m (upd H D (.lst [])))/\∀i m H,W i m H->((Ite K a).stop i H/\Qd D H)\/((Ite K a).go i H/\∃Nx:Hp->Prop,(∀H',Nx H'->∃m',m'<m/\W (i+1) m' H')/\∀x H',(Ite K a).LW i H x H'->g x (wipe σ vs) H' fun σ2 H2=>wipe σ2 vs=wipe σ vs/\tt σ2 H2 fun b H3=>if b=true then te σ2 H3 fun y H4=>∃acc,H4 D=some (.lst acc)/\acc.length<sizeLine/\Nx (upd H4 D (.lst (acc++ [y]))) else Nx H3):=
  Fw xs.length Rel hn h0 (fun i H' hi s=>⟨xs,xs[i],s.seq hq,by simp[hi]⟩) (fun H' s=>⟨xs,s.seq hq,le_refl _⟩)
    (fun D acc i H1 x H2 Y N hi hD s1 hd r y hY hN=>by obtain⟨T,x',e,n,e2,y1⟩:=y;subst e e2;exact step D acc i _ x' T Y N (y1 xs (s1.seq hq)) n hD s1 hd r hY hN) fin
theorem sT{J:It}{g:TG}{tb:TS}{D:Ends}{σ:L2.St}{H:Hp}(n:Nat)(Pv:Nat->L2.St->Hp->Prop)(h0:Pv 0 σ H)(go:∀i σ H,i<n->Pv i σ H->J.go i H)(stop:∀σ H,Pv n σ H->J.stop n H)(hs:∀i x σ H H',i<n->Pv i σ H->J.LW i H x H'->g x σ H' fun σ2 H2=>tb { D with nx:=Pv (i+1),ct:=Pv (i+1),bk:=D.nx} σ2 H2)(hd:∀σ H,Pv n σ H->D.nx σ H):∃W:Nat->Nat->L2.St->Hp->Prop,(∃m,W 0 m σ H)/\∀i m σ H,W i m σ H->(J.stop i H/\D.nx σ H)\/(J.go i H/\∃N:L2.St->Hp->Prop,(∀σ' H',N σ' H'->∃m',m'<m/\W (i+1) m' σ' H')/\∀x H',J.LW i H x H'->g x σ H' fun σ2 H2=>tb { D with nx:=N,ct:=N,bk:=D.nx} σ2 H2):=by
  refine⟨fun i m σ H=>m=n-i/\i<=n/\Pv i σ H,⟨n,by simp,zero_le _,h0⟩,?_⟩;rintro i m σ H ⟨rfl,hi,p⟩;by_cases dD:i<n
  . exact .inr ⟨go i σ H dD p,Pv (i+1),fun σ' H' p'=>⟨n-(i+1),by omega,rfl,dD,p'⟩,fun x H' y=>hs i x σ H H' dD p y⟩
  . have e:i=n:=by omega
    subst e;exact .inl ⟨stop σ H p,hd σ H p⟩
end My
namespace My
open PySem PySem.Spec PyProof.Rows L2
section
variable{X:Cx}
def afe(X:Cx)(i:Nat)(t:TA):TE:=fun σ H Q=>∃f,σ[i]? =some (some (V.ref f))/\keepIn X.K (.ref f)=true/\
  t σ H fun vs H1=>∃(k:Nat) (fd:FuncData) (ps:List Str) (sp:Sp),ay X.prog X.w X.K X.mg X.base bo k f fd ps sp/\gm k X.A/\Binds X.K fd ps []/\sp vs H1 Q E0
theorem Ys(i:Nat){x:Str}{p pos:Pos}{e:Expr}{es:List Expr}{t:TA}(ha:PA X (e::es) t)(hN:X.N[i]? =some x:=by rfl)(hv:Vis X.env.scope x:=by first | exact Or.inl rfl | exact Or.inr (Or.inl rfl) | exact Or.inr (Or.inr rfl))(Xv:(x==("__debug__":Str))=false:=by decide)(S5:(x==("__classdict__":Str))=false:=by decide)(he:starEach (e::es) X.env=(false,eval e X.env)::starEach es X.env:=by rfl)(t6:(backTo pos (starEach es X.env)).any (·.1)=false:=by rfl):PE X (.Call (.Name x p) (e::es) [] pos) (afe X i t):=by intro pins s σ H Q I h;obtain⟨f,hf,hk,h⟩:=h;refine wpAny_Call_Name_kw (cy (Yv (pos:=p) hN hv Xv S5 pins s σ H (fun v H'=>v=V.ref f/\H'=H) I ⟨_,hf,rfl,rfl⟩) fun u s1 ⟨v,H1,I1,r1,e1,e2⟩=>?_);subst e1 e2;cases r1;refine callWith_K (h₀:=X.base) I1.ok.mod.kin hk (cy (ha pos pins s1 σ _ _ I1 h) fun us s2 ⟨vs,H2,I2,r,k,fd,ps,sp,F,hr,hb,q⟩=>⟨I2.OJ,?_⟩) he t6;exact Lp F hr hb .nil aI I2 r (by rw[append_nil];exact q)
end
section
variable{prog:Program}{w:World}{A:Around}{R:Result->Shared->Prop}{I:Addr}{fp wr:List Addr}{n:Nat}{P:Nat->Value->Prop}{St:Nat->Heap->Prop}
theorem T4(W:Walks prog w A.in1 I fp wr n P St)(tr:Nat->Bool)(htr:∀i v (s:Shared) (Q:Bool->Shared->Prop) (E:Value->Shared->Prop),P i v->St (i+1) s.heap->(∀tk,Q (tr i) { s with toks:=tk})->wpAny (model prog w) A.in1 (truthy v) Q E s):∀(k i:Nat) (s:Shared),n-i=k->i<=n->St i s.heap->(∀h' tk,(∀b o,b∉wr->s.heap.get? b=some o->h'.get? b=some o)->R (.ok (.ret (.bool (((List.range n).drop i).all tr)))) { s with heap:=h',toks:=tk})->codeAny (model prog w) A (.builtin "all.loop" ⟨[.ref I],[]⟩) R s:=by
  intro k;induction k with
  | zero=>
    intro i s hk hi B7 hR;have ze:i=n:=by omega
    subst ze;refine codeAny_builtin F.entry_all_loop ?_;rw[Around.under_plainId F.plain_all_loop _];show wpAny _ A.in1 (pyNext (.ref I)>>=_) _ _ s;refine wpAny_bind (W.done s _ _ B7 fun h' tk Bb=>?_);refine wpAny_bind (wpAny_rule (wpAny_pure ?_));have:=hR h' tk Bb;rw[List.drop_of_length_le (by simp)]at this;exact this
  | succ k ih=>
    intro i s hk hi B7 hR;have dD:i<n:=by omega
    have hd:(List.range n).drop i=i::(List.range n).drop (i+1):=by rw[drop_eq_getElem_cons (by simpa using dD)];simp
    refine codeAny_builtin F.entry_all_loop ?_;rw[Around.under_plainId F.plain_all_loop _];show wpAny _ A.in1 (pyNext (.ref I)>>=_) _ _ s;refine wpAny_bind (W.item i s _ _ dD B7 fun v h' tk hP Ho Bb=>?_);refine wpAny_bind (wpAny_holding (htr i v _ _ _ hP Ho fun ZH=>?_));refine wpAny_bind (wpAny_letGo ?_);cases hb:tr i with
    | true=>simp only[if_true];refine wpAny_pure ⟨plainId_quiet F.plain_all_loop _,ih (i+1) _ (by omega) dD Ho fun GX R4 Qg=>?_⟩;have:=hR GX R4 fun b o MU e=>Qg b o MU (Bb b o MU e);rw[hd,all_cons,hb,Bool.true_and]at this;exact this
    | false=>simp only[false_eq_true,if_false];refine wpAny_bind (wpAny_rule (wpAny_pure ?_));have:=hR h' ZH Bb;rw[hd,all_cons,hb,Bool.false_and]at this;exact this
theorem GR(W:Walks prog w A I fp wr n P St)(fe:List Addr)(Ex:Heap->Prop)(hd:∀b∈fe,b∉wr)(hx:∀h h',Ex h->(∀b∈fe,∀o,h.get? b=some o->h'.get? b=some o)->Ex h'):Walks prog w A I (fp++fe) wr n P (fun i h=>St i h/\Ex h) where
  sub:=fun b hb=>mem_append_left _ (W.sub b hb)
  frame:=fun i h h' st k=>⟨W.frame i h h' st.1 fun b hb=>k b (mem_append_left _ hb),hx h h' st.2 fun b hb=>k b (mem_append_right _ hb)⟩
  item:=fun i s Q E hi st hQ=>W.item i s Q E hi st.1 fun v h' tk hP V7 k=>hQ v h' tk hP ⟨V7,hx _ _ st.2 fun b hb o e=>k b o (hd b hb) e⟩ k
  done:=fun s Q E st hQ=>W.done s Q E st.1 hQ
  self:=fun i s Q E st hQ=>W.self i s Q E st.1 hQ
end
section
variable{prog:Program}{w:World}{A:Around}{E:Value->Shared->Prop}{s:Shared}
theorem Ea{x:Value}{Q:Value->Shared->Prop}(h:wpAny (model prog w) A.in1 (pyIter x) (fun it s₂=>∃I fp wr n P St tr,it=.ref I/\Walks prog w A.in1 I fp wr n P St/\St 0 s₂.heap/\(∀i v (s:Shared) (Q:Bool->Shared->Prop) (E:Value->Shared->Prop),P i v->St (i+1) s.heap->(∀tk,Q (tr i) { s with toks:=tk})->wpAny (model prog w) A.in1 (truthy v) Q E s)/\∀h' tk,(∀b o,b∉wr->s₂.heap.get? b=some o->h'.get? b=some o)->Q (.bool ((List.range n).all tr)) { s₂ with heap:=h',toks:=tk}) E s):wpAny (model prog w) A (call (.builtin "all") [x]) Q E s:=by refine call_function_tree F.kind_all F.plain_all F.entry_all (F.args_all1 _) ?_;unfold Builtin.«all»;refine wpAny_bind (m:=oneArg "all" _) (wpAny_pure ?_);refine wpAny_bind (wpAny_mono h (fun it s₂ h₂=>?_) fun _ _ e=>e);obtain⟨I,fp,wr,n,P,St,tr,rfl,W,B7,htr,hQ⟩:=h₂;exact wpAny_pure ⟨plainId_quiet F.plain_all_loop _,T4 W tr htr n 0 s₂ rfl (zero_le _) B7 fun h' tk hk=>by simpa using hQ h' tk hk⟩
end
section
variable{X:Cx}
def agA(K:Frag):List V->Hp->VK->Prop:=fun vs H Q=>∃(a:Addr) (as:List Addr) (ls:List (List V)),vs=[V.ref a]/\aN K H a (as.map V.ref)/\Paired (fun b xs=>aN K H b xs) as ls/\Q (.bl (ls.all fun xs=> !xs.isEmpty)) H
theorem aV{α β:Type}{R:α->β->Prop}:∀{as:List α} {bs:List β},Paired R as bs->∀{i:Nat} {a:α},as[i]? =some a->∃b,bs[i]? =some b/\R a b
  | _,_,.nil,i,a,h=>by simp at h
  | _,_,.cons r t,0,a,h=>by have e:=Option.some.inj h;subst e;exact⟨_,rfl,r⟩
  | _,_,.cons r t,i+1,a,h=>aV t (i:=i) h
theorem aD{α β:Type}{R:α->β->Prop}:∀{as:List α} {bs:List β},Paired R as bs->as.length=bs.length
  | _,_,.nil=>rfl
  | _,_,.cons _ t=>by rw[length_cons,length_cons,aD t]
theorem DM{α:Type}(f:α->Bool):∀ls:List α,(List.range ls.length).all (fun i=>(ls[i]?).any f)=ls.all f
  | []=>rfl
  | b::bs=>by rw[length_cons,List.range_succ_eq_map,all_cons,all_map,all_cons,<-DM f bs];all_goals rfl
theorem aaa(hc:X.calm=true):gh X (.builtin "all") (agA X.K):=by
  intro pins s σ H vs us Q I r h;obtain⟨a,as,ls,rfl,hs,hp,q⟩:=h;obtain⟨aX,rv,hl,_⟩:=I.list hs;rw[Vals.Gn r];have hits:aX=as.map Value.ref:=cq rv;subst hits;have inner:∀(i:Nat) (b:Addr),as[i]? =some b->∃xs aX,ls[i]? =some xs/\Vals xs aX/\s.heap.IsList b aX.toArray/\xs.length<=sizeLine:=fun i b e=>by obtain⟨xs,e1,e2⟩:=aV hp e;obtain⟨it,r1,p1,z1⟩:=I.list e2;exact⟨xs,it,e1,r1,p1.isList,z1⟩
  have mem:∀b∈as,b<s.heap.objs.size:=fun b hb=>by obtain⟨i,e⟩:=getElem?_of_mem hb;obtain⟨_,_,_,_,⟨_,e3,_⟩,_⟩:=inner i b e;exact lt_size e3
  refine Ea (M6 hl.isList fun s₂ e2 st eZ=>?_);subst e2;refine⟨_,_,_,_,_,_,fun i=>(ls[i]?).any fun xs=> !xs.isEmpty,rfl,GR (Walks.list (A:=X.A.in1) (I.ok.hd hc) _ a eZ (as.map Value.ref).toArray) as
    (fun h=>∀(i:Nat) (b:Addr),as[i]? =some b->∃xs aX,ls[i]? =some xs/\Vals xs aX/\h.IsList b aX.toArray/\xs.length<=sizeLine) (fun b hb hm=>?_) (fun h h' hx k i b e=>?_),⟨st,fun i b e=>?_⟩,fun i v s' Q' E' hv B7 hq=>?_,fun h' tk hk=>?_⟩
  . rw[mem_singleton.mp hm]at hb;exact lt_irrefl _ (mem _ hb)
  . obtain⟨xs,it,e1,r1,p1,z1⟩:=hx i b e;exact⟨xs,it,e1,r1,p1.at fun o eo=>k b (mem_of_getElem? e) o eo,z1⟩
  . obtain⟨xs,it,e1,r1,p1,z1⟩:=inner i b e;exact⟨xs,it,e1,r1,p1.push _,z1⟩
  . have hv':(as.map Value.ref)[i]? =some v:=by simpa using hv
    rw[getElem?_map]at hv';obtain⟨b,hb,rfl⟩:=Option.map_eq_some_iff.mp hv';obtain⟨xs,it,e1,r1,p1,z1⟩:=B7.2 i b hb;have hs:sizeLine=16777216:=sizeLine_eq;have hlen:=r1.length;refine wpAny_truthy_list p1 (by simp only[size_toArray];omega) ?_;have:=hq (s'.toks+1+1);simp only[e1,Option.any_some]at this;rw[u7 r1];exact this
  . refine⟨.bl _,H,I.kept fun b o eo=>hk b o (fun mz=>?_) (get?_push_of_some _ eo),?_,q⟩
    . rcases mem_cons.mp mz with e1 | mz
      . exact absurd (e1▸lt_size eo) (lt_irrefl _)
      . cases mz
    . show Value.bool _=Value.bool _;rw[<-DM (fun xs=> !xs.isEmpty) ls,size_toArray,length_map,aD hp]
def ab0(K:Frag):V->List V->Hp->VK->Prop:=fun x xs H Q=>∃(a:Addr) (bs:List Bool) (k:Bool),x=.ref a/\xs=[.bl k]/\aN K H a (bs.map V.bl)/\Q (.int (bs.count k:Nat)) H
theorem Bt(h:Heap):∀bs:List Bool,∃as,ReadsAll h (bs.map Value.bool) (bs.map PyData.bool) as
  | []=>⟨_,.nil⟩
  | b::bs=>let ⟨_,r⟩:=Bt h bs;⟨_,.cons (.bool b) r⟩
theorem tU(k:Bool):∀bs:List Bool,countIn (.bool k) (bs.map PyData.bool)=(bs.count k:Nat)
  | []=>rfl
  | b::bs=>by rw[map_cons,countIn,tU k bs,count_cons];simp only[same];cases b<;>cases k<;>simp<;>omega
theorem Vb:MtR X "list.count" (ab0 X.K):=by intro pins s σ H x xs v us Q I rx rxs h;obtain⟨a,bs,k,rfl,rfl,hs,q⟩:=h;cases rx;obtain⟨u,rfl,ru⟩:=vals1 rxs;cases ru;obtain⟨aX,rv,hl,_⟩:=I.list hs;have hb:=rv.bls;subst hb;obtain⟨as,ra⟩:=Bt s.heap bs;refine count_list_bools hl.isList ra (by simp[Shape.has]) ?_;rw[tU];exact⟨.int _,H,I.tok _,⟨_,rfl⟩,q⟩
theorem TL:∀{xs:List V} {us:List Value},xs.length=us.length->(∀(i:Nat) (x:V) (u:Value),xs[i]? =some x->us[i]? =some u->RelV x u)->Vals xs us
  | [],[],_,_=>.nil
  | x::xs,u::us,hl,h=>.cons (h 0 x u rfl rfl) (TL (by simpa using hl) fun i x u e1 e2=>h (i+1) x u e1 e2)
theorem R8(n:Nat){acc:Array Value}(h:ItemsOf (fun i v=>∃t,v=.int (0+i*1) t) acc n):Vals ((List.range n).map fun i=>V.int (i:Nat)) acc.toList:=by
  obtain⟨h1,h2⟩:=h;refine TL (by simp[h1]) fun i x u e1 e2=>?_;have hi:i<n:=by have:=(List.getElem?_eq_some_iff.mp e1).1;simpa using this
  rw[getElem?_map,getElem?_range hi]at e1;have e1':=Option.some.inj e1;subst e1';obtain⟨t,rfl⟩:=h2 i u (by simpa using e2);exact⟨t,by rw[Int.zero_add,Int.mul_one]⟩
theorem Mh:gh X (.type "range") (fun vs H Q=>∃n:Nat,vs=[.int n]/\∀p,H p=none->Q (.ref p) (upd H p (.rng 0 n))):=by intro pins s σ H vs us Q I r h;obtain⟨n,rfl,q⟩:=h;obtain⟨u,rfl,t,rfl⟩:=vals1 r;refine call_range_1 ?_;exact⟨.ref _,upd H s.heap.objs.size (.rng 0 n),I.laid (fun b o e=>get?_push_of_some _ e) (le_refl _) ⟨_,_,_,get?_push_size _ rfl⟩,rfl,q _ (I.bj.fresh (le_refl _))⟩
theorem G7(hc:X.calm=true):gh X (.type "list") (fun vs H Q=>∃(a:Addr) (n:Nat),vs=[.ref a]/\H a=some (.rng 0 n)/\n<=1000/\∀D,H D=none->Q (.ref D) (upd H D (.lst ((List.range n).map fun i=>V.int (i:Nat))))):=by
  intro pins s σ H vs us Q I r h;obtain⟨a,n,rfl,ha,hn,q⟩:=h;rw[Vals.Gn r];obtain⟨t,u,v,e⟩:=I.bj a _ ha;have hsz:Builtin.Range.rangeSize 0 (n:Int) 1=(n:Nat):=by rw[rangeSize_one];split<;>omega
  refine call_list_range (n:=n) (I.ok.hd hc) e (small_one (by omega) (by omega) (by omega) (by omega)) hsz (by omega) fun h' tk L8 c' hk Kn adP=>?_;have hl:((List.range n).map fun i=>V.int (i:Nat)).length<=sizeLine:=by rw[length_map,length_range,sizeLine_eq];omega
  exact⟨.ref _,upd H s.heap.objs.size (.lst ((List.range n).map fun i=>V.int (i:Nat))),I.laid hk (le_refl _) ⟨hl,L8.toList,c',R8 n adP,by simpa using Kn⟩,rfl,q _ (I.bj.fresh (le_refl _))⟩
end
theorem uu:bootBuiltins "all"=some (.builtin "all"):=by decide +kernel
theorem C6:bootBuiltins "dict"=some (.type "dict"):=by decide +kernel
theorem b9:bootBuiltins "len"=some (.builtin "len"):=by decide +kernel
theorem JJ:bootBuiltins "list"=some (.type "list"):=by decide +kernel
theorem JK:bootBuiltins "max"=some (.builtin "max"):=by decide +kernel
theorem JL:bootBuiltins "min"=some (.builtin "min"):=by decide +kernel
theorem WK:bootBuiltins "range"=some (.type "range"):=by decide +kernel
theorem DU:bootBuiltins "set"=some (.type "set"):=by decide +kernel
theorem yw:bootBuiltins "sorted"=some (.builtin "sorted"):=by decide +kernel
theorem WL:bootBuiltins "sum"=some (.builtin "sum"):=by decide +kernel
theorem adt:bootBuiltins "zip"=some (.type "zip"):=by decide +kernel
end My
namespace My
open PySem PySem.Spec PyProof.Rows L2
abbrev km(h:Heap)(z TI TO:Addr)(T:Nat)(b:Bool):Prop:=
  h.get? z=some { cls:=.type "zip",dict:=none,data:=.fields #[rawInt T,.bool b,.bool false,.ref TI,.ref TO],slots:= #[]}
section
variable{prog:Program}{w:World}{A:Around}{E:Value->Shared->Prop}{s:Shared}
theorem wp_loadIfAlive{M:Model}{a:Addr}{o:Obj}{Q:Option Obj->Shared->Prop}(ho:s.heap.get? a=some o)(h:Q (some o) s):wpAny M A (loadIfAlive a) Q E s:=fun Γ p _=>by unfold loadIfAlive;rw[Sem.wp_loadIfAlive,ho];exact(Sem.wp_pure ..).mpr h
theorem F4{z TI TO:Addr}{T:Nat}{b:Bool}{o:Obj}{Q:Bool->Shared->Prop}(hz:km s.heap z TI TO T b)(ho:s.heap.get? T=some o)(h:∀h',km h' z TI TO T true->SameBut z s.heap h'->Q false { s with heap:=h'}):wpAny (model prog w) A (Builtin.SmallTypes.ownedTupleIsFree (.ref z)) Q E s:=by
  unfold Builtin.SmallTypes.ownedTupleIsFree;refine wpAny_bind (wpAny_field hz rfl (x:=rawInt T) rfl ?_);show wpAny _ _ (loadIfAlive (T:Int).toNat>>=_) _ _ _;rw[toNat_natCast];refine wpAny_bind (wp_loadIfAlive ho ?_);simp only[Option.isNone_some,false_eq_true,if_false];refine wpAny_bind (wpAny_field hz rfl (x:=.bool b) rfl ?_);cases b with
  | true=>
    have e:(Value.bool true !=Value.bool true)=false:=by decide
    simp only[e,false_eq_true,if_false];exact wpAny_pure (h s.heap hz (SameBut.refl ..))
  | false=>
    have e:(Value.bool false !=Value.bool true)=true:=by decide
    simp only[e,if_true];refine wpAny_bind (wpAny_setField_rec hz (by simp) fun h' hz' hs'=>?_);exact wpAny_pure (h h' hz' hs')
theorem GW{z TI TO i1 i2 l1 l2:Addr}{k1 k2 T:Nat}{bb:Bool}{ot:Obj}{xs ys:Array Value}{x y:Value}{Q:Value->Shared->Prop}(D:ZipApart z TI TO i1 i2 l1 l2)(hz:km s.heap z TI TO T bb)(hT:s.heap.get? T=some ot)(Hl:IsPair s.heap TI (.ref i1) (.ref i2))(h1:s.heap.IsListIter i1 l1 k1)(h2:s.heap.IsListIter i2 l2 k2)(Hm:s.heap.IsList l1 xs)(Xz:s.heap.IsList l2 ys)(hx:xs[k1]? =some x)(hy:ys[k2]? =some y)(hQ:∀h',km h' z TI TO T true->h'.IsListIter i1 l1 (k1+1)->h'.IsListIter i2 l2 (k2+1)->IsPair h' s.heap.objs.size x y->h'.objs.size=s.heap.objs.size+1->(∀c o,c≠z->c≠i1->c≠i2->s.heap.get? c=some o->h'.get? c=some o)->Q (.ref s.heap.objs.size) { s with heap:=h'}):wpAny (model prog w) A (Builtin.«zip.__next__» ⟨[.ref z],[]⟩) (fun fin s'=>∃v,fin=.done (.ret v)/\Q v s') E s:=by
  show wpAny _ _ (field (.ref z) 2>>=_) _ _ _;refine wpAny_bind (wpAny_field hz rfl (x:=.bool false) rfl ?_);show wpAny _ _ (field (.ref z) 3>>=_) _ _ _;refine wpAny_bind (wpAny_field hz rfl (x:=.ref TI) rfl ?_);refine wpAny_bind (wpAny_seqItems Hl rfl ?_);show wpAny _ _ (Builtin.SmallTypes.ownedTupleIsFree (.ref z)>>=_) _ _ _;refine wpAny_bind (F4 hz hT fun h₁ aiT Qi=>?_);simp only[false_eq_true,if_false];refine wpAny_bind ?_;simp only[List.forIn_toArray,forIn_cons,forIn_nil];refine wpAny_bind (wpAny_bind (wpAny_holding ?_));show wpAny _ _ (Builtin.SmallTypes.nextOf (.ref i1)>>=_) _ _ _;refine wpAny_bind (wpAny_nextOf_list_item (h1.extBut Qi.extBut D.i1z) (Hm.extBut Qi.extBut D.l1z) hx fun h₂ aiN XG=>wpAny_pure ?_);refine wpAny_pure ?_;refine wpAny_bind (wpAny_bind (wpAny_holding ?_));show wpAny _ _ (Builtin.SmallTypes.nextOf (.ref i2)>>=_) _ _ _;refine wpAny_bind (wpAny_nextOf_list_item ((h2.extBut Qi.extBut D.i2z).extBut XG.extBut D.i12.symm)
    ((Xz.extBut Qi.extBut D.l2z).extBut XG.extBut D.l2i1) hy fun h₄ aiY afo=>wpAny_pure ?_)
  refine wpAny_pure (wpAny_pure ?_);refine wpAny_bind (wpAny_newTuple (hsz:=by show 2<=sizeLine;decide) ?_);have hsz:h₄.objs.size=s.heap.objs.size:=by rw[afo.1,XG.1,Qi.1]
  have ai5:km h₄ z TI TO T true:=afo.extBut _ _ D.i2z.symm (XG.extBut _ _ D.i1z.symm aiT);have aiX:h₄.IsListIter i1 l1 (k1+1):=aiN.extBut afo.extBut D.i12;refine wpAny_pure ⟨_,rfl,?_⟩;show Q (.ref h₄.objs.size) _;rw[hsz];have up:∀c o,h₄.get? c=some o->(h₄.push { cls:=.type "tuple",data:=.seq #[x,y]}).get? c=some o:=fun c o e=>get?_push_of_some _ e;exact hQ _ (up _ _ ai5) (aiX.at fun o e=>up _ o e) (aiY.at fun o e=>up _ o e) (by rw[<-hsz];exact get?_push_size _ rfl) (by rw[size_push,hsz]) fun c o c1 c3 c4 e=>up c o (afo.extBut _ _ c4 (XG.extBut _ _ c3 (Qi.extBut _ _ c1 e)))
theorem HU{z TI TO i1 i2 l1 l2:Addr}{k1 k2 T:Nat}{bb:Bool}{ot:Obj}{xs ys:Array Value}{Q:Fin->Shared->Prop}(hh:A.handled=none)(D:ZipApart z TI TO i1 i2 l1 l2)(hz:km s.heap z TI TO T bb)(hT:s.heap.get? T=some ot)(Hl:IsPair s.heap TI (.ref i1) (.ref i2))(h1:s.heap.IsListIter i1 l1 k1)(h2:s.heap.IsListIter i2 l2 k2)(Hm:s.heap.IsList l1 xs)(Xz:s.heap.IsList l2 ys)(E2:xs[k1]? =none\/ys[k2]? =none)(hE:∀h' e,(∀c o,c≠z->c≠i1->c≠i2->s.heap.get? c=some o->h'.get? c=some o)->(∃o,h'.get? e=some o/\o.cls=.type "StopIteration")->E (.ref e) { s with heap:=h'}):wpAny (model prog w) A (Builtin.«zip.__next__» ⟨[.ref z],[]⟩) Q E s:=by
  show wpAny _ _ (field (.ref z) 2>>=_) _ _ _;refine wpAny_bind (wpAny_field hz rfl (x:=.bool false) rfl ?_);show wpAny _ _ (field (.ref z) 3>>=_) _ _ _;refine wpAny_bind (wpAny_field hz rfl (x:=.ref TI) rfl ?_);refine wpAny_bind (wpAny_seqItems Hl rfl ?_);show wpAny _ _ (Builtin.SmallTypes.ownedTupleIsFree (.ref z)>>=_) _ _ _;refine wpAny_bind (F4 hz hT fun h₁ aiT Qi=>?_);simp only[false_eq_true,if_false];refine wpAny_bind ?_;simp only[List.forIn_toArray,forIn_cons,forIn_nil];refine wpAny_bind (wpAny_bind (wpAny_holding ?_));show wpAny _ _ (Builtin.SmallTypes.nextOf (.ref i1)>>=_) _ _ _;cases hx:xs[k1]? with
  | none=>refine wpAny_bind (wpAny_nextOf_list_end hh (h1.extBut Qi.extBut D.i1z) (Hm.extBut Qi.extBut D.l1z) hx fun h₂ e XG he=>?_);exact hE h₂ e (fun c o c1 c3 _ x=>XG _ _ c3 (Qi.extBut _ _ c1 x)) he
  | some x=>
    have hy:ys[k2]? =none:=by rcases E2 with h | h;rw[hx]at h;cases h;exact h
    refine wpAny_bind (wpAny_nextOf_list_item (h1.extBut Qi.extBut D.i1z) (Hm.extBut Qi.extBut D.l1z) hx fun h₂ aiN XG=>wpAny_pure ?_);refine wpAny_pure ?_;refine wpAny_bind (wpAny_bind (wpAny_holding ?_));show wpAny _ _ (Builtin.SmallTypes.nextOf (.ref i2)>>=_) _ _ _;refine wpAny_bind (wpAny_nextOf_list_end hh ((h2.extBut Qi.extBut D.i2z).extBut XG.extBut D.i12.symm)
      ((Xz.extBut Qi.extBut D.l2z).extBut XG.extBut D.l2i1) hy fun h₄ e afo he=>?_)
    exact hE h₄ e (fun c o c1 c3 c4 x=>afo _ _ c4 (XG.extBut _ _ c3 (Qi.extBut _ _ c1 x))) he
theorem An{z TI TO i1 i2 l1 l2:Addr}{k1 k2 T:Nat}{bb:Bool}{ot:Obj}{xs ys:Array Value}{x y:Value}{Q:Option Value->Shared->Prop}(D:ZipApart z TI TO i1 i2 l1 l2)(hz:km s.heap z TI TO T bb)(hT:s.heap.get? T=some ot)(Hl:IsPair s.heap TI (.ref i1) (.ref i2))(h1:s.heap.IsListIter i1 l1 k1)(h2:s.heap.IsListIter i2 l2 k2)(Hm:s.heap.IsList l1 xs)(Xz:s.heap.IsList l2 ys)(hx:xs[k1]? =some x)(hy:ys[k2]? =some y)(hQ:∀h',km h' z TI TO T true->h'.IsListIter i1 l1 (k1+1)->h'.IsListIter i2 l2 (k2+1)->IsPair h' s.heap.objs.size x y->h'.objs.size=s.heap.objs.size+1->(∀c o,c≠z->c≠i1->c≠i2->s.heap.get? c=some o->h'.get? c=some o)->Q (some (.ref s.heap.objs.size)) { s with heap:=h'}):wpAny (model prog w) A (pyNext (.ref z)) Q E s:=by
  have hTy:s.TypeIs (.ref z) "zip":=⟨_,hz,rfl⟩;unfold pyNext;exact wpAny_bind (wpAny_attempt (wpAny_callSpecial?_slot (name:=Str.ofString "__next__") hTy F.slot_zip_next
    (wpAny_call_entry F.slot_zip_next hTy F.entry_zip_next
      (GW D hz hT Hl h1 h2 Hm Xz hx hy fun h' a1 a2 a3 a4 a5 a6=>wpAny_pure (hQ h' a1 a2 a3 a4 a5 a6)) (F.args_zip_next_1 _))))
theorem CQ{z TI TO i1 i2 l1 l2:Addr}{k1 k2 T:Nat}{bb:Bool}{ot:Obj}{xs ys:Array Value}{Q:Option Value->Shared->Prop}(hh:A.handled=none)(D:ZipApart z TI TO i1 i2 l1 l2)(hz:km s.heap z TI TO T bb)(hT:s.heap.get? T=some ot)(Hl:IsPair s.heap TI (.ref i1) (.ref i2))(h1:s.heap.IsListIter i1 l1 k1)(h2:s.heap.IsListIter i2 l2 k2)(Hm:s.heap.IsList l1 xs)(Xz:s.heap.IsList l2 ys)(E2:xs[k1]? =none\/ys[k2]? =none)(hQ:∀h',(∀c o,c≠z->c≠i1->c≠i2->s.heap.get? c=some o->h'.get? c=some o)->Q none { s with heap:=h'}):wpAny (model prog w) A (pyNext (.ref z)) Q E s:=by
  have hTy:s.TypeIs (.ref z) "zip":=⟨_,hz,rfl⟩;unfold pyNext;refine wpAny_bind (wpAny_attempt (wpAny_callSpecial?_slot (name:=Str.ofString "__next__") hTy F.slot_zip_next
    (wpAny_call_entry F.slot_zip_next hTy F.entry_zip_next (HU hh D hz hT Hl h1 h2 Hm Xz E2 fun h' e hk he=>?_) (F.args_zip_next_1 _))))
  obtain⟨o,ho,hc⟩:=he;refine wpAny_bind (wpAny_isInstance (T:="StopIteration") (b:=true) ⟨o,ho,hc⟩ isSubtype_stop ?_);exact wpAny_pure (hQ _ hk)
end
structure AR(h:Heap)(z TI TO i1 i2 l1 l2 S:Addr)(xs ys:List Value)(i:Nat)(Ts:List Addr):Prop where
  z0:Ts=[]->IsZip h z TI TO .none
  z1:∀T r,Ts=T::r->∃b,km h z TI TO T b
  ti:IsPair h TI (.ref i1) (.ref i2)
  to:∃a b,IsPair h TO a b
  p1:h.IsListIter i1 l1 i
  p2:h.IsListIter i2 l2 i
  q1:h.IsList l1 xs.toArray
  q2:h.IsList l2 ys.toArray
  len:Ts.length=i
  prs:∀(j:Nat) (T:Addr),Ts[j]? =some T->∃x y,xs[j]? =some x/\ys[j]? =some y/\IsPair h T x y/\T≠S/\T≠z/\T≠TO/\T≠i1/\T≠i2
theorem AR.keep{h h':Heap}{z TI TO i1 i2 l1 l2 S:Addr}{xs ys:List Value}{i:Nat}{Ts:List Addr}(Z:AR h z TI TO i1 i2 l1 l2 S xs ys i Ts)(hS:S≠z/\S≠TI/\S≠TO/\S≠i1/\S≠i2/\S≠l1/\S≠l2)(k:∀b o,b≠S->h.get? b=some o->h'.get? b=some o):AR h' z TI TO i1 i2 l1 l2 S xs ys i Ts:=by
  obtain⟨s1,s2,s3,s4,s5,s6,s7⟩:=hS;refine⟨fun e=>k _ _ s1.symm (Z.z0 e),fun T r e=>let ⟨b,q⟩:=Z.z1 T r e;⟨b,k _ _ s1.symm q⟩,k _ _ s2.symm Z.ti,let ⟨a,b,q⟩:=Z.to;⟨a,b,k _ _ s3.symm q⟩,
    Z.p1.at fun o e=>k _ o s4.symm e,Z.p2.at fun o e=>k _ o s5.symm e,Z.q1.at fun o e=>k _ o s6.symm e,Z.q2.at fun o e=>k _ o s7.symm e,Z.len,fun j T e=>?_⟩
  obtain⟨x,y,a,b,c,d⟩:=Z.prs j T e;exact⟨x,y,a,b,k _ _ d.1 c,d⟩
section
variable{prog:Program}{w:World}{A:Around}{R:Result->Shared->Prop}{z TI TO i1 i2 l1 l2 S:Addr}{xs ys:List Value}
theorem Zr(hh:A.handled=none)(D:ZipApart z TI TO i1 i2 l1 l2)(hS:S≠z/\S≠TI/\S≠TO/\S≠i1/\S≠i2/\S≠l1/\S≠l2)(hn:min xs.length ys.length<=sizeLine)(res:Value)(B:Nat):∀(k i:Nat) (s:Shared) (Ts:List Addr) (c:Nat),min xs.length ys.length-i=k->i<=min xs.length ys.length->AR s.heap z TI TO i1 i2 l1 l2 S xs ys i Ts->B<=s.heap.objs.size->(∀T∈Ts,B<=T)->s.heap.get? S=some { cls:=.type "list",dict:=none,data:=.seq (Ts.map Value.ref).toArray c,slots:= #[]}->(∀(h':Heap) (HY:List Addr) (c':Nat),(∀b o,b≠S->b≠z->b≠TO->b≠i1->b≠i2->s.heap.get? b=some o->h'.get? b=some o)->h'.get? S=some { cls:=.type "list",dict:=none,data:=.seq (HY.map Value.ref).toArray c',slots:= #[]}->HY.length=min xs.length ys.length->(∀T∈HY,B<=T)->(∀(j:Nat) (T:Addr),HY[j]? =some T->∃x y,xs[j]? =some x/\ys[j]? =some y/\IsPair h' T x y)->R (.ok (.ret res)) { s with heap:=h'})->codeAny (model prog w) A (.builtin "list.extend.loop" ⟨[.ref S,.ref z,res],[]⟩) R s:=by
  intro k;induction k with
  | zero=>
    intro i s Ts c hk hi Z hB hT hL hR;have ze:i=min xs.length ys.length:=by omega
    have E2:xs.toArray[i]? =none\/ys.toArray[i]? =none:=by
      rcases Nat.le_total xs.length ys.length with h | h
      . exact .inl (by simp;omega)
      . exact .inr (by simp;omega)
    refine codeAny_builtin F.entry_extend_loop ?_;rw[Around.under_plainId F.plain_extend_loop _];show wpAny _ A.in1 (pyNext (.ref z)>>=_) _ _ s;have fin:∀h':Heap,(∀b o,b≠z->b≠TO->b≠i1->b≠i2->s.heap.get? b=some o->h'.get? b=some o)->R (.ok (.ret res)) { s with heap:=h'}:=fun h' kk=>hR h' Ts c (fun b o b1 b2 b3 b4 b5 e=>kk b o b2 b3 b4 b5 e) (kk _ _ hS.1 hS.2.2.1 hS.2.2.2.1 hS.2.2.2.2.1 hL) (by rw[Z.len];exact ze) hT fun j T e=>by obtain⟨x,y,a,b,c,_,d1,d2,d3,d4⟩:=Z.prs j T e;exact⟨x,y,a,b,kk _ _ d1 d2 d3 d4 c⟩
    cases Ts with
    | nil=>obtain⟨a,b,LO⟩:=Z.to;exact wpAny_bind (wpAny_pyNext_zip_end (A:=A.in1) hh D (Z.z0 rfl) Z.ti LO Z.p1 Z.p2 Z.q1 Z.q2 E2 fun h' kk=>wpAny_pure (fin h' kk))
    | cons T r=>obtain⟨b,hz⟩:=Z.z1 T r rfl;obtain⟨_,_,_,_,hTt,_⟩:=Z.prs 0 T rfl;exact wpAny_bind (CQ (A:=A.in1) hh D hz hTt Z.ti Z.p1 Z.p2 Z.q1 Z.q2 E2 fun h' kk=>wpAny_pure (fin h' fun b o b1 b2 b3 b4 e=>kk b o b1 b3 b4 e))
  | succ k ih=>
    intro i s Ts c hk hi Z hB hT hL hR;have hix:i<xs.length:=by omega
    have hiy:i<ys.length:=by omega
    refine codeAny_builtin F.entry_extend_loop ?_;rw[Around.under_plainId F.plain_extend_loop _];show wpAny _ A.in1 (pyNext (.ref z)>>=_) _ _ s;have hx:xs.toArray[i]? =some xs[i]:=by simp[hix]
    have hy:ys.toArray[i]? =some ys[i]:=by simp[hiy]
    have lt:∀{c o},s.heap.get? c=some o->c<s.heap.objs.size:=fun e=>lt_size e;have nz:s.heap.objs.size≠z:=fun e=>by
      cases Ts with
      | nil=>exact lt_irrefl _ (e▸lt (Z.z0 rfl))
      | cons T r=>obtain⟨_,q⟩:=Z.z1 T r rfl;exact lt_irrefl _ (e▸lt q)
    have nTO:s.heap.objs.size≠TO:=fun e=>by obtain⟨_,_,q⟩:=Z.to;exact lt_irrefl _ (e▸lt q)
    have n1:s.heap.objs.size≠i1:=fun e=>by obtain⟨_,q,_⟩:=Z.p1;exact lt_irrefl _ (e▸lt q)
    have n2:s.heap.objs.size≠i2:=fun e=>by obtain⟨_,q,_⟩:=Z.p2;exact lt_irrefl _ (e▸lt q)
    have nS:s.heap.objs.size≠S:=fun e=>lt_irrefl _ (e▸lt hL);have fin:∀h':Heap,(∀T r,Ts++ [s.heap.objs.size]=T::r->∃b,km h' z TI TO T b)->(∃a b,IsPair h' TO a b)->h'.IsListIter i1 l1 (i+1)->h'.IsListIter i2 l2 (i+1)->IsPair h' s.heap.objs.size xs[i] ys[i]->s.heap.objs.size<=h'.objs.size->
        (∀b o,b≠z->b≠TO->b≠i1->b≠i2->s.heap.get? b=some o->h'.get? b=some o)->
        wpAny (model prog w) A.in1 (updateSeq S (·.push (.ref s.heap.objs.size))>>=fun _=>again (.builtin "list.extend.loop" ⟨[.ref S,.ref z,res],[]⟩))
          (fun fin s'=>match fin with | .done f=>R (.ok f) s' | .again c'=>c'.quiet=true/\codeAny (model prog w) A c' R s') (fun e s'=>R (.error e) s') { s with heap:=h'}:=by
      intro h' hz LO UQ Hn hp hsz kk;have hL':h'.get? S=some _:=kk _ _ hS.1 hS.2.2.1 hS.2.2.2.1 hS.2.2.2.2.1 hL;have Z':AR h' z TI TO i1 i2 l1 l2 S xs ys (i+1) (Ts++ [s.heap.objs.size]):=by
        refine⟨fun e=>by simp at e,hz,kk _ _ D.TIz D.TITO D.TIi1 D.TIi2 Z.ti,LO,UQ,Hn,Z.q1.at fun o e=>kk _ o D.l1z D.l1TO D.l1i1 D.l1i2 e,Z.q2.at fun o e=>kk _ o D.l2z D.l2TO D.l2i1 D.l2i2 e,by rw[length_append,Z.len];rfl,fun j T e=>?_⟩;by_cases hj:j<Ts.length
        . rw[getElem?_append_left hj]at e;obtain⟨x,y,a,b,c,d0,d1,d2,d3,d4⟩:=Z.prs j T e;exact⟨x,y,a,b,kk _ _ d1 d2 d3 d4 c,d0,d1,d2,d3,d4⟩
        . have GZ:j=i:=by have:=(List.getElem?_eq_some_iff.mp e).1;rw[length_append,Z.len]at this;rw[Z.len]at hj;simp at this;omega
          subst GZ;rw[getElem?_append_right (by rw[Z.len];exact le_refl _),Z.len,Nat.sub_self]at e;have e':=Option.some.inj e;subst e';exact⟨xs[j],ys[j],by simp,by simp,hp,nS,nz,nTO,n1,n2⟩
      refine wpAny_bind ?_;have hlen:(Ts.map Value.ref).toArray.size=i:=by simp[Z.len]
      obtain⟨c2,hL2⟩:∃c2,(h'.update S (Obj.mapSeq (·.push (Value.ref s.heap.objs.size)))).get? S=some { cls:=.type "list",dict:=none,data:=.seq ((Ts++ [s.heap.objs.size]).map Value.ref).toArray c2,slots:= #[]}:=by have e:=get?_update_self (Obj.mapSeq (·.push (Value.ref s.heap.objs.size))) hL' rfl;simp only[Obj.mapSeq,List.push_toArray]at e;rw[map_append];exact⟨_,e⟩
      refine wpAny_updateSeq hL' rfl (wpAny_pure ⟨plainId_quiet F.plain_extend_loop _,ih (i+1) _ (Ts++ [s.heap.objs.size]) c2 (by omega) (by omega) (Z'.keep hS fun b o hb e=>?_) ?_ (fun T hT'=>?_) hL2 fun GX HY c' k'' ahx a1 a2 a3=>?_⟩)
        (by rw[hlen];omega) (by show(Array.push _ _).size<=sizeLine+1;rw[Array.size_push,hlen];omega)
      . exact(get?_update_other _ _ (Ne.symm hb)).trans e
      . show B<=(h'.update S _).objs.size;rw[(SameBut.update h' S _).1];omega
      . rcases mem_append.mp hT' with q | q
        . exact hT T q
        . rw[mem_singleton.mp q];exact hB
      . exact hR GX HY c' (fun b o b1 b2 b3 b4 b5 e=>k'' b o b1 b2 b3 b4 b5 ((get?_update_other _ _ (Ne.symm b1)).trans (kk b o b2 b3 b4 b5 e))) ahx a1 a2 a3
    cases Ts with
    | nil=>obtain⟨a,b,LO⟩:=Z.to;refine wpAny_bind (wpAny_pyNext_zip_item (A:=A.in1) D (Z.z0 rfl) Z.ti LO Z.p1 Z.p2 Z.q1 Z.q2 hx hy fun h' a1 a2 a3 a4 a5 a6 kk=>?_);refine fin h' (fun T r e=>?_) ⟨_,_,a2⟩ a3 a4 a5 (by omega) kk;obtain⟨rfl,rfl⟩:=List.cons.inj e;exact⟨false,a1⟩
    | cons T r=>obtain⟨b,hz⟩:=Z.z1 T r rfl;obtain⟨_,_,_,_,hTt,_⟩:=Z.prs 0 T rfl;refine wpAny_bind (An (A:=A.in1) D hz hTt Z.ti Z.p1 Z.p2 Z.q1 Z.q2 hx hy fun h' a1 a3 a4 a5 a6 kk=>?_);refine fin h' (fun T' r' e=>?_) (let ⟨a,b,q⟩:=Z.to;⟨a,b,kk _ _ D.TOz D.TOi1 D.TOi2 q⟩) a3 a4 a5 (by omega) fun b o b1 b2 b3 b4 e=>kk b o b1 b3 b4 e;obtain⟨rfl,_⟩:=List.cons.inj e;exact⟨true,a1⟩
theorem Sb:typeLookup (.type "zip") "__len__"=pure none:=by rw[typeLookup_type,builtinLookup_eq_fast];kernel_rfl
theorem OD:typeLookup (.type "zip") "__length_hint__"=pure none:=by rw[typeLookup_type,builtinLookup_eq_fast];kernel_rfl
theorem P1{s:Shared}(hh:A.handled=none)(D:ZipApart z TI TO i1 i2 l1 l2)(hS:S≠z/\S≠TI/\S≠TO/\S≠i1/\S≠i2/\S≠l1/\S≠l2)(hn:min xs.length ys.length<=sizeLine)(res:Value)(B c₀:Nat)(Z:AR s.heap z TI TO i1 i2 l1 l2 S xs ys 0 [])(hB:B<=s.heap.objs.size)(hL:s.heap.get? S=some { cls:=.type "list",data:=.seq #[] c₀})(hR:∀(h':Heap) (HY:List Addr) (c':Nat),(∀b o,b≠S->b≠z->b≠TO->b≠i1->b≠i2->s.heap.get? b=some o->h'.get? b=some o)->h'.get? S=some { cls:=.type "list",dict:=none,data:=.seq (HY.map Value.ref).toArray c',slots:= #[]}->HY.length=min xs.length ys.length->(∀T∈HY,B<=T)->(∀(j:Nat) (T:Addr),HY[j]? =some T->∃x y,xs[j]? =some x/\ys[j]? =some y/\IsPair h' T x y)->R (.ok (.ret res)) { s with heap:=h'}):wpAny (model prog w) A.in1 (Builtin.List.listExtendWith (.ref S) (.ref z) res) (fun fin s'=>match fin with | .done f=>R (.ok f) s' | .again c'=>c'.quiet=true/\codeAny (model prog w) A c' R s') (fun e s'=>R (.error e) s') s:=by
  have hT:s.TypeIs (.ref z) "zip":=⟨_,Z.z0 rfl,rfl⟩;unfold Builtin.List.listExtendWith;refine wpAny_bind (wpAny_typeOf hT ?_);have h1:Builtin.List.listSameRef (.ref S) (.ref z)=false:=by simp[Builtin.List.listSameRef,hS.1]
  have h2:(Value.type "zip"==Value.type "list")=false:=by decide
  have h3:(Value.type "zip"==Value.type "tuple")=false:=by decide
  simp only[h1,h2,h3,Bool.or_false,false_eq_true,if_false];refine wpAny_bind (wpAny_pyIter_zip (Z.z0 rfl) ?_);refine wpAny_bind (wpAny_holding ?_);unfold Builtin.List.listLengthHint;refine wpAny_bind (wpAny_specialOf hT Sb ?_);show wpAny _ A.in1 (specialOf (Value.ref z) (Str.ofString "__length_hint__")>>=_) _ _ _;refine wpAny_bind (wpAny_specialOf hT OD ?_);refine wpAny_pure ?_;show wpAny _ A.in1 (rule "list.extend.makes-room">>=fun _=>Builtin.List.listTouch (.ref S)>>=fun _=>again (.builtin "list.extend.loop" ⟨[.ref S,.ref z,res],[]⟩)) _ _ _;refine wpAny_bind (wpAny_rule ?_);refine wpAny_bind ?_;show wpAny _ A.in1 (updateSeq S (·.push .none)>>=fun _=>updateSeq S (·.pop)) _ _ _;refine wpAny_bind (wpAny_updateSeq hL rfl ?_);have adN:=get?_update_self (Obj.mapSeq (·.push Value.none)) hL rfl;refine wpAny_updateSeq (hz:=by seq_fits) adN rfl ?_;have ahz:=get?_update_self (Obj.mapSeq (·.pop)) adN rfl;have Wm:∀b o,b≠S->s.heap.get? b=some o->((s.heap.update S (Obj.mapSeq (·.push Value.none))).update S (Obj.mapSeq (·.pop))).get? b=some o:=
    fun b o hb e=>(get?_update_other _ _ (Ne.symm hb)).trans ((get?_update_other _ _ (Ne.symm hb)).trans e)
  refine wpAny_pure ⟨plainId_quiet F.plain_extend_loop _,Zr hh D hS hn res B _ 0 _ [] _ rfl (zero_le _) (Z.keep hS Wm) ?_ (fun T q=>by cases q) ahz fun h' HY c' k a1 a2 a3 a4=>?_⟩
  . show B<=((s.heap.update S _).update S _).objs.size;rw[(SameBut.update _ S _).1,(SameBut.update _ S _).1];exact hB
  . exact hR h' HY c' (fun b o b1 b2 b3 b4 b5 e=>k b o b1 b2 b3 b4 b5 (Wm b o b1 e)) a1 a2 a3 a4
theorem Hv{s:Shared}(hh:A.handled=none)(D:ZipApart z TI TO i1 i2 l1 l2)(hS:S≠z/\S≠TI/\S≠TO/\S≠i1/\S≠i2/\S≠l1/\S≠l2)(hn:min xs.length ys.length<=sizeLine)(B:Nat)(Z:AR s.heap z TI TO i1 i2 l1 l2 S xs ys 0 [])(hB:B<=s.heap.objs.size)(hL:s.heap.get? S=some { cls:=.type "list",data:=.seq #[]})(hR:∀(h':Heap) (HY:List Addr) (c':Nat),(∀b o,b≠S->b≠z->b≠TO->b≠i1->b≠i2->s.heap.get? b=some o->h'.get? b=some o)->h'.get? S=some { cls:=.type "list",dict:=none,data:=.seq (HY.map Value.ref).toArray c',slots:= #[]}->HY.length=min xs.length ys.length->(∀T∈HY,B<=T)->(∀(j:Nat) (T:Addr),HY[j]? =some T->∃x y,xs[j]? =some x/\ys[j]? =some y/\IsPair h' T x y)->R (.ok (.ret .none)) { s with heap:=h'}):wpAny (model prog w) A.in1 (Builtin.«list.__init__» ⟨[.ref S,.ref z],[]⟩) (fun fin s'=>match fin with | .done f=>R (.ok f) s' | .again c'=>c'.quiet=true/\codeAny (model prog w) A c' R s') (fun e s'=>R (.error e) s') s:=by
  show wpAny _ A.in1 (do let old <-Builtin.List.listItems (.ref S);Builtin.List.listUpdate (.ref S) (fun _=> #[]);letGo old.toList.reverse;Builtin.List.listExtendWith (.ref S) (.ref z) .none) _ _ s;refine wpAny_bind ?_;unfold Builtin.List.listItems;refine wpAny_bind (wpAny_seqItems hL rfl (wpAny_pure ?_));show wpAny _ A.in1 (updateSeq S (fun _=> #[])>>=fun _=>letGo (#[]:Array Value).toList.reverse>>=fun _=>Builtin.List.listExtendWith (.ref S) (.ref z) .none) _ _ s;refine wpAny_bind (wpAny_updateSeq hL rfl ?_);have adN:=get?_update_self (Obj.mapSeq (fun _=>(#[]:Array Value))) hL rfl;have Wm:∀b o,b≠S->s.heap.get? b=some o->(s.heap.update S (Obj.mapSeq (fun _=>(#[]:Array Value)))).get? b=some o:=
    fun b o hb e=>(get?_update_other _ _ (Ne.symm hb)).trans e
  refine wpAny_bind (wpAny_letGo ?_);refine P1 hh D hS hn .none B _ (Z.keep hS Wm) ?_ adN fun h' HY c' k a1 a2 a3 a4=>?_
  . show B<=(s.heap.update S _).objs.size;rw[(SameBut.update _ S _).1];exact hB
  . exact hR h' HY c' (fun b o b1 b2 b3 b4 b5 e=>k b o b1 b2 b3 b4 b5 (Wm b o b1 e)) a1 a2 a3 a4
end
end My
namespace My
open PySem PySem.Spec PyProof.Rows L2
theorem xj{a b:Nat}(h:a<b\/b<a):(a:Addr)≠(b:Addr):=fun e=>by have e':a=b:=e;omega
def over(H:Hp)(n:Nat)(G:Hp):Hp:=fun b=>if n<=b then G b else H b
theorem Lb{H G:Hp}{n b:Nat}(h:b<n):over H n G b=H b:=by unfold over;rw[if_neg (by omega)]
theorem La{H G:Hp}{n b:Nat}(h:n<=b):over H n G b=G b:=by unfold over;rw[if_pos h]
section
variable{X:Cx}{pins:List (Addr×Obj)}{σ:L2.St}{H:Hp}{s:Shared}{h':Heap}
theorem aaG(I:L2.Inv X pins σ H s){b:Addr}{o:HO}(e:H b=some o):b<s.heap.objs.size:=I.bj.lt e
theorem oy(I:L2.Inv X pins σ H s){G:Hp}:aA H (over H s.heap.objs.size G):=fun b o e=>by rw[Lb (aaG I e)];exact e
theorem XM{t':Nat}(I:L2.Inv X pins σ H s)(k:∀b u,s.heap.get? b=some u->h'.get? b=some u)(G:Hp)(new:∀b o,s.heap.objs.size<=b->G b=some o->cJ X.prog X.w (over H s.heap.objs.size G) h' b o):L2.Inv X pins σ (over H s.heap.objs.size G) { s with heap:=h',toks:=t'}:=by
  refine I.un ⟨fun b u q _ _ _=>k b u q,fun b u q _ _ _=>⟨u.slots,k b u q⟩,fun b u q n _=>by rw[Lb (lt_size q)];exact n,fun b u q _=>⟨u,k b u q⟩,fun b xs q=>oy I b _ q,fun b u xs q=>oy I b _ q,
    fun b ps q=>⟨#[],by rw[oy I b _ q];simp⟩⟩ fun b o e=>?_
  by_cases hb:s.heap.objs.size<=b
  . rw[La hb]at e;exact new b o hb e
  . rw[Lb (by omega)]at e;exact(I.bj b o e).GK (fun c u _ q=>k c u q) (fun c q=>oy I c _ q) fun c xs q=>oy I c _ q
def Zb(K:Frag)(ta:TA):TE:=fun σ H Q=>ta σ H fun vs H1=>∃(a b:Addr) (xs ys:List V),vs=[.ref a,.ref b]/\aN K H1 a xs/\aN K H1 b ys/\
  ∀(D:Addr) (Ts:List Addr) (H':Hp),H1 D=none->(∀T∈Ts,H1 T=none)->aA H1 H'->H' D=some (.lst (Ts.map V.ref))->Ts.length=min xs.length ys.length->
    (∀(j:Nat) (T:Addr),Ts[j]? =some T->∃x y,xs[j]? =some x/\ys[j]? =some y/\H' T=some (.tup [x,y]))->Q (.ref D) H'
theorem Jg:∀Ts:List Addr,Vals (Ts.map V.ref) (Ts.map Value.ref)
  | []=>.nil
  | T::r=>.cons rfl (Jg r)
theorem LK:∀{xs:List V} {us:List Value} {i:Nat} {u:Value},Vals xs us->us[i]? =some u->∃x,xs[i]? =some x/\L2.RelV x u
  | _,_,_,_,.nil,e=>by simp at e
  | _,_,0,_,.cons r _,e=>by have e':=Option.some.inj e;subst e';exact⟨_,rfl,r⟩
  | _,_,i+1,u,.cons _ t,e=>LK (i:=i) t e
theorem Rj{e e2:Expr}{ta:TA}{p p2 pos aie:Pos}(hc:X.calm=true)(hml:X.mg "list"=none)(hm:X.mg "zip"=none)(ha:PA X [e,e2] ta)(hgl:Gl X "list":=by rfl)(hg:Gl X "zip":=by rfl)(hs:starEach [e,e2] X.env=(false,eval e X.env)::starEach [e2] X.env:=by rfl)(t6:(backTo pos (starEach [e2] X.env)).any (·.1)=false:=by rfl)(UR:starEach [Expr.Call (.Name "zip" p) [e,e2] [] pos] X.env=[(false,eval (.Call (.Name "zip" p) [e,e2] [] pos) X.env)]:=by rfl):PE X (.Call (.Name "list" p2) [.Call (.Name "zip" p) [e,e2] [] pos] [] aie) (Zb X.K ta):=by
  intro pins s σ H Q I h;refine Call_ (pE I hgl hml JJ (PyProof.Rows.callWith_type1 ?_ UR rfl));rw[UR];refine Calls.spliced_cons ?_;refine Call_ (pE I hg hm adt (PyProof.Rows.callWith_type1 (cy (ha pos pins s σ H _ I h) fun us s1 ⟨vs,H1,I1,r1,q1⟩=>?_) hs t6));obtain⟨a,b,xs,ys,ex,Dh,hqy,q⟩:=q1;subst ex;obtain⟨u1,u2,rfl,ru1,ru2⟩:=vals2 r1;cases ru1;cases ru2;obtain⟨aX,rv,p1,hz1⟩:=I1.list Dh;obtain⟨u9,rv2,p2',hz2⟩:=I1.list hqy;have la:LT.lt (α:=Nat) a s1.heap.objs.size:=p1.lt;have lb:LT.lt (α:=Nat) b s1.heap.objs.size:=p2'.lt;refine call_zip_2 p1.isList p2'.isList fun h1 hz Hl LO hi1 hi2 hsz hk=>?_;refine Calls.spliced_nil ?_;have ap:=ktu_apart s1.heap.objs.size a b la lb;refine callType_codes (Q₁:=fun obj s₁=>obj=.ref h1.objs.size/\s₁={ s1 with heap:=h1.push { cls:=.type "list",data:=.seq #[]}}) F.called_list (F.typeCall_list_1 _) F.entry_list_init
    (code_list_new _ ⟨rfl,rfl⟩) fun obj s₁ h₁=>?_
  obtain⟨rfl,rfl⟩:=h₁;have hS:(h1.push { cls:=.type "list",data:=.seq #[]}).get? h1.objs.size=some { cls:=.type "list",data:=.seq #[]}:=get?_push_size _ rfl;have up:∀c o,h1.get? c=some o->(h1.push { cls:=.type "list",data:=.seq #[]}).get? c=some o:=fun c o e=>get?_push_of_some _ e;have Z:AR (h1.push { cls:=.type "list",data:=.seq #[]}) (s1.heap.objs.size+4) (s1.heap.objs.size+2) (s1.heap.objs.size+3) s1.heap.objs.size (s1.heap.objs.size+1) a b h1.objs.size aX u9 0 []:=
    ⟨fun _=>up _ _ hz,fun T r e=>(by cases e),up _ _ Hl,⟨_,_,up _ _ LO⟩,hi1.at fun o e=>up _ o e,hi2.at fun o e=>up _ o e,p1.isList.at fun o e=>up _ o (hk _ o e),p2'.isList.at fun o e=>up _ o (hk _ o e),rfl,fun j T e=>(by simp at e)⟩
  have l1:=rv.length;have l2:=rv2.length;refine⟨⟨_,hS,rfl⟩,F.args_list_init_2 _ _,Hv (A:=X.A.in1) (I1.ok.hd hc) ap ⟨xj (by omega),xj (by omega),xj (by omega),xj (by omega),xj (by omega),xj (by omega),xj (by omega)⟩
    (by rw[<-l1];omega) (h1.objs.size+1) Z (by show h1.objs.size+1<=(h1.push _).objs.size;rw[size_push];exact le_refl _) hS fun h' Ts c' kk hD hl hB hp=>?_⟩
  have hge:∀T∈Ts,s1.heap.objs.size<=T:=fun T hT=>le_trans (by omega) (hB T hT);have ah7:∀c o,s1.heap.get? c=some o->h'.get? c=some o:=fun c o e=>by have:LT.lt (α:=Nat) c s1.heap.objs.size:=lt_size e;exact kk c o (xj (by omega)) (xj (by omega)) (xj (by omega)) (xj (by omega)) (xj (by omega)) (up c o (hk c o e))
  have pr:∀(j:Nat) (T:Addr),Ts[j]? =some T->∃x y u v,xs[j]? =some x/\ys[j]? =some y/\L2.RelV x u/\L2.RelV y v/\IsPair h' T u v:=fun j T e=>by obtain⟨u,v,e1,e2,e3⟩:=hp j T e;obtain⟨x,f1,g1⟩:=LK rv e1;obtain⟨y,f2,g2⟩:=LK rv2 e2;exact⟨x,y,u,v,f1,f2,g1,g2,e3⟩
  have nD:∀T∈Ts,T≠h1.objs.size:=fun T hT=>xj (.inr (hB T hT));let G:Hp:=fun c=>if c=h1.objs.size then some (.lst (Ts.map V.ref)) else if c∈Ts then some (.tup [xs.getD (Ts.idxOf c) .dZ,ys.getD (Ts.idxOf c) .dZ]) else none
  have hG1:G h1.objs.size=some (.lst (Ts.map V.ref)):=if_pos rfl;have hG2:∀(j:Nat) (T:Addr),Ts[j]? =some T->∃x y u v,xs[j]? =some x/\ys[j]? =some y/\G T=some (.tup [x,y])/\L2.RelV x u/\L2.RelV y v/\IsPair h' T u v:=fun j T e=>by
    have hm:T∈Ts:=mem_of_getElem? e;obtain⟨x,y,u,v,e1,e2,e3,e4,e5⟩:=pr j T e;have hi:Ts[Ts.idxOf T]? =some T:=by rw[getElem?_eq_getElem (List.idxOf_lt_length_of_mem hm)];simp
    obtain⟨x',y',u',v',f1,f2,f3,f4,f5⟩:=pr _ T hi;have f6:=Option.some.inj ((show h'.get? T=_ from e5).symm.trans f5);cases f6;have z1:=L2.RelV.inj e3 f3;have z2:=L2.RelV.inj e4 f4;subst z1 z2;refine⟨x,y,u,v,e1,e2,?_,e3,e4,e5⟩;show(if T=h1.objs.size then _ else if T∈Ts then _ else none)=_;rw[if_neg (nD T hm),if_pos hm];rw[getD_eq_getElem?_getD,getD_eq_getElem?_getD,f1,f2];rfl
  have I2:L2.Inv X pins σ (over H1 s1.heap.objs.size G) { s1 with heap:=h'}:=XM (t':=s1.toks) I1 ah7 G fun c o hc' e=>by
    by_cases S5:c=h1.objs.size
    . subst S5;rw[hG1]at e;cases e;refine⟨?_,Ts.map Value.ref,c',Jg Ts,by simpa using hD⟩;rw[length_map,hl,<-l1];omega
    . have e':(if c∈Ts then some (HO.tup [xs.getD (Ts.idxOf c) .dZ,ys.getD (Ts.idxOf c) .dZ]) else none)=some o:=by have:(if c=h1.objs.size then some (HO.lst (Ts.map V.ref)) else if c∈Ts then some (.tup [xs.getD (Ts.idxOf c) .dZ,ys.getD (Ts.idxOf c) .dZ]) else none)=some o:=e;rwa[if_neg S5]at this
      by_cases hm:c∈Ts
      . obtain⟨j,hj⟩:=getElem?_of_mem hm;obtain⟨x,y,u,v,_,_,g,ru,YG,Ks⟩:=hG2 j c hj;rw[g]at e;cases e;exact⟨by show 2<=sizeLine;decide,[u,v],.cons ru (.cons YG .nil),⟨_,Ks,rfl,_,rfl⟩⟩
      . rw[if_neg hm]at e';cases e'
  refine⟨rfl,?_⟩;refine⟨.ref h1.objs.size,_,I2,rfl,q h1.objs.size Ts _ (I1.bj.fresh (by omega)) (fun T hT=>I1.bj.fresh (hge T hT)) (oy I1) ?_ ?_ fun j T e=>?_⟩
  . rw[La (by omega)];exact hG1
  . rw[hl,l1,l2]
  . obtain⟨x,y,u,v,e1,e2,g,_⟩:=hG2 j T e;exact⟨x,y,e1,e2,by rw[La (hge T (mem_of_getElem? e))];exact g⟩
end
end My
namespace My
open PySem PySem.Spec PyProof.Rows L2 HT
theorem de:∀ns:List Int,lexLt ns ns=false
  | []=>rfl
  | x::xs=>by rw[bK,if_pos rfl,de xs]
section
open PySem.SeqAt
open PySem.AutoSeq1 (wpAny_loadPart')
open PySem.MeetsSeq PySem.MeetsSeq2 PySem.MeetsSeq3
theorem sU:∀{vs:List Value} {ns:List Int},IntsAre vs ns->∀(i:Nat),(∃n t,vs[i]? =some (.int n t)/\ns[i]? =some n)\/(vs[i]? =none/\ns[i]? =none)
  | _,_,.nil,i=>.inr ⟨by simp,by simp⟩
  | _,_,.cons n t h,0=>.inl ⟨n,t,rfl,rfl⟩
  | _,_,.cons n t h,i+1=>sU h i
theorem SI{α:Type}{l:List α}{i:Nat}{x:α}(h:l[i]? =some x):l.drop i=x::l.drop (i+1):=by obtain⟨h1,e⟩:=List.getElem?_eq_some_iff.mp h;rw[drop_eq_getElem_cons h1,e]
theorem Uz{α:Type}{l:List α}{i:Nat}(h:l[i]? =none):l.drop i=[]:=drop_eq_nil_of_le (List.getElem?_eq_none_iff.mp h)
theorem aaW(l b:Addr)(items cb:Array Value)(n n2:Nat)(dd Zt:Option Addr)(sl OL:Array (Option Value))(ns ms:List Int)(hi:IntsAre items.toList ns)(hj:IntsAre cb.toList ms)(k:Nat):∀i:Nat,items.size-i=k->Meets (Builtin.«list.__eq__.loop» ⟨[.ref l,.ref b,rawInt i,rawInt 0],[]⟩) (fun A R s=>s.heap.get? l=some { cls:=.type "list",dict:=dd,data:=.seq items n,slots:=sl}/\s.heap.get? b=some { cls:=.type "list",dict:=Zt,data:=.seq cb n2,slots:=OL}/\i<=items.size/\i<=cb.size/\R (.ok (.ret (.bool (lexLt (ns.drop i) (ms.drop i))))) s):=by
  have z1:items.size=ns.length:=by rw[<-hi.length];simp
  have z2:cb.size=ms.length:=by rw[<-hj.length];simp
  induction k with
  | zero=>
    intro i hk prog w A R s h;obtain⟨hp,g,d,tk,os⟩:=s;obtain⟨hl,hb,b1,b2,h⟩:=h;wp_walk using wpAny_loadPart' hl,wpAny_loadPart' hb;have hi1:items[((i:Nat):Int).toNat]? =none:=by simp;omega
    have hd:ns.drop i=[]:=drop_eq_nil_of_le (by omega);rw[hd]at h;rw[hi1];wp_walk using wpAny_loadPart' hl,wpAny_loadPart' hb;show R (.ok (.ret (.bool (decide (items.size<cb.size))))) _;have e:lexLt [] (ms.drop i)=decide (items.size<cb.size):=by
      cases q:ms.drop i with
      | nil=>have:=List.drop_eq_nil_iff.mp q;rw[Hu];exact(decide_eq_false (by omega)).symm
      | cons x r=>
        have:i<ms.length:=by
          rcases Nat.lt_or_ge i ms.length with z | z
          . exact z
          . rw[drop_eq_nil_of_le z]at q;cases q
        rw[FC];exact(decide_eq_true (by omega)).symm
    rw[e]at h;exact h
  | succ k ih=>
    intro i hk prog w A R s h;obtain⟨hp,g,d,tk,os⟩:=s;obtain⟨hl,hb,b1,b2,h⟩:=h;wp_walk using wpAny_loadPart' hl,wpAny_loadPart' hb;have dD:i<items.size:=by omega
    obtain⟨a,t,v1,v2⟩:∃n t,items.toList[i]? =some (.int n t)/\ns[i]? =some n:=by
      rcases sU hi i with z | z
      . exact z
      . have:=List.getElem?_eq_none_iff.mp z.2;omega
    have hi1:items[((i:Nat):Int).toNat]? =some (.int a t):=by simpa using v1
    rw[SI v2]at h;rcases sU hj i with⟨c,u,w1,w2⟩ | ⟨w1,w2⟩
    . have hi2:cb[((i:Nat):Int).toNat]? =some (.int c u):=by simpa using w1
      have hc:((i:Int)+1)=((i+1:Nat):Int):=by push_cast;rfl
      have adZ:i<cb.size:=by have:=(List.getElem?_eq_some_iff.mp w2).1;omega
      rw[SI w2,bK]at h;rw[hi1,hi2];obtain⟨e,he,MY⟩:=MK A.in1 ⟨hp,g,d,tk,os⟩ a t c u;refine wpAny_bind (he prog w _ _ ?_);cases e with
      | true=>rw[if_pos (MY.mp rfl)]at h;wp_walk;rw[hc];exact⟨plainId_quiet plain_eq_loop _,codeAny_builtin entry_eq_loop (by rw[Around.under_plainId plain_eq_loop _];exact ih (i+1) (by omega) prog w A R _ ⟨hl,hb,dD,adZ,by simpa using h⟩)⟩
      | false=>rw[if_neg (fun q=>absurd (MY.mpr q) Bool.false_ne_true)]at h;have hri:=N0 A.in1 ⟨hp,g,d,tk,os⟩ a t c u prog w;wp_walk using wpAny_loadPart' hl,wpAny_loadPart' hb;rw[hi1,hi2];wp_walk using hri;simpa using h
    . have hi2:cb[((i:Nat):Int).toNat]? =none:=by simpa using w1
      have hge:ms.length<=i:=List.getElem?_eq_none_iff.mp w2;rw[Uz w2,Fz]at h;rw[hi1,hi2];wp_walk using wpAny_loadPart' hl,wpAny_loadPart' hb;show R (.ok (.ret (.bool (decide (items.size<cb.size))))) _;rw[decide_eq_false (by omega)];exact h
theorem KO(l b:Addr)(items cb:Array Value)(n n2:Nat)(dd Zt:Option Addr)(sl OL:Array (Option Value))(ns ms:List Int)(hi:IntsAre items.toList ns)(hj:IntsAre cb.toList ms):Meets (Builtin.«list.__lt__» ⟨[.ref l,.ref b],[]⟩) (fun A R s=>s.heap.get? l=some { cls:=.type "list",dict:=dd,data:=.seq items n,slots:=sl}/\s.heap.get? b=some { cls:=.type "list",dict:=Zt,data:=.seq cb n2,slots:=OL}/\R (.ok (.ret (.bool (lexLt ns ms)))) s):=by intro prog w A R s h;obtain⟨hp,g,d,tk,os⟩:=s;obtain⟨hl,hb,h⟩:=h;have f3:=AutoSeq1.sub_list_list;wp_walk using wpAny_loadPart' hl,wpAny_loadPart' hb;exact⟨plainId_quiet plain_eq_loop _,codeAny_builtin entry_eq_loop (by rw[Around.under_plainId plain_eq_loop _];exact aaW l b items cb n n2 dd Zt sl OL ns ms hi hj _ 0 rfl prog w A R _ ⟨hl,hb,zero_le _,zero_le _,by simpa using h⟩)⟩
end
section
variable{prog:Program}{w:World}{A:Around}{E:Value->Shared->Prop}{s:Shared}
theorem X6{l b:Addr}{items cb:Array Value}{ns ms:List Int}{Q:Value->Shared->Prop}(hl:s.heap.IsList l items)(hb:s.heap.IsList b cb)(hi:IntsAre items.toList ns)(hj:IntsAre cb.toList ms)(hu:A.units<cLine)(h:Q (.bool (lexLt ns ms)) s):wpAny (model prog w) A (richCompare .Lt (.ref l) (.ref b)) Q E s:=by
  obtain⟨⟨cls,dd,data,sl⟩,ho,hc,n,hd⟩:=id hl;obtain⟨⟨ahn,Zt,data2,OL⟩,ho2,hc2,n2,hd2⟩:=id hb;simp only at hc hd hc2 hd2;subst hc hd hc2 hd2;exact richCompare_meets_room (op:=.Lt) ⟨_,ho,rfl⟩ ⟨_,ho2,rfl⟩ PySem.F.slot_list_lt PySem.F.entry_list_lt (PySem.F.args_list_lt_2 _ _) (KO l b items cb n n2 dd Zt sl OL ns ms hi hj)
    ⟨ho,ho2,show Value.bool (lexLt ns ms)≠Value.notImplemented/\Q (.bool (lexLt ns ms)) s from⟨(fun x=>nomatch x),h⟩⟩ hu
end
end My
namespace My
open PySem PySem.Spec PyProof.Rows L2 HT
theorem Bk:∀{xs ys:List Int},xs.map V.int=ys.map V.int->xs=ys
  | [],[],_=>rfl
  | [],_::_,h=>by cases h
  | _::_,[],h=>by cases h
  | x::xs,y::ys,h=>by rw[map_cons,map_cons]at h;injection h with h1 h2;injection h1 with h3;rw[h3,Bk h2]
section
open PySem.SeqAt
open PySem.AutoSeq1 (wpAny_loadPart')
open PySem.MeetsSeq PySem.MeetsSeq2 PySem.MeetsSeq3
theorem HR(l b:Addr)(a c:Int)(t u:Tok)(x y:Addr)(n n2:Nat)(dd Zt:Option Addr)(sl OL:Array (Option Value))(e r:Bool)(hr:e=true->r=false):Meets (Builtin.«tuple.__lt__» ⟨[.ref l,.ref b],[]⟩) (fun A R s=>s.heap.get? l=some { cls:=.type "tuple",dict:=dd,data:=.seq #[.int a t,.ref x] n,slots:=sl}/\s.heap.get? b=some { cls:=.type "tuple",dict:=Zt,data:=.seq #[.int c u,.ref y] n2,slots:=OL}/\EqAt A.in1 s (.ref x) (.ref y) e/\(∀(prog:Program) (w:World) (E:Value->Shared->Prop) (Q:Value->Shared->Prop),Q (.bool r) s->wpAny (model prog w) A.in1 (richCompare .Lt (.ref x) (.ref y)) Q E s)/\R (.ok (.ret (.bool (if a=c then r else decide (a<c))))) s):=
  .of_wp fun prog w A R s h=>by
    obtain⟨hp,g,d,tk,os⟩:=s;obtain⟨hl,hb,he,dD,h⟩:=h;have f2:=AutoSeq1.sub_tuple_tuple;wp_walk using wpAny_loadPart' hl,wpAny_loadPart' hb,wpAny_forIn_list _ (fun rest b s'=>b.1=none/\s'=⟨hp,g,d,tk,os⟩/\((rest=[(.int a t,.int c u),(.ref x,.ref y)])\/(rest=[(.ref x,.ref y)]/\a=c)\/(rest=[]/\a=c/\r=false))) _;case turn=>
      rintro⟨v,v'⟩ rest b s' ⟨GY,rfl,hz⟩;rcases hz with hz | ⟨hz,hac⟩ | ⟨hz,_⟩
      . injection hz with hyx M3;injection hyx with hy hx;subst hy hx;obtain⟨e',Qc,MY⟩:=MK A.in1 ⟨hp,g,d,tk,os⟩ a t c u;refine wpAny_bind (Qc prog w _ _ ?_);cases e' with
        | true=>wp_walk;exact⟨rfl,rfl,.inr (.inl ⟨M3,MY.mp rfl⟩)⟩
        | false=>rw[if_neg (fun q=>absurd (MY.mpr q) Bool.false_ne_true)]at h;have hri:=N0 A.in1 ⟨hp,g,d,tk,os⟩ a t c u prog w;wp_walk using hri;exact⟨_,rfl,by simpa using h⟩
      . injection hz with hyx M3;injection hyx with hy hx;subst hy hx;refine wpAny_bind (he prog w _ _ ?_);cases e with
        | true=>wp_walk;exact⟨rfl,rfl,.inr (.inr ⟨M3,hac,hr rfl⟩)⟩
        | false=>rw[if_pos hac]at h;have hri:=dD prog w;wp_walk using hri;exact⟨_,rfl,by simpa using h⟩
      . cases hz
    case fin=>
      rintro⟨b1,b2⟩ s' ⟨GY,rfl,hz⟩;simp only at GY;subst GY;rcases hz with hz | ⟨hz,hac⟩ | ⟨_,hac,hrf⟩
      . cases hz
      . cases hz
      . rw[if_pos hac,hrf]at h;wp_walk;exact⟨_,rfl,by simpa[Builtin.Tuple.tupleCompareSizes]using h⟩
    case h=>exact⟨rfl,rfl,.inl rfl⟩
end
section
variable{prog:Program}{w:World}{A:Around}{E:Value->Shared->Prop}{s:Shared}
theorem PZ{x y:Addr}{items cb:Array Value}{ns ms:List Int}(hl:s.heap.IsList x items)(hb:s.heap.IsList y cb)(hi:IntsAre items.toList ns)(hj:IntsAre cb.toList ms)(hu:A.units<cLine):SeqAt.EqAt A s (.ref x) (.ref y) (decide (ns=ms)):=by
  have z1:items.size=ns.length:=by rw[<-hi.length];simp
  have z2:cb.size=ms.length:=by rw[<-hj.length];simp
  by_cases hxy:x=y
  . subst hxy;have e:items=cb:=by obtain⟨o,e1,_,n,d1⟩:=hl;obtain⟨o',e2,_,n',d2⟩:=hb;rw[e1]at e2;cases e2;rw[d1]at d2;cases d2;rfl
    subst e;have e2:ns=ms:=by have r1:=g8 hi;have r2:=g8 hj;have:=r1.inj r2;exact Bk this
    rw[decide_eq_true e2];exact SeqAt.EqAt.same _
  . by_cases hs:items.size=cb.size
    . have q:=SeqAt.EqAt.of_refs hxy (SeqAt.RcAt.lists (e:=fun j=>decide (ns[j]? =ms[j]?)) hl hb hs hu fun j h1 h2=>by
        rcases sU hi j with⟨a,t,v1,v2⟩ | ⟨v1,_⟩
        . rcases sU hj j with⟨c,u,w1,w2⟩ | ⟨w1,_⟩
          . have e1:items[j]=.int a t:=by rw[getElem?_toList,Array.getElem?_eq_getElem h1]at v1;exact Option.some.inj v1
            have e2:cb[j]=.int c u:=by rw[getElem?_toList,Array.getElem?_eq_getElem h2]at w1;exact Option.some.inj w1
            rw[e1,e2,v2,w2];have e3:decide (some a=some c)=(a==c):=by
              by_cases z:a=c
              . subst z;simp
              . simp[z]
            rw[e3];exact SeqAt.EqAt.int_int a t c u
          . have:=List.getElem?_eq_none_iff.mp w1;simp at this;omega
        . have:=List.getElem?_eq_none_iff.mp v1;simp at this;omega)
      have e:((List.range items.size).all fun j=>decide (ns[j]? =ms[j]?))=decide (ns=ms):=by
        by_cases z:ns=ms
        . subst z;simp
        . rw[decide_eq_false z];rw[List.all_eq_false];apply Classical.byContradiction;intro LQ;refine z (ext_getElem? fun j=>?_);by_cases GZ:j<items.size
          . apply Classical.byContradiction;intro eZ;exact LQ ⟨j,mem_range.mpr GZ,by simp[eZ]⟩
          . rw[getElem?_eq_none (by omega),getElem?_eq_none (by omega)]
      rw[e]at q;exact q
    . have eZ:ns≠ms:=fun z=>hs (by rw[z1,z2,z]);rw[decide_eq_false eZ];exact SeqAt.EqAt.of_refs hxy (SeqAt.RcAt.lists_lengths hl hb (by simpa using hs) hu)
theorem Nd{l b x y:Addr}{a c:Int}{t u:Tok}{items cb:Array Value}{ns ms:List Int}{Q:Value->Shared->Prop}(hl:IsTup s.heap l #[.int a t,.ref x])(hb:IsTup s.heap b #[.int c u,.ref y])(hx:s.heap.IsList x items)(hy:s.heap.IsList y cb)(hi:IntsAre items.toList ns)(hj:IntsAre cb.toList ms)(hu:A.units+64<cLine)(h:Q (.bool (lexLt (a::ns) (c::ms))) s):wpAny (model prog w) A (richCompare .Lt (.ref l) (.ref b)) Q E s:=by
  obtain⟨⟨cls,dd,data,sl⟩,ho,hc,n,hd⟩:=id hl;obtain⟨⟨ahn,Zt,data2,OL⟩,ho2,hc2,n2,hd2⟩:=id hb;simp only at hc hd hc2 hd2;subst hc hd hc2 hd2;have M4:A.in1.units<cLine:=by show A.units+1<cLine;omega
  refine richCompare_meets_room (op:=.Lt) ⟨_,ho,rfl⟩ ⟨_,ho2,rfl⟩ PySem.F.slot_tuple_lt PySem.F.entry_tuple_lt (PySem.F.args_tuple_lt_2 _ _)
    (HR l b a c t u x y n n2 dd Zt sl OL (decide (ns=ms)) (lexLt ns ms) (fun e=>by rw[of_decide_eq_true e];exact de _))
    ⟨ho,ho2,PZ hx hy hi hj M4,fun prog w E Q q=>X6 hx hy hi hj M4 q,?_⟩ (by omega)
  rw[bK]at h;exact⟨(fun x=>nomatch x),h⟩
end
section
variable{X:Cx}
def HW(K:Frag)(H:Hp)(p:Addr)(c:Int)(l:List Int):Prop:=∃x:Addr,mT K H p [.int c,.ref x]/\aN K H x (l.map V.int)
def aih(K:Frag):R2:=fun v v' H Q=>∃(p q:Addr) (c d:Int) (l m:List Int),v=.ref p/\v'=.ref q/\HW K H p c l/\HW K H q d m/\Q (.bl (lexLt (c::l) (d::m))) H
theorem Ld{pins:List (Addr×Obj)}{s:Shared}{σ:L2.St}{H:Hp}{p:Addr}{c:Int}{l:List Int}(I:L2.Inv X pins σ H s)(h:HW X.K H p c l):∃(x:Addr) (t:Tok) (aX:List Value),IsTup s.heap p #[.int c t,.ref x]/\s.heap.IsList x aX.toArray/\IntsAre aX.toArray.toList l:=by obtain⟨x,h1,h2⟩:=h;obtain⟨aX,r1,p1,_⟩:=I.tuple h1;obtain⟨u9,r2,p2,_⟩:=I.list h2;obtain⟨u,v,rfl,⟨t,rfl⟩,rv⟩:=vals2 r1;cases rv;exact⟨x,t,u9,p1,p2.isList,by simpa using r2.ints⟩
theorem aeG(hu:X.A.units+64<cLine):yb X (compareOp .Lt) (aih X.K):=by intro pins s σ H v v' u u' Q I rx ry h;obtain⟨p,q,c,d,l,m,rfl,rfl,h1,h2,k⟩:=h;cases rx;cases ry;obtain⟨x,t,aX,a1,a2,a3⟩:=Ld I h1;obtain⟨y,t',its',b1,b2,b3⟩:=Ld I h2;exact Nd a1 b1 a2 b2 a3 b3 hu ⟨.bl _,H,I,rfl,k⟩
end
end My
namespace My
open PySem PySem.Spec PyProof.Rows L2 HT
section
variable{prog:Program}{w:World}{A:Around}{R:Result->Shared->Prop}{I:Addr}{fp wr:List Addr}{n:Nat}{P:Nat->Value->Prop}{St:Nat->Heap->Prop}{Ex:Heap->Prop}
abbrev adb(prog:Program)(w:World)(A:Around)(P:Nat->Value->Prop)(Ex:Heap->Prop)(bt:Nat->Nat->Bool):Prop:=
  ∀i j vi vj (s:Shared) (Q:Value->Shared->Prop) (E:Value->Shared->Prop),P i vi->P j vj->Ex s.heap->Q (.bool (bt i j)) s->wpAny (model prog w) A (richCompare .Lt vi vj) Q E s
theorem U8(W:Walks prog w A.in1 I fp wr n P St)(hex:∀i h,St i h->Ex h)(bt:Nat->Nat->Bool)(Xu:adb prog w A.in1 P Ex bt)(S:Addr)(UI:S∉fp):∀(k j:Nat) (s:Shared) (vb:Value) (c:Nat),n-(j+1)=k->j+1<=n->St (j+1) s.heap->P (argBest bt j) vb->s.heap.get? S=some { cls:=.type "list",dict:=none,data:=.seq #[vb,vb] c,slots:= #[]}->(∀v h' tk,P (argBest bt (n-1)) v->(∀b o,b∉wr->b≠S->s.heap.get? b=some o->h'.get? b=some o)->R (.ok (.ret v)) { s with heap:=h',toks:=tk})->codeAny (model prog w) A (.builtin "min.loop" ⟨[.ref I,.none,.ref S],[]⟩) R s:=by
  have hSw:S∉wr:=fun h=>UI (W.sub _ h);have Bd:(toString "min"++toString ".loop":String)="min.loop":=by decide
  intro k;induction k with
  | zero=>
    intro j s vb c hk hj B7 hPb hS hR;have ze:j+1=n:=by omega
    refine codeAny_builtin F.entry_min_loop ?_;rw[Around.under_plainId F.plain_min_loop _];show wpAny _ A.in1 (seqItems? (.ref S)>>=_) _ _ s;refine wpAny_bind (wpAny_seqItems hS rfl ?_);show wpAny _ A.in1 (tryCatch (pyNext (.ref I)) _>>=_) _ _ s;refine wpAny_bind (wpAny_tryCatch (W.done s _ _ (ze▸B7) fun h' tk Bb=>?_));have Kn:=Bb S _ hSw hS;show wpAny _ A.in1 (updateSeq S (fun _=> #[])>>=_) _ _ _;refine wpAny_bind ?_;refine wpAny_updateSeq Kn rfl (wpAny_bind (wpAny_letGo (wpAny_pure ?_)));refine hR vb _ tk (by rw[<-ze];exact hPb) fun b o MU Zy e=>(get?_update_other _ _ (Ne.symm Zy)).trans (Bb b o MU e)
  | succ k ih=>
    intro j s vb c hk hj B7 hPb hS hR;have dD:j+1<n:=by omega
    refine codeAny_builtin F.entry_min_loop ?_;rw[Around.under_plainId F.plain_min_loop _];show wpAny _ A.in1 (seqItems? (.ref S)>>=_) _ _ s;refine wpAny_bind (wpAny_seqItems hS rfl ?_);show wpAny _ A.in1 (tryCatch (pyNext (.ref I)) _>>=_) _ _ s;refine wpAny_bind (wpAny_tryCatch (W.item (j+1) s _ _ dD B7 fun v h' tk hP Ho Bb=>?_));have Kn:=Bb S _ hSw hS;show wpAny _ A.in1 (tryCatch (holding [v,v] (richCompare .Lt v vb>>=_)) _>>=_) _ _ _;refine wpAny_bind (wpAny_tryCatch (wpAny_holding (wpAny_bind (Xu (j+1) (argBest bt j) v vb _ _ _ hP hPb (hex _ _ Ho) ?_))));refine wpAny_bind (wpAny_holding (wpAny_truthy_bool ?_));refine wpAny_bind (wpAny_letGo (wpAny_pure ?_));cases hb:bt (j+1) (argBest bt j)with
    | true=>
      simp only[if_true];refine wpAny_bind ?_;refine wpAny_updateSeq Kn rfl (wpAny_bind (wpAny_letGo ?_));rw[Bd];refine wpAny_pure ⟨plainId_quiet F.plain_min_loop _,ih (j+1) _ v _ (by omega) dD (W.frame _ _ _ Ho fun b hbf o e=>?_) (by simp only[argBest,hb,if_true];exact hP) (get?_update_self _ Kn rfl)
        fun v' GX R4 hP' Qg=>?_⟩
      . exact(get?_update_other _ _ (fun h:S=b=>UI (by rw[h];exact hbf))).trans e
      . exact hR v' GX R4 hP' fun b o MU Zy e=>Qg b o MU Zy ((get?_update_other _ _ (Ne.symm Zy)).trans (Bb b o MU e))
    | false=>simp only[false_eq_true,if_false];refine wpAny_bind (wpAny_letGo ?_);rw[Bd];refine wpAny_pure ⟨plainId_quiet F.plain_min_loop _,ih (j+1) _ vb c (by omega) dD Ho (by simp only[argBest,hb,false_eq_true,if_false];exact hPb) Kn fun v' GX R4 hP' Qg=>?_⟩;exact hR v' GX R4 hP' fun b o MU Zy e=>Qg b o MU Zy (Bb b o MU e)
theorem QT(W:Walks prog w A.in1 I fp wr n P St)(hex:∀i h,St i h->Ex h)(bt:Nat->Nat->Bool)(Xu:adb prog w A.in1 P Ex bt)(S:Addr)(UI:S∉fp)(hn:0<n){s:Shared}{c:Nat}(B7:St 0 s.heap)(hS:s.heap.get? S=some { cls:=.type "list",dict:=none,data:=.seq #[] c,slots:= #[]})(hR:∀v h' tk,P (argBest bt (n-1)) v->(∀b o,b∉wr->b≠S->s.heap.get? b=some o->h'.get? b=some o)->R (.ok (.ret v)) { s with heap:=h',toks:=tk}):codeAny (model prog w) A (.builtin "min.loop" ⟨[.ref I,.none,.ref S],[]⟩) R s:=by
  have hSw:S∉wr:=fun h=>UI (W.sub _ h);have Bd:(toString "min"++toString ".loop":String)="min.loop":=by decide
  refine codeAny_builtin F.entry_min_loop ?_;rw[Around.under_plainId F.plain_min_loop _];show wpAny _ A.in1 (seqItems? (.ref S)>>=_) _ _ s;refine wpAny_bind (wpAny_seqItems hS rfl ?_);show wpAny _ A.in1 (tryCatch (pyNext (.ref I)) _>>=_) _ _ s;refine wpAny_bind (wpAny_tryCatch (W.item 0 s _ _ hn B7 fun v h' tk hP Ho Bb=>?_));have Kn:=Bb S _ hSw hS;show wpAny _ A.in1 (updateSeq S (fun _=> #[v,v])>>=_) _ _ _;refine wpAny_bind ?_;refine wpAny_updateSeq Kn rfl ?_;rw[Bd];refine wpAny_pure ⟨plainId_quiet F.plain_min_loop _,U8 W hex bt Xu S UI _ 0 _ v _ rfl hn (W.frame _ _ _ Ho fun b hbf o e=>?_) hP (get?_update_self _ Kn rfl) fun v' GX R4 hP' Qg=>?_⟩
  . exact(get?_update_other _ _ (fun h:S=b=>UI (by rw[h];exact hbf))).trans e
  . exact hR v' GX R4 hP' fun b o MU Zy e=>Qg b o MU Zy ((get?_update_other _ _ (Ne.symm Zy)).trans (Bb b o MU e))
end
section
variable{prog:Program}{w:World}{A:Around}{E:Value->Shared->Prop}{s:Shared}
theorem Eb{x:Value}{Q:Value->Shared->Prop}(h:wpAny (model prog w) A.in1 (pyIter x) (fun it s₂=>∃I fp wr n P St Ex bt,it=.ref I/\Walks prog w A.in1 I fp wr n P St/\(∀i h,St i h->Ex h)/\St 0 s₂.heap/\(∀b∈fp,b<s₂.heap.objs.size)/\0<n/\adb prog w A.in1 P Ex bt/\∀v h' tk,P (argBest bt (n-1)) v->(∀b o,b∉wr->s₂.heap.get? b=some o->h'.get? b=some o)->Q v { s₂ with heap:=h',toks:=tk}) E s):wpAny (model prog w) A (call (.builtin "min") [x]) Q E s:=by
  have Bd:(toString "min"++toString ".loop":String)="min.loop":=by decide
  refine call_function_tree F.kind_min F.plain_min F.entry_min (F.args_min1 _) ?_;show wpAny _ A.in1 (Builtin.Builtins.bindParams "min" ["key","default"] 0 ⟨[],[]⟩>>=_) _ _ s;refine wpAny_bind (wpAny_of_eq (show Builtin.Builtins.bindParams "min" ["key","default"] 0 ⟨[],[]⟩=pure [none,none] from rfl) ?_);refine wpAny_bind (wpAny_pure ?_);refine wpAny_bind (wpAny_mono h (fun it s₂ h₂=>?_) fun _ _ e=>e);obtain⟨I,fp,wr,n,P,St,Ex,bt,rfl,W,hex,B7,hfp,hn,Xu,hQ⟩:=h₂;refine wpAny_bind (wpAny_newObj_type ?_);have UI:s₂.heap.objs.size∉fp:=fun hm=>lt_irrefl _ (hfp _ hm);rw[Bd];refine wpAny_pure ⟨plainId_quiet F.plain_min_loop _,QT W hex bt Xu s₂.heap.objs.size UI hn (W.frame _ _ _ B7 fun b _ o e=>get?_push_of_some _ e) (get?_push_size _ rfl) fun v h' tk hP hk=>?_⟩;exact hQ v h' tk hP fun b o MU e=>hk b o MU (ne_of_lt (lt_size e)) (get?_push_of_some _ e)
end
theorem gc:∀{a b c:List Int},lexLt a b=true->lexLt b c=true->lexLt a c=true
  | [],[],_,h,_=>by cases h
  | [],_::_,[],_,h=>by cases h
  | [],_::_,_::_,_,_=>rfl
  | _::_,[],_,h,_=>by cases h
  | _::_,_::_,[],_,h=>by cases h
  | x::xs,y::ys,z::zs,h1,h2=>by
    rw[bK]at h1 h2 ⊢;by_cases e1:x=y
    . rw[if_pos e1]at h1;subst e1;by_cases e2:x=z
      . rw[if_pos e2]at h2 ⊢;exact gc h1 h2
      . rw[if_neg e2]at h2 ⊢;exact h2
    . rw[if_neg e1]at h1;have l1:=of_decide_eq_true h1;by_cases e2:y=z
      . subst e2;rw[if_neg e1];exact h1
      . rw[if_neg e2]at h2;have l2:=of_decide_eq_true h2;rw[if_neg (by omega)];exact decide_eq_true (by omega)
theorem AS{bt:Nat->Nat->Bool}(irr:∀i,bt i i=false)(tr:∀i j k,bt i j=true->bt j k=true->bt i k=true):∀k,argBest bt k<=k/\∀j,j<=k->bt j (argBest bt k)=false
  | 0=>⟨le_refl _,fun j hj=>by
    have:j=0:=by omega
    subst this;exact irr 0⟩
  | k+1=>by
    obtain⟨h1,h2⟩:=AS irr tr k;unfold argBest;by_cases hb:bt (k+1) (argBest bt k)=true
    . rw[if_pos hb];refine⟨le_refl _,fun j hj=>?_⟩;by_cases e:j=k+1
      . subst e;exact irr _
      . cases q:bt j (k+1)with
        | false=>rfl
        | true=>have:=tr _ _ _ q hb;rw[h2 j (by omega)]at this;cases this
    . rw[if_neg hb];refine⟨Nat.le_succ_of_le h1,fun j hj=>?_⟩;by_cases e:j=k+1
      . subst e;exact not_eq_true _▸hb
      . exact h2 j (by omega)
section
variable{X:Cx}
def acJ(K:Frag)(H:Hp)(aB:List (Key×V))(es:List (Int×List Int)):Prop:=Paired (fun(kv:Key×V) (e:Int×List Int)=>∃p,kv.2=.ref p/\HW K H p e.1 e.2) aB es
def Zc(K:Frag)(td:TE):TE:=fun σ H Q=>td σ H fun x H1=>∃(d:Addr) (aB:List (Key×V)) (es:List (Int×List Int)),x=.ref d/\H1 d=some (.dK aB)/\acJ K H1 aB es/\0<es.length/\
  ∀(i:Nat) (k:Key) (p:Addr) (e:Int×List Int),aB[i]? =some (k,.ref p)->es[i]? =some e->(∀e'∈es,lexLt (e'.1::e'.2) (e.1::e.2)=false)->Q (.ref p) H1
theorem Rk{e:Expr}{td:TE}{p apos my pos:Pos}(hc:X.calm=true)(hu:X.A.units+128<cLine)(hm:X.mg "min"=none)(he:PE X e td)(hg:Gl X "min":=by rfl)(wQ:attributeBase e "values" X.env (eval e X.env)=eval e X.env:=by rfl)(wV:(apos.endLine==my.line)=true:=by rfl)(UR:starEach [Expr.Call (.Attribute e "values" apos) [] [] my] X.env=[(false,eval (.Call (.Attribute e "values" apos) [] [] my) X.env)]:=by rfl):PE X (.Call (.Name "min" p) [.Call (.Attribute e "values" apos) [] [] my] [] pos) (Zc X.K td):=by
  intro pins s σ H Q I h;refine wpAny_Call_Name_kw (pE I hg hm JL ?_);refine PyProof.Rows.callWith_builtin1 ?_ UR rfl;rw[UR];refine Calls.spliced_cons ?_;refine wpAny_Call_method (T:="dict") (id:="dict.values") wQ rfl wV F.plainAttrs_dict F.slot_dict_values F.type_dict_values (cy (he pins s σ H _ I h) fun u s1 ⟨x,H1,I1,rx,d,aB,es,ex,hd,hv,agb,q⟩=>?_);subst ex;obtain rfl:u=Value.ref d:=rx;obtain⟨hz,hsm,vs,kv,hdo⟩:=Xh I1.bj hd;have hl:aB.length=vs.length:=Paired.length kv;obtain⟨o,ess,ep,ho,hx,OG,r⟩:=id hdo;have hm':s1.heap.DictAt (bw X.prog X.w) d vs ep:=⟨o,ess,ho,hx,OG,r⟩;have hle:aB.length=es.length:=aD hv;refine⟨hdo.typeIs,hdo.mapOf.noDict,?_⟩;show wpAny _ _ (callWith my (.builtin "dict.values") [.ref d] [] []) _ X.xe s1;refine method_meetsIn F.slot_dict_values F.entry_dict_values rfl (PySem.evalArgs_none ⟨rfl,hdo.typeIs,F.args_dict_values_1 _,_,meets_dict_values (bw X.prog X.w) d hsm,⟨vs,hdo⟩,?_⟩);refine Calls.spliced_nil ?_;have at_:∀(i:Nat) (k:Key) (v:Value),vs[i]? =some (k,v)->∃(p:Addr) (e:Int×List Int),v=.ref p/\aB[i]? =some (k,.ref p)/\es[i]? =some e/\HW X.K H1 p e.1 e.2:=fun i k v e=>by
    have hi:i<aB.length:=by have:=(List.getElem?_eq_some_iff.mp e).1;omega
    obtain⟨⟨k',v'⟩,Bb⟩:∃y,aB[i]? =some y:=⟨aB[i],by simp⟩;obtain⟨u,M4,E4⟩:=QC kv Bb;rw[e]at M4;cases M4;obtain⟨e',Qc,p,hp,t6⟩:=aV hv Bb;have hp':v'=.ref p:=hp;subst hp';cases E4;exact⟨p,e',rfl,Bb,Qc,t6⟩
  let Good:Addr->Int×List Int->Heap->Prop:=fun p e h=>∃(x:Addr) (t:Tok) (aX:List Value),IsTup h p #[.int e.1 t,.ref x]/\h.IsList x aX.toArray/\IntsAre aX.toArray.toList e.2;have good:∀(i:Nat) (k:Key) (v:Value),vs[i]? =some (k,v)->∃(p:Addr) (e:Int×List Int),v=.ref p/\es[i]? =some e/\Good p e s1.heap:=fun i k v hi=>by obtain⟨p,e,e1,_,e3,e4⟩:=at_ i k v hi;exact⟨p,e,e1,e3,Ld I1 e4⟩
  have dD:∀b o,s1.heap.get? b=some o->LT.lt (α:=Nat) b s1.heap.objs.size:=fun b o e=>lt_size e;have gk:∀(p:Addr) (e:Int×List Int) (h:Heap),Good p e s1.heap->(∀b,b<s1.heap.objs.size->∀o,s1.heap.get? b=some o->h.get? b=some o)->Good p e h:=fun p e h ⟨x,t,aX,a,b,c⟩ k=>by obtain⟨oa,ha,ha'⟩:=a;obtain⟨ob,hb,GY⟩:=b;exact⟨x,t,aX,⟨oa,k _ (lt_size ha) _ ha,ha'⟩,⟨ob,k _ (lt_size hb) _ hb,GY⟩,c⟩
  let Ex:Heap->Prop:=fun h=>∀(i:Nat) (k:Key) (v:Value),vs[i]? =some (k,v)->∃(p:Addr) (e:Int×List Int),v=.ref p/\es[i]? =some e/\Good p e h;let bt:Nat->Nat->Bool:=fun i j=>match es[i]?,es[j]? with
    | some e,some e'=>lexLt (e.1::e.2) (e'.1::e'.2)
    | _,_=>false
  have I2:L2.Inv X pins σ H1 { s1 with heap:=s1.heap.push { cls:=.type "dict_values",data:=.fields #[.ref d]}}:=I1.kept (t':=s1.toks) fun b ob q=>get?_push_of_some _ q;have hvw:(s1.heap.push { cls:=.type "dict_values",data:=.fields #[.ref d]}).IsValuesView s1.heap.objs.size d:=⟨_,get?_push_size _ rfl,rfl,rfl⟩;refine Eb (wpAny_pyIter_values (d:=d) (knd:=bw X.prog X.w) hvw (hm'.push _) ?_);have hdl:LT.lt (α:=Nat) d s1.heap.objs.size:=lt_size ho;have hsz:(s1.heap.push { cls:=.type "dict_values",data:=.fields #[.ref d]}).objs.size=s1.heap.objs.size+1:=size_push ..;have eZ:d≠(s1.heap.push { cls:=.type "dict_values",data:=.fields #[.ref d]}).objs.size:=by rw[hsz];exact xj (by omega)
  refine⟨_,_,_,_,_,_,Ex,bt,rfl,GR (Walks.dictValues (A:=X.A.in1) (knd:=bw X.prog X.w) (I1.ok.hd hc) _ d eZ vs ep) (List.range s1.heap.objs.size) (fun h=>∀b,b<s1.heap.objs.size->∀o,s1.heap.get? b=some o->h.get? b=some o) (fun b hb hm=>?_) (fun h h' hx k b hb o e=>k b (mem_range.mpr hb) o (hx b hb o e)),
    (fun i h st=>?_),⟨⟨⟨_,get?_push_size _ rfl,rfl,rfl⟩,(hm'.push _).push _⟩,fun b hb o e=>get?_push_of_some _ (get?_push_of_some _ e)⟩,(fun b hb=>?_),(by omega),(fun i j vi vj s' Q' E' hi hj hxx hq=>?_),fun v h' tk hP hk=>?_⟩
  . have e1:=mem_range.mp hb;rw[mem_singleton.mp hm,hsz]at e1;omega
  . intro i' k v e;obtain⟨p,e',a,b,c⟩:=good i' k v e;exact⟨p,e',a,b,gk p e' h c st.2⟩
  . show LT.lt (α:=Nat) b ((s1.heap.push _).push _).objs.size;rw[size_push,hsz];rcases mem_append.mp hb with hb | hb
    . have GY:b=(s1.heap.push { cls:=.type "dict_values",data:=.fields #[.ref d]}).objs.size\/b=d:=by simpa using hb
      rcases GY with e | e
      . rw[e,hsz];omega
      . rw[e];omega
    . have:=mem_range.mp hb;omega
  . obtain⟨ki,hi⟩:=hi;obtain⟨kj,hj⟩:=hj;obtain⟨p,e,rfl,e2,x,t,aX,a1,a2,a3⟩:=hxx i ki vi hi;obtain⟨p',e',rfl,e2',x',t',its',b1,b2,b3⟩:=hxx j kj vj hj;have eb:bt i j=lexLt (e.1::e.2) (e'.1::e'.2):=by show(match es[i]?,es[j]? with | some e,some e'=>lexLt (e.1::e.2) (e'.1::e'.2) | _,_=>false)=_;rw[e2,e2']
    rw[eb]at hq;refine Nd a1 b1 a2 b2 a3 b3 ?_ hq;show X.A.units+1+64<cLine;omega
  . obtain⟨k,hP⟩:=hP;have irr:∀i,bt i i=false:=fun i=>by
      show(match es[i]?,es[i]? with | some e,some e'=>lexLt (e.1::e.2) (e'.1::e'.2) | _,_=>false)=false;cases es[i]? with
      | none=>rfl
      | some e=>exact de _
    have tr:∀i j l,bt i j=true->bt j l=true->bt i l=true:=fun i j l h1 h2=>by
      have h1:(match es[i]?,es[j]? with | some e,some e'=>lexLt (e.1::e.2) (e'.1::e'.2) | _,_=>false)=true:=h1;have h2:(match es[j]?,es[l]? with | some e,some e'=>lexLt (e.1::e.2) (e'.1::e'.2) | _,_=>false)=true:=h2;show(match es[i]?,es[l]? with | some e,some e'=>lexLt (e.1::e.2) (e'.1::e'.2) | _,_=>false)=true;cases a:es[i]? with
      | none=>rw[a]at h1;cases h1
      | some e=>
        cases b:es[j]? with
        | none=>rw[a,b]at h1;cases h1
        | some e'=>
          cases c:es[l]? with
          | none=>rw[b,c]at h2;cases h2
          | some e''=>rw[a,b]at h1;rw[b,c]at h2;exact gc h1 h2
    obtain⟨_,mn⟩:=AS irr tr (vs.length-1);obtain⟨p,e,rfl,e1,e2,e3⟩:=at_ _ k v hP;have I3:L2.Inv X pins σ H1 { s1 with heap:=h',toks:=tk}:=I1.kept fun b o eo=>hk b o (fun mz=>by have z:=dD b o eo;rw[mem_singleton.mp mz,hsz]at z;omega) (get?_push_of_some _ (get?_push_of_some _ eo));refine⟨.ref p,H1,I3,rfl,q _ k p e e1 e2 fun e' Qc=>?_⟩;obtain⟨j,hj⟩:=getElem?_of_mem Qc;have LP:=(List.getElem?_eq_some_iff.mp hj).1;have z:=mn j (by omega);have z':(match es[j]?,es[argBest bt (vs.length-1)]? with | some e,some e'=>lexLt (e.1::e.2) (e'.1::e'.2) | _,_=>false)=false:=z;rw[hj,e2]at z';exact z'
end
end My
namespace My
open PySem
def subs:List (List Nat):=(List.range 128).map fun m=>(List.range 7).filter fun i=>m.testBit i
def IU(x:Nat)(L:List Nat):Nat:=(L.filter (fun y=>decide (y<x))).length
def ins(x:Nat)(L:List Nat):List Nat:=L.take (IU x L)++x::L.drop (IU x L)
theorem RZ:∀L∈subs,∀x∈List.range 7,x∈L\/(below L.toArray x=IU x L/\ins x L∈subs):=by decide +kernel
theorem V9:∀L∈subs,∀i∈List.range 8,L.length<i\/below L.toArray (if i=0 then 0 else L.getD (i-1) 0+1)=i:=by decide +kernel
theorem V8:∀L∈subs,∀m∈ [7,15,31],(layClean m (L.map fun(i:Nat)=>(i:Int)).toArray).map (fun owner=>(List.range (m+1)).filterMap fun j=>(owner.getD j none).map (j,·))=some (L.zipIdx):=by decide +kernel
theorem Y7:[]∈subs:=by decide +kernel
theorem dz:∀L∈subs,L.length<=7/\L.Pairwise (· < ·)/\∀x∈L,x<7:=by decide +kernel
end My
namespace My
open PySem PySem.Spec PyProof.Rows L2
def Ent(L:List Nat)(es:List (Int×Value)):Prop:=Paired (fun(i:Nat) (e:Int×Value)=>e.1=(i:Int)/\∃tk,e.2=.int (i:Int) tk) L es
structure HX(bt:Bool)(L:List Nat)(t:SetTable):Prop where
  place:t.place=L.toArray
  dum:t.dummies= #[]
  mask:(t.mask=7/\L.length<=4)\/t.mask=15\/t.mask=31
  led:t.led= !bt
  plain:t.plain=true
theorem Bs{α β:Type}{R:α->β->Prop}:∀{as:List α} {bs:List β} (n:Nat),Paired R as bs->Paired R (as.take n) (bs.take n)
  | _,_,0,_=>.nil
  | _,_,_+1,.nil=>.nil
  | _,_,n+1,.cons r t=>.cons r (Bs n t)
theorem Br{α β:Type}{R:α->β->Prop}:∀{as:List α} {bs:List β} (n:Nat),Paired R as bs->Paired R (as.drop n) (bs.drop n)
  | _,_,0,h=>h
  | _,_,_+1,.nil=>.nil
  | _,_,n+1,.cons r t=>Br n t
theorem dg{α β:Type}{R:α->β->Prop}:∀{as Z8:List α} {bs JI:List β},Paired R as bs->Paired R Z8 JI->Paired R (as++Z8) (bs++JI)
  | _,_,_,_,.nil,h=>h
  | _,_,_,_,.cons r t,h=>.cons r (dg t h)
theorem t7{α:Type}(xs:List α)(p:Nat)(x:α):(insertAt xs.toArray p x).toList=xs.take p++x::xs.drop p:=by unfold insertAt;simp[List.extract_eq_take_drop];exact List.take_of_length_le (by simp)
theorem Kv{α:Type}(xs:Array α)(p:Nat)(x:α):(insertAt xs p x).toList=xs.toList.take p++x::xs.toList.drop p:=by have h:=t7 xs.toList p x;simpa using h
theorem iZ{L:List Nat}{es:List (Int×Value)}(h:Ent L es):es.length=L.length:=(aD h).symm
theorem fits_of{bt:Bool}{L:List Nat}{t:SetTable}{n:Nat}(T:HX bt L t)(hL:L∈subs)(hn:n=L.length):t.fits n=true:=by have h7:=(dz L hL).1;unfold fits SetTable.fill;rw[T.place,T.dum,hn];simp;rcases T.mask with⟨h,h4⟩ | h | h<;>omega
theorem S3(j:Nat):SetTable.has #[] j=false:=rfl
theorem VT{bt:Bool}{L:List Nat}{t:SetTable}(T:HX bt L t){x:Nat}(hx:x∉L):t.slot x=.empty:=by
  unfold SetTable.slot;rw[T.place,T.dum,S3];have h:(L.toArray[below L.toArray x]? ==some x)=false:=by
    cases q:L.toArray[below L.toArray x]? with
    | none=>rfl
    | some y=>
      have hy:y∈L:=by
        have q':L[below L.toArray x]? =some y:=by simpa using q
        exact mem_of_getElem? q'
      have:y≠x:=fun e=>hx (e▸hy);simpa using this
  dsimp only;rw[h];rfl
theorem Th{bt:Bool}{L:List Nat}{t:SetTable}(T:HX bt L t):7<=t.mask:=by rcases T.mask with⟨h,_⟩ | h | h<;>omega
theorem UD{bt:Bool}{L:List Nat}{t:SetTable}(T:HX bt L t){x:Nat}(hx:x∉L)(h7:x<7):t.freeSlot (x:Int)=some (x,false):=by
  have hm:=Th T;have hb:bits (x:Int)=x:=by unfold bits;have:((x:Int)%(2^64:Int))=(x:Int):=Int.emod_eq_of_lt (by omega) (by omega);rw[this];rfl
  have hs:(t.probeStart (x:Int)).j=x:=by unfold SetTable.probeStart;rw[hb];show x%(t.mask+1)=x;exact Nat.mod_eq_of_lt (by omega)
  have hd:(t.probeStart (x:Int)).dummy=none:=rfl;unfold SetTable.freeSlot probe;have ht:10*turns t.mask=(10*t.mask+149)+1:=by unfold turns;omega
  rw[ht];unfold probe.go;rw[hs,VT T hx];simp[hd]
theorem aaT{bt:Bool}{L:List Nat}{t:SetTable}{es:Array (Int×Value)}(T:HX bt L t)(hE:Ent L es.toList)(hL:L∈subs){x:Nat}(hx:x∉L)(h7:x<7)(tk:Tok):∃Hh t1,layNew t es (x:Int) (.int (x:Int) tk)=(Hh,t1,false,false)/\Ent (ins x L) Hh.toList/\ins x L∈subs/\t1.place=(ins x L).toArray/\t1.dummies= #[]/\t1.mask=t.mask/\t1.led=t.led/\t1.plain=t.plain:=by
  obtain⟨hb,hi⟩:=(RZ L hL x (mem_range.mpr h7)).resolve_left hx;have hl:=iZ hE;have dD:(insertAt t.place (below t.place x) x).toList=ins x L:=by rw[T.place,hb,t7];rfl
  have t6:insertAt t.place (below t.place x) x=(ins x L).toArray:=by rw[<-dD]
  have hel:(insertAt es (below t.place x) ((x:Int),Value.int (x:Int) tk)).toList=es.toList.take (IU x L)++((x:Int),Value.int (x:Int) tk)::es.toList.drop (IU x L):=by rw[T.place,hb,Kv]
  have hE1:Ent (ins x L) (insertAt es (below t.place x) ((x:Int),Value.int (x:Int) tk)).toList:=by rw[hel];exact dg (Bs _ hE) (.cons ⟨rfl,tk,rfl⟩ (Br _ hE))
  have hlen:(ins x L).length=L.length+1:=by unfold ins;rw[length_append,length_cons,length_take,length_drop];omega
  have h7l:=(dz _ hi).1;have hf:fits { t with place:=(ins x L).toArray,dummies:= #[]} (insertAt es (below t.place x) ((x:Int),Value.int (x:Int) tk)).size=true:=by
    have e:(insertAt es (below t.place x) ((x:Int),Value.int (x:Int) tk)).size=(ins x L).length:=by rw[<-length_toList];exact iZ hE1
    rw[e];have hm:=Th T;unfold fits SetTable.fill;simp;omega
  refine⟨insertAt es (below t.place x) ((x:Int),Value.int (x:Int) tk),{ t with place:=(ins x L).toArray,dummies:= #[]},?_,hE1,hi,rfl,rfl,rfl,rfl,rfl⟩;have aaE:t.put x=({ t with place:=(ins x L).toArray,dummies:= #[]},below t.place x):=by unfold SetTable.put;dsimp only;rw[t6,T.dum,S3];rfl
  unfold layNew;rw[UD T hx h7];dsimp only;rw[aaE];dsimp only;unfold SetTable.orStandIn;rw[hf];rfl
theorem uQ{L:List Nat}{es:List (Int×Value)}(h:Ent L es):es.map (·.1)=L.map fun(i:Nat)=>(i:Int):=by
  induction h with
  | nil=>rfl
  | cons r _ ih=>rw[map_cons,map_cons,ih,r.1]
theorem KL{L:List Nat}(hL:L∈subs){m:Nat}(hm:m∈ [7,15,31])(f mv:Nat)(led plain:Bool):SetTable.laid m f mv led plain (L.map fun(i:Nat)=>(i:Int)).toArray=some ({ mask:=m,place:=L.toArray,dummies:= #[],finger:=f,led:=led,moves:=mv,plain:=plain},Array.range L.length):=by
  have h:=V8 L hL m hm;cases q:layClean m (L.map fun(i:Nat)=>(i:Int)).toArray with
  | none=>rw[q]at h;cases h
  | some owner=>
    rw[q]at h;have h':(List.range (m+1)).filterMap (fun j=>(owner.getD j none).map (j,·))=L.zipIdx:=Option.some.inj h;unfold SetTable.laid;rw[q];show some (_,_)=some (_,_);have e1:((List.range (m+1)).filterMap fun j=>(owner.getD j none).map (j,·)).map (·.1)=L:=by rw[h'];simp
    have e2:((List.range (m+1)).filterMap fun j=>(owner.getD j none).map (j,·)).map (·.2)=List.range L.length:=by rw[h'];simp[List.range_eq_range']
    rw[e1,e2];simp
theorem vK{α:Type}(es:Array α){n:Nat}(hn:n=es.size):(Array.range n).filterMap (es[·]?)=es:=by subst hn;apply ext';simp;exact PySem.W.krv_all es
theorem RL{n:Nat}(h:n<32)(h2:8<=n):sizeAbove n-1∈ [7,15,31]:=by
  have:∀n∈List.range 32,n<8\/sizeAbove n-1∈ [7,15,31]:=by decide +kernel
  exact(this n (mem_range.mpr h)).resolve_left (by omega)
theorem N8{n:Nat}(h:n<32):sizeAbove n<=32:=by
  have:∀n∈List.range 32,sizeAbove n<=32:=by decide +kernel
  exact this n (mem_range.mpr h)
theorem HL{n:Nat}(h:n<32):n<sizeAbove n:=by
  have:∀n∈List.range 32,n<sizeAbove n:=by decide +kernel
  exact this n (mem_range.mpr h)
end My
namespace My
open PySem PySem.Spec PyProof.Rows L2
abbrev g9(w:World):Bool:=w.params.followText "set-order"
def dC(w:World)(h:Heap)(a:Addr)(L:List Nat)(ep:Nat):Prop:=∃es t,h.get? a=some { cls:=.type "set",dict:=none,data:=.set es ep t,slots:= #[]}/\Ent L es.toList/\L∈subs/\HX (g9 w) L t
theorem dC.at{w:World}{h h':Heap}{a:Addr}{L:List Nat}{ep:Nat}(x:dC w h a L ep)(k:∀o,h.get? a=some o->h'.get? a=some o):dC w h' a L ep:=by obtain⟨es,t,e,r⟩:=x;exact⟨es,t,k _ e,r⟩
theorem nt{x:Nat}(h:x<7):hashInt (x:Int)=(x:Int):=by
  have:∀x∈List.range 7,hashInt (x:Int)=(x:Int):=by decide +kernel
  exact this x (mem_range.mpr h)
section
variable{prog:Program}{w:World}{A:Around}{E:Value->Shared->Prop}{s:Shared}
theorem J7{L:List Nat}{es:List (Int×Value)}(h:Ent L es){e:Int×Value}(he:e∈es):∃i∈L,e.1=(i:Int)/\∃tk,e.2=.int (i:Int) tk:=by
  induction h with
  | nil=>cases he
  | cons r _ ih=>
    rcases mem_cons.mp he with z | z
    . subst z;exact⟨_,mem_cons_self,r⟩
    . obtain⟨i,hi,q⟩:=ih z;exact⟨i,mem_cons_of_mem _ hi,q⟩
theorem SR{L:List Nat}{es:List (Int×Value)}(h:Ent L es){i:Nat}(hi:i∈L):∃e∈es,e.1=(i:Int)/\∃tk,e.2=.int (i:Int) tk:=by
  induction h with
  | nil=>cases hi
  | cons r _ ih=>
    rcases mem_cons.mp hi with z | z
    . subst z;exact⟨_,mem_cons_self,r⟩
    . obtain⟨e,he,q⟩:=ih z;exact⟨e,mem_cons_of_mem _ he,q⟩
theorem UB{L:List Nat}{es:List (Int×Value)}(h:Ent L es)(hL:L∈subs):ElemsOf (PySem.intKind prog w) es:=fun e he=>by
  obtain⟨i,hi,e1,tk,e2⟩:=J7 h he;have h7:=(dz L hL).2.2 i hi;refine⟨⟨(i:Int),?_,?_⟩,?_⟩
  . rw[e2];simp[PySem.intKind,Value.isInt]
  . rw[e1];exact(nt h7).symm
  . rw[e2];rfl
theorem xT{a:Addr}{L:List Nat}{ep x:Nat}{tk:Tok}{Q:Bool->Shared->Prop}(hS:dC w s.heap a L ep)(h7:x<7)(h:∀(h':Heap) (qm:Nat) (b:Bool),SameBut a s.heap h'->dC w h' a (if x∈L then L else ins x L) qm->Q b { s with heap:=h'}):wpAny (model prog w) A (setAddHashed a (.int (x:Int) tk) (x:Int)) Q E s:=by
  obtain⟨es,t,ho,hE,hL,T⟩:=hS;have hf:t.fits es.size=true:=fits_of T hL (by rw[<-length_toList];exact iZ hE);have hel:ElemsOf (PySem.intKind prog w) es.toList:=UB hE hL;have h7l:=(dz L hL).1;have hsz:es.size=L.length:=by rw[<-length_toList];exact iZ hE
  have hb:es.size<scanBound:=by unfold scanBound;omega
  unfold setAddHashed setAddHashedIn;refine wpAny_holding (wpAny_bind (wpAny_setState_of ho rfl hf ?_));dsimp only;rw[byScan_of (knd:=PySem.intKind prog w) rfl hb hel];simp only[↓reduceIte];unfold setAddByScan;refine wpAny_bind ?_;refine wpAny_bind (wpAny_rule ?_);refine wpAny_bind ?_;have hh:(x:Int)=(PySem.intKind prog w).hash (x:Int):=(nt h7).symm;have hsc:setScan a (Value.int (x:Int) tk) (x:Int) true es=setScan a (Value.int (x:Int) tk) ((PySem.intKind prog w).hash (x:Int)) true es:=by rw[<-hh]
  rw[hsc];refine wpAny_setScan_of (knd:=PySem.intKind prog w) (by simp[PySem.intKind,Value.isInt]) ho rfl hf hel ?_;cases hr:List.findIdx? (fun e=>(PySem.intKind prog w).is (x:Int) e.2) es.toList with
  | some j=>
    dsimp only;obtain⟨hj,hpj,_⟩:=List.findIdx?_eq_some_iff_getElem.mp hr;obtain⟨i,hi,_,ZH,e2⟩:=J7 hE (getElem_mem hj);rw[e2]at hpj;have e:(i:Int)=(x:Int):=by simpa[PySem.intKind,Value.isInt]using hpj
    have e':i=x:=by omega
    subst e';refine wpAny_pure (wpAny_pure ?_);have z:=h s.heap ep false (SameBut.refl a s.heap) (by rw[if_pos hi];exact⟨es,t,ho,hE,hL,T⟩);have tV:s={ s with heap:=s.heap}:=by cases s;rfl
    rw[tV];exact z
  | none=>
    dsimp only;have hx:x∉L:=fun hm=>by obtain⟨e,he,_,ZH,e2⟩:=SR hE hm;have:=List.findIdx?_eq_none_iff.mp hr e he;rw[e2]at this;simp[PySem.intKind,Value.isInt]at this
    obtain⟨Hh,t1,adX,hE1,hi,UQ,tZ,ZC,Hm,ad2⟩:=aaT T hE hL hx h7 tk;rw[adX];dsimp only;have h7i:=(dz _ hi).1;have E3:Hh.size=(ins x L).length:=by rw[<-length_toList];exact iZ hE1
    refine wpAny_bind (wpAny_pure ?_);rw[ad2,T.plain];simp only[if_true];refine wpAny_bind ?_;rw[hashByValue_scannable 8 rfl];refine wpAny_pure ?_;simp only[plainKind,if_true];refine wpAny_bind (wpAny_storeSet_of ho rfl ?_ (by rw[E3,sizeLine_eq];omega));have hg:(s.heap.update a (Obj.putSet Hh t1)).get? a=some { cls:=.type "set",dict:=none,data:=.set Hh (ep+1) t1,slots:= #[]}:=by have:=get?_update_self (Obj.putSet Hh t1) ho (by rw[putSet_of Hh t1 rfl];rfl);rw[putSet_of Hh t1 rfl]at this;exact this
    have sb:=SameBut.update s.heap a (Obj.putSet Hh t1);have hlen:(ins x L).length=L.length+1:=by unfold ins;rw[length_append,length_cons,length_take,length_drop];omega
    by_cases ox:t1.tooFull=true
    . rw[ox];simp only[Bool.not_false,Bool.true_and,if_true];have hfl:t1.fill=(ins x L).length:=by unfold SetTable.fill;rw[UQ,tZ];simp
      have h5:(ins x L).length=5/\t1.mask=7:=by
        unfold tooFull at ox;rw[hfl]at ox;have ox:=of_decide_eq_true ox;rcases T.mask with⟨hm,h4⟩ | hm | hm
        . rw[ZC,hm]at ox;exact⟨by omega,by rw[ZC,hm]⟩
        . rw[ZC,hm]at ox;omega
        . rw[ZC,hm]at ox;omega
      have hgr:sizeAbove (grown Hh.size)=32:=by rw[E3,h5.1];decide
      have hh':Hh.map (·.1)=((ins x L).map fun(i:Nat)=>(i:Int)).toArray:=by apply ext';rw[Array.toList_map,uQ hE1]
      have ahV:relayAll t1 Hh (grown Hh.size)=(Hh,{ mask:=31,place:=(ins x L).toArray,dummies:= #[],finger:=t1.finger,led:=t1.led,moves:=t1.movedTo 31,plain:=t1.plain},false):=by
        unfold relayAll relaid;rw[hgr,hh',KL hi (by decide)];dsimp only;rw[vK Hh E3.symm];have c1:coversAll (Array.range (ins x L).length) Hh.size=true:=by unfold coversAll;rw[E3];simp only[Array.toList_range];exact List.isPerm_iff.mpr (List.Perm.refl _)
        have c2:fits { mask:=31,place:=(ins x L).toArray,dummies:= #[],finger:=t1.finger,led:=t1.led,moves:=t1.movedTo 31,plain:=t1.plain} Hh.size=true:=by rw[E3];unfold fits SetTable.fill;simp;omega
        rw[c1,c2];rfl
      rw[ahV];dsimp only;refine wpAny_bind (wpAny_pure ?_);refine wpAny_bind (wpAny_storeSet_of hg rfl ?_ (by rw[E3,sizeLine_eq];omega));refine wpAny_pure (wpAny_pure ?_);refine h _ (ep+1+1) true (sb.trans (SameBut.update _ a _)) ?_;rw[if_neg hx];refine⟨Hh,{ mask:=31,place:=(ins x L).toArray,dummies:= #[],finger:=t1.finger,led:=t1.led,moves:=t1.movedTo 31,plain:=t1.plain},?_,hE1,hi,⟨rfl,rfl,.inr (.inr rfl),by rw[<-T.led];exact Hm,by rw[<-T.plain];exact ad2⟩⟩;have:=get?_update_self (Obj.putSet Hh { mask:=31,place:=(ins x L).toArray,dummies:= #[],finger:=t1.finger,led:=t1.led,moves:=t1.movedTo 31,plain:=t1.plain}) hg (by rw[putSet_of _ _ rfl];rfl);rw[putSet_of _ _ rfl]at this;exact this
    . rw[not_eq_true]at ox;rw[ox];simp only[Bool.and_false,false_eq_true,if_false];refine wpAny_pure (wpAny_pure ?_);refine h _ (ep+1) true sb ?_;rw[if_neg hx];refine⟨Hh,t1,hg,hE1,hi,⟨UQ,tZ,?_,by rw[Hm];exact T.led,by rw[ad2];exact T.plain⟩⟩;rcases T.mask with⟨hm,h4⟩ | hm | hm
      . refine .inl ⟨by rw[ZC,hm],?_⟩;have hfl:t1.fill=(ins x L).length:=by unfold SetTable.fill;rw[UQ,tZ];simp
        unfold tooFull at ox;rw[hfl,ZC,hm]at ox;have:=of_decide_eq_false ox;omega
      . exact .inr (.inl (by rw[ZC,hm]))
      . exact .inr (.inr (by rw[ZC,hm]))
end
end My
set_option maxHeartbeats 3200000
namespace My
open PySem PySem.Spec PyProof.Rows L2
def Bz(L:List Nat)(x:Nat):List Nat:=if x∈L then L else ins x L
theorem aaZ{x y:Nat}{L:List Nat}:y∈ins x L↔y=x\/y∈L:=by
  unfold ins;rw[mem_append,mem_cons];constructor
  . rintro(h | h | h)
    . exact .inr (mem_of_mem_take h)
    . exact .inl h
    . exact .inr (List.mem_of_mem_drop h)
  . rintro(h | h)
    . exact .inr (.inl h)
    . rw[<-List.take_append_drop (IU x L) L]at h;rcases mem_append.mp h with h | h
      . exact .inl h
      . exact .inr (.inr h)
theorem Nh{x y:Nat}{L:List Nat}:y∈Bz L x↔y=x\/y∈L:=by
  unfold Bz;by_cases h:x∈L
  . rw[if_pos h];exact⟨.inr,fun z=>z.elim (fun e=>e▸h) id⟩
  . rw[if_neg h];exact aaZ
theorem FI{y:Nat}:∀{xs L:List Nat},y∈xs.foldl Bz L↔y∈L\/y∈xs
  | [],L=>by simp
  | x::xs,L=>by
    rw[foldl_cons,FI,Nh,mem_cons];constructor
    . rintro((h | h) | h)
      . exact .inr (.inl h)
      . exact .inl h
      . exact .inr (.inr h)
    . rintro(h | h | h)
      . exact .inl (.inr h)
      . exact .inl (.inl h)
      . exact .inr h
section
variable{prog:Program}{w:World}{A:Around}{R:Result->Shared->Prop}{I:Addr}{fp wr:List Addr}{G:Array GenState->Array GenState->Prop}{n:Nat}{P:Nat->Value->Prop}{St:Nat->Shared->Prop}
theorem AD(W:WalksS prog w A.in1 I fp wr G n P St)(S:Addr)(UI:S∉fp)(xs:List Nat)(hn:xs.length=n)(h7:∀x∈xs,x<7)(ad6:∀i v,P i v->∃x t,xs[i]? =some x/\v=.int (x:Int) t):∀(k i:Nat) (s:Shared) (ep:Nat),n-i=k->i<=n->St i s->dC w s.heap S ((xs.take i).foldl Bz []) ep->(∀s' qm,Moved (S::wr) G s s'->dC w s'.heap S (xs.foldl Bz []) qm->R (.ok (.ret .none)) s')->codeAny (model prog w) A (.builtin "set.update.loop" ⟨[.ref S,.ref I],[]⟩) R s:=by
  have hSw:S∉wr:=fun h=>UI (W.sub _ h);have zf:∀b∈wr,b∈S::wr:=fun b hb=>mem_cons_of_mem _ hb;intro k;induction k with
  | zero=>
    intro i s ep hk hi B7 hS hR;have ze:i=n:=by omega
    subst ze;refine codeAny_builtin F.entry_set_update_loop ?_;rw[Around.under_plainId F.plain_set_update_loop _];show wpAny _ A.in1 (pyNext (.ref I)>>=_) _ _ s;refine wpAny_bind (W.done s _ _ B7 fun s' hm=>?_);show wpAny _ A.in1 (ret Value.none) _ _ s';rw[<-hn,take_length]at hS;exact wpAny_pure (hR s' ep (hm.mono zf) (hS.at fun o e=>hm.heap S _ hSw e))
  | succ k ih=>
    intro i s ep hk hi B7 hS hR;have dD:i<n:=by omega
    refine codeAny_builtin F.entry_set_update_loop ?_;rw[Around.under_plainId F.plain_set_update_loop _];show wpAny _ A.in1 (pyNext (.ref I)>>=_) _ _ s;refine wpAny_bind (W.item i s _ _ dD B7 fun v s' hP Ho hm=>?_);obtain⟨x,t,hx,rfl⟩:=ad6 i v hP;have Kn:dC w s'.heap S ((xs.take i).foldl Bz []) ep:=hS.at fun o e=>hm.heap S _ hSw e;have hx7:=h7 x (mem_of_getElem? hx);show wpAny _ A.in1 (holding [Value.int (x:Int) t] (setAdd S (.int (x:Int) t))>>=_) _ _ s';refine wpAny_bind (wpAny_holding ?_);unfold setAdd;refine wpAny_holding ?_;refine wpAny_bind ((PySem.intKind prog w).pyHash (k:=(x:Int)) (by simp[PySem.intKind,Value.isInt]) ?_);have hh:(PySem.intKind prog w).hash (x:Int)=(x:Int):=nt hx7;rw[hh];refine xT (s:={ s' with toks:=s'.toks+1}) Kn hx7 fun h' qm b hsb hS2=>?_;have hSi:dC w h' S ((xs.take (i+1)).foldl Bz []) qm:=by
      have e:xs.take (i+1)=xs.take i++ [x]:=by obtain⟨h1,e⟩:=List.getElem?_eq_some_iff.mp hx;rw[List.take_succ,hx];rfl
      rw[e,foldl_append];exact hS2
    refine wpAny_pure ⟨plainId_quiet F.plain_set_update_loop _,ih (i+1) _ qm (by omega) dD (W.frame _ s' _ _ Ho (le_succ _) fun b hb o e=>?_) hSi fun s'' ahq ahK ahy=>?_⟩
    . rw[hsb.2 b (fun h:b=S=>UI (by rw[<-h];exact hb))];exact e
    . refine hR s'' ahq (Moved.trans W.gtrans ((hm.mono zf).then_heap (le_succ _) fun b o hb e=>?_) ahK) ahy;rw[hsb.2 b (fun h:b=S=>hb (by rw[h];exact mem_cons_self))];exact e
end
theorem N6(w:World)(h:Heap):dC w (h.push { cls:=.type "set",dict:=none,data:=.set #[] 0 (.fresh 0 0 (!g9 w))}) h.objs.size [] 0:=
  ⟨#[],_,get?_push_size _ rfl,.nil,Y7,⟨rfl,rfl,.inl ⟨rfl,by decide⟩,rfl,rfl⟩⟩
section
variable{prog:Program}{w:World}{A:Around}{E:Value->Shared->Prop}{s:Shared}
theorem G8(a:Value){Q₁:Value->Shared->Prop}(h:Q₁ (.ref s.heap.objs.size) { s with heap:=s.heap.push { cls:=.type "set",dict:=none,data:=.set #[] 0 (.fresh 0 0 (!g9 w))}}):codeAny (model prog w) A (.call (.builtin "set.__new__") ⟨[.type "set",a],[]⟩) (wants Q₁ E) s:=by refine codeAny_of_tree ?_;show wpAny _ A.in1 (do checkBuiltinCall "set.__new__" ⟨[.type "set",a],[]⟩;again (.builtin "set.__new__" ⟨[.type "set",a],[]⟩)) _ _ s;refine wpAny_bind (wpAny_of_eq (F.newCall_set_1 a) (wpAny_pure ⟨plainId_quiet F.plain_set_new _,codeAny_builtin F.entry_set_new ?_⟩));rw[Around.under_plainId F.plain_set_new _];unfold Builtin.«set.__new__» Builtin.Frozenset.newClass;have zf:=sub_set_self;obtain⟨hp,g,d,tk,os⟩:=s;dsimp only;wp_walk;refine wpAny_askSetting (wpAny_pure ?_);dsimp only;simp only[newObj];refine wpAny_bind (wpAny_alloc (wpAny_pure ?_));exact wpAny_pure h
theorem Ec{l:Addr}{items:Array Value}{xs:List Nat}{Q:Value->Shared->Prop}(hh:A.handled=none)(hl:s.heap.IsList l items)(hi:IntsAre items.toList (xs.map fun(i:Nat)=>(i:Int)))(h7:∀x∈xs,x<7)(h:∀(h':Heap) (tk ep:Nat),dC w h' s.heap.objs.size (xs.foldl Bz []) ep->(∀b o,b<s.heap.objs.size->s.heap.get? b=some o->h'.get? b=some o)->Q (.ref s.heap.objs.size) { s with heap:=h',toks:=tk}):wpAny (model prog w) A (call (.type "set") [.ref l]) Q E s:=by
  obtain⟨c,tl,ai1⟩:=F.called_set.mro;have aiR:=F.called_set.made;have zf:=F.called_set.sub;refine wpAny_call (codeAny_of_tree ?_);show wpAny _ _ (callAny (.type "set") _) _ _ _;refine wpAny_pure ⟨Code.quiet_builtin _ (by decide +kernel),codeAny_builtin F.entry_type_call ?_⟩;rw[Around.under_plain (weight_type_call_type "set" [.ref l] []) rfl];have h1:=F.called_set.notType;have h2:=F.called_set.canCreate;have hct:=F.typeCall_set_1 (.ref l);repeat (any_goals (first | assumption | wp_step))
  refine codeAny_mono (G8 (.ref l) (E:=E) (Q₁:=fun obj s₁=>obj=.ref s.heap.objs.size/\s₁={ s with heap:=s.heap.push { cls:=.type "set",dict:=none,data:=.set #[] 0 (.fresh 0 0 (!g9 w))}}) ⟨rfl,rfl⟩) fun r s₁ hr=>?_;cases r with
  | error e=>exact hr
  | ok fl=>
    cases fl with
    | ret obj=>
      obtain⟨rfl,rfl⟩:=hr;have hS:(s.heap.push { cls:=.type "set",dict:=none,data:=.set #[] 0 (.fresh 0 0 (!g9 w))}).get? s.heap.objs.size=some { cls:=.type "set",dict:=none,data:=.set #[] 0 (.fresh 0 0 (!g9 w))}:=get?_push_size _ rfl;have hT:Shared.TypeIs { s with heap:=s.heap.push { cls:=.type "set",dict:=none,data:=.set #[] 0 (.fresh 0 0 (!g9 w))}} (.ref s.heap.objs.size) "set":=⟨_,hS,rfl⟩;have hli:=F.called_set.init.lookup;have hbi:=F.called_set.init.bind (.ref s.heap.objs.size);repeat (any_goals (first | assumption | wp_step))
      refine codeAny_mono (codeAny_call_builtin (R:=wants (fun r s₂=>r=.none/\∃h' tk ep,s₂={ s with heap:=h',toks:=tk}/\
          dC w h' s.heap.objs.size (xs.foldl Bz []) ep/\(∀b o,b<s.heap.objs.size->s.heap.get? b=some o->h'.get? b=some o)) E) F.called_set.init.plain F.entry_set_init (check_set_init_1 hT ?_)) fun r₂ s₂ ahW=>?_
      . obtain⟨ol,hol,nR,nl,hdl⟩:=hl;obtain⟨ai9,ags,aiU,aeK⟩:=ol;simp only at nR hdl;subst nR;subst hdl;have ahR:(s.heap.push { cls:=.type "set",dict:=none,data:=.set #[] 0 (.fresh 0 0 (!g9 w))}).get? l=some { cls:=.type "list",dict:=ags,data:=.seq items nl,slots:=aeK}:=get?_push_of_some _ hol;have ai3:=F.sub_list_set;have ai2:=F.sub_list_frozenset;have eZ:(Value.type "list"==Value.type "dict")=false:=by decide
        have Hm:(s.heap.push { cls:=.type "set",dict:=none,data:=.set #[] 0 (.fresh 0 0 (!g9 w))}).IsList l items:=⟨_,ahR,rfl,nl,rfl⟩;unfold Builtin.«set.__init__» noKeywords Builtin.Frozenset.updateFrom;generalize hPI:pyIter=PI;wp_walk;subst hPI;refine wpAny_pyIter_list Hm ?_;refine wpAny_bind (wpAny_runValue ?_);have hlS:l<s.heap.objs.size:=lt_size hol;have hh3:A.in1.in1.in1.handled=none:=by simp[hh]
        have ahO:l≠(s.heap.push { cls:=.type "set",dict:=none,data:=.set #[] 0 (.fresh 0 0 (!g9 w))}).objs.size:=by rw[size_push];exact ne_of_lt (lt_succ_of_lt hlS)
        have UI:s.heap.objs.size∉ [(s.heap.push { cls:=.type "set",dict:=none,data:=.set #[] 0 (.fresh 0 0 (!g9 w))}).objs.size,l]:=by rw[size_push];simp only[mem_cons,mem_singleton,not_mem_nil,or_false,not_or];exact⟨ne_of_lt (lt_succ_self _),ne_of_gt hlS⟩
        have hlen:xs.length=items.size:=by have:=hi.length;rw[length_toList,length_map]at this;exact this.symm
        have ad6:∀(i:Nat) (v:Value),items[i]? =some v->∃x t,xs[i]? =some x/\v=.int (x:Int) t:=fun i v hv=>by
          rcases sU hi i with⟨a,t,e1,e2⟩ | ⟨e1,_⟩
          . rw[getElem?_toList,hv]at e1;cases e1;rw[getElem?_map]at e2;obtain⟨x,hx,rfl⟩:=Option.map_eq_some_iff.mp e2;exact⟨x,t,hx,rfl⟩
          . rw[getElem?_toList,hv]at e1;cases e1
        refine AD ((Walks.list hh3 _ l ahO items).toS) s.heap.objs.size
          UI xs hlen h7 ad6 (items.size-0) 0 _ 0 (by omega) (zero_le _)
          ⟨⟨_,get?_push_size _ rfl,rfl,rfl⟩,(Hm.push _)⟩ ?hS0 ?hR
        case hS0=>exact(N6 w s.heap).at fun o e=>get?_push_of_some _ e
        case hR=>
          intro s' qm hm Kn;obtain⟨h',g',d',ZH,os'⟩:=s';have eg:g'=s.gens:=hm.gens;have ed:d'=s.drawn:=hm.drawn;have eo:os'=s.os:=hm.os;subst eg;subst ed;subst eo;show wpAny _ _ _ _ _ _;refine wpAny_pure ?_;show wpAny _ _ (ret Value.none) _ _ _;refine wpAny_pure ⟨rfl,h',ZH,qm,rfl,Kn,fun b o hb e=>?_⟩;have hb1:b≠s.heap.objs.size:=ne_of_lt hb;have hb2:b≠(s.heap.push { cls:=.type "set",dict:=none,data:=.set #[] 0 (.fresh 0 0 (!g9 w))}).objs.size:=by rw[size_push];exact ne_of_lt (lt_succ_of_lt hb)
          exact hm.heap b o (by simp only[mem_cons,mem_singleton,not_mem_nil,or_false,not_or];exact⟨hb1,hb2⟩) (get?_push_of_some _ (get?_push_of_some _ e))
      . cases r₂ with
        | error e=>exact ahW
        | ok aiW=>
          cases aiW with
          | ret r=>
            obtain⟨rfl,h',tk,qm,rfl,Kn,Bb⟩:=ahW;repeat (any_goals (first | assumption | wp_step))
            exact h _ _ _ Kn Bb
          | _=>exact ahW.elim
    | _=>exact hr.elim
end
end My
namespace My
open PySem PySem.Spec PyProof.Rows L2
theorem EN{α:Type}:∀(l:List α) (i:Nat) (h:i<l.length),(l[i]::l.eraseIdx i).Perm l
  | a::l,0,_=>List.Perm.refl _
  | a::l,i+1,h=>by
    have hi:i<l.length:=by simpa using h
    have ih:=EN l i hi;show(l[i]::a::l.eraseIdx i).Perm (a::l);exact(List.Perm.swap a l[i] _).trans (ih.cons a)
theorem Tn{α:Type}(next:Nat->Nat):∀(n k:Nat) (left:List α) (out:Array α),left.length=n->(pickOrder.go next n k left out).toList.Perm (out.toList++left)
  | 0,k,left,out,h=>by have e:left=[]:=length_eq_zero_iff.mp h;subst e;unfold pickOrder.go;simp
  | n+1,k,left,out,h=>by
    have hl:next k%left.length<left.length:=Nat.mod_lt _ (by omega)
    unfold pickOrder.go;rw[getElem?_eq_getElem hl];dsimp only;have ih:=Tn next n (k+1) (left.eraseIdx (next k%left.length)) (out.push left[next k%left.length]) (by rw[List.length_eraseIdx_of_lt hl];omega)
    refine ih.trans ?_;rw[Array.toList_push,append_assoc];refine List.Perm.append_left _ ?_;exact EN left _ hl
theorem Jb{α:Type}(next:Nat->Nat)(xs:Array α):(pickOrder next xs).toList.Perm xs.toList:=by
  unfold pickOrder;have:=Tn next xs.size 0 xs.toList #[] (by simp)
  simpa using this
theorem dC.open{w:World}{h:Heap}{a:Addr}{L:List Nat}{ep:Nat}(x:dC w h a L ep):∃(es:Array (Int×Value)) (mask finger moves:Nat),h.get? a=some { cls:=.type "set",dict:=none,data:=.set es ep { mask:=mask,place:=L.toArray,dummies:= #[],finger:=finger,led:= !g9 w,moves:=moves,plain:=true},slots:= #[]}/\Ent L es.toList/\L∈subs/\((mask=7/\L.length<=4)\/mask=15\/mask=31)/\es.size=L.length/\fits { mask:=mask,place:=L.toArray,dummies:= #[],finger:=finger,led:= !g9 w,moves:=moves,plain:=true} es.size=true:=by
  obtain⟨es,⟨mask,place,dummies,finger,led,moves,plain⟩,ho,hE,hL,T⟩:=x;obtain⟨h1,h2,h3,h4,h5⟩:=T;simp only at h1 h2 h3 h4 h5;subst h1 h2 h4 h5;have hsz:es.size=L.length:=by rw[<-length_toList];exact iZ hE
  exact⟨es,mask,finger,moves,ho,hE,hL,h3,hsz,fits_of ⟨rfl,rfl,h3,rfl,rfl⟩ hL hsz⟩
section
variable{prog:Program}{w:World}{A:Around}{E:Value->Shared->Prop}{s:Shared}
theorem uf{a:Addr}{L:List Nat}{ep:Nat}{es:Array (Int×Value)}{Q:Array (Int×Value)->Shared->Prop}{mask finger moves:Nat}(ho:s.heap.get? a=some { cls:=.type "set",dict:=none,data:=.set es ep { mask:=mask,place:=L.toArray,dummies:= #[],finger:=finger,led:= !g9 w,moves:=moves,plain:=true},slots:= #[]})(hf:fits { mask:=mask,place:=L.toArray,dummies:= #[],finger:=finger,led:= !g9 w,moves:=moves,plain:=true} es.size=true)(h:Q (if g9 w then pickOrder (w.params.setOrder a ep) es else es) s):wpAny (model prog w) A (setWalk a) Q E s:=by
  unfold setWalk;refine wpAny_bind (wpAny_setState_of ho rfl hf ?_);dsimp only;unfold setsByText;refine wpAny_bind (wpAny_bind (wpAny_askSetting (wpAny_pure ?_)));show wpAny _ _ (if g9 w=true then _ else _) _ _ _;cases hb:g9 w with
  | true=>rw[hb]at h;simp only[if_true]at h ⊢;exact wpAny_bind (wpAny_askSetting (wpAny_pure h))
  | false=>rw[hb]at h;simp only[false_eq_true,if_false]at h ⊢;refine wpAny_ite_split (fun z=>absurd (show false=true from z) Bool.false_ne_true) fun _=>?_;refine wpAny_bind (wpAny_ite_split (fun z=>absurd (show false=true from z) Bool.false_ne_true) fun _=>wpAny_pure ?_);exact wpAny_pure h
end
end My
namespace My
open PySem PySem.Spec PyProof.Rows L2
section
variable{prog:Program}{w:World}{A:Around}{E:Value->Shared->Prop}{s:Shared}
theorem Dp{h:Heap}{a:Addr}{es tV:Array (Int×Value)}{ep:Nat}{t t':SetTable}(ho:h.get? a=some { cls:=.type "set",dict:=none,data:=.set es ep t,slots:= #[]}):(h.update a (Obj.putSet tV t')).get? a=some { cls:=.type "set",dict:=none,data:=.set tV (ep+1) t',slots:= #[]}:=by have:=get?_update_self (Obj.putSet tV t') ho (by rw[putSet_of tV t' rfl];rfl);rw[putSet_of tV t' rfl]at this;exact this
theorem SO{L:List Nat}{es:Array (Int×Value)}(hE:Ent L es.toList):es.map (·.1)=(L.map fun(i:Nat)=>(i:Int)).toArray:=by apply ext';rw[Array.toList_map,uQ hE]
def afr(h:Heap)(a:Addr)(n:Nat):Prop:=∀o,h.get? a=some o->∀es ep t,o.data=.set es ep t->t.mask=7->n<=4
theorem HK{a:Addr}{L:List Nat}{ep more:Nat}{Q:Unit->Shared->Prop}(hS:dC w s.heap a L ep)(hm:more<=7)(h:∀(h':Heap) (qm:Nat),SameBut a s.heap h'->dC w h' a L qm->afr h' a (L.length+more)->Q () { s with heap:=h'}):wpAny (model prog w) A (setRoomFor a more) Q E s:=by
  obtain⟨es,mask,finger,moves,ho,hE,hL,Bc,hsz,hf⟩:=hS.open;have h7:=(dz L hL).1;unfold setRoomFor;refine wpAny_bind (wpAny_setState_of ho rfl hf ?_);have self:(mask=7->L.length+more<=4)->Q () s:=fun hm7=>by
    have:=h s.heap ep (SameBut.refl a s.heap) hS fun o e tV qm t' d q=>by rw[ho]at e;cases e;cases d;exact hm7 q
    have tV:s={ s with heap:=s.heap}:=by cases s;rfl
    rw[tV];exact this
  by_cases hc:(L.length+more)*5>=mask*3
  . have hr:roomFor { mask:=mask,place:=L.toArray,dummies:= #[],finger:=finger,led:= !g9 w,moves:=moves,plain:=true} more=some ((L.length+more)*2):=by unfold roomFor SetTable.fill;simp only[size_toArray,length_nil,Nat.add_zero];rw[if_pos hc]
    dsimp only;rw[hr];dsimp only;have hw:8<=(L.length+more)*2/\(L.length+more)*2<32:=by rcases Bc with⟨q,_⟩ | q | q<;>subst q<;>omega
    have mz:=RL hw.2 hw.1;have hle:=N8 hw.2;have hgt:=HL hw.2;unfold setRelay;refine wpAny_bind (wpAny_setState_of ho rfl hf ?_);dsimp only;refine wpAny_ite_split (fun z=>?_) fun _=>?_
    . exfalso;rw[sizeLine_eq]at z;omega
    . unfold relaid;rw[SO hE,KL hL mz];have hp:=vK es hsz.symm;refine wpAny_bind ?_;refine wpAny_ite_split (fun z=>?_) fun _=>wpAny_pure ?_
      . exfalso;have z':(((Array.range L.length).filterMap (es[·]?)).size !=es.size)=true:=z;rw[hp]at z';simp at z'
      . show wpAny _ _ (storeSet a ((Array.range L.length).filterMap (es[·]?)) _) _ _ _;rw[hp];refine wpAny_storeSet_of ho rfl ?_ (by rw[hsz,sizeLine_eq];omega);have ahN:sizeAbove ((L.length+more)*2)-1≠7:=by rcases Bc with⟨q,_⟩ | q | q<;>subst q<;>omega
        refine h _ (ep+1) (SameBut.update ..) ⟨es,_,Dp ho,hE,hL,⟨rfl,rfl,?_,rfl,rfl⟩⟩ fun o e tV qm t' d q=>by rw[Dp ho]at e;cases e;cases d;exact absurd q ahN
        show(sizeAbove ((L.length+more)*2)-1=7/\L.length<=4)\/sizeAbove ((L.length+more)*2)-1=15\/sizeAbove ((L.length+more)*2)-1=31;have:sizeAbove ((L.length+more)*2)-1≠7:=by rcases Bc with⟨q,_⟩ | q | q<;>subst q<;>omega
        simp only[mem_cons,not_mem_nil,or_false]at mz;omega
  . have hr:roomFor { mask:=mask,place:=L.toArray,dummies:= #[],finger:=finger,led:= !g9 w,moves:=moves,plain:=true} more=none:=by unfold roomFor SetTable.fill;simp only[size_toArray,length_nil,Nat.add_zero];rw[if_neg hc]
    dsimp only;rw[hr];exact wpAny_pure (self fun q=>by subst q;omega)
theorem MJ{L:List Nat}{es tV:List (Int×Value)}(hE:Ent L es)(p:tV.Perm es):∀e∈tV,∃i∈L,e.1=(i:Int)/\∃tk,e.2=.int (i:Int) tk:=fun e he=>J7 hE (p.mem_iff.mp he)
theorem sq{a b:Addr}{L M:List Nat}{ep Zu:Nat}{each:Sem Unit}{Q:Unit->Shared->Prop}(eZ:a≠b)(hS:dC w s.heap a L ep)(hM:dC w s.heap b M Zu)(afX:∀(s':Shared) (Q':Unit->Shared->Prop),dC w s'.heap b M Zu->Q' () s'->wpAny (model prog w) A each Q' E s')(h:∀(h':Heap) (qm:Nat) (U:List Nat),SameBut a s.heap h'->dC w h' a U qm->(∀y,y∈U↔y∈L\/y∈M)->Q () { s with heap:=h'}):wpAny (model prog w) A (setMerge a b each) Q E s:=by
  obtain⟨eo,Tg,Kj,QU,hoO,hEO,hMs,ad0,UT,hfO⟩:=hM.open;have h7M:=(dz M hMs).1;unfold setMerge;refine wpAny_ite_split (fun z=>absurd (eq_of_beq z) eZ) fun _=>?_;refine wpAny_bind (wpAny_setState_of hoO rfl hfO ?_);dsimp only;refine wpAny_ite_split (fun z=>?_) fun _=>?_
  .
    have e:M=[]:=by
      have:eo.size=0:=by simpa[Array.isEmpty]using z
      rw[UT]at this;exact length_eq_zero_iff.mp this
    subst e;refine wpAny_pure ?_;have tV:s={ s with heap:=s.heap}:=by cases s;rfl
    rw[tV];exact h s.heap ep L (SameBut.refl a s.heap) hS fun y=>by simp
  . refine wpAny_bind (HK hS (by rw[UT];exact h7M) fun h1 ep1 ZG UH hM7=>?_);obtain⟨es,mask,finger,moves,ho,hE,hL,Bc,hsz,hf⟩:=UH.open;have af7:h1.get? b=some _:=(ZG.2 b eZ.symm).trans hoO;have hM1:dC w h1 b M Zu:=hM.at fun o e=>(ZG.2 b eZ.symm).trans e;refine wpAny_bind (wpAny_setState_of (s:={ s with heap:=h1}) ho rfl hf ?_);dsimp only;by_cases hz:L=[]
    . subst hz;have S8:SetTable.fill { mask:=mask,place:=([]:List Nat).toArray,dummies:= #[],finger:=finger,led:= !g9 w,moves:=moves,plain:=true}=0:=rfl;have hbb:(!g9 w&& !g9 w)= !g9 w:=by cases g9 w<;>rfl
      by_cases hmm:mask=Tg
      . have hr:road { mask:=mask,place:=([]:List Nat).toArray,dummies:= #[],finger:=finger,led:= !g9 w,moves:=moves,plain:=true} { mask:=Tg,place:=M.toArray,dummies:= #[],finger:=Kj,led:= !g9 w,moves:=QU,plain:=true}=.slotForSlot:=by unfold road;rw[S8];simp[hmm]
        rw[hr];dsimp only;refine wpAny_storeSet_of (s:={ s with heap:=h1}) ho rfl ?_ (by rw[UT,sizeLine_eq];omega);refine h _ (ep1+1) M (ZG.trans (SameBut.update ..)) ⟨eo,_,Dp ho,hEO,hMs,⟨rfl,rfl,ad0,hbb,rfl⟩⟩ fun y=>by simp
      . have hr:road { mask:=mask,place:=([]:List Nat).toArray,dummies:= #[],finger:=finger,led:= !g9 w,moves:=moves,plain:=true} { mask:=Tg,place:=M.toArray,dummies:= #[],finger:=Kj,led:= !g9 w,moves:=QU,plain:=true}=.clean:=by unfold road;rw[S8];simp[hmm]
        rw[hr];dsimp only;have mz:mask∈ [7,15,31]:=by rcases Bc with⟨q,_⟩ | q | q<;>subst q<;>simp
        rw[SO hEO,KL hMs mz];have hp:=vK eo UT.symm;refine wpAny_bind ?_;refine wpAny_ite_split (fun z=>?_) fun _=>wpAny_pure ?_
        . exfalso;have z':(((Array.range M.length).filterMap (eo[·]?)).size !=eo.size)=true:=z;rw[hp]at z';simp at z'
        . show wpAny _ _ (storeSet a ((Array.range M.length).filterMap (eo[·]?)) _) _ _ _;rw[hp];refine wpAny_storeSet_of (s:={ s with heap:=h1}) ho rfl ?_ (by rw[UT,sizeLine_eq];omega);refine h _ (ep1+1) M (ZG.trans (SameBut.update ..)) ⟨eo,_,Dp ho,hEO,hMs,⟨rfl,rfl,?_,hbb,rfl⟩⟩ fun y=>by simp
          have q7:mask=7->M.length<=4:=fun q=>by have:=hM7 _ ho _ _ _ rfl q;rw[UT]at this;simpa using this
          rcases Bc with⟨q,_⟩ | q | q
          . exact .inl ⟨q,q7 q⟩
          . exact .inr (.inl q)
          . exact .inr (.inr q)
    . have S8:SetTable.fill { mask:=mask,place:=L.toArray,dummies:= #[],finger:=finger,led:= !g9 w,moves:=moves,plain:=true}≠0:=by unfold SetTable.fill;simp;exact hz
      have hr:road { mask:=mask,place:=L.toArray,dummies:= #[],finger:=finger,led:= !g9 w,moves:=moves,plain:=true} { mask:=Tg,place:=M.toArray,dummies:= #[],finger:=Kj,led:= !g9 w,moves:=QU,plain:=true}=.oneByOne:=by unfold road;rw[if_pos (by simpa using S8)]
      rw[hr];dsimp only;have agj:wpAny (model prog w) A (setWalkUnseen b [a] (some a)) (fun tV s'=>s'={ s with heap:=h1}/\tV.toList.Perm eo.toList) E { s with heap:=h1}:=by
        unfold setWalkUnseen;refine wpAny_bind (wpAny_setState_of (s:={ s with heap:=h1}) af7 rfl hfO ?_);dsimp only;unfold setsByText;refine wpAny_bind (wpAny_bind (wpAny_askSetting (wpAny_pure ?_)));refine wpAny_ite_split (fun _=>?_) fun z=>?_
        . refine uf (s:={ s with heap:=h1}) af7 hfO ⟨rfl,?_⟩;cases g9 w with
          | true=>exact Jb _ _
          | false=>exact List.Perm.refl _
        . exfalso;refine z ?_;show(g9 w||(!g9 w&&true)||decide (eo.size<=1))=true;cases g9 w<;>simp
      refine wpAny_bind (wpAny_mono agj (fun tV s' hq=>?_) fun _ _ z=>z);obtain⟨rfl,S9⟩:=hq;have acV:=MJ hEO S9;refine wpAny_bind (m:=forIn tV PUnit.unit _) (MeetsSeq2.wpAny_forIn_array _ (fun rest _ s'=>∃h2 qm U,s'={ s with heap:=h2}/\SameBut a s.heap h2/\dC w h2 a U qm/\dC w h2 b M Zu/\
        (∀e∈rest,∃i∈M,e.1=(i:Int)/\∃tk,e.2=.int (i:Int) tk)/\(∀y,y∈U\/(∃e∈rest,e.1=(y:Int))↔y∈L\/y∈M)) _ ?turn ?fin tV _ ?start)
      case start=>
        refine⟨h1,ep1,L,rfl,ZG,UH,hM1,acV,fun y=>⟨fun q=>q.elim .inl fun⟨e,he,hy⟩=>?_,fun q=>q.elim .inl fun hy=>?_⟩⟩
        . obtain⟨i,hi,e1,_⟩:=acV e he;rw[e1]at hy;have:i=y:=by omega
          subst this;exact .inr hi
        . obtain⟨e,he,e1,_⟩:=SR hEO hy;exact .inr ⟨e,S9.mem_iff.mpr he,e1⟩
      case fin=>rintro _ s' ⟨h2,qm,U,rfl,sb2,hU,_,_,hy⟩;refine wpAny_pure (h h2 qm U sb2 hU fun y=>?_);rw[<-hy y];simp
      case turn=>
        rintro⟨hx,x⟩ rest _ s' ⟨h2,qm,U,rfl,sb2,hU,hMb,ze,hy⟩;obtain⟨i,hi,e1,tk,e2⟩:=ze (hx,x) mem_cons_self;have e1:hx=(i:Int):=e1;have e2:x=.int (i:Int) tk:=e2;subst e1 e2;have hi7:=(dz M hMs).2.2 i hi;dsimp only;refine wpAny_bind (wpAny_holding (xT (s:={ s with heap:=h2}) hU hi7 fun h3 ep3 bb sb3 hU3=>?_));have adM:dC w h3 b M Zu:=hMb.at fun o e=>(sb3.2 b eZ.symm).trans e;refine wpAny_bind (afX { s with heap:=h3} _ adM ?_);obtain⟨eo3,m3,f3,mv3,ho3,_,_,_,_,hf3⟩:=adM.open;refine wpAny_bind (wpAny_setState_of (s:={ s with heap:=h3}) ho3 rfl hf3 ?_);dsimp only;refine wpAny_ite_split (fun z=>?_) fun _=>?_
        . exfalso;simp at z
        . refine wpAny_pure ⟨h3,ep3,_,rfl,sb2.trans sb3,hU3,adM,fun e he=>ze e (mem_cons_of_mem _ he),fun y=>?_⟩;rw[<-hy y];have:=@Nh i y U;unfold Bz at this;rw[this];constructor
          . rintro((q | q) | ⟨e,he,q⟩)
            . exact .inr ⟨_,mem_cons_self,by rw[q]⟩
            . exact .inl q
            . exact .inr ⟨e,mem_cons_of_mem _ he,q⟩
          . rintro(q | ⟨e,he,q⟩)
            . exact .inl (.inr q)
            . rcases mem_cons.mp he with z | z
              . subst z;exact .inl (.inl (by have:((i:Int))=(y:Int):=q;omega))
              . exact .inr ⟨e,z,q⟩
end
end My
namespace My
open PySem PySem.Spec PyProof.Rows L2
theorem J8:entryFor table "set.__or__"=some Builtin.«frozenset.__or__»:=entryFor_alias (id':="frozenset.__or__") (by kernel_rfl) rfl (by decide +kernel) (by kernel_rfl)
section
variable{prog:Program}{w:World}{A:Around}{E:Value->Shared->Prop}{s:Shared}
theorem KY{Q:Value->Shared->Prop}(h:Q (.ref s.heap.objs.size) { s with heap:=s.heap.push { cls:=.type "set",dict:=none,data:=.set #[] 0 (.fresh 0 0 (!g9 w))}}):wpAny (model prog w) A (newSet (.type "set")) Q E s:=by unfold newSet setsByText;refine wpAny_bind (wpAny_bind (wpAny_askSetting (wpAny_pure ?_)));dsimp only;simp only[newObj];exact wpAny_bind (wpAny_alloc (wpAny_pure h))
theorem ph{a:Addr}{Q:Bool->Shared->Prop}(hT:s.TypeIs (.ref a) "set")(h:Q true s):wpAny (model prog w) A (Builtin.Frozenset.isAnySet (.ref a)) Q E s:=by unfold Builtin.Frozenset.isAnySet;refine wpAny_bind (wpAny_isInstance hT sub_set_self ?_);exact wpAny_pure h
theorem dC.ty{a:Addr}{L:List Nat}{ep:Nat}(x:dC w s.heap a L ep):s.TypeIs (.ref a) "set":=by obtain⟨es,t,e,_⟩:=x;exact⟨_,e,rfl⟩
theorem Yq{a b:Addr}{L M:List Nat}{ep Zu:Nat}{R:Fin->Shared->Prop}(hS:dC w s.heap a L ep)(hM:dC w s.heap b M Zu)(UJ:a≠b)(h:∀(h':Heap) (qm:Nat) (U:List Nat),(∀c o,s.heap.get? c=some o->h'.get? c=some o)->dC w h' s.heap.objs.size U qm->(∀y,y∈U↔y∈L\/y∈M)->R (.done (.ret (.ref s.heap.objs.size))) { s with heap:=h'}):wpAny (model prog w) A (Builtin.«frozenset.__or__» ⟨[.ref a,.ref b],[]⟩) R E s:=by
  have la:LT.lt (α:=Nat) a s.heap.objs.size:=by obtain⟨_,_,e,_⟩:=hS;exact lt_size e
  have lb:LT.lt (α:=Nat) b s.heap.objs.size:=by obtain⟨_,_,e,_⟩:=hM;exact lt_size e
  show wpAny _ _ (Builtin.Frozenset.slot1 "__or__" ⟨[.ref a,.ref b],[]⟩>>=_) _ _ _;refine wpAny_bind (wpAny_of_eq (show Builtin.Frozenset.slot1 "__or__" ⟨[.ref a,.ref b],[]⟩=pure (.ref a,.ref b) from rfl) ?_);simp only[false_eq_true,if_false];refine wpAny_bind ?_;unfold andM;refine wpAny_bind (ph (w:=w) hS.ty ?_);refine ph (w:=w) hM.ty ?_;simp only[Bool.not_true,false_eq_true,if_false];refine wpAny_bind (wpAny_pure ?_);refine wpAny_bind ?_;show wpAny _ _ (Builtin.Frozenset.copyOf a>>=fun result=>_) _ _ _;refine wpAny_bind ?_;unfold Builtin.Frozenset.copyOf;refine wpAny_bind ?_;unfold Builtin.Frozenset.baseOf;refine wpAny_bind (wpAny_isInstance hS.ty sub_set_self (wpAny_pure ?_));simp only[if_true];refine wpAny_bind (KY ?_);refine wpAny_bind (wpAny_pure ?_);have UH:dC w (s.heap.push { cls:=.type "set",dict:=none,data:=.set #[] 0 (.fresh 0 0 (!g9 w))}) a L ep:=hS.at fun o e=>get?_push_of_some _ e;have hM1:dC w (s.heap.push { cls:=.type "set",dict:=none,data:=.set #[] 0 (.fresh 0 0 (!g9 w))}) b M Zu:=hM.at fun o e=>get?_push_of_some _ e;refine wpAny_bind (sq (s:={ s with heap:=s.heap.push { cls:=.type "set",dict:=none,data:=.set #[] 0 (.fresh 0 0 (!g9 w))}}) (xj (.inr la)) (N6 w s.heap) UH (fun _ _ _ q=>wpAny_pure q) fun h1 ep1 U ZG hU hy=>?_);refine wpAny_pure ?_;refine wpAny_ite_split (fun _=>?_) fun z=>?_
  . refine wpAny_bind (wpAny_pure ?_);refine wpAny_bind (wpAny_holding ?_);have hM2:dC w h1 b M Zu:=hM1.at fun o e=>(ZG.2 b (xj (.inl lb))).trans e;unfold Builtin.Frozenset.updateFrom;refine wpAny_bind (ph (w:=w) (s:={ s with heap:=h1}) hM2.ty ?_);simp only[if_true];refine wpAny_bind (wpAny_pure ?_);unfold Builtin.Frozenset.merge;obtain⟨eo,m2,f2,mv2,ho2,_,_,_,_,hf2⟩:=hM2.open;refine wpAny_bind (wpAny_setEpoch_of (s:={ s with heap:=h1}) ho2 rfl hf2 ?_);refine sq (s:={ s with heap:=h1}) (xj (.inr lb)) hU hM2 (fun s' Q' hs q=>?_) fun h2 ep3 U2 sb2 hU2 hy2=>?_
    . unfold Builtin.Frozenset.unchanged;obtain⟨eo',m',f',mv',OI,_,_,_,_,hf'⟩:=hs.open;refine wpAny_bind (wpAny_setEpoch_of OI rfl hf' ?_);refine wpAny_ite_split (fun z=>?_) fun _=>wpAny_pure q;exfalso;simp at z
    . refine wpAny_pure (wpAny_pure ?_);refine h h2 ep3 U2 (fun c o e=>?_) hU2 fun y=>?_
      . have lc:LT.lt (α:=Nat) c s.heap.objs.size:=lt_size e;exact(sb2.2 c (xj (.inl lc))).trans ((ZG.2 c (xj (.inl lc))).trans (get?_push_of_some _ e))
      . rw[hy2 y,hy y];simp
  . exfalso;refine z ?_;simp;exact fun q=>UJ q.symm
end
def AC(w:World)(a:Addr)(L:List Nat):HO:=.ext fun h=>∃ep,dC w h a L ep
section
variable{X:Cx}{pins:List (Addr×Obj)}{σ:L2.St}{H:Hp}{s:Shared}
theorem TB{H':Hp}{h:Heap}{a:Addr}{L:List Nat}{ep:Nat}(x:dC X.w h a L ep):cJ X.prog X.w H' h a (AC X.w a L):=by refine⟨⟨ep,x⟩,?_,fun h1 h2 ⟨qm,q⟩ k=>⟨qm,q.at k⟩⟩;obtain⟨es,t,e,_⟩:=x;exact⟨_,e⟩
theorem Lx(I:L2.Inv X pins σ H s){a:Addr}{L:List Nat}(h:H a=some (AC X.w a L)):∃ep,dC X.w s.heap a L ep:=(I.bj a _ h).1
theorem yE(hc:X.calm=true):gh X (.type "set") (fun vs H Q=>∃(a:Addr) (xs:List Nat),vs=[.ref a]/\aN X.K H a (xs.map fun(i:Nat)=>V.int (i:Int))/\(∀x∈xs,x<7)/\∀(p:Addr) (L:List Nat),H p=none->L∈subs->(∀y,y∈L↔y∈xs)->Q (.ref p) (upd H p (AC X.w p L))):=by
  intro pins s σ H vs us Q I r h;obtain⟨a,xs,rfl,hs,h7,q⟩:=h;rw[Vals.Gn r];obtain⟨aX,rv,hl,_⟩:=I.list hs;have e:(xs.map fun(i:Nat)=>V.int (i:Int))=(xs.map fun(i:Nat)=>(i:Int)).map V.int:=by rw[map_map];rfl
  rw[e]at rv;refine Ec (I.ok.hd hc) hl.isList (by simpa using rv.ints) h7 fun h' tk ep hS hk=>?_;have zf:xs.foldl Bz []∈subs:=by obtain⟨_,_,_,_,z,_⟩:=hS;exact z
  exact⟨.ref _,upd H s.heap.objs.size (AC X.w s.heap.objs.size (xs.foldl Bz [])),I.laid (fun b o e=>hk b o (lt_size e) e) (le_refl _) (TB hS),rfl,
    q _ _ (I.bj.fresh (le_refl _)) zf fun y=>by rw[FI];simp⟩
theorem aeI:yb X (binaryOp .BitOr) (fun x y H Q=>∃(a b:Addr) (L M:List Nat),x=.ref a/\y=.ref b/\H a=some (AC X.w a L)/\H b=some (AC X.w b M)/\a≠b/\∀(p:Addr) (U:List Nat),H p=none->U∈subs->(∀y,y∈U↔y∈L\/y∈M)->Q (.ref p) (upd H p (AC X.w p U))):=by
  intro pins s σ H x y v u Q I rx ry h;obtain⟨a,b,L,M,rfl,rfl,ha,hb,UJ,q⟩:=h;cases rx;cases ry;obtain⟨ep,hS⟩:=Lx I ha;obtain⟨Zu,hM⟩:=Lx I hb;refine wpAny_binaryOp_same hS.ty hM.ty F.fills_set_or F.slot_set_or (wpAny_call_entry F.slot_set_or hS.ty J8 (Yq hS hM UJ fun h' qm U hk hU hy=>?_) (F.args_set_or_2 _ _));have zf:U∈subs:=by obtain⟨_,_,_,_,z,_⟩:=hU;exact z
  exact⟨_,rfl,(fun z=>nomatch z),.ref _,upd H s.heap.objs.size (AC X.w s.heap.objs.size U),I.laid (t':=s.toks) hk (le_refl _) (TB hU),rfl,q _ _ (I.bj.fresh (le_refl _)) zf hy⟩
end
end My
namespace My
open PySem PySem.Spec PyProof.Rows L2
theorem lY:Manifest.owners.lookup (String.ofList ['r','o','t','a','r','e','t','i','_','t','e','s'].reverse)=some Manifest.sig_set_iterator:=by kernel_rfl
theorem bJ:Slot "set_iterator" "__next__" "set_iterator.__next__":=
  .of (owner:="set_iterator") (n:="__next__") (by rw[typeLookup_type,builtinLookup_eq_fast];kernel_rfl) (by decide +kernel) (by decide +kernel) (by decide +kernel)
    (by first | exact .inl (by decide +kernel) | exact .inr (by decide +kernel)) (by rw[isSubtype_type];kernel_rfl)
theorem gb:entryFor table "set_iterator.__next__"=some Builtin.«set_iterator.__next__»:=entryFor_of_tree (by kernel_rfl)
theorem fC(a:Value):argsOk "set_iterator.__next__" ⟨[a],[]⟩:=by unfold argsOk;rw[signature?_of (id:="set_iterator.__next__") (n:=['_','_','t','x','e','n','_','_']) (o:=['r','o','t','a','r','e','t','i','_','t','e','s']) (by kernel_rfl) lY];kernel_rfl
theorem gZ:Slot "set_iterator" "__iter__" "set_iterator.__iter__":=
  .of (owner:="set_iterator") (n:="__iter__") (by rw[typeLookup_type,builtinLookup_eq_fast];kernel_rfl) (by decide +kernel) (by decide +kernel) (by decide +kernel)
    (by first | exact .inl (by decide +kernel) | exact .inr (by decide +kernel)) (by rw[isSubtype_type];kernel_rfl)
theorem og:entryFor table "set_iterator.__iter__"=some Builtin.«dict_keyiterator.__iter__»:=entryFor_alias (id':="dict_keyiterator.__iter__") (by kernel_rfl) rfl (by decide +kernel) (by kernel_rfl)
theorem mX(a:Value):argsOk "set_iterator.__iter__" ⟨[a],[]⟩:=by unfold argsOk;rw[signature?_of (id:="set_iterator.__iter__") (n:=['_','_','r','e','t','i','_','_']) (o:=['r','o','t','a','r','e','t','i','_','t','e','s']) (by kernel_rfl) lY];kernel_rfl
theorem EM:entryFor table "set.__iter__"=some Builtin.«frozenset.__iter__»:=entryFor_alias (id':="frozenset.__iter__") (by kernel_rfl) rfl (by decide +kernel) (by kernel_rfl)
def gf(w:World)(L:List Nat)(i:Nat):Nat:=if g9 w then 0 else if i=0 then 0 else L.getD (i-1) 0+1
abbrev nV(w:World)(h:Heap)(it a:Addr)(L:List Nat)(ep i:Nat):Prop:=
  h.get? it=some { cls:=.type "set_iterator",dict:=none,data:=.fields #[rawInt (gf w L i),rawInt i,.ref a,rawInt L.length,rawInt ep],slots:= #[]}
section
variable{prog:Program}{w:World}{A:Around}{E:Value->Shared->Prop}{s:Shared}
theorem Gk{it a:Addr}{L:List Nat}{ep i:Nat}{Q:Value->Shared->Prop}(hit:nV w s.heap it a L ep i)(h:Q (.ref it) s):wpAny (model prog w) A (pyIter (.ref it)) Q E s:=by have hT:s.TypeIs (.ref it) "set_iterator":=⟨_,hit,rfl⟩;refine wpAny_pyIter_slot hT gZ (wpAny_call_entry gZ hT og ?_ (mX _));show wpAny _ _ (ret (.ref it)) _ _ s;exact wpAny_pure ⟨_,rfl,"set_iterator",_,hT,bJ.lookup,h⟩
theorem Rv{a:Addr}{L:List Nat}{ep:Nat}{Q:Value->Shared->Prop}(hS:dC w s.heap a L ep)(h:Q (.ref s.heap.objs.size) { s with heap:=s.heap.push { cls:=.type "set_iterator",data:=.fields #[rawInt (gf w L 0),rawInt 0,.ref a,rawInt L.length,rawInt ep]}}):wpAny (model prog w) A (pyIter (.ref a)) Q E s:=by
  obtain⟨es,mask,finger,moves,ho,hE,hL,Bc,hsz,hf⟩:=hS.open;have hz:gf w L 0=0:=by unfold gf;simp
  refine wpAny_pyIter_slot hS.ty F.slot_set_iter (wpAny_call_entry F.slot_set_iter hS.ty EM ?_ (F.args_set_iter_1 _));show wpAny _ _ (Builtin.Frozenset.sizeOf a>>=_) _ _ s;refine wpAny_bind ?_;unfold Builtin.Frozenset.sizeOf;refine wpAny_bind (wpAny_setEntries_of ho rfl hf (wpAny_pure ?_));refine wpAny_bind ?_;unfold setDrawn;refine wpAny_bind (wpAny_setState_of ho rfl hf ?_);dsimp only;unfold setsByText;refine wpAny_bind (wpAny_bind (wpAny_askSetting (wpAny_pure (wpAny_pure ?_))));refine wpAny_ite_split (fun z=>?_) fun _=>wpAny_bind (wpAny_pure ?_)
  . exfalso;have z':(!g9 w&&false)=true:=z;simp at z'
  refine wpAny_bind (wpAny_setEpoch_of ho rfl hf ?_);rw[hsz];refine wpAny_bind (wpAny_newObj_type ?_);refine wpAny_pure ⟨_,rfl,"set_iterator",_,⟨_,get?_push_size _ rfl,rfl⟩,bJ.lookup,?_⟩;rw[hz]at h;exact h
def tL(w:World)(a:Addr)(ep:Nat)(es:Array (Int×Value)):Array (Int×Value):=if g9 w then pickOrder (w.params.setOrder a ep) es else es
theorem kd(w:World)(a:Addr)(ep:Nat)(es:Array (Int×Value)):(tL w a ep es).toList.Perm es.toList:=by
  unfold tL;cases g9 w with
  | true=>exact Jb _ _
  | false=>exact List.Perm.refl _
theorem Pf{L:List Nat}(hL:L∈subs){i:Nat}(hi:i<=L.length)(hb:g9 w=false):below L.toArray (gf w L i)=i:=by have h7:=(dz L hL).1;have:=(V9 L hL i (mem_range.mpr (by omega))).resolve_left (by omega);unfold gf;rw[hb];exact this
theorem ue{a:Addr}{L:List Nat}{ep i:Nat}{es:Array (Int×Value)}{Q:Option (Value×Nat)->Shared->Prop}{mask finger moves:Nat}(ho:s.heap.get? a=some { cls:=.type "set",dict:=none,data:=.set es ep { mask:=mask,place:=L.toArray,dummies:= #[],finger:=finger,led:= !g9 w,moves:=moves,plain:=true},slots:= #[]})(hf:fits { mask:=mask,place:=L.toArray,dummies:= #[],finger:=finger,led:= !g9 w,moves:=moves,plain:=true} es.size=true)(hE:Ent L es.toList)(hL:L∈subs)(hi:i<=L.length)(h:Q (((tL w a ep es)[i]?).map fun e=>(e.2,gf w L (i+1))) s):wpAny (model prog w) A (setNext a (gf w L i) i ep) Q E s:=by
  have hsz:es.size=L.length:=by rw[<-length_toList];exact iZ hE
  unfold setNext;refine wpAny_bind (wpAny_setState_of ho rfl hf ?_);dsimp only;unfold setsByText;refine wpAny_bind (wpAny_bind (wpAny_askSetting (wpAny_pure ?_)));show wpAny _ _ (if g9 w=true then _ else _) _ _ _;cases hb:g9 w with
  | true=>
    simp only[if_true];refine wpAny_ite_split (fun z=>?_) fun _=>?_
    . exfalso;simp at z
    refine wpAny_bind (uf ho hf (wpAny_pure ?_));have e1:gf w L i=0:=by unfold gf;rw[hb];rfl
    have e2:gf w L (i+1)=0:=by unfold gf;rw[hb];rfl
    rw[e1];rw[e2]at h;exact h
  | false=>
    simp only[false_eq_true,if_false];rw[hb]at ho hf;refine wpAny_ite_split (fun z=>absurd (show false=true from z) Bool.false_ne_true) fun _=>?_;refine wpAny_bind (wpAny_ite_split (fun z=>absurd (show false=true from z) Bool.false_ne_true) fun _=>wpAny_pure ?_);rw[Pf hL hi hb];have eo:tL w a ep es=es:=by unfold tL;rw[hb];rfl
    rw[eo]at h;refine wpAny_pure ?_;by_cases dD:i<L.length
    . have h1:es[i]? =some es[i]:=by simp[hsz,dD]
      have h2:L.toArray[i]? =some L[i]:=by simp[dD]
      rw[h1,h2];rw[h1]at h;have e2:gf w L (i+1)=L[i]+1:=by unfold gf;rw[hb];simp[getD_eq_getElem?_getD,dD]
      rw[e2]at h;exact h
    . have h1:es[i]? =none:=by simp[hsz];omega
      rw[h1];rw[h1]at h;exact h
end
end My
namespace My
open PySem PySem.Spec PyProof.Rows L2
section
variable{prog:Program}{w:World}{A:Around}{E:Value->Shared->Prop}{s:Shared}
theorem CP{it a:Addr}{L:List Nat}{ep i:Nat}{es:Array (Int×Value)}{Q:Option Value->Shared->Prop}{mask finger moves:Nat}{e:Int×Value}(hit:nV w s.heap it a L ep i)(ho:s.heap.get? a=some { cls:=.type "set",dict:=none,data:=.set es ep { mask:=mask,place:=L.toArray,dummies:= #[],finger:=finger,led:= !g9 w,moves:=moves,plain:=true},slots:= #[]})(hf:fits { mask:=mask,place:=L.toArray,dummies:= #[],finger:=finger,led:= !g9 w,moves:=moves,plain:=true} es.size=true)(hE:Ent L es.toList)(hL:L∈subs)(he:(tL w a ep es)[i]? =some e)(hQ:∀h',nV w h' it a L ep (i+1)->SameBut it s.heap h'->Q (some e.2) { s with heap:=h'}):wpAny (model prog w) A (pyNext (.ref it)) Q E s:=by
  have hT:s.TypeIs (.ref it) "set_iterator":=⟨_,hit,rfl⟩;have hsz:es.size=L.length:=by rw[<-length_toList];exact iZ hE
  have hoz:(tL w a ep es).size=L.length:=by rw[<-length_toList,(kd w a ep es).length_eq,length_toList,hsz]
  have hi:i<L.length:=by have:=(Array.getElem?_eq_some_iff.mp he).1;omega
  unfold pyNext;refine wpAny_bind (wpAny_attempt (wpAny_callSpecial?_slot (name:=Str.ofString "__next__") hT bJ
    (wpAny_call_entry bJ hT gb ?_ (fC _))))
  show wpAny _ _ (fieldsOf (.ref it)>>=_) _ _ s;refine wpAny_bind (wpAny_fieldsOf hit rfl ?_);show wpAny _ _ (setEntries a>>=_) _ _ s;refine wpAny_bind (wpAny_setEntries_of ho rfl hf ?_);refine wpAny_ite_split (fun z=>?_) fun _=>?_
  . exfalso;rw[hsz]at z;simp at z
  show wpAny _ _ (setNext a ((gf w L i:Nat):Int).toNat ((i:Nat):Int).toNat ((ep:Nat):Int).toNat>>=_) _ _ s;simp only[toNat_natCast];refine wpAny_bind (ue ho hf hE hL (le_of_lt hi) ?_);rw[he];show wpAny _ _ (setField (.ref it) 0 (rawInt (gf w L (i+1)))>>=_) _ _ s;refine wpAny_bind (wpAny_setField_rec hit (by simp) fun h1 adU ZG=>?_);refine wpAny_bind (wpAny_setField_rec (s:={ s with heap:=h1}) adU (by simp) fun h2 ahI sb2=>?_);refine wpAny_pure ⟨_,rfl,wpAny_pure (hQ h2 ?_ (ZG.trans sb2))⟩;exact ahI
theorem Gm{it a:Addr}{L:List Nat}{ep i:Nat}{es:Array (Int×Value)}{Q:Option Value->Shared->Prop}{mask finger moves:Nat}(hh:A.handled=none)(hit:nV w s.heap it a L ep i)(ho:s.heap.get? a=some { cls:=.type "set",dict:=none,data:=.set es ep { mask:=mask,place:=L.toArray,dummies:= #[],finger:=finger,led:= !g9 w,moves:=moves,plain:=true},slots:= #[]})(hf:fits { mask:=mask,place:=L.toArray,dummies:= #[],finger:=finger,led:= !g9 w,moves:=moves,plain:=true} es.size=true)(hE:Ent L es.toList)(hL:L∈subs)(hi:i=L.length)(hQ:∀h',Heap.ExtBut it s.heap h'->Q none { s with heap:=h'}):wpAny (model prog w) A (pyNext (.ref it)) Q E s:=by
  have hT:s.TypeIs (.ref it) "set_iterator":=⟨_,hit,rfl⟩;have hsz:es.size=L.length:=by rw[<-length_toList];exact iZ hE
  have hoz:(tL w a ep es).size=L.length:=by rw[<-length_toList,(kd w a ep es).length_eq,length_toList,hsz]
  have he:(tL w a ep es)[i]? =none:=Array.getElem?_eq_none (by omega);unfold pyNext;refine wpAny_bind (wpAny_attempt (wpAny_callSpecial?_slot (name:=Str.ofString "__next__") hT bJ
    (wpAny_call_entry bJ hT gb ?_ (fC _))))
  show wpAny _ _ (fieldsOf (.ref it)>>=_) _ _ s;refine wpAny_bind (wpAny_fieldsOf hit rfl ?_);show wpAny _ _ (setEntries a>>=_) _ _ s;refine wpAny_bind (wpAny_setEntries_of ho rfl hf ?_);refine wpAny_ite_split (fun z=>?_) fun _=>?_
  . exfalso;rw[hsz]at z;simp at z
  show wpAny _ _ (setNext a ((gf w L i:Nat):Int).toNat ((i:Nat):Int).toNat ((ep:Nat):Int).toNat>>=_) _ _ s;simp only[toNat_natCast];refine wpAny_bind (ue ho hf hE hL (le_of_eq hi) ?_);rw[he];show wpAny _ _ (setField (.ref it) 2 .none>>=_) _ _ s;refine wpAny_bind (wpAny_setField hit rfl (by simp) ?_);show wpAny _ _ (newExc (.type "StopIteration") []>>=_) _ _ _;refine wpAny_bind ?_;simp only[newExc,newTuple];refine wpAny_bind (wpAny_newObj_type ?_ (by size_fits));refine wpAny_bind (m:=firstArgMember _ _) (wpAny_of_eq (a:=Value.none) (by first | rfl | (simp only[firstArgMember];rfl)) ?_);refine wpAny_newObj_type ?_ (by size_fits);simp only[raiseNew];refine wpAny_bind (wpAny_handled ?_);rw[show A.in1.handled=none from hh];refine wpAny_bind (wpAny_pure (wpAny_throw ?_));refine wpAny_bind (wpAny_isInstance (T:="StopIteration") (b:=true) ⟨_,get?_push_size _ rfl,rfl⟩ isSubtype_stop ?_);exact wpAny_pure (hQ _ (((SameBut.update ..).extBut.push _).push _))
theorem Xy{r:Addr}{Q:Bool->Shared->Prop}(hT:s.TypeIs (.ref r) "set")(h:Q false s):wpAny (model prog w) A (Builtin.List.listLengthHint (.ref r)) Q E s:=by unfold Builtin.List.listLengthHint;refine wpAny_bind (wpAny_specialOf hT PySem.F.slot_set_len.lookup ?_);generalize hid:("set.__len__":String)=id0;wp_delta;rw[show splitId id0=some ("set","__len__") from by subst hid;decide +kernel];subst hid;refine wpAny_bind (wpAny_isInstance (T:="set") (b:=true) hT (by rw[isSubtype_type];kernel_rfl) ?_);refine wpAny_ite_split (fun UJ=>absurd UJ (by decide)) (fun _=>?_);refine wpAny_ite_split (fun _=>?_) (fun UJ=>absurd (by decide +kernel) UJ);refine wpAny_bind (wpAny_typeOf hT ?_);exact wpAny_pure h
theorem Wi(hh:A.handled=none){it a:Addr}{L:List Nat}{ep:Nat}{es:Array (Int×Value)}{mask finger moves:Nat}(eZ:a≠it)(hf:fits { mask:=mask,place:=L.toArray,dummies:= #[],finger:=finger,led:= !g9 w,moves:=moves,plain:=true} es.size=true)(hE:Ent L es.toList)(hL:L∈subs):Walks prog w A it [it,a] [it] L.length (fun i v=>∃e,(tL w a ep es)[i]? =some e/\v=e.2) (fun i h=>nV w h it a L ep i/\h.get? a=some { cls:=.type "set",dict:=none,data:=.set es ep { mask:=mask,place:=L.toArray,dummies:= #[],finger:=finger,led:= !g9 w,moves:=moves,plain:=true},slots:= #[]}) where
  sub:=fun b hb=>by simp at hb;simp[hb]
  frame:=fun _ _ _ st hk=>⟨hk it (by simp) _ st.1,hk a (by simp) _ st.2⟩
  item:=fun i s Q E hi st hQ=>by
    have hsz:es.size=L.length:=by rw[<-length_toList];exact iZ hE
    have hoz:(tL w a ep es).size=L.length:=by rw[<-length_toList,(kd w a ep es).length_eq,length_toList,hsz]
    have he:(tL w a ep es)[i]? =some ((tL w a ep es)[i]'(by omega)):=by simp
    refine CP st.1 st.2 hf hE hL he fun h' adT hs'=>?_;exact hQ _ h' s.toks ⟨_,he,rfl⟩ ⟨adT,hs'.extBut _ _ eZ st.2⟩ fun b o hb e=>hs'.extBut b o (fun h=>hb (by simp[h])) e
  done:=fun s Q E st hQ=>Gm hh st.1 st.2 hf hE hL rfl fun h' Qc=>hQ h' s.toks fun b o hb e=>Qc b o (fun h=>hb (by simp[h])) e
  self:=fun _ _ _ _ st hQ=>Gk st.1 hQ
theorem Mp{a:Addr}{L:List Nat}{ep:Nat}{Q:List Value->Shared->Prop}(hh:A.handled=none)(hS:dC w s.heap a L ep)(h:∀(h':Heap) (tk:Nat) (vs:List Value),s.heap.objs.size<=h'.objs.size->(∀b o,s.heap.get? b=some o->h'.get? b=some o)->(∃ns:List Nat,ns.Perm L/\IntsAre vs (ns.map fun(i:Nat)=>(i:Int)))->Q vs { s with heap:=h',toks:=tk}):wpAny (model prog w) A (collect (.ref a)) Q E s:=by
  obtain⟨es,mask,finger,moves,ho,hE,hL,Bc,hsz,hf⟩:=hS.open;have h7:=(dz L hL).1;have la:LT.lt (α:=Nat) a s.heap.objs.size:=lt_size ho;unfold collect;refine wpAny_bind (wpAny_runValue (codeAny_builtin F.entry_proto_collect ?_));rw[Around.under_plainId F.plain_proto_collect _];show wpAny _ A.in1 (newList []>>=fun l=>again (.builtin "list.__iadd__" ⟨[l,.ref a],[]⟩)) _ _ s;refine wpAny_bind (wpAny_newObj_type ?_);refine wpAny_pure ⟨plainId_quiet F.plain_list_iadd _,codeAny_builtin F.entry_list_iadd ?_⟩;rw[Around.under_plainId F.plain_list_iadd _];have UH:dC w (s.heap.push { cls:=.type "list",data:=.seq ([]:List Value).toArray}) a L ep:=hS.at fun o e=>get?_push_of_some _ e;have hL1:(s.heap.push { cls:=.type "list",data:=.seq ([]:List Value).toArray}).get? s.heap.objs.size=some { cls:=.type "list",data:=.seq ([]:List Value).toArray}:=get?_push_size _ rfl;have hT1:Shared.TypeIs { s with heap:=s.heap.push { cls:=.type "list",data:=.seq ([]:List Value).toArray}} (.ref a) "set":=UH.ty;show wpAny _ A.in1 (Builtin.List.listExtendWith (.ref s.heap.objs.size) (.ref a) (.ref s.heap.objs.size)) _ _ _;unfold Builtin.List.listExtendWith;refine wpAny_bind (wpAny_typeOf hT1 ?_);have h1:Builtin.List.listSameRef (.ref s.heap.objs.size) (.ref a)=false:=by simp[Builtin.List.listSameRef];exact xj (.inr la)
  have h2:(Value.type "set"==Value.type "list")=false:=by decide
  have h3:(Value.type "set"==Value.type "tuple")=false:=by decide
  simp only[h1,h2,h3,Bool.or_false,false_eq_true,if_false];refine wpAny_bind (Rv (s:={ s with heap:=s.heap.push { cls:=.type "list",data:=.seq ([]:List Value).toArray}}) UH ?_);refine wpAny_bind (wpAny_holding (Xy ?_ ?_))
  . exact dC.ty (w:=w) (L:=L) (ep:=ep) (UH.at fun o e=>get?_push_of_some _ e)
  refine wpAny_ite_split (fun _=>?_) fun z=>absurd (by decide +kernel) z;have E3:(s.heap.push { cls:=.type "list",data:=.seq ([]:List Value).toArray}).objs.size=s.heap.objs.size+1:=size_push ..;have eZ:a≠(s.heap.push { cls:=.type "list",data:=.seq ([]:List Value).toArray}).objs.size:=by rw[E3];exact xj (.inl (by omega))
  have W:=(Wi (prog:=prog) (w:=w) (A:=A.in1) hh (it:=(s.heap.push { cls:=.type "list",data:=.seq ([]:List Value).toArray}).objs.size) (ep:=ep) eZ hf hE hL).toS;refine wpAny_bind (wpAny_rule ?_);refine wpAny_bind ?_;show wpAny _ A.in1 (updateSeq s.heap.objs.size (·.push .none)>>=fun _=>updateSeq s.heap.objs.size (·.pop)) _ _ _;have afP:((s.heap.push { cls:=.type "list",data:=.seq ([]:List Value).toArray}).push { cls:=.type "set_iterator",data:=.fields #[rawInt (gf w L 0),rawInt 0,.ref a,rawInt L.length,rawInt ep]}).get? s.heap.objs.size=some { cls:=.type "list",data:=.seq ([]:List Value).toArray}:=get?_push_of_some _ hL1;refine wpAny_bind (wpAny_updateSeq afP rfl ?_);have adN:=get?_update_self (Obj.mapSeq (·.push Value.none)) afP rfl;refine wpAny_updateSeq (hz:=by seq_fits) adN rfl ?_;have ahz:=get?_update_self (Obj.mapSeq (·.pop)) adN rfl;have Wm:∀b o,b≠s.heap.objs.size->((s.heap.push { cls:=.type "list",data:=.seq ([]:List Value).toArray}).push { cls:=.type "set_iterator",data:=.fields #[rawInt (gf w L 0),rawInt 0,.ref a,rawInt L.length,rawInt ep]}).get? b=some o->
      ((((s.heap.push { cls:=.type "list",data:=.seq ([]:List Value).toArray}).push { cls:=.type "set_iterator",data:=.fields #[rawInt (gf w L 0),rawInt 0,.ref a,rawInt L.length,rawInt ep]}).update s.heap.objs.size (Obj.mapSeq (·.push Value.none))).update s.heap.objs.size (Obj.mapSeq (·.pop))).get? b=some o:=
    fun b o hb e=>(get?_update_other _ _ (Ne.symm hb)).trans ((get?_update_other _ _ (Ne.symm hb)).trans e)
  have ZF:(s.heap.push { cls:=.type "list",data:=.seq ([]:List Value).toArray}).objs.size≠s.heap.objs.size:=by rw[E3];exact xj (by omega)
  refine wpAny_pure ⟨plainId_quiet F.plain_extend_loop _,codeAny_extend_loopS W (by rw[sizeLine_eq];omega) s.heap.objs.size (fun hm=>?_) _ L.length 0 _ #[] _ rfl (zero_le _) ⟨Wm _ _ ZF (get?_push_size _ rfl),Wm _ _ (xj (.inl la)) (get?_push_of_some _ (get?_push_of_some _ ho))⟩ ahz (ItemsOf.nil _) fun s' L8 c' hm Kn adP=>?_⟩
  . have hm':s.heap.objs.size=(s.heap.push { cls:=.type "list",data:=.seq ([]:List Value).toArray}).objs.size\/s.heap.objs.size=a:=by simpa using hm
    rw[E3]at hm';rcases hm' with z | z
    . exact absurd z (xj (by omega))
    . exact absurd z (xj (by omega))
  show wpAny _ A (load s.heap.objs.size>>=_) _ _ s';refine wpAny_bind (wpAny_load Kn ?_);obtain⟨hh',gg',dd',ZH,oo'⟩:=s';have eg:gg'=s.gens:=hm.gens;have ed:dd'=s.drawn:=hm.drawn;have eo:oo'=s.os:=hm.os;subst eg ed eo;refine wpAny_pure (h hh' ZH L8.toList (le_of_lt (lt_size Kn)) (fun b o e=>?_) ?_)
  . have lb:LT.lt (α:=Nat) b s.heap.objs.size:=lt_size e;refine hm.heap b o (fun z=>?_) (Wm b o (xj (.inl lb)) (get?_push_of_some _ (get?_push_of_some _ e)));have z':b=s.heap.objs.size\/b=(s.heap.push { cls:=.type "list",data:=.seq ([]:List Value).toArray}).objs.size:=by simpa using z
    rw[E3]at z';rcases z' with q | q
    . exact absurd q (xj (by omega))
    . exact absurd q (xj (by omega))
  .
    obtain⟨ha1,ha2⟩:=adP;have hoz:(tL w a ep es).size=L.length:=by rw[<-length_toList,(kd w a ep es).length_eq,length_toList,hsz]
    have afQ:L8.toList=(tL w a ep es).toList.map (·.2):=by
      apply ext_getElem?;intro j;by_cases hj:j<L.length
      . have q:L8[j]? =some (L8[j]'(by omega)):=by simp
        obtain⟨e,e1,e2⟩:=ha2 j _ q;rw[getElem?_toList,q,getElem?_map,getElem?_toList,e1,e2];rfl
      . rw[getElem?_eq_none (by simp;omega),getElem?_eq_none (by simp;omega)]
    have key:∀l:List (Int×Value),(∀e∈l,∃i∈L,e.1=(i:Int)/\∃tk,e.2=.int (i:Int) tk)->IntsAre (l.map (·.2)) ((l.map fun e=>e.1.toNat).map fun(i:Nat)=>(i:Int)):=by
      intro l;induction l with
      | nil=>intro _;exact .nil
      | cons e r ih=>intro hl;obtain⟨i,_,e1,tk,e2⟩:=hl e mem_cons_self;rw[map_cons,map_cons,map_cons,e1,e2,toNat_natCast];exact .cons _ _ (ih fun e' Qc=>hl e' (mem_cons_of_mem _ Qc))
    refine⟨(tL w a ep es).toList.map fun e=>e.1.toNat,?_,?_⟩
    . have p:=(kd w a ep es).map fun e=>e.1.toNat;refine p.trans ?_;have e:es.toList.map (fun e=>e.1.toNat)=L:=by
        have q:=uQ hE;have q2:(es.toList.map (·.1)).map Int.toNat=(L.map fun(i:Nat)=>(i:Int)).map Int.toNat:=by rw[q]
        rw[map_map,map_map]at q2;have e1:es.toList.map (Int.toNat∘fun x=>x.1)=es.toList.map fun e=>e.1.toNat:=rfl;have e2:L.map (Int.toNat∘fun(i:Nat)=>(i:Int))=L:=by
          have:(Int.toNat∘fun(i:Nat)=>(i:Int))=id:=by funext i;simp
          rw[this,map_id]
        rw[e1,e2]at q2;exact q2
      rw[e]
    . rw[afQ];exact key _ (MJ hE (kd w a ep es))
end
end My
namespace My
open PySem PySem.Spec PyProof.Rows L2
section
variable{prog:Program}{w:World}{A:Around}{E:Value->Shared->Prop}{s:Shared}
theorem RT{a:Addr}{L:List Nat}{ep:Nat}{Q:Value->Shared->Prop}(hh:A.handled=none)(hS:dC w s.heap a L ep)(h:∀(h':Heap) (tk:Nat) (p:Addr) (vs:List Value) (n:Nat),s.heap.objs.size<=p->(∀b o,s.heap.get? b=some o->h'.get? b=some o)->h'.get? p=some { cls:=.type "list",data:=.seq vs.toArray n}->IntsAre vs (L.map fun(i:Nat)=>(i:Int))->Q (.ref p) { s with heap:=h',toks:=tk}):wpAny (model prog w) A (call (.builtin "sorted") [.ref a]) Q E s:=by
  have hL:L∈subs:=by obtain⟨_,_,_,_,z,_⟩:=hS;exact z
  have h7:=(dz L hL).1;refine Calls.call_function_entry kind_sorted plain_sorted entry_sorted (args_sorted1 _) ?_;unfold Builtin.«sorted»;refine wpAny_bind (m:=checkCount "sorted" 1 1 _) (wpAny_pure ?_);refine wpAny_bind (Mp (A:=A.in1) hh hS fun h1 tk vs hsz hk ⟨ns,hp,hi⟩=>?_);have hvl:vs.length=L.length:=by rw[hi.length,length_map,hp.length_eq]
  refine wpAny_bind (wpAny_newList ?_ (hsz:=by rw[hvl,sizeLine_eq];omega));have hoL:(h1.push (seqObj "list" vs.toArray 0)).get? h1.objs.size=some (seqObj "list" vs.toArray 0):=get?_push_size _ rfl;refine wpAny_bind (wpAny_holding (wpAny_call_entry slot_list_sort ⟨_,hoL,rfl⟩ entry_list_sort (list_sort_tree (s:={ s with heap:=h1.push (seqObj "list" vs.toArray 0),toks:=tk}) hoL hi (by omega) fun out Nq a1 a2 a3=>⟨_,rfl,?_⟩) (args_list_sort _)));obtain⟨e,he⟩:=sortedHeap_at (vs:=vs) (out:=out) hoL;have hns:Nq=L.map fun(i:Nat)=>(i:Int):=by
    have q:Nq.Perm (L.map fun(i:Nat)=>(i:Int)):=a2.trans (hp.map _);have sL:(L.map fun(i:Nat)=>(i:Int)).Pairwise (· <= ·):=by rw[List.pairwise_map];exact(dz L hL).2.1.imp fun x=>by omega
    exact q.eq_of_pairwise (fun x y _ _ h1 h2=>by omega) a3 sL
  subst hns;refine wpAny_pure ⟨_,rfl,h _ tk h1.objs.size out.toList e hsz (fun b o eo=>?_) (by simpa using he) a1⟩;have lb:LT.lt (α:=Nat) b h1.objs.size:=lt_size (hk b o eo);rw[sortedHeap_old (xj (.inl lb)) (by rw[size_push];exact lt_succ_of_lt lb)];exact get?_push_of_some _ (hk b o eo)
end
section
variable{X:Cx}
theorem wt(hc:X.calm=true):gh X (.builtin "sorted") (fun vs H Q=>∃(a:Addr) (L:List Nat),vs=[.ref a]/\H a=some (AC X.w a L)/\L∈subs/\∀p,H p=none->Q (.ref p) (upd H p (.lst (L.map fun(i:Nat)=>V.int (i:Int))))):=by
  intro pins s σ H vs us Q I r h;obtain⟨a,L,rfl,ha,hL,q⟩:=h;rw[Vals.Gn r];obtain⟨ep,hS⟩:=Lx I ha;refine RT (I.ok.hd hc) hS fun h' tk p vs n hp hk he hi=>?_;have rv:Vals (L.map fun(i:Nat)=>V.int (i:Int)) vs:=by have:=g8 hi;rw[map_map]at this;exact this
  have h7:=(dz L hL).1;exact⟨.ref p,upd H p (.lst (L.map fun(i:Nat)=>V.int (i:Int))),I.laid hk hp ⟨by rw[length_map,sizeLine_eq];omega,vs,n,rv,he⟩,rfl,q p (I.bj.fresh hp)⟩
theorem Im(hc:X.calm=true):gh X (.type "set") (fun vs H Q=>∃(a:Addr) (ns:List Int),vs=[.ref a]/\aN X.K H a (ns.map V.int)/\ns.length<=2000/\∀p,H p=none->Q (.ref p) (upd H p (.set (fun k=>(firstMet (fun i=>ns.getD i 0) ns.length).any (· ==k)) (firstMet (fun i=>ns.getD i 0) ns.length).length))):=by
  intro pins s σ H vs us Q I r h;obtain⟨a,ns,rfl,hs,hl,q⟩:=h;rw[Vals.Gn r];obtain⟨aX,rv,pl,_⟩:=I.list hs;have hi:=rv.ints;have hlen:aX.toArray.size=ns.length:=by rw[size_toArray];exact hi.length
  refine call_set_list (I.ok.hd hc) pl.isList (by simpa using hi) (by rw[hlen];unfold scanBound;omega) fun h' tk hS hk=>?_;rw[hlen]at hS;exact⟨.ref _,upd H s.heap.objs.size (.set (fun k=>(firstMet (fun i=>ns.getD i 0) ns.length).any (· ==k)) (firstMet (fun i=>ns.getD i 0) ns.length).length),I.laid (fun b o e=>hk b o (lt_size e) e) (le_refl _) hS,rfl,q _ (I.bj.fresh (le_refl _))⟩
theorem Ij:gh X (.builtin "len") (fun vs H Q=>∃(a:Addr) (S:Int->Bool) (n:Nat),vs=[.ref a]/\H a=some (.set S n)/\Q (.int (n:Nat)) H):=by
  intro pins s σ H vs us Q I r h;obtain⟨a,S,n,rfl,ha,q⟩:=h;rw[Vals.Gn r];obtain⟨o,es,ep,t,ho,hex,hd,hel,hm,hb,hf,hn⟩:=I.bj a _ ha;have adR:(es.size:Int)<2^63:=by unfold scanBound at hb;omega
  refine call_len_set ho hex hd hf adR ?_;rw[hn];exact⟨.int (n:Nat),H,I.tok _,⟨_,rfl⟩,q⟩
end
end My
set_option maxHeartbeats 2000000
namespace My
open PySem PySem.Spec PyProof.Rows L2
structure FA where
  dx:Addr
  r:Addr
  k:Addr
  o:Addr
  d:Addr
  sl:Addr
  t:Addr
  rr:List Addr
  kr:List Addr
  tr:List Addr
  sf:List Addr
def Hj(c b:Nat)(A:FA):List (Str×V):=[("crews",.int c),("boats",.int b),("refused",.ref A.r),("costs",.ref A.k),("boats_out",.ref A.o),("due_crews",.ref A.d),("sailed",.ref A.sl),("together",.ref A.t)]
theorem MN{c b:Nat}{A:FA}:(Hj c b A).lookup ("crews":Str)=some (V.int c):=by rfl
theorem oj{c b:Nat}{A:FA}:(Hj c b A).lookup ("boats":Str)=some (V.int b):=by rfl
theorem uX{c b:Nat}{A:FA}:(Hj c b A).lookup ("refused":Str)=some (V.ref A.r):=by rfl
theorem rc{c b:Nat}{A:FA}:(Hj c b A).lookup ("costs":Str)=some (V.ref A.k):=by rfl
theorem Kk{c b:Nat}{A:FA}:(Hj c b A).lookup ("boats_out":Str)=some (V.ref A.o):=by rfl
theorem ll{c b:Nat}{A:FA}:(Hj c b A).lookup ("due_crews":Str)=some (V.ref A.d):=by rfl
theorem eV{c b:Nat}{A:FA}:(Hj c b A).lookup ("sailed":Str)=some (V.ref A.sl):=by rfl
theorem Ba{c b:Nat}{A:FA}:(Hj c b A).lookup ("together":Str)=some (V.ref A.t):=by rfl
def Jw(H:Hp)(t:Addr)(p:Pair):Prop:=H t=some (.tup [.int p.crew,.int p.boat])
def Jr(H:Hp)(a:Addr)(f:Flight):Prop:=∃ts:List Addr,H a=some (.lst (ts.map V.ref))/\Paired (Jw H) ts f
structure aL(C:Addr)(H:Hp)(p:Addr)(A:FA)(s:Vbreai.State):Prop where
  ins:H p=some (.ins C A.dx (Hj s.crews s.boats A))
  r:H A.r=some (.lst (A.rr.map V.ref))
  rl:A.rr.length=s.crews
  YH:∀(c:Nat) (a:Addr),A.rr[c]? =some a->H a=some (.lst ((List.range s.boats).map fun b=>V.bl (s.refused.contains ⟨c,b⟩)))
  k:H A.k=some (.lst (A.kr.map V.ref))
  kl:A.kr.length=s.crews
  kw:∀(c:Nat) (a:Addr),A.kr[c]? =some a->H a=some (.lst ((List.range s.boats).map fun b=>V.int (costOf s c b:Nat)))
  t:H A.t=some (.lst (A.tr.map V.ref))
  tl:A.tr.length=s.crews
  tw:∀(c:Nat) (a:Addr),A.tr[c]? =some a->H a=some (.lst ((List.range s.boats).map fun b=>V.bl (s.sailed.any fun f=>f.contains ⟨c,b⟩)))
  o:H A.o=some (.lst ((List.range s.boats).map fun b=>V.bl (s.out.contains b)))
  d:H A.d=some (.lst (s.due.map fun c=>V.int (c:Nat)))
  sl:H A.sl=some (.lst (A.sf.map V.ref))
  sf:Paired (Jr H) A.sf s.sailed.reverse
  nd:([A.r,A.k,A.o,A.d,A.sl,A.t]++A.rr++A.kr++A.tr++A.sf).Nodup
theorem _root_.L2.aA.tupP{H H':Hp}(e:aA H H'){t:Addr}{p:Pair}(h:Jw H t p):Jw H' t p:=e _ _ h
theorem _root_.L2.aA.ahr{H H':Hp}(e:aA H H'){a:Addr}{f:Flight}(h:Jr H a f):Jr H' a f:=by obtain⟨ts,h1,h2⟩:=h;exact⟨ts,e _ _ h1,Paired.et h2 fun _ _ z=>e.tupP z⟩
theorem aL.same{C:Addr}{H H':Hp}{p:Addr}{A:FA}{s:Vbreai.State}(F:aL C H p A s)(e:aA H H'):aL C H' p A s:=
  ⟨e _ _ F.ins,e _ _ F.r,F.rl,fun c a h=>e _ _ (F.YH c a h),e _ _ F.k,F.kl,fun c a h=>e _ _ (F.kw c a h),e _ _ F.t,F.tl,fun c a h=>e _ _ (F.tw c a h),e _ _ F.o,e _ _ F.d,e _ _ F.sl,Paired.et F.sf fun _ _ z=>e.ahr z,F.nd⟩
structure Wf(s:Vbreai.State):Prop where
  c7:s.crews<=7
  b7:s.boats<=7
  due:s.due.Pairwise (· < ·)
  dlt:∀c∈s.due,c<s.crews
  sl:s.sailed.length<=20
  fl:∀f∈s.sailed,∀p∈f,p.crew<s.crews/\p.boat<s.boats
  fn:∀f∈s.sailed,f.length<=7
  fd:∀f∈s.sailed,f.Nodup
  dis:s.sailed.Pairwise fun f g=>∀p∈f,p∉g
  co:∀c b,costOf s c b<=1000
theorem eP{n b:Nat}{g:Nat->V}(h:b<n):Sj ((List.range n).map g) (b:Int)=some (g b):=by refine JF ?_;rw[getElem?_map,getElem?_range h];rfl
section
variable{P:Program}{w:World}{K:Frag}{mg:Str->Option Value}{base:Heap}
def V0(C:Addr):Sp:=fun vs H Q _=>∃(p:Addr) (A:FA) (s:Vbreai.State) (c:Int),vs=[.ref p,.int c]/\aL C H p A s/\Q (.bl (isCrew s c)) H
theorem IL(s:Vbreai.State)(c:Int):isCrew s c=(decide (0<=c)&&decide (c<s.crews)):=by unfold isCrew inside;congr 1;exact decide_eq_decide.mpr ⟨fun h=>by omega,fun h=>by omega⟩
theorem mL(T:Txt K mg):ay P w K mg base bo 1 T.cc.f T.cc.fd ["self","crew"] (V0 T.ah):=by
  refine T.cc.F.ok xP (fun vs H Q E h=>?_) (fun bP A outer s H vs Q E hr h=>?_)
  . obtain⟨p,A,s,c,rfl,_⟩:=h;rfl
  . obtain⟨p,A',st,c,rfl,F,k⟩:=h;refine⟨_,(ai (aq (F6 gT Yp aE (pv 1) (bf (pv 0) rfl)))),?_⟩;rw[IL]at k;refine⟨_,rfl,_,_,rfl,rfl,_,rfl,?_⟩;by_cases h0:(0:Int)<=c
    . rw[decide_eq_true h0];rw[decide_eq_true h0]at k;exact cx ⟨_,rfl,p,_,_,_,_,rfl,F.ins,T.ao,T.df,MN,_,_,rfl,rfl,k⟩
    . rw[decide_eq_false h0];rw[decide_eq_false h0]at k;exact cU k
end
end My
namespace My
open PySem PySem.Spec PyProof.Rows L2
section
variable{P:Program}{w:World}{K:Frag}{mg:Str->Option Value}{base:Heap}
def VZ(C:Addr):Sp:=fun vs H Q _=>∃(p:Addr) (A:FA) (s:Vbreai.State) (c:Int),vs=[.ref p,.int c]/\aL C H p A s/\Q (.bl (isBoat s c)) H
theorem zg(s:Vbreai.State)(c:Int):isBoat s c=(decide (0<=c)&&decide (c<s.boats)):=by unfold isBoat inside;congr 1;exact decide_eq_decide.mpr ⟨fun h=>by omega,fun h=>by omega⟩
theorem gR(T:Txt K mg):ay P w K mg base bo 1 T.bH.f T.bH.fd ["self","boat"] (VZ T.ah):=by
  refine T.bH.F.ok xO (fun vs H Q E h=>?_) (fun bP A outer s H vs Q E hr h=>?_)
  . obtain⟨p,A,s,c,rfl,_⟩:=h;rfl
  . obtain⟨p,A',st,c,rfl,F,k⟩:=h;refine⟨_,(ai (aq (F6 gT Yp aE (pv 1) (bf (pv 0) rfl)))),?_⟩;rw[zg]at k;refine⟨_,rfl,_,_,rfl,rfl,_,rfl,?_⟩;by_cases h0:(0:Int)<=c
    . rw[decide_eq_true h0];rw[decide_eq_true h0]at k;exact cx ⟨_,rfl,p,_,_,_,_,rfl,F.ins,T.ao,T.bN,oj,_,_,rfl,rfl,k⟩
    . rw[decide_eq_false h0];rw[decide_eq_false h0]at k;exact cU k
def V2(C:Addr):Sp:=fun vs H Q _=>∃(p:Addr) (A:FA) (s:Vbreai.State) (c b:Nat),vs=[.ref p,.int c,.int b]/\aL C H p A s/\c<s.crews/\b<s.boats/\Q (.bl (mayHave s c b)) H
theorem QS(s:Vbreai.State)(c b:Nat):mayHave s c b= !(s.refused.contains ⟨c,b⟩||(s.out.contains b||s.sailed.any fun f=>f.contains ⟨c,b⟩)):=by unfold mayHave;rw[Bool.not_or,Bool.not_or,List.all_eq_not_any_not];simp only[Bool.not_not]
theorem Ln{α:Type}{l:List α}{n i:Nat}(h:l.length=n)(hi:i<n):∃a,l[i]? =some a:=⟨l[i]'(by omega),by simp⟩
theorem kG{l:List Addr}{i:Nat}{a:Addr}(h:l[i]? =some a):Sj (l.map V.ref) (i:Int)=some (.ref a):=by refine JF ?_;rw[getElem?_map,h];rfl
theorem mM(T:Txt K mg):ay P w K mg base bo 1 T.cg.f T.cg.fd ["self","crew","boat"] (V2 T.ah):=by
  refine T.cg.F.ok xQ (fun vs H Q E h=>?_) (fun bP A outer s H vs Q E hr h=>?_)
  . obtain⟨p,A,s,c,b,rfl,_⟩:=h;rfl
  . obtain⟨p,A',st,c,b,rfl,F,hc,hb,k⟩:=h;rw[QS]at k;obtain⟨ra,ZD⟩:=Ln F.rl hc;obtain⟨ta,hta⟩:=Ln F.tl hc;refine⟨_,(ai (aq (aeM (ac2 (a9 aW (a9 aW (bf (pv 0) rfl) (pv 1) (fun _ _=>rfl)) (pv 2) (fun _ _=>rfl)) (ac2 (a9 aW (bf (pv 0) rfl) (pv 2) (fun _ _=>rfl)) (aeN (a9 aW (a9 aW (bf (pv 0) rfl) (pv 1) (fun _ _=>rfl)) (pv 2) (fun _ _=>rfl)))))))),?_⟩;refine⟨_,rfl,p,_,_,_,_,rfl,F.ins,T.ao,T.b6,uX,_,rfl,_,_,_,_,rfl,rfl,aN.of F.r,kG ZD,_,rfl,_,_,_,_,rfl,rfl,aN.of (F.YH c ra ZD),eP hb,_,rfl,?_⟩;by_cases e1:st.refused.contains ⟨c,b⟩=true
    . rw[e1]at k ⊢;exact cx ⟨_,rfl,k⟩
    . rw[not_eq_true]at e1;rw[e1]at k ⊢;refine cU ⟨_,rfl,p,_,_,_,_,rfl,F.ins,T.ao,T.bD,Kk,_,rfl,_,_,_,_,rfl,rfl,aN.of F.o,eP hb,_,rfl,?_⟩;by_cases e2:st.out.contains b=true
      . rw[e2]at k ⊢;exact cx ⟨_,rfl,k⟩
      . rw[not_eq_true]at e2;rw[e2]at k ⊢;refine cU ⟨_,rfl,p,_,_,_,_,rfl,F.ins,T.ao,T.ci,Ba,_,rfl,_,_,_,_,rfl,rfl,aN.of F.t,kG hta,_,rfl,_,_,_,_,rfl,rfl,aN.of (F.tw c ta hta),eP hb,_,rfl,?_⟩;exact k
def bL(H:Hp)(Q:VK)(xs:List Int):Prop:=∀(D:Addr) (H':Hp),H D=none->aA H H'->H' D=some (.lst (xs.map V.int))->Q (.ref D) H'
def az(l:List Nat):List Int:=l.map fun(n:Nat)=>(n:Int)
def RU(C:Addr):Sp:=fun vs H Q _=>∃(p:Addr) (A:FA) (s:Vbreai.State) (c:Nat),vs=[.ref p,.int c]/\aL C H p A s/\c<s.crews/\s.boats<=7/\bL H Q (az (boatsFor s c))
theorem take_snoc{α:Type}:∀{l:List α} {i:Nat} {x:α},l[i]? =some x->l.take (i+1)=l.take i++ [x]
  | [],i,x,h=>by simp at h
  | a::l,0,x,h=>by have e:a=x:=Option.some.inj h;subst e;rfl
  | a::l,i+1,x,h=>by have ih:=take_snoc (l:=l) (i:=i) (x:=x) h;show a::l.take (i+1)=a::l.take i++ [x];rw[ih];rfl
theorem sz{n:Nat}(h:n<=16000000):n<=sizeLine:=by rw[sizeLine_eq];omega
theorem iP(n:Nat):List.range (n+1)=List.range n++ [n]:=range_succ
theorem cj(T:Txt K mg):ay P w K mg base bo 2 T.aU.f T.aU.fd ["self","crew"] (RU T.ah):=by
  have hG:ay P w K mg base bo 1 _ _ _ _:=mM T;refine T.aU.F.ok fW (fun vs H Q E h=>?_) (fun bP A outer s H vs Q E hr h=>?_)
  . obtain⟨p,A,s,c,rfl,_⟩:=h;rfl
  . obtain⟨p,A',st,c,rfl,F,hc,h7,k⟩:=h;refine⟨_,(ai (aq (dh rfl (fW.nd) (ke rfl T.fF (aa (bf (pv 0) rfl) ab)) (own:=[("boat",2)]) (bG rfl) (fun _ _ _ _ _=>(aC (i:=2) (fW.nd) rfl (Or.inl rfl))) (fun _ _ _ _ _=>(pO (fU (bT (pv 0) T.ao T.cg.m hG (hr.mono (by decide)) T.cg.b .nil aI (aa (pv 1) (aa (pv 2) ab)))))) (fun _ _ _ _ _=>(pv 2))))),?_⟩;refine⟨_,rfl,p,_,_,_,_,rfl,F.ins,T.ao,T.bN,oj,_,rfl,by omega,by omega,?_⟩;refine aei (fun i acc _=>acc=(az ((List.range i).filter (mayHave st c))).map V.int) (sz (by omega)) (fun _ _=>rfl) ?_ ?_
    . intro D acc i H1 Y N hi hD s1 hd r hY hN;have hi':i<st.boats:=by simpa using hi
      refine⟨rfl,_,rfl,p,_,_,rfl,s1 _ _ F.ins,rfl,_,rfl,_,rfl,p,A',st,c,i,?_,F.same s1,hc,hi',_,rfl,?_⟩
      . simp
      . by_cases e:mayHave st c i=true
        . rw[e];refine cx ⟨_,rfl,hY _ _ (aA.refl _) ?_⟩;rw[r,iP,filter_append,filter_cons,if_pos e];simp[az]
        . rw[not_eq_true]at e;rw[e];refine cU (hN _ (aA.refl _) ?_);rw[r,iP,filter_append,filter_cons,if_neg (by rw[e];exact Bool.false_ne_true)];simp
    . intro D acc H1 hD s1 hd _ r;refine k D H1 hD s1 ?_;rw[hd,r];rfl
end
end My
namespace My
open PySem PySem.Spec PyProof.Rows L2
theorem aiM{k:Nat}{A:Around}(r:gm k A):A.units+128<cLine:=by have:=r.un;omega
section
variable{P:Program}{w:World}{K:Frag}{mg:Str->Option Value}{base:Heap}
def cnt(xs:List Int):List Int:=(xs.length:Int)::xs
def VY:Sp:=fun vs H Q _=>∃(a:Addr) (xs:List Int),vs=[.ref a]/\H a=some (.lst (xs.map V.int))/\xs.length<=10000/\bL H Q (cnt xs)
theorem lV(T:Txt K mg):ay P w K mg base bo 1 T.bh.f T.bh.fd ["numbers"] (VY):=by
  refine T.bh.F.ok RH (fun vs H Q E h=>?_) (fun bP A outer s H vs Q E hr h=>?_)
  . obtain⟨a,xs,rfl,_⟩:=h;rfl
  . obtain⟨a,xs,rfl,ha,hl,k⟩:=h;refine⟨_,(ai (aq (bV pJ (aS (aa (aJ aP rfl T.cC b9 (aa (pv 0) ab)) ab)) (pv 0)))),?_⟩;refine⟨_,rfl,a,_,rfl,.inl (aN.of ha),sz (by simp),fun D hD=>?_⟩;refine⟨_,rfl,D,a,_,_,rfl,rfl,ae,(by rw[au (aM ha hD)];exact ha),sz (by simp;omega),fun p hp=>?_⟩;refine k p _ ?_ (bv (ak hD) ?_) ?_
    . exact(ak hD).free hp
    . exact(ak hD).free hp
    . rw[ae,length_map];rfl
def GH:Sp:=fun vs H Q _=>(vs=[.dZ]/\bL H Q [-7])\/∃(a:Addr) (xs:List Int),vs=[.ref a]/\H a=some (.lst (xs.map V.int))/\xs.length<=10000/\bL H Q (cnt xs)
theorem oB(T:Txt K mg):ay P w K mg base bo 2 T.bR.f T.bR.fd ["flight"] (GH):=by
  have dk:ay P w K mg base bo 1 _ _ _ _:=lV T;refine T.bR.F.ok Ay (fun vs H Q E h=>?_) (fun bP A outer s H vs Q E hr h=>?_)
  . rcases h with⟨rfl,_⟩ | ⟨a,xs,rfl,_⟩<;>rfl
  . refine⟨_,(ag (bW (jR (vF (pv 0))) (ai (aq (aS (aa (a0 T.mB) ab)))) aZ) (ai (aq (aH dk (hr.mono (by decide)) rfl T.bh.g T.bh.F.kp T.bh.b .nil aI (aa (pv 0) ab))))),?_⟩;rcases h with⟨rfl,k⟩ | ⟨a,xs,rfl,ha,hl,k⟩
    . refine⟨_,rfl,_,rfl,cx ⟨sz (by decide),fun D hD=>?_⟩⟩;exact k D _ hD (ak hD) ae
    . refine⟨_,rfl,_,rfl,cU ?_⟩;exact⟨_,rfl,a,xs,rfl,ha,hl,k⟩
def afw(H:Hp)(p:Addr)(c:Int)(l:List Int):Prop:=∃x:Addr,H p=some (.tup [.int c,.ref x])/\H x=some (.lst (l.map V.int))
def GI:Sp:=fun vs H Q _=>(vs=[.dZ]/\bL H Q [-7])\/∃(p:Addr) (c:Int) (xs:List Int),vs=[.ref p]/\afw H p c xs/\xs.length<=10000/\bL H Q (c::cnt xs)
theorem oC(T:Txt K mg):ay P w K mg base bo 2 T.bS.f T.bS.fd ["found"] (GI):=by
  have dk:ay P w K mg base bo 1 _ _ _ _:=lV T;refine T.bS.F.ok Az (fun vs H Q E h=>?_) (fun bP A outer s H vs Q E hr h=>?_)
  . rcases h with⟨rfl,_⟩ | ⟨a,c,xs,rfl,_⟩<;>rfl
  . refine⟨_,(ag (bW (jR (vF (pv 0))) (ai (aq (aS (aa (a0 T.mB) ab)))) aZ) (ai (aq (bV pJ (aS (aa (a9 lA (pv 0) aE (fun _ _=>rfl)) ab)) (aH dk (hr.mono (by decide)) rfl T.bh.g T.bh.F.kp T.bh.b .nil aI (aa (a9 lA (pv 0) aE (fun _ _=>rfl)) ab)))))),?_⟩;rcases h with⟨rfl,k⟩ | ⟨p,c,xs,rfl,⟨x,hp,hx⟩,hl,k⟩
    . refine⟨_,rfl,_,rfl,cx ⟨sz (by decide),fun D hD=>?_⟩⟩;exact k D _ hD (ak hD) ae
    . refine⟨_,rfl,_,rfl,cU ?_⟩;refine⟨_,rfl,p,_,_,_,rfl,rfl,mT.of hp,rfl,sz (by simp),fun D hD=>?_⟩;have s1:aA H (upd H D (.lst [.int c])):=ak hD;refine⟨_,rfl,p,_,_,_,rfl,rfl,mT.of (s1 _ _ hp),rfl,x,xs,rfl,s1 _ _ hx,hl,fun D2 H2 h2 s2 e2=>?_⟩;refine⟨D,D2,_,_,rfl,rfl,s2 _ _ ae,e2,sz (by simp[cnt];omega),fun q hq=>?_⟩;refine k q _ (s1.free (s2.free hq)) (bv (s1.trans s2) (s1.free (s2.free hq))) ?_;rw[ae];rfl
end
end My
namespace My
open PySem PySem.Spec PyProof.Rows L2
theorem yes{te:TE}{σ:L2.St}{H:Hp}{Y:VK}{N:Hp->Prop}(h:te σ H Y):afk σ H fun b H4=>if b=true then te σ H4 Y else N H4:=by
  show if true=true then te σ H Y else N H
  rw[if_pos rfl];exact h
def v5{α:Type}(R:Hp->Addr->α->Prop)(xs:List α)(i:Nat)(acc:List V)(H:Hp):Prop:=∃ps:List Addr,acc=ps.map V.ref/\Paired (R H) ps (xs.take i)
theorem dI{α β:Type}{R R':α->β->Prop}(m:∀a b,R a b->R' a b){as:List α}{bs:List β}(h:Paired R as bs):Paired R' as bs:=Paired.et h m
theorem fE{α:Type}{R:Hp->Addr->α->Prop}{xs:List α}{H:Hp}:v5 R xs 0 [] H:=⟨[],rfl,.nil⟩
theorem d6{α:Type}{R:Hp->Addr->α->Prop}{xs:List α}{i:Nat}{acc:List V}{H H':Hp}{p:Addr}{x:α}(mono:∀H H' p x,aA H H'->R H p x->R H' p x)(r:v5 R xs i acc H)(e:xs[i]? =some x)(s:aA H H')(h:R H' p x):v5 R xs (i+1) (acc++ [.ref p]) H':=by obtain⟨ps,rfl,q⟩:=r;refine⟨ps++ [p],by simp,?_⟩;rw[take_snoc e];exact dg (dI (fun a b z=>mono _ _ a b s z) q) (.cons h .nil)
theorem fD{α:Type}{R:Hp->Addr->α->Prop}{xs:List α}{n:Nat}{acc:List V}{H:Hp}(r:v5 R xs n acc H)(hn:n=xs.length):∃ps:List Addr,acc=ps.map V.ref/\Paired (R H) ps xs:=by obtain⟨ps,e,q⟩:=r;rw[hn,take_length]at q;exact⟨ps,e,q⟩
section
variable{κ:Type}[DecidableEq κ]
theorem Jo{aB:List (κ×V)}{k:κ}(h:k∉aB.map (·.1)):sE aB k=none:=by
  cases q:sE aB k with
  | none=>rfl
  | some v=>exact absurd (acE q) h
end
theorem oA:∀(more acc:List (Key×V)),((acc++more).map (·.1)).Nodup->fR acc more=acc++more
  | [],acc,_=>by simp[fR]
  | p::r,acc,h=>by
    have hp:p.1∉acc.map (·.1):=by intro m;rw[map_append,map_cons]at h;exact(nodup_append.mp h).2.2 _ m _ mem_cons_self rfl
    show fR (putK acc p.1 p.2) r=acc++p::r;rw[NZ p.2 (Jo hp),oA r _ (by simpa using h)];simp
def yO(l:List (Nat×Int)):List (Key×V):=l.map fun p=>(Sum.inl (p.1:Int),V.int p.2)
theorem PM{l:List (Nat×Int)}(h:(l.map (·.1)).Nodup):((yO l).map (·.1)).Nodup:=by
  unfold yO;rw[map_map];have e:(l.map ((fun x:Key×V=>x.1)∘fun p:Nat×Int=>((Sum.inl (p.1:Int):Key),V.int p.2)))=(l.map (·.1)).map fun(n:Nat)=>(Sum.inl (n:Int):Key):=by rw[map_map];rfl
  rw[e];exact List.Pairwise.map _ (fun a b UJ z=>UJ (by have:=Sum.inl.inj z;omega)) h
def Jv(H:Hp)(Q:VK)(l:List (Nat×Int)):Prop:=∀(D:Addr) (H':Hp),H D=none->aA H H'->H' D=some (.dK (yO l))->Q (.ref D) H'
def Sg(H:Hp)(p:Addr)(x:Nat×Int):Prop:=H p=some (.tup [.int (x.1:Nat),.int x.2])
theorem xA{K:Frag}{H:Hp}:∀{ps:List Addr} {l:List (Nat×Int)},Paired (Sg H) ps l->Paired (fun p (kv:Key×V)=>mT K H p [kV kv.1,kv.2]) ps (yO l)
  | _,_,.nil=>.nil
  | _,_,.cons h t=>.cons (mT.of h) (xA t)
def ax(l:List Nat):List V:=l.map fun(n:Nat)=>V.int (n:Int)
theorem br(l:List Nat):ax l=(az l).map V.int:=by unfold ax az;rw[map_map];rfl
theorem bO{l:List Nat}{i:Nat}{x:V}(h:(ax l)[i]? =some x):∃n,l[i]? =some n/\x=.int (n:Nat):=by unfold ax at h;rw[getElem?_map]at h;obtain⟨n,e1,e2⟩:=Option.map_eq_some_iff.mp h;exact⟨n,e1,e2.symm⟩
section
variable{P:Program}{w:World}{K:Frag}{mg:Str->Option Value}{base:Heap}
def ae8(K:Frag):Sp:=fun vs H Q _=>∃(a:Addr) (bs:List Nat),vs=[.ref a]/\aN K H a (ax bs)/\bs.Nodup/\bs.length<=1000/\Jv H Q (bs.map fun b=>(b,0))
theorem abx(T:Txt K mg):ay P w K mg base bo 1 T.yR.f T.yR.fd ["boats"] (ae8 K):=by
  refine T.yR.F.ok Lw (fun vs H Q E h=>?_) (fun bP A outer s H vs Q E hr h=>?_)
  . obtain⟨a,bs,rfl,_⟩:=h;rfl
  . obtain⟨a,bs,rfl,ha,hn,hl,k⟩:=h;refine⟨_,(ai (aq (cY (oW rfl) rfl T.mY C6 (aa (dh rfl (Lw.nd) (ba (pv 0)) (own:=[("boat",1)]) (bG rfl) (fun _ _ _ _ _=>(aC (i:=1) (Lw.nd) rfl (Or.inl rfl))) (fun _ _ _ _ _=>bI) (fun _ _ _ _ _=>(rW (aa (pv 1) (aa aE ab))))) ab)))),?_⟩;refine⟨_,rfl,a,rfl,⟨_,ha⟩,?_⟩;refine lR (xs:=ax bs) (v5 Sg (bs.map fun b=>(b,(0:Int)))) ha (sz (by simp[ax];omega)) (fun _ _=>fE) ?_ ?_
    . intro D acc i H1 x Y N hx hD s1 hd r hY hN;obtain⟨n,UO,rfl⟩:=bO hx;refine⟨rfl,yes ⟨_,rfl,sz (by simp),fun T hT=>hY _ _ (ak hT) ?_⟩⟩;have nT:T≠D:=fun e=>by rw[e,hd]at hT;cases hT
      exact d6 (fun _ _ _ _ s z=>s _ _ z) r (x:=(n,0)) (by rw[getElem?_map,UO];rfl) (Off.mono (ak hT)) (by show Off D _ T=_;rw[Off.ne nT,ae])
    . intro D acc H1 hD s1 hd _ r;obtain⟨ps,rfl,q⟩:=fD r (by simp[ax]);refine⟨D,ps,yO (bs.map fun b=>(b,(0:Int))),rfl,aN.of hd,xA (dI (fun _ _ z=>Off.same _ _ z) q),fun p hp=>?_⟩;have e:fR [] (yO (bs.map fun b=>(b,(0:Int))))=yO (bs.map fun b=>(b,(0:Int))):=oA _ [] (by
        rw[nil_append];refine PM ?_;rw[map_map];have:bs.map ((fun x:Nat×Int=>x.1)∘fun b=>(b,(0:Int)))=bs:=by simp[Function.comp_def]
        rw[this];exact hn)
      rw[e];exact k p _ (s1.free hp) (bv s1 (s1.free hp)) ae
def YZ(K:Frag):Sp:=fun vs H Q _=>∃(a:Addr) (bs:List Nat) (t:Int),vs=[.ref a,.int t]/\aN K H a (ax bs)/\bs.Nodup/\bs.length<=1000/\Jv H Q (bs.map fun b=>(b,if (b:Int)=t then 0 else 1))
theorem CC(T:Txt K mg):ay P w K mg base bo 1 T.dr.f T.dr.fd ["boats","told"] (YZ K):=by
  refine T.dr.F.ok jX (fun vs H Q E h=>?_) (fun bP A outer s H vs Q E hr h=>?_)
  . obtain⟨a,bs,t,rfl,_⟩:=h;rfl
  . obtain⟨a,bs,t,rfl,ha,hn,hl,k⟩:=h;refine⟨_,(ai (aq (cY (oW rfl) rfl T.mY C6 (aa (dh rfl (jX.nd) (ba (pv 0)) (own:=[("boat",2)]) (bG rfl) (fun _ _ _ _ _=>(aC (i:=2) (jX.nd) rfl (Or.inl rfl))) (fun _ _ _ _ _=>bI) (fun _ _ _ _ _=>(rW (aa (pv 2) (aa (xE (cT FZ (pv 2) (pv 1) (ez _)) aE aE) ab))))) ab)))),?_⟩;refine⟨_,rfl,a,rfl,⟨_,ha⟩,?_⟩;refine lR (xs:=ax bs) (v5 Sg (bs.map fun b=>(b,if (b:Int)=t then (0:Int) else 1))) ha (sz (by simp[ax];omega)) (fun _ _=>fE) ?_ ?_
    . intro D acc i H1 x Y N hx hD s1 hd r hY hN;obtain⟨n,UO,rfl⟩:=bO hx;have go:∀(z:Int),(z=if (n:Int)=t then 0 else 1)->∀T,H1 T=none->Y (.ref T) (upd H1 T (.tup [.int (n:Nat),.int z])):=fun z hz T hT=>by
        refine hY _ _ (ak hT) ?_;have nT:T≠D:=fun e=>by rw[e,hd]at hT;cases hT
        exact d6 (fun _ _ _ _ s z=>s _ _ z) r (x:=(n,z)) (by rw[getElem?_map,UO,hz];rfl) (Off.mono (ak hT)) (by show Off D _ T=_;rw[Off.ne nT,ae])
      refine⟨rfl,yes ⟨_,rfl,_,rfl,_,rfl,rfl,_,rfl,?_⟩⟩;by_cases e:(n:Int)=t
      . have e':decide (V.int (n:Nat)=V.int t)=true:=decide_eq_true (by rw[e]);rw[e'];exact cx ⟨sz (by simp),fun T hT=>go 0 (by rw[if_pos e]) T hT⟩
      . have e':decide (V.int (n:Nat)=V.int t)=false:=decide_eq_false (fun q=>e (by injection q));rw[e'];exact cU ⟨sz (by simp),fun T hT=>go 1 (by rw[if_neg e]) T hT⟩
    . intro D acc H1 hD s1 hd _ r;obtain⟨ps,rfl,q⟩:=fD r (by simp[ax]);refine⟨D,ps,yO (bs.map fun b=>(b,if (b:Int)=t then (0:Int) else 1)),rfl,aN.of hd,xA (dI (fun _ _ z=>Off.same _ _ z) q),fun p hp=>?_⟩;have e:fR [] (yO (bs.map fun b=>(b,if (b:Int)=t then (0:Int) else 1)))=yO (bs.map fun b=>(b,if (b:Int)=t then (0:Int) else 1)):=oA _ [] (by
        rw[nil_append];refine PM ?_;rw[map_map];have:bs.map ((fun x:Nat×Int=>x.1)∘fun b=>(b,if (b:Int)=t then (0:Int) else 1))=bs:=by simp[Function.comp_def]
        rw[this];exact hn)
      rw[e];exact k p _ (s1.free hp) (bv s1 (s1.free hp)) ae
end
end My
namespace My
open PySem PySem.Spec PyProof.Rows L2
section
variable{X:Cx}{K:Frag}
theorem Le{e:Expr}{ta:TE}{f:Str}{pos:Pos}(hK:X.K=K)(he:PE X e ta)(hb:attributeBase e f X.env (eval e X.env)=eval e X.env):PE X (.Attribute e f pos) (ag4 K ta f):=hK▸bf he hb
theorem jd(hK:X.K=K):IxR X (agB K):=hK▸aW
theorem aaH(hK:X.K=K):IxR X (agC K):=hK▸lA
theorem vC(hK:X.K=K):yb X (compareOp .In) (rIn K false):=hK▸zZ
theorem pL{es:List Expr}{k:Nat}{t:TGs}{n:Nat}{pos:Pos}(hK:X.K=K)(hc:X.calm=true)(h:PGs X es t)(hn:(assignEach es X.env).length=n:=by rfl)(B7:(assignEach es X.env).findIdx? (·.1)=none:=by rfl):PG X (.Tuple es k pos) (afM K n t):=hK▸Ab hc h hn B7
end
end My
namespace My
open PySem PySem.Spec PyProof.Rows L2
theorem JG{xs:List Int}{i:Nat}{x:Int}(h:xs[i]? =some x):Sj (xs.map V.int) (i:Int)=some (.int x):=by refine JF ?_;rw[getElem?_map,h];rfl
theorem ints_get{xs:List Int}{i:Nat}{x:V}(h:(xs.map V.int)[i]? =some x):∃n,xs[i]? =some n/\x=.int n:=by rw[getElem?_map]at h;obtain⟨n,e1,e2⟩:=Option.map_eq_some_iff.mp h;exact⟨n,e1,e2.symm⟩
section
variable{P:Program}{w:World}{K:Frag}{mg:Str->Option Value}{base:Heap}
def fT(s:Vbreai.State)(c:Nat):List (Nat×Int):=(boatsFor s c).map fun b=>(b,(costOf s c b:Int))
def Y3(C:Addr):Sp:=fun vs H Q _=>∃(p:Addr) (A:FA) (s:Vbreai.State) (c:Nat),vs=[.ref p,.int c]/\aL C H p A s/\c<s.crews/\s.boats<=7/\Jv H Q (fT s c)
theorem cz{s:Vbreai.State}{c b:Nat}(h:b∈boatsFor s c):b<s.boats:=mem_range.mp (mem_filter.mp h).1
theorem AY(s:Vbreai.State)(c:Nat):(boatsFor s c).Nodup:=List.Pairwise.filter _ nodup_range
theorem gu(s:Vbreai.State)(c:Nat):(boatsFor s c).length<=s.boats:=by have:=length_filter_le (mayHave s c) (List.range s.boats);rw[length_range]at this;exact this
theorem VF(s:Vbreai.State)(c:Nat):((fT s c).map (·.1)).Nodup:=by
  unfold fT;rw[map_map];have:(boatsFor s c).map ((fun x:Nat×Int=>x.1)∘fun b=>(b,(costOf s c b:Int)))=boatsFor s c:=by simp[Function.comp_def]
  rw[this];exact AY s c
theorem CF(T:Txt K mg):ay P w K mg base bo 3 T.du.f T.du.fd ["fleet","crew"] (Y3 T.ah):=by
  have bc:ay P w K mg base bo 2 _ _ _ _:=cj T;refine T.du.F.ok jY (fun vs H Q E h=>?_) (fun bP A outer s H vs Q E hr h=>?_)
  . obtain⟨p,A,s,c,rfl,_⟩:=h;rfl
  . obtain⟨p,A',st,c,rfl,F,hc,h7,k⟩:=h;refine⟨_,(ai (aq (cY (oW rfl) rfl T.mY C6 (aa (dh rfl (jY.nd) (ba (bT (pv 0) T.ao T.aU.m bc (hr.mono (by decide)) T.aU.b .nil aI (aa (pv 1) ab))) (own:=[("boat",2)]) (bG rfl) (fun _ _ _ _ _=>by exact(aC (i:=2) (jY.nd) (by rfl) (by exact Or.inl rfl))) (fun _ _ _ _ _=>by exact bI) (fun _ _ _ _ _=>by exact(rW (aa (pv 2) (aa (a9 (jd (K:=K) rfl) (a9 (jd (K:=K) rfl) (Le (K:=K) rfl (pv 0) (by rfl)) (pv 1) (fun _ _=>rfl)) (pv 2) (fun _ _=>rfl)) ab))))) ab)))),?_⟩;refine⟨_,rfl,p,_,_,rfl,F.ins,rfl,_,rfl,p,A',st,c,rfl,F,hc,h7,fun B H0 hB s0 eB=>?_⟩;obtain⟨ka,OH⟩:=Ln F.kl hc;rw[<-br]at eB;refine⟨B,rfl,⟨_,aN.of eB⟩,?_⟩;have hl:=gu st c;refine lR (xs:=ax (boatsFor st c)) (v5 Sg (fT st c)) (aN.of eB) (sz (by simp[ax];omega)) (fun _ _=>fE) ?_ ?_
    . intro D acc i H1 x Y N hx hD s1 hd r hY hN;obtain⟨n,UO,rfl⟩:=bO hx;have F1:=F.same (s0.trans s1);have hb:=cz (mem_of_getElem? UO);refine⟨rfl,yes ⟨_,rfl,_,rfl,p,_,_,_,_,rfl,F1.ins,T.ao,T.bX,rc,_,rfl,_,_,_,_,rfl,rfl,aN.of F1.k,kG OH,_,rfl,_,_,_,_,rfl,rfl,aN.of (F1.kw c ka OH),eP hb,sz (by simp),fun T hT=>hY _ _ (ak hT) ?_⟩⟩;have nT:T≠D:=fun e=>by rw[e,hd]at hT;cases hT
      exact d6 (fun _ _ _ _ s z=>s _ _ z) r (x:=(n,(costOf st c n:Int))) (by unfold fT;rw[getElem?_map,UO];rfl) (Off.mono (ak hT)) (by show Off D _ T=_;rw[Off.ne nT,ae])
    . intro D acc H1 hD s1 hd _ r;obtain⟨ps,rfl,q⟩:=fD r (by simp[ax,fT]);refine⟨D,ps,yO (fT st c),rfl,aN.of hd,xA (dI (fun _ _ z=>Off.same _ _ z) q),fun p hp=>?_⟩;rw[oA _ [] (by rw[nil_append];exact PM (VF st c))];have s2:=s0.trans s1;exact k p _ (s2.free hp) (bv s2 (s2.free hp)) ae
def V5(K:Frag):Sp:=fun vs H Q _=>∃(a:Addr) (xs:List Int) (t:Int),vs=[.ref a,.int t]/\aN K H a (xs.map V.int)/\xs.length<=1000/\bL H Q (xs.filter fun x=>decide (x≠t))
theorem Rh(T:Txt K mg):ay P w K mg base bo 1 T.kb.f T.kb.fd ["offer","taken"] (V5 K):=by
  refine T.kb.F.ok vU (fun vs H Q E h=>?_) (fun bP A outer s H vs Q E hr h=>?_)
  . obtain⟨a,xs,t,rfl,_⟩:=h;rfl
  . obtain⟨a,xs,t,rfl,ha,hl,k⟩:=h;refine⟨_,(ai (aq (dh rfl (vU.nd) (ba (pv 0)) (own:=[("boat",2)]) (bG rfl) (fun _ _ _ _ _=>by exact(aC (i:=2) (vU.nd) (by rfl) (by exact Or.inl rfl))) (fun _ _ _ _ _=>by exact(pO (cT IZ (pv 2) (pv 1) (ez _)))) (fun _ _ _ _ _=>by exact(pv 2))))),?_⟩;refine⟨_,rfl,a,rfl,⟨_,ha⟩,?_⟩;refine lR (xs:=xs.map V.int) (fun i acc _=>acc=((xs.take i).filter fun x=>decide (x≠t)).map V.int) ha (sz (by simp;omega)) (fun _ _=>rfl) ?_ ?_
    . intro D acc i H1 x Y N hx hD s1 hd r hY hN;obtain⟨n,UO,rfl⟩:=ints_get hx;refine⟨rfl,_,rfl,_,rfl,rfl,_,rfl,?_⟩;by_cases e:n=t
      . have e':(!decide (V.int n=V.int t))=false:=by rw[decide_eq_true (by rw[e])];rfl
        rw[e'];refine cU (hN _ (aA.refl _) ?_);rw[r,take_snoc UO,filter_append,filter_cons,if_neg (by simp[e])];simp
      . have e':(!decide (V.int n=V.int t))=true:=by rw[decide_eq_false (fun q=>e (by injection q))];rfl
        rw[e'];refine cx ⟨_,rfl,hY _ _ (aA.refl _) ?_⟩;rw[r,take_snoc UO,filter_append,filter_cons,if_pos (by simp[e])];simp
    . intro D acc H1 hD s1 hd _ r;refine k D H1 hD s1 ?_;rw[hd,r,length_map,take_length]
def Y0(K:Frag):Sp:=fun vs H Q _=>∃(a:Addr) (xs:List Int) (t:Int),vs=[.int t,.ref a]/\aN K H a (xs.map V.int)/\xs.length<=1000/\bL H Q (az ((List.range xs.length).filter fun i=>decide (xs.getD i 0<=t)))
theorem CD(T:Txt K mg):ay P w K mg base bo 1 T.dt.f T.dt.fd ["limit","counts"] (Y0 K):=by
  refine T.dt.F.ok fK (fun vs H Q E h=>?_) (fun bP A outer s H vs Q E hr h=>?_)
  . obtain⟨a,xs,t,rfl,_⟩:=h;rfl
  . obtain⟨a,xs,t,rfl,ha,hl,k⟩:=h;refine⟨_,(ai (aq (dh rfl (fK.nd) (abL rfl T.i6 (aa (pv 1) ab)) (own:=[("number",2),("count",3)]) (bG rfl) (fun _ _ _ _ _=>by exact(pL (K:=K) (n:=2) rfl rfl (bE (aC (i:=2) (fK.nd) (by rfl) (by exact Or.inl rfl)) (bE (aC (i:=3) (fK.nd) (by rfl) (by exact Or.inl rfl)) fH)))) (fun _ _ _ _ _=>by exact(pO (cT gT (pv 3) (pv 0) (ez _)))) (fun _ _ _ _ _=>by exact(pv 2))))),?_⟩;refine⟨_,rfl,a,_,rfl,ha,?_⟩;refine ah9 (xs:=xs.map V.int) (fun i acc _=>acc=(az ((List.range i).filter fun i=>decide (xs.getD i 0<=t))).map V.int) ha (sz (by simp;omega)) (fun _ _=>rfl) ?_ ?_
    . intro D acc i H1 x T' Y N hx hT hD s1 hd r hY hN;obtain⟨n,UO,rfl⟩:=ints_get hx;have eg:xs.getD i 0=n:=by rw[getD_eq_getElem?_getD,UO];rfl
      have nT:T'≠D:=fun e=>by rw[e,hd]at hT;cases hT
      refine⟨T',_,rfl,mT.of ae,rfl,_,_,rfl,_,_,rfl,rfl,rfl,_,rfl,_,rfl,_,_,rfl,rfl,_,rfl,?_⟩;by_cases e:n<=t
      . rw[decide_eq_true e];refine cx ⟨_,rfl,hY _ _ (ak hT) ?_⟩;rw[r,iP,filter_append,filter_cons,if_pos (by rw[eg];exact decide_eq_true e)];simp[az]
      . rw[decide_eq_false e];refine cU (hN _ (ak hT) ?_);rw[r,iP,filter_append,filter_cons,if_neg (by rw[eg];simpa using e)];simp
    . intro D acc H1 hD s1 hd _ r;refine k D H1 hD s1 ?_;rw[hd,r,length_map]
end
end My
namespace My
open PySem PySem.Spec PyProof.Rows L2
theorem oo{K:Frag}{a:Addr}{xs:List V}{g:TG}{tb:TS}{D:Ends}{σ:L2.St}{H:Hp}(Pv:Nat->L2.St->Hp->Prop)(h0:Pv 0 σ H)(hq:∀i σ H,Pv i σ H->aN K H a xs)(hs:∀i x σ H,xs[i]? =some x->Pv i σ H->g x σ H fun σ2 H2=>tb { D with nx:=Pv (i+1),ct:=Pv (i+1),bk:=D.nx} σ2 H2)(hd:∀σ H,Pv xs.length σ H->D.nx σ H):∃W:Nat->Nat->L2.St->Hp->Prop,(∃m,W 0 m σ H)/\∀i m σ H,W i m σ H->((Itl K a).stop i H/\D.nx σ H)\/((Itl K a).go i H/\∃N:L2.St->Hp->Prop,(∀σ' H',N σ' H'->∃m',m'<m/\W (i+1) m' σ' H')/\∀x H',(Itl K a).LW i H x H'->g x σ H' fun σ2 H2=>tb { D with nx:=N,ct:=N,bk:=D.nx} σ2 H2):=
  sT xs.length Pv h0 (fun i σ H hi p=>⟨xs,xs[i],hq i σ H p,by simp[hi]⟩) (fun σ H p=>⟨xs,hq _ _ _ p,le_refl _⟩)
    (fun i x σ H H' hi p y=>by obtain⟨e,y⟩:=y;subst e;exact hs i x σ _ (y xs (hq _ _ _ p)) p) hd
theorem afI{lo:Int}{n:Nat}{g:TG}{tb:TS}{D:Ends}{σ:L2.St}{H:Hp}(Pv:Nat->L2.St->Hp->Prop)(h0:Pv 0 σ H)(hs:∀(i:Nat) σ H,i<n->Pv i σ H->g (.int (lo+i)) σ H fun σ2 H2=>tb { D with nx:=Pv (i+1),ct:=Pv (i+1),bk:=D.nx} σ2 H2)(hd:∀σ H,Pv n σ H->D.nx σ H):∃W:Nat->Nat->L2.St->Hp->Prop,(∃m,W 0 m σ H)/\∀i m σ H,W i m σ H->((ZO lo n).stop i H/\D.nx σ H)\/((ZO lo n).go i H/\∃N:L2.St->Hp->Prop,(∀σ' H',N σ' H'->∃m',m'<m/\W (i+1) m' σ' H')/\∀x H',(ZO lo n).LW i H x H'->g x σ H' fun σ2 H2=>tb { D with nx:=N,ct:=N,bk:=D.nx} σ2 H2):=
  sT n Pv h0 (fun i σ H hi p=>hi) (fun σ H p=>le_refl _)
    (fun i x σ H H' hi p y=>by obtain⟨e,y⟩:=y;subst e y;exact hs i σ _ hi p) hd
theorem afK{K:Frag}{a b:Addr}{xs ys:List V}{g:TG}{tb:TS}{D:Ends}{σ:L2.St}{H:Hp}(Pv:Nat->L2.St->Hp->Prop)(h0:Pv 0 σ H)(hq:∀i σ H,Pv i σ H->aN K H a xs)(LR:∀i σ H,Pv i σ H->aN K H b ys)(hs:∀i x y T σ H,xs[i]? =some x->ys[i]? =some y->H T=none->Pv i σ H->g (.ref T) σ (upd H T (.tup [x,y])) fun σ2 H2=>tb { D with nx:=Pv (i+1),ct:=Pv (i+1),bk:=D.nx} σ2 H2)(hd:∀σ H,Pv (min xs.length ys.length) σ H->D.nx σ H):∃W:Nat->Nat->L2.St->Hp->Prop,(∃m,W 0 m σ H)/\∀i m σ H,W i m σ H->((Itz K a b).stop i H/\D.nx σ H)\/((Itz K a b).go i H/\∃N:L2.St->Hp->Prop,(∀σ' H',N σ' H'->∃m',m'<m/\W (i+1) m' σ' H')/\∀x H',(Itz K a b).LW i H x H'->g x σ H' fun σ2 H2=>tb { D with nx:=N,ct:=N,bk:=D.nx} σ2 H2):=
  sT (min xs.length ys.length) Pv h0
    (fun i σ H hi p=>⟨xs,ys,xs[i]'(lt_of_lt_of_le hi (min_le_left _ _)),ys[i]'(lt_of_lt_of_le hi (Nat.min_le_right _ _)),hq _ _ _ p,LR _ _ _ p,by simp,by simp⟩)
    (fun σ H p=>⟨xs,ys,hq _ _ _ p,LR _ _ _ p,by omega⟩)
    (fun i x σ H H' hi p y=>by obtain⟨T,x',y',e,n,e2,y1,y2⟩:=y;subst e e2;exact hs i x' y' T σ _ (y1 xs (hq _ _ _ p)) (y2 ys (LR _ _ _ p)) n p) hd
def yf(H:Hp)(a:Addr)(aj:List (List Nat)):Prop:=∃ps:List Addr,H a=some (.lst (ps.map V.ref))/\Paired (fun p xs=>H p=some (.lst (ax xs))) ps aj
theorem yf.same{H H':Hp}{a:Addr}{aj:List (List Nat)}(h:yf H a aj)(s:aA H H'):yf H' a aj:=by obtain⟨ps,h1,h2⟩:=h;exact⟨ps,s _ _ h1,Paired.et h2 fun _ _ z=>s _ _ z⟩
theorem cq{ps:List Addr}{i:Nat}{x:V}(h:(ps.map V.ref)[i]? =some x):∃p,ps[i]? =some p/\x=.ref p:=by rw[getElem?_map]at h;obtain⟨n,e1,e2⟩:=Option.map_eq_some_iff.mp h;exact⟨n,e1,e2.symm⟩
theorem sS(l:List Nat):(ax l).all wK=true:=by unfold ax;rw[all_map];exact all_eq_true.mpr fun _ _=>rfl
theorem E6(c:Nat)(l:List Nat):inV (.int c) (ax l)=l.contains c:=by unfold inV ax;rw[any_map,List.contains_eq_any_beq];congr 1;funext y;show(((y:Int))==(c:Int))=(c==y);rw[Bool.eq_iff_iff,beq_iff_eq,beq_iff_eq];omega
theorem XJ(c:Int)(l:List Int):inV (.int c) (l.map V.int)=l.contains c:=by unfold inV;rw[any_map,List.contains_eq_any_beq];congr 1;funext y;show(y==c)=(c==y);rw[Bool.eq_iff_iff,beq_iff_eq,beq_iff_eq];exact eq_comm
def RelM{α:Type}(f:α->V)(xs:List α)(i:Nat)(acc:List V)(_:Hp):Prop:=acc=(xs.take i).map f
theorem ck{α:Type}{f:α->V}{xs:List α}{i:Nat}{acc:List V}{H H':Hp}{x:α}(r:RelM f xs i acc H)(e:xs[i]? =some x){y:V}(hy:y=f x):RelM f xs (i+1) (acc++ [y]) H':=by unfold RelM at r ⊢;rw[r,take_snoc e,map_append,hy];rfl
theorem c9{α:Type}{f:α->V}{xs:List α}{n:Nat}{acc:List V}{H:Hp}(r:RelM f xs n acc H)(h:n=xs.length):acc=xs.map f:=by unfold RelM at r;rw[r,h,take_length]
section
variable{P:Program}{w:World}{K:Frag}{mg:Str->Option Value}{base:Heap}
def V1:Sp:=fun vs H Q _=>∃(a:Addr) (aj:List (List Nat)) (c:Nat),vs=[.ref a,.int c]/\yf H a aj/\aj.length<=1000/\∀H',aA H H'->Q (.bl (aj.all fun xs=>xs.contains c)) H'
theorem NJ(T:Txt K mg):ay P w K mg base bo 1 T.io.f T.io.fd ["sets","crew"] (V1):=by
  refine T.io.F.ok sm (fun vs H Q E h=>?_) (fun bP A outer s H vs Q E hr h=>?_)
  . obtain⟨a,aj,c,rfl,_⟩:=h;rfl
  . obtain⟨a,aj,c,rfl,⟨ps,ha,hp⟩,hl,k⟩:=h;refine⟨_,(ai (aq (aJ (yI rfl) rfl T.qB uu (aa (dh rfl (sm.nd) (ba (pv 0)) (own:=[("crews",2)]) (bG rfl) (fun _ _ _ _ _=>by exact(aC (i:=2) (sm.nd) (by rfl) (by exact Or.inl rfl))) (fun _ _ _ _ _=>by exact bI) (fun _ _ _ _ _=>by exact(xD (vC (K:=K) rfl) (pv 1) (pv 2) (by with_unfolding_all rfl)))) ab)))),?_⟩;have hlen:=aD hp;refine⟨_,rfl,a,rfl,⟨_,aN.of ha⟩,?_⟩;refine lR (xs:=ps.map V.ref) (RelM (fun(xs:List Nat)=>V.bl (xs.contains c)) aj) (aN.of ha) (sz (by simp;omega)) (fun _ _=>rfl) ?_ ?_
    . intro D acc i H1 x Y N hx hD s1 hd r hY hN;obtain⟨q,hq,rfl⟩:=cq hx;obtain⟨xs,IK,Dh⟩:=aV hp hq;refine⟨rfl,yes ⟨_,rfl,_,rfl,q,ax xs,rfl,.inl (aN.of (s1 _ _ Dh)),rfl,sS xs,hY _ _ (aA.refl _) (ck r IK ?_)⟩⟩;rw[E6];rfl
    . intro D acc H1 hD s1 hd _ r;have e:=c9 r (by simp[hlen]);refine⟨D,aj.map fun xs=>xs.contains c,rfl,aN.of (by rw[hd,e,map_map];rfl),?_⟩;rw[all_map];exact k H1 s1
def YY(K:Frag):Sp:=fun vs H Q _=>∃(p a b:Addr) (xs ys:List Nat),vs=[.ref p]/\H p=some (.tup [.ref a,.ref b])/\H a=some (.lst (ax xs))/\H b=some (.lst (ax ys))/\Q (.int ((xs.length-ys.length:Nat):Int)) H
theorem FY(T:Txt K mg):ay P w K mg base bo 1 T.cX.f T.cX.fd ["pair"] (YY K):=by
  refine T.cX.F.ok RJ (fun vs H Q E h=>?_) (fun bP A outer s H vs Q E hr h=>?_)
  . obtain⟨p,a,b,xs,ys,rfl,_⟩:=h;rfl
  . obtain⟨p,a,b,xs,ys,rfl,hp,ha,hb,k⟩:=h;refine⟨_,(ai (aq (aJ (Ik rfl) rfl T.AU JK (aa aE (aa (bV vD (aJ aP rfl T.cC b9 (aa (a9 lA (pv 0) aE (fun _ _=>rfl)) ab)) (aJ aP rfl T.cC b9 (aa (a9 lA (pv 0) aE (fun _ _=>rfl)) ab))) ab))))),?_⟩;refine⟨_,rfl,p,_,_,_,rfl,rfl,mT.of hp,rfl,a,_,rfl,.inl (aN.of ha),_,rfl,p,_,_,_,rfl,rfl,mT.of hp,rfl,b,_,rfl,.inl (aN.of hb),_,_,rfl,rfl,_,_,rfl,?_⟩;have e:(if ((ax xs).length:Int)-((ax ys).length:Int)>0 then ((ax xs).length:Int)-((ax ys).length:Int) else 0)=((xs.length-ys.length:Nat):Int):=by simp only[ax,length_map];split<;>omega
    rw[e];exact k
def Pw(marks:List Int):List Int:=marks.foldl (fun c m=>c++c.map (· +m)) [0]
theorem Mj(l:List Int)(m:Int):Pw (l++ [m])=Pw l++(Pw l).map (· +m):=by unfold Pw;rw[foldl_append];rfl
theorem tX:∀(l:List Int) (c:List Int),(l.foldl (fun c m=>c++c.map (· +m)) c).length=c.length*2^l.length
  | [],c=>by simp
  | m::l,c=>by rw[foldl_cons,tX l,length_append,length_map,length_cons,pow_succ];rw[<-mul_assoc,mul_comm (c.length*2^l.length) 2,<-mul_assoc,Nat.two_mul]
theorem C7(l:List Int):(Pw l).length=2^l.length:=by unfold Pw;rw[tX];simp
theorem VD{n:Nat}(h:n<=7):2^n<=128:=by have:2^n<=2^7:=Nat.pow_le_pow_right (by omega) h;omega
def agU(K:Frag):Sp:=fun vs H Q _=>∃(a:Addr) (xs:List Int),vs=[.ref a]/\H a=some (.lst (xs.map V.int))/\xs.length<=7/\bL H Q (Pw xs)
theorem zY(T:Txt K mg):ay P w K mg base bo 1 T.bQ.f T.bQ.fd ["marks"] (agU K):=by
  refine T.bQ.F.ok cH (fun vs H Q E h=>?_) (fun bP A outer s H vs Q E hr h=>?_)
  . obtain⟨a,xs,rfl,_⟩:=h;rfl
  . obtain⟨a,xs,rfl,ha,hl,k⟩:=h;refine⟨_,(ag (aY (i:=1) (cH.nd) rfl (Or.inl rfl) (aS (aa aE ab))) (ag (dQ PassesOwn.never rfl (ba (pv 0)) (aC (i:=2) (cH.nd) (by rfl) (by exact Or.inr rfl)) (ai (aY (i:=1) (cH.nd) rfl (Or.inl rfl) (bV pJ (pv 1) (dh rfl (cH.nd) (ba (pv 1)) (own:=[("count",3)]) (bG rfl) (fun _ _ _ _ _=>by exact(aC (i:=3) (cH.nd) (by rfl) (by exact Or.inl rfl))) (fun _ _ _ _ _=>by exact bI) (fun _ _ _ _ _=>by exact(bV nL (pv 3) (pv 2)))))))) (ai (aq (pv 1))))),?_⟩;refine⟨sz (by simp),fun D0 EZ=>?_⟩;have s0:aA H (upd H D0 (.lst [.int 0])):=ak EZ;refine⟨_,rfl,a,rfl,⟨_,aN.of (s0 _ _ ha)⟩,?_⟩;refine oo (xs:=xs.map V.int) (fun i σ H1=>∃D m,σ=[some (.ref a),some (.ref D),m,none]/\H D=none/\aA H H1/\H1 D=some (.lst ((Pw (xs.take i)).map V.int))) ⟨D0,none,rfl,EZ,s0,ae⟩ (fun i σ H1 ⟨D,m,_,_,s,_⟩=>aN.of (s _ _ ha)) ?_ ?_
    . rintro i x σ H1 hx ⟨D,m,rfl,hD,s1,hd⟩;obtain⟨n,hn,rfl⟩:=ints_get hx;have dD:(Pw (xs.take i)).length<=128:=by rw[C7];refine VD ?_;rw[length_take];omega
      refine⟨_,rfl,_,rfl,D,rfl,⟨_,aN.of hd⟩,?_⟩;refine lR (xs:=(Pw (xs.take i)).map V.int) (RelM (fun(z:Int)=>V.int (z+n)) (Pw (xs.take i))) (aN.of hd) (sz (by simp;omega)) (fun _ _=>rfl) ?_ ?_
      . intro D2 acc j H2 x Y N hx v4 s2 hd2 r hY hN;obtain⟨z,hz,rfl⟩:=ints_get hx;exact⟨rfl,yes ⟨_,rfl,_,rfl,_,_,rfl,rfl,hY _ _ (aA.refl _) (ck r hz rfl)⟩⟩
      . intro D2 acc H2 v4 s2 hd2 _ r;have e:=c9 r (by simp);refine⟨D,D2,_,_,rfl,rfl,s2 _ _ hd,hd2,sz (by rw[e];simp;omega),fun p hp=>?_⟩;have s3:=s1.trans s2;refine⟨p,_,rfl,s3.free hp,bv s3 (s3.free hp),?_⟩;rw[ae,e,take_snoc hn,Mj];simp
    . rintro σ H1 ⟨D,m,rfl,hD,s1,hd⟩;refine⟨_,rfl,?_⟩;rw[length_map,take_length]at hd;exact k D H1 hD s1 hd
def decAll(xs:List Int)(ls:List Nat):List Int:=ls.foldl (fun xs n=>xs.set n (xs.getD n 0-1)) xs
theorem ME(xs:List Int)(l:List Nat)(n:Nat):decAll xs (l++ [n])=(decAll xs l).set n ((decAll xs l).getD n 0-1):=by unfold decAll;rw[foldl_append];rfl
theorem kY:∀(ls:List Nat) (xs:List Int),(decAll xs ls).length=xs.length
  | [],xs=>rfl
  | n::ls,xs=>by show(decAll (xs.set n (xs.getD n 0-1)) ls).length=_;rw[kY ls,length_set]
def V4(K:Frag):Sp:=fun vs H Q _=>∃(a b:Addr) (xs:List Int) (ls:List Nat),vs=[.ref a,.ref b]/\H a=some (.lst (xs.map V.int))/\H b=some (.lst (ax ls))/\(∀n∈ls,n<xs.length)/\bL H Q (decAll xs ls)
theorem sW{n i:Nat}(h:i<n):ixN n (i:Int)=some i:=by unfold ixN;rw[if_pos (by omega),if_pos (by omega)];simp
theorem Bl(xs:List Int)(n:Nat)(z:Int):(xs.map V.int).set n (.int z)=(xs.set n z).map V.int:=by rw[map_set]
theorem NK(T:Txt K mg):ay P w K mg base bo 1 T.ip.f T.ip.fd ["spare","losing"] (V4 K):=by
  refine T.ip.F.ok so (fun vs H Q E h=>?_) (fun bP A outer s H vs Q E hr h=>?_)
  . obtain⟨a,b,xs,ls,rfl,_⟩:=h;rfl
  . obtain⟨a,b,xs,ls,rfl,ha,hb,hl,k⟩:=h;refine⟨_,(ag (aY (i:=2) (so.nd) rfl (Or.inl rfl) (cY JT rfl T.ut JJ (aa (pv 0) ab))) (ag (dQ PassesOwn.never rfl (ba (pv 1)) (aC (i:=3) (so.nd) (by rfl) (by exact Or.inl rfl)) (ai (Al (bV vD (a9 aW (pv 2) (pv 3) (fun _ _=>rfl)) aE) (Aa (pv 2) (pv 3) set_list)))) (ai (aq (pv 2))))),?_⟩;refine⟨_,rfl,a,_,rfl,.inl (aN.of ha),fun D hD=>?_⟩;have s0:aA H (upd H D (.lst (xs.map V.int))):=ak hD;refine⟨_,rfl,b,rfl,⟨_,aN.of (s0 _ _ hb)⟩,?_⟩;refine oo (xs:=ax ls) (fun i σ H1=>∃m,σ=[some (.ref a),some (.ref b),some (.ref D),m]/\aA H H1/\H1 D=some (.lst ((decAll xs (ls.take i)).map V.int))) ⟨none,rfl,s0,ae⟩ (fun i σ H1 ⟨m,_,s,_⟩=>aN.of (s _ _ hb)) ?_ ?_
    . rintro i x σ H1 hx ⟨m,rfl,s1,hd⟩;obtain⟨n,hn,rfl⟩:=bO hx;have dD:n<(decAll xs (ls.take i)).length:=by rw[kY];exact hl n (mem_of_getElem? hn)
      refine⟨_,rfl,_,rfl,D,_,_,_,rfl,rfl,aN.of hd,JG (x:=(decAll xs (ls.take i)).getD n 0) (by rw[getD_eq_getElem?_getD,getElem?_eq_getElem dD];rfl),_,_,rfl,rfl,_,rfl,_,rfl,D,_,_,_,rfl,rfl,hd,sW (by simpa using dD),?_⟩;refine⟨_,rfl,bv s1 hD,?_⟩;rw[ae,Bl,take_snoc hn,ME]
    . rintro σ H1 ⟨m,rfl,s1,hd⟩;refine⟨_,rfl,?_⟩;have:(ax ls).length=ls.length:=by simp[ax]
      rw[this,take_length]at hd;exact k D H1 hD s1 hd
theorem Oo:∀L∈subs,L=(List.range 7).filter (fun y=>L.contains y):=by decide +kernel
theorem TF{L:List Nat}(h:L∈subs)(p:Nat->Bool)(e:∀y,y∈L↔p y=true):L=(List.range 7).filter p:=by
  rw[Oo L h];have:(fun y=>L.contains y)=p:=by funext y;rw[Bool.eq_iff_iff,contains_iff_mem];exact e y
  rw[this]
def ZI(xs ys:List Nat):List Nat:=(List.range 7).filter fun y=>xs.contains y||ys.contains y
def YX(K:Frag):Sp:=fun vs H Q _=>∃(a b:Addr) (xs ys:List Nat),vs=[.ref a,.ref b]/\H a=some (.lst (ax xs))/\H b=some (.lst (ax ys))/\(∀x∈xs,x<7)/\(∀x∈ys,x<7)/\bL H Q (az (ZI xs ys))
theorem IY(T:Txt K mg):ay P w K mg base bo 1 T.gB.f T.gB.fd ["boats","more"] (YX K):=by
  refine T.gB.F.ok VL (fun vs H Q E h=>?_) (fun bP A outer s H vs Q E hr h=>?_)
  . obtain⟨a,b,xs,ys,rfl,_⟩:=h;rfl
  . obtain⟨a,b,xs,ys,rfl,ha,hb,h7,h8,k⟩:=h;refine⟨_,(ai (aq (aJ (wt rfl) rfl T.kH yw (aa (bV aeI (cY (yE rfl) rfl T.qC DU (aa (pv 0) ab)) (cY (yE rfl) rfl T.qC DU (aa (pv 1) ab))) ab)))),?_⟩;refine⟨_,rfl,a,xs,rfl,aN.of ha,h7,fun p1 L1 UQ m1 e1=>?_⟩;have s1:aA H (upd H p1 (AC w p1 L1)):=ak UQ;refine⟨_,rfl,b,ys,rfl,aN.of (s1 _ _ hb),h8,fun p2 L2 Hn m2 e2=>?_⟩;have s2:=s1.trans (ak (o:=AC w p2 L2) Hn);have ne:p1≠p2:=fun e=>by rw[<-e,ae]at Hn;cases Hn
    refine⟨p1,p2,L1,L2,rfl,rfl,(by rw[au ne,ae]),ae,ne,fun p3 U hp3 m3 e3=>?_⟩;have s3:=s2.trans (ak (o:=AC w p3 U) hp3);refine⟨p3,U,rfl,ae,m3,fun p4 hp4=>?_⟩;refine k p4 _ (s3.free hp4) (bv s3 (s3.free hp4)) ?_;have eU:U=ZI xs ys:=TF m3 _ fun y=>by rw[e3,e1,e2,or_eq_true,contains_iff_mem,contains_iff_mem]
    rw[ae,eU,<-br];rfl
def iO(aj:List (List Nat)):List Nat:=(List.range 7).filter fun y=>aj.any fun xs=>xs.contains y
def V3(K:Frag):Sp:=fun vs H Q _=>∃(a:Addr) (aj:List (List Nat)),vs=[.ref a]/\yf H a aj/\aj.length<=7/\(∀xs∈aj,xs.length<=7/\∀x∈xs,x<7)/\bL H Q (az (iO aj))
theorem IC:∀(aj:List (List Nat)),(∀xs∈aj,xs.length<=7)->aj.flatten.length<=7*aj.length
  | [],_=>by simp
  | xs::r,h=>by rw[flatten_cons,length_append,length_cons];have:=IC r fun y hy=>h y (mem_cons_of_mem _ hy);have:=h xs mem_cons_self;omega
theorem Rf(T:Txt K mg):ay P w K mg base bo 1 T.j8.f T.j8.fd ["offers"] (V3 K):=by
  refine T.j8.F.ok vT (fun vs H Q E h=>?_) (fun bP A outer s H vs Q E hr h=>?_)
  . obtain⟨a,aj,rfl,_⟩:=h;rfl
  . obtain⟨a,aj,rfl,⟨ps,ha,hp⟩,hl,h7,k⟩:=h;refine⟨_,(ag (aY (i:=1) (vT.nd) rfl (Or.inl rfl) (aS ab)) (ag (dQ PassesOwn.never rfl (ba (pv 0)) (aC (i:=2) (vT.nd) (by rfl) (by exact Or.inl rfl)) (ai (eE (xC PySem.F.plainAttrs_list PySem.F.slot_list_extend PySem.F.type_list_extend tp (pv 1) (aa (pv 2) ab))))) (ai (aq (aJ (wt rfl) rfl T.kH yw (aa (cY (yE rfl) rfl T.qC DU (aa (pv 1) ab)) ab)))))),?_⟩;refine⟨sz (by simp),fun D hD=>?_⟩;have s0:aA H (upd H D (.lst [])):=ak hD;have hlen:=aD hp;refine⟨_,rfl,a,rfl,⟨_,aN.of (s0 _ _ ha)⟩,?_⟩;refine oo (xs:=ps.map V.ref) (fun i σ H1=>∃m,σ=[some (.ref a),some (.ref D),m]/\aA H H1/\H1 D=some (.lst (ax (aj.take i).flatten))) ⟨none,rfl,s0,ae⟩ (fun i σ H1 ⟨m,_,s,_⟩=>aN.of (s _ _ ha)) ?_ ?_
    . rintro i x σ H1 hx ⟨m,rfl,s1,hd⟩;obtain⟨q,hq,rfl⟩:=cq hx;obtain⟨xs,IK,Dh⟩:=aV hp hq;have l1:(aj.take i).flatten.length<=7*(aj.take i).length:=IC _ fun y hy=>(h7 y (mem_of_mem_take hy)).1;have l2:=(h7 xs (mem_of_getElem? IK)).1;have l3:(aj.take i).length<=aj.length:=length_take_le' _ _;refine⟨_,rfl,.inl ⟨rfl,_,aN.of hd⟩,_,rfl,D,q,_,_,rfl,rfl,hd,s1 _ _ Dh,sz (by simp only[ax,length_map];omega),?_⟩;refine⟨_,rfl,bv s1 hD,?_⟩;rw[ae,take_snoc IK,List.flatten_append];simp[ax]
    . rintro σ H1 ⟨m,rfl,s1,hd⟩;rw[length_map,hlen,take_length]at hd;have hm7:∀x∈aj.flatten,x<7:=fun x hx=>by obtain⟨xs,IK,hx⟩:=mem_flatten.mp hx;exact(h7 xs IK).2 x hx
      refine⟨_,rfl,D,aj.flatten,rfl,aN.of hd,hm7,fun p1 L1 UQ m1 e1=>?_⟩;have s2:=s1.trans (ak (o:=AC w p1 L1) UQ);refine⟨p1,L1,rfl,ae,m1,fun p4 hp4=>?_⟩;refine k p4 _ (s2.free hp4) (bv s2 (s2.free hp4)) ?_;have eU:L1=iO aj:=TF m1 _ fun y=>by
        rw[e1,mem_flatten,any_eq_true];constructor
        . rintro⟨l,a,b⟩;exact⟨l,a,contains_iff_mem.mpr b⟩
        . rintro⟨l,a,b⟩;exact⟨l,a,contains_iff_mem.mp b⟩
      rw[ae,eU,<-br];rfl
end
end My
namespace My
open PySem PySem.Spec PyProof.Rows L2
section
variable{X:Cx}{K:Frag}
def aiL(K:Frag)(ta:TE):TT:=fun σ H Q=>ta σ H fun x H'=>∃k,adj K x H' k/\Q k H'
theorem Jf{a:Expr}{ta:TE}(hK:X.K=K)(ha:PE X a ta)(he:∀whole,isTrue a X.env whole=(do let v <-whole;standAt a.pos;holding [v] (truthy v))):PT X a (aiL K ta):=hK▸r9 ha he
end
end My
namespace My
open PySem PySem.Spec PyProof.Rows L2
theorem iM{H H1:Hp}{D q:Addr}{o u:HO}(hd:H1 D=some u)(hq:H1 q=none)(h:H q=some o):Off D H q=some o:=by rw[Off.ne (aM hd hq).symm];exact h
theorem Pd{n b:Nat}{g:Nat->V}(h:b<n):Sj ((List.range n).map g) (0+(b:Int))=some (g b):=by rw[Int.zero_add];exact eP h
theorem tj{s:Vbreai.State}{i c:Nat}(W:Wf s)(h:s.due[i]? =some c):c<s.crews:=W.dlt c (mem_of_getElem? h)
theorem X5:∀(n lo:Nat) (l:List Nat),l.Pairwise (· < ·)->(∀x∈l,lo<=x/\x<n)->l≠ []->lo+l.length<=n
  | n,lo,[],_,_,z=>absurd rfl z
  | n,lo,a::l,p,h,_=>by
    have ha:=h a mem_cons_self;by_cases e:l=[]
    . subst e;simp;omega
    . have:=X5 n (a+1) l (pairwise_cons.mp p).2 (fun x hx=>⟨(pairwise_cons.mp p).1 x hx,(h x (mem_cons_of_mem _ hx)).2⟩) e;rw[length_cons];omega
theorem Dl{n:Nat}{l:List Nat}(p:l.Pairwise (· < ·))(h:∀x∈l,x<n):l.length<=n:=by
  by_cases e:l=[]
  . subst e;simp
  . have:=X5 n 0 l p (fun x hx=>⟨zero_le _,h x hx⟩) e;omega
theorem PY{s:Vbreai.State}(W:Wf s):s.due.Nodup:=W.due.imp fun h=>ne_of_lt h
theorem cR{s:Vbreai.State}(W:Wf s):s.due.length<=7:=le_trans (Dl W.due W.dlt) W.c7
theorem DT{s:Vbreai.State}(W:Wf s)(c:Nat):∀x∈boatsFor s c,x<7:=fun x hx=>lt_of_lt_of_le (cz hx) W.b7
def iJ:List Int->Int
  | []=>0
  | n::l=>l.foldl min n
theorem wL:∀(l:List Int) (n:Int),l.foldl min n<=n/\(∀y∈l,l.foldl min n<=y)/\(l.foldl min n=n\/l.foldl min n∈l)
  | [],n=>⟨Int.le_refl _,(fun y hy=>by cases hy),.inl rfl⟩
  | a::l,n=>by
    obtain⟨h1,h2,h3⟩:=wL l (min n a);rw[foldl_cons];refine⟨by omega,fun y hy=>?_,?_⟩
    . rcases mem_cons.mp hy with rfl | hy
      . omega
      . exact h2 y hy
    . rcases h3 with h3 | h3
      . rw[h3];by_cases h:n<=a
        . left;omega
        . right;rw[show min n a=a by omega];exact mem_cons_self
      . exact .inr (mem_cons_of_mem _ h3)
theorem Fx{l:List Int}(h:l≠ []):iJ l∈l/\∀y∈l,iJ l<=y:=by
  cases l with
  | nil=>exact absurd rfl h
  | cons a l=>
    obtain⟨h1,h2,h3⟩:=wL l a;refine⟨?_,fun y hy=>?_⟩
    . rcases h3 with h3 | h3
      . show l.foldl min a∈_;rw[h3];exact mem_cons_self
      . exact mem_cons_of_mem _ h3
    . rcases mem_cons.mp hy with rfl | hy
      . exact h1
      . exact h2 y hy
theorem sX{l:List Int}{m:Int}(h:m∈l)(hm:∀y∈l,m<=y):m=iJ l:=by have:=Fx (List.ne_nil_of_mem h);have a:=this.2 m h;have b:=hm _ this.1;omega
section
variable{P:Program}{w:World}{K:Frag}{mg:Str->Option Value}{base:Heap}
def acI(H:Hp)(Q:VK)(aj:List (List Nat)):Prop:=∀(D:Addr) (H':Hp),H D=none->aA H H'->yf H' D aj->Q (.ref D) H'
def aO(s:Vbreai.State):List (List Nat):=s.due.map (boatsFor s)
def Of(C:Addr):Sp:=fun vs H Q _=>∃(p:Addr) (A:FA) (s:Vbreai.State),vs=[.ref p]/\aL C H p A s/\Wf s/\acI H Q (aO s)
theorem bA(T:Txt K mg):ay P w K mg base bo 3 T.aF.f T.aF.fd ["self"] (Of T.ah):=by
  have bc:ay P w K mg base bo 2 _ _ _ _:=cj T;refine T.aF.F.ok fA (fun vs H Q E h=>?_) (fun bP A outer s H vs Q E hr h=>?_)
  . obtain⟨p,A,s,rfl,_⟩:=h;rfl
  . obtain⟨p,A',st,rfl,F,W,k⟩:=h;refine⟨_,(ai (aq (dh rfl (fA.nd) (ba (bf (pv 0) (by rfl))) (own:=[("crew",1)]) (bG rfl) (fun _ _ _ _ _=>by exact(aC (i:=1) (fA.nd) (by rfl) (by exact Or.inl rfl))) (fun _ _ _ _ _=>by exact bI) (fun _ _ _ _ _=>by exact(bT (pv 0) T.ao T.aU.m bc (hr.mono (by decide)) T.aU.b .nil aI (aa (pv 1) ab)))))),?_⟩;have hl:=cR W;refine⟨_,rfl,p,_,_,_,_,rfl,F.ins,T.ao,T.aQ,ll,A'.d,rfl,⟨_,aN.of F.d⟩,?_⟩;refine lR (xs:=ax st.due) (v5 (fun H p xs=>H p=some (.lst (ax xs))) (aO st)) (aN.of F.d) (sz (by simp[ax];omega)) (fun _ _=>fE) ?_ ?_
    . intro D acc i H1 x Y N hx hD s1 hd r hY hN;obtain⟨c,hc,rfl⟩:=bO hx;refine⟨rfl,yes ⟨_,rfl,p,_,_,rfl,(F.same s1).ins,rfl,_,rfl,p,A',st,c,rfl,F.same s1,tj W hc,W.b7,fun B H2 hB s2 eB=>hY _ _ s2 ?_⟩⟩;rw[<-br]at eB;exact d6 (fun _ _ _ _ s z=>s _ _ z) r (x:=boatsFor st c) (by unfold aO;rw[getElem?_map,hc];rfl) (Off.mono s2) (iM hd hB eB)
    . intro D acc H1 hD s1 hd _ r;obtain⟨ps,rfl,q⟩:=fD r (by simp[ax,aO]);exact k D H1 hD s1 ⟨ps,hd,dI (fun _ _ z=>Off.same _ _ z) q⟩
def oh(s:Vbreai.State)(ps:List Int)(c:Nat):List Int:=(boatsFor s c).map fun b=>(costOf s c b:Int)+ps.getD b 0
def ae7(C:Addr):Sp:=fun vs H Q _=>∃(p:Addr) (A:FA) (s:Vbreai.State) (c:Nat) (a:Addr) (ps:List Int),vs=[.ref p,.int c,.ref a]/\aL C H p A s/\Wf s/\c<s.crews/\H a=some (.lst (ps.map V.int))/\ps.length=s.boats/\boatsFor s c≠ []/\
  ∀H',aA H H'->Q (.int (iJ (oh s ps c))) H'
theorem at_getD{ps:List Int}{b:Nat}(h:b<ps.length):Sj (ps.map V.int) (b:Int)=some (.int (ps.getD b 0)):=JG (by rw[getD_eq_getElem?_getD,getElem?_eq_getElem h];rfl)
theorem abw(T:Txt K mg):ay P w K mg base bo 3 T.yQ.f T.yQ.fd ["fleet","crew","prices"] (ae7 T.ah):=by
  have bc:ay P w K mg base bo 2 _ _ _ _:=cj T;refine T.yQ.F.ok Lv (fun vs H Q E h=>?_) (fun bP A outer s H vs Q E hr h=>?_)
  . obtain⟨p,A,s,c,a,ps,rfl,_⟩:=h;rfl
  . obtain⟨p,A',st,c,a,ps,rfl,F,W,hc,ha,hl,eZ,k⟩:=h;refine⟨_,(ai (aq (aJ (W7 rfl) rfl T.AV JL (aa (dh rfl (Lv.nd) (ba (bT (pv 0) T.ao T.aU.m bc (hr.mono (by decide)) T.aU.b .nil aI (aa (pv 1) ab))) (own:=[("boat",3)]) (bG rfl) (fun _ _ _ _ _=>by exact(aC (i:=3) (Lv.nd) (by rfl) (by exact Or.inl rfl))) (fun _ _ _ _ _=>by exact bI) (fun _ _ _ _ _=>by exact(bV nL (a9 (jd (K:=K) rfl) (a9 (jd (K:=K) rfl) (Le (K:=K) rfl (pv 0) (by rfl)) (pv 1) (fun _ _=>rfl)) (pv 3) (fun _ _=>rfl)) (a9 (jd (K:=K) rfl) (pv 2) (pv 3) (fun _ _=>rfl))))) ab)))),?_⟩;obtain⟨ka,OH⟩:=Ln F.kl hc;refine⟨_,rfl,p,_,_,rfl,F.ins,rfl,_,rfl,p,A',st,c,rfl,F,hc,W.b7,fun B H0 hB s0 eB=>?_⟩;rw[<-br]at eB;refine⟨B,rfl,⟨_,aN.of eB⟩,?_⟩;have h7:=W.b7;have hl':=gu st c;refine lR (xs:=ax (boatsFor st c)) (RelM (fun b=>V.int ((costOf st c b:Int)+ps.getD b 0)) (boatsFor st c)) (aN.of eB) (sz (by simp[ax];omega)) (fun _ _=>rfl) ?_ ?_
    . intro D acc i H1 x Y N hx hD s1 hd r hY hN;obtain⟨b,GY,rfl⟩:=bO hx;have s2:=s0.trans s1;have F1:=F.same s2;have hb:=cz (mem_of_getElem? GY);exact⟨rfl,yes ⟨_,rfl,p,_,_,_,_,rfl,F1.ins,T.ao,T.bX,rc,_,rfl,_,_,_,_,rfl,rfl,aN.of F1.k,kG OH,_,rfl,_,_,_,_,rfl,rfl,aN.of (F1.kw c ka OH),eP hb,_,rfl,_,rfl,a,_,_,_,rfl,rfl,aN.of (s2 _ _ ha),at_getD (by omega),_,_,rfl,rfl,hY _ _ (aA.refl _) (ck r GY rfl)⟩⟩
    . intro D acc H1 hD s1 hd _ r;have e:=c9 r (by simp[ax]);refine⟨D,oh st ps c,rfl,aN.of (by rw[hd,e];unfold oh;rw[map_map];rfl),?_,fun m hm hle=>?_⟩
      . unfold oh;rw[length_map];exact List.length_pos_iff.mpr eZ
      . rw[sX hm hle];exact k H1 (s0.trans s1)
def RW(C:Addr):Sp:=fun vs H Q _=>∃(p:Addr) (A:FA) (s:Vbreai.State) (a:Addr) (ps:List Int),vs=[.ref p,.ref a]/\aL C H p A s/\Wf s/\H a=some (.lst (ps.map V.int))/\ps.length=s.boats/\(∀c∈s.due,boatsFor s c≠ [])/\
  bL H Q (s.due.map fun c=>iJ (oh s ps c))
theorem xw(T:Txt K mg):ay P w K mg base bo 4 T.c5.f T.c5.fd ["fleet","prices"] (RW T.ah):=by
  have ade:ay P w K mg base bo 3 _ _ _ _:=abw T;refine T.c5.F.ok pS (fun vs H Q E h=>?_) (fun bP A outer s H vs Q E hr h=>?_)
  . obtain⟨p,A,s,a,ps,rfl,_⟩:=h;rfl
  . obtain⟨p,A',st,a,ps,rfl,F,W,ha,hl,eZ,k⟩:=h;refine⟨_,(ai (aq (dh rfl (pS.nd) (ba (bf (pv 0) (by rfl))) (own:=[("crew",2)]) (bG rfl) (fun _ _ _ _ _=>by exact(aC (i:=2) (pS.nd) (by rfl) (by exact Or.inl rfl))) (fun _ _ _ _ _=>by exact bI) (fun _ _ _ _ _=>by exact(aH ade (hr.mono (by decide)) rfl T.yQ.g T.yQ.F.kp T.yQ.b .nil aI (aa (pv 0) (aa (pv 2) (aa (pv 1) ab)))))))),?_⟩;have hl':=cR W;refine⟨_,rfl,p,_,_,_,_,rfl,F.ins,T.ao,T.aQ,ll,A'.d,rfl,⟨_,aN.of F.d⟩,?_⟩;refine lR (xs:=ax st.due) (RelM (fun c=>V.int (iJ (oh st ps c))) st.due) (aN.of F.d) (sz (by simp[ax];omega)) (fun _ _=>rfl) ?_ ?_
    . intro D acc i H1 x Y N hx hD s1 hd r hY hN;obtain⟨c,hc,rfl⟩:=bO hx;exact⟨rfl,yes ⟨_,rfl,_,rfl,_,rfl,p,A',st,c,a,ps,rfl,F.same s1,W,tj W hc,s1 _ _ ha,hl,eZ c (mem_of_getElem? hc),fun H2 s2=>hY _ _ s2 (ck r hc rfl)⟩⟩
    . intro D acc H1 hD s1 hd _ r;have e:=c9 r (by simp[ax]);exact k D H1 hD s1 (by rw[hd,e,map_map];rfl)
def wm(s:Vbreai.State)(ps:List Int):List Int:=(inUse s).map fun b=>ps.getD b 0
def Y4(C:Addr):Sp:=fun vs H Q _=>∃(p:Addr) (A:FA) (s:Vbreai.State) (a:Addr) (ps:List Int),vs=[.ref p,.ref a]/\aL C H p A s/\Wf s/\H a=some (.lst (ps.map V.int))/\ps.length=s.boats/\
  ∀H',aA H H'->Q (if (s.due.all fun c=> !(boatsFor s c).isEmpty)=true then .int ((s.due.map fun c=>iJ (oh s ps c)).sum-(wm s ps).sum) else .dZ) H'
theorem WD(s:Vbreai.State):((aO s).map ax).all (fun xs=> !xs.isEmpty)=s.due.all fun c=> !(boatsFor s c).isEmpty:=by unfold aO;rw[all_map,all_map];congr 1;funext c;simp[ax]
theorem aaV{K:Frag}{H:Hp}{ps:List Addr}{aj:List (List Nat)}(h:Paired (fun p xs=>H p=some (.lst (ax xs))) ps aj):Paired (fun b xs=>aN K H b xs) ps (aj.map ax):=by
  induction h with
  | nil=>exact .nil
  | cons h t ih=>exact .cons (aN.of h) ih
theorem Vr(T:Txt K mg):ay P w K mg base bo 5 T.oe.f T.oe.fd ["fleet","prices"] (Y4 T.ah):=by
  have aR:ay P w K mg base bo 3 _ _ _ _:=bA T;have qp:ay P w K mg base bo 4 _ _ _ _:=xw T;refine T.oe.F.ok AB (fun vs H Q E h=>?_) (fun bP A outer s H vs Q E hr h=>?_)
  . obtain⟨p,A,s,a,ps,rfl,_⟩:=h;rfl
  . obtain⟨p,A',st,a,ps,rfl,F,W,ha,hl,k⟩:=h;refine⟨_,(ag (bW (dy (fU (aJ (aaa rfl) rfl T.qB uu (aa (gU (pv 0) T.ao T.aF.m aR (hr.mono (by decide)) T.aF.b .nil aI) ab)))) (ai (aq vG)) aZ) (ag (oE (i:=2) rfl (AB.nd) rfl rfl rfl (ke rfl T.fF (aa (bf (pv 0) (by rfl)) ab)) (own:=[("boat",3)]) (bG rfl) (fun _ _ _ _ _=>by exact(aC (i:=3) (AB.nd) (by rfl) (by exact Or.inl rfl))) (fun _ _ _ _ _=>by exact(pO (dy (Jf (K:=K) rfl (a9 (jd (K:=K) rfl) (Le (K:=K) rfl (pv 0) (by rfl)) (pv 3) (fun _ _=>rfl)) (fun _=>rfl))))) (fun _ _ _ _ _=>by exact(a9 (jd (K:=K) rfl) (pv 1) (pv 3) (fun _ _=>rfl)))) (ai (aq (bV vD (aJ (W8 rfl) rfl T.HZ WL (aa (aH qp (hr.mono (by decide)) rfl T.c5.g T.c5.F.kp T.c5.b .nil aI (aa (pv 0) (aa (pv 1) ab))) ab)) (aJ (W8 rfl) rfl T.HZ WL (aa (pv 2) ab))))))),?_⟩;have h7:=W.b7;refine⟨_,rfl,p,_,_,rfl,F.ins,rfl,p,A',st,rfl,F,W,fun D1 H1 hD1 s1 ⟨qs,tZ,hq⟩=>?_⟩;refine⟨D1,qs,_,rfl,aN.of tZ,aaV hq,_,rfl,?_⟩;rw[WD];by_cases e:(st.due.all fun c=> !(boatsFor st c).isEmpty)=true
    . rw[e]at k ⊢;have eZ:∀c∈st.due,boatsFor st c≠ []:=fun c hc z=>by have:=all_eq_true.mp e c hc;rw[z]at this;cases this
      refine cU ?_;have F1:=F.same s1;refine⟨_,rfl,p,_,_,_,_,rfl,F1.ins,T.ao,T.bN,oj,_,rfl,by omega,by omega,?_⟩;refine aei (fun i acc _=>acc=(((List.range i).filter fun b=> !st.out.contains b).map fun b=>V.int (ps.getD b 0))) (sz (by omega)) (fun _ _=>rfl) ?_ ?_
      . intro D acc i H2 Y N hi hD s2 hd r hY hN;have hi':i<st.boats:=by simpa using hi
        have F2:=F1.same s2;refine⟨rfl,_,rfl,p,_,_,_,_,rfl,F2.ins,T.ao,T.bD,Kk,_,rfl,_,_,_,_,rfl,rfl,aN.of F2.o,Pd hi',_,rfl,?_⟩;by_cases e2:st.out.contains i=true
        . rw[e2];refine cU (hN _ (aA.refl _) ?_);rw[r,iP,filter_append,filter_cons,if_neg (by rw[e2];decide)];simp
        . rw[not_eq_true]at e2;rw[e2];refine cx ⟨_,rfl,_,rfl,a,_,_,_,rfl,rfl,aN.of (s2 _ _ (s1 _ _ ha)),(by rw[Int.zero_add];exact at_getD (by omega)),hY _ _ (aA.refl _) ?_⟩;rw[r,iP,filter_append,filter_cons,if_pos (by rw[e2];decide)];simp
      . intro D acc H2 hD s2 hd _ r;have s3:=s1.trans s2;refine⟨_,rfl,_,rfl,p,A',st,a,ps,rfl,F.same s3,W,s3 _ _ ha,hl,eZ,fun D3 H3 S1 s4 oK=>?_⟩;refine⟨D3,_,rfl,aN.of oK,_,rfl,D,wm st ps,rfl,aN.of ?_,_,_,rfl,rfl,k H3 (s3.trans s4)⟩;rw[s4 _ _ hd,r];unfold wm inUse;rw[map_map];rfl
    . rw[not_eq_true]at e;rw[e]at k ⊢;exact cx (k H1 s1)
def mx(i j:Int):Int:=if j>i then j else i
def ma(s:Vbreai.State)(c:Nat)(worth:Int)(ps:List Int)(b:Nat):List Int:=ps.set b (mx (ps.getD b 0) (worth-(costOf s c b:Int)))
def qk(s:Vbreai.State)(ps:List Int)(x:Nat×Nat):List Int:=(boatsFor s x.1).foldl (ma s x.1 ((costOf s x.1 x.2:Int)+ps.getD x.2 0)) ps
def Gi(s:Vbreai.State)(f:List Nat)(ps:List Int):List Int:=(s.due.zip f).foldl (qk s) ps
def cp(s:Vbreai.State)(f:List Nat):Nat->List Int
  | 0=>List.replicate s.boats 0
  | n+1=>Gi s f (cp s f n)
theorem vM(s:Vbreai.State)(c:Nat)(z:Int)(ps:List Int)(b:Nat):(ma s c z ps b).length=ps.length:=by unfold ma;rw[length_set]
theorem iu(s:Vbreai.State)(c:Nat)(z:Int):∀(l:List Nat) (ps:List Int),(l.foldl (ma s c z) ps).length=ps.length
  | [],ps=>rfl
  | b::l,ps=>by rw[foldl_cons,iu s c z l,vM]
theorem Jh(s:Vbreai.State)(ps:List Int)(x:Nat×Nat):(qk s ps x).length=ps.length:=iu s _ _ _ ps
theorem jB(s:Vbreai.State):∀(l:List (Nat×Nat)) (ps:List Int),(l.foldl (qk s) ps).length=ps.length
  | [],ps=>rfl
  | b::l,ps=>by rw[foldl_cons,jB s l,Jh]
theorem eJ(s:Vbreai.State)(f:List Nat):∀n,(cp s f n).length=s.boats
  | 0=>length_replicate
  | n+1=>by show(Gi s f (cp s f n)).length=_;unfold Gi;rw[jB,eJ s f n]
def LD(C:Addr):Sp:=fun vs H Q _=>∃(p:Addr) (A:FA) (s:Vbreai.State) (a:Addr) (f:List Nat),vs=[.ref p,.ref a]/\aL C H p A s/\Wf s/\H a=some (.lst (ax f))/\f.length=s.due.length/\(∀b∈f,b<s.boats)/\
  bL H Q (cp s f f.length)
theorem zip_get{α β:Type}{xs:List α}{ys:List β}{i:Nat}{x:α}{y:β}(h1:xs[i]? =some x)(h2:ys[i]? =some y):(xs.zip ys)[i]? =some (x,y):=by rw[List.getElem?_zip_eq_some];exact⟨h1,h2⟩
theorem FX(T:Txt K mg):ay P w K mg base bo 3 T.dY.f T.dY.fd ["fleet","cheapest"] (LD T.ah):=by
  have bc:ay P w K mg base bo 2 _ _ _ _:=cj T;refine T.dY.F.ok cP (fun vs H Q E h=>?_) (fun bP A outer s H vs Q E hr h=>?_)
  . obtain⟨p,A,s,a,f,rfl,_⟩:=h;rfl
  . obtain⟨p,A',st,a,f,rfl,F,W,ha,hl,hf,k⟩:=h;refine⟨_,(ag (aY (i:=2) (cP.nd) rfl (Or.inl rfl) (bV z5 (aS (aa aE ab)) (bf (pv 0) (by rfl)))) (ag (dQ PassesOwn.never rfl (ke rfl T.fF (aa (aJ aP rfl T.cC b9 (aa (pv 1) ab)) ab)) (aC (i:=3) (cP.nd) (by rfl) (by exact Or.inl rfl)) (ai (dQ PassesOwn.never rfl (Ga rfl T.tQ (aa (bf (pv 0) (by rfl)) (aa (pv 1) ab))) (Ab rfl (bE (aC (i:=4) (cP.nd) (by rfl) (by exact Or.inl rfl)) (bE (aC (i:=5) (cP.nd) (by rfl) (by exact Or.inl rfl)) fH))) (ag (aY (i:=6) (cP.nd) rfl (Or.inl rfl) (bV nL (a9 aW (a9 aW (bf (pv 0) (by rfl)) (pv 4) (fun _ _=>rfl)) (pv 5) (fun _ _=>rfl)) (a9 aW (pv 2) (pv 5) (fun _ _=>rfl)))) (ai (dQ PassesOwn.never rfl (ba (bT (pv 0) T.ao T.aU.m bc (hr.mono (by decide)) T.aU.b .nil aI (aa (pv 4) ab))) (aC (i:=7) (cP.nd) (by rfl) (by exact Or.inl rfl)) (ai (Al (aJ (Ik rfl) rfl T.AU JK (aa (a9 aW (pv 2) (pv 7) (fun _ _=>rfl)) (aa (bV vD (pv 6) (a9 aW (a9 aW (bf (pv 0) (by rfl)) (pv 4) (fun _ _=>rfl)) (pv 7) (fun _ _=>rfl))) ab))) (Aa (pv 2) (pv 7) set_list))))))))) (ai (aq (pv 2))))),?_⟩;have h7:=W.b7;have hdl:=cR W;refine⟨sz (by simp),fun D0 EZ=>?_⟩;have s0:aA H (upd H D0 (.lst [.int 0])):=ak EZ;have F0:=F.same s0;refine⟨_,rfl,p,_,_,_,_,rfl,F0.ins,T.ao,T.bN,oj,D0,_,_,rfl,rfl,ae,by omega,by omega,sz (by simp;omega),fun D hD'=>?_⟩;have hD:=s0.free hD';have s1:=s0.trans (ak (o:=.lst (List.replicate (st.boats:Int).toNat [V.int 0]).flatten) hD');refine⟨_,rfl,a,_,rfl,.inl (aN.of (s1 _ _ ha)),_,rfl,by simp only[ax,length_map];omega,by simp only[ax,length_map];omega,?_⟩;refine afI (fun i σ H1=>∃m1 m2 m3 m4 m5,σ=[some (.ref p),some (.ref a),some (.ref D),m1,m2,m3,m4,m5]/\aA H H1/\H1 D=some (.lst ((cp st f i).map V.int))) ⟨none,none,none,none,none,rfl,s1,?_⟩ ?_ ?_
    . rw[ae];show some (HO.lst (List.replicate (st.boats:Int).toNat [V.int 0]).flatten)=some (HO.lst ((List.replicate st.boats (0:Int)).map V.int));congr 2;rw[toNat_natCast,List.map_replicate];generalize st.boats=n;induction n with
      | zero=>rfl
      | succ n ih=>rw[replicate_succ,flatten_cons,ih,replicate_succ];rfl
    . rintro i σ H1 hi ⟨m1,m2,m3,m4,m5,rfl,s1,hd⟩;have F1:=F.same s1;refine⟨_,rfl,p,_,_,_,_,rfl,F1.ins,T.ao,T.aQ,ll,_,rfl,A'.d,a,ax st.due,ax f,rfl,aN.of F1.d,aN.of (s1 _ _ ha),?_⟩;refine afK (fun j σ H2=>∃m1 m2 m3 m4 m5,σ=[some (.ref p),some (.ref a),some (.ref D),m1,m2,m3,m4,m5]/\aA H H2/\H2 D=some (.lst ((((st.due.zip f).take j).foldl (qk st) (cp st f i)).map V.int))) ⟨_,m2,m3,m4,m5,rfl,s1,hd⟩
        (fun _ _ _ ⟨_,_,_,_,_,_,s,_⟩=>aN.of ((F.same s).d)) (fun _ _ _ ⟨_,_,_,_,_,_,s,_⟩=>aN.of (s _ _ ha)) ?_ ?_
      . rintro j x y Tp σ H2 hx hy MT ⟨n1,n2,n3,n4,n5,rfl,s2,hd2⟩;obtain⟨c,hc,rfl⟩:=bO hx;obtain⟨o,ho,rfl⟩:=bO hy;obtain⟨ka,OH⟩:=Ln F.kl (tj W hc);have hob:=hf o (mem_of_getElem? ho);have s3:=s2.trans (ak (o:=.tup [.int c,.int o]) MT);have F3:=F.same s3;have oK:upd H2 Tp (.tup [.int c,.int o]) D=_:=(ak MT) _ _ hd2;generalize hH3:upd H2 Tp (.tup [.int c,.int o])=H3 at s3 F3 oK;have hT3:H3 Tp=some (.tup [.int c,.int o]):=by rw[<-hH3,ae]
        have hlen:(((st.due.zip f).take j).foldl (qk st) (cp st f i)).length=st.boats:=by rw[jB,eJ]
        refine⟨Tp,_,rfl,mT.of hT3,rfl,_,_,rfl,_,_,rfl,rfl,?_⟩;refine⟨_,rfl,p,_,_,_,_,rfl,F3.ins,T.ao,T.bX,rc,_,rfl,_,_,_,_,rfl,rfl,aN.of F3.k,kG OH,_,rfl,_,_,_,_,rfl,rfl,aN.of (F3.kw c ka OH),eP hob,_,rfl,_,rfl,D,_,_,_,rfl,rfl,aN.of oK,at_getD (by omega),_,_,rfl,rfl,?_⟩;refine⟨_,rfl,p,_,_,rfl,F3.ins,rfl,_,rfl,p,A',st,c,rfl,F3,tj W hc,h7,fun B H4 hB s4 eB=>?_⟩;rw[<-br]at eB;refine⟨B,rfl,⟨_,aN.of eB⟩,?_⟩;have hBD:B≠D:=(aM oK hB).symm;have s5:=s3.trans s4;generalize IJ:((st.due.zip f).take j).foldl (qk st) (cp st f i)=ps at hlen oK ⊢;refine oo (xs:=ax (boatsFor st c)) (fun q σ H5=>∃m5,σ=[some (.ref p),some (.ref a),some (.ref D),n1,some (.int c),some (.int o),some (.int ((costOf st c o:Int)+ps.getD o 0)),m5]/\aA H H5/\H5 B=some (.lst (ax (boatsFor st c)))/\H5 D=some (.lst ((((boatsFor st c).take q).foldl (ma st c ((costOf st c o:Int)+ps.getD o 0)) ps).map V.int))) ⟨n5,rfl,s5,eB,s4 _ _ oK⟩
          (fun _ _ _ ⟨_,_,_,b,_⟩=>aN.of b) ?_ ?_
        . rintro q x σ H5 hx ⟨m5,rfl,s6,hB5,S7⟩;obtain⟨b,GY,rfl⟩:=bO hx;have F5:=F.same s6;have hb:=cz (mem_of_getElem? GY);have acT:(((boatsFor st c).take q).foldl (ma st c ((costOf st c o:Int)+ps.getD o 0)) ps).length=st.boats:=by rw[iu,hlen]
          refine⟨_,rfl,_,rfl,D,_,_,_,rfl,rfl,aN.of S7,at_getD (by omega),_,rfl,_,rfl,p,_,_,_,_,rfl,F5.ins,T.ao,T.bX,rc,_,rfl,_,_,_,_,rfl,rfl,aN.of F5.k,kG OH,_,rfl,_,_,_,_,rfl,rfl,aN.of (F5.kw c ka OH),eP hb,_,_,rfl,rfl,_,_,rfl,?_⟩;refine⟨_,rfl,_,rfl,D,_,_,_,rfl,rfl,S7,sW (by rw[length_map];omega),?_⟩;refine⟨_,rfl,bv s6 hD,by rw[au hBD];exact hB5,?_⟩;rw[ae,Bl,take_snoc GY,foldl_append];rfl
        . rintro σ H5 ⟨m5,rfl,s6,hB5,S7⟩;refine⟨_,_,_,_,_,rfl,s6,?_⟩;have e1:(ax (boatsFor st c)).length=(boatsFor st c).length:=by simp[ax]
          rw[e1,take_length]at S7;rw[S7,take_snoc (zip_get hc ho),foldl_append,IJ];rfl
      . rintro σ H2 ⟨n1,n2,n3,n4,n5,rfl,s2,hd2⟩;refine⟨_,_,_,_,_,rfl,s2,?_⟩;rw[List.take_of_length_le (by simp[ax,length_zip])]at hd2;exact hd2
    . rintro σ H1 ⟨m1,m2,m3,m4,m5,rfl,s1,hd⟩;refine⟨_,rfl,?_⟩;refine k D H1 hD s1 ?_;have e1:(((ax f).length:Int)).toNat=f.length:=by simp[ax]
      rw[e1]at hd;exact hd
end
end My
namespace My
open PySem PySem.Spec PyProof.Rows L2
abbrev Pr:=List Nat×List Nat
def PrH(H:Hp)(t:Addr)(p:Pr):Prop:=∃x y:Addr,H t=some (.tup [.ref x,.ref y])/\H x=some (.lst (ax p.1))/\H y=some (.lst (ax p.2))
theorem PrH.same{H H':Hp}{t:Addr}{p:Pr}(h:PrH H t p)(s:aA H H'):PrH H' t p:=by obtain⟨x,y,a,b,c⟩:=h;exact⟨x,y,s _ _ a,s _ _ b,s _ _ c⟩
def afx(H:Hp)(a:Addr)(l:List Pr):Prop:=∃ts:List Addr,H a=some (.lst (ts.map V.ref))/\Paired (PrH H) ts l
def Bo(s:Vbreai.State)(c:Nat)(p:Pr):Pr:=(p.1++ [c],ZI p.2 (boatsFor s c))
def yc(s:Vbreai.State)(l:List Nat):List Pr:=l.foldl (fun ps c=>ps++ps.map (Bo s c)) [([],[])]
theorem Oq(s:Vbreai.State)(l:List Nat)(c:Nat):yc s (l++ [c])=yc s l++(yc s l).map (Bo s c):=by unfold yc;rw[foldl_append];rfl
theorem tY(s:Vbreai.State):∀(l:List Nat) (c:List Pr),(l.foldl (fun ps c=>ps++ps.map (Bo s c)) c).length=c.length*2^l.length
  | [],c=>by simp
  | m::l,c=>by rw[foldl_cons,tY s l,length_append,length_map,length_cons,pow_succ];rw[<-mul_assoc,mul_comm (c.length*2^l.length) 2,<-mul_assoc,Nat.two_mul]
theorem LG(s:Vbreai.State)(l:List Nat):(yc s l).length=2^l.length:=by unfold yc;rw[tY];simp
theorem ahc(xs ys:List Nat):∀x∈ZI xs ys,x<7:=fun x hx=>mem_range.mp (mem_filter.mp hx).1
theorem EV(s:Vbreai.State):∀(l:List Nat) (n:Nat) (c:List Pr),(∀p∈c,p.1.length<=n/\∀x∈p.2,x<7)->∀p∈l.foldl (fun ps c=>ps++ps.map (Bo s c)) c,p.1.length<=n+l.length/\∀x∈p.2,x<7
  | [],n,c,h=>h
  | m::l,n,c,h=>by
    rw[foldl_cons];have:=EV s l (n+1) (c++c.map (Bo s m)) fun p hp=>by
      rcases mem_append.mp hp with hp | hp
      . exact⟨Nat.le_succ_of_le (h p hp).1,(h p hp).2⟩
      . obtain⟨q,hq,rfl⟩:=mem_map.mp hp;refine⟨?_,ahc _ _⟩;show(q.1++ [m]).length<=_;rw[length_append];have:=(h q hq).1;simp only[length_singleton];omega
    intro p hp;have:=this p hp;rw[length_cons];exact⟨by omega,this.2⟩
theorem aiC(s:Vbreai.State)(l:List Nat):∀p∈yc s l,p.1.length<=l.length/\∀x∈p.2,x<7:=fun p hp=>by have:=EV s l 0 [([],[])] (fun p hp=>by rw[mem_singleton]at hp;subst hp;exact⟨le_refl _,fun x hx=>by cases hx⟩) p hp;exact⟨by omega,this.2⟩
def adg(H:Hp)(Q:VK)(l:List Pr):Prop:=∀(D:Addr) (H':Hp),H D=none->aA H H'->afx H' D l->Q (.ref D) H'
section
variable{P:Program}{w:World}{K:Frag}{mg:Str->Option Value}{base:Heap}
def agX(C:Addr):Sp:=fun vs H Q _=>∃(p:Addr) (A:FA) (s:Vbreai.State),vs=[.ref p]/\aL C H p A s/\Wf s/\adg H Q (yc s s.due)
theorem lW(T:Txt K mg):ay P w K mg base bo 3 T.bC.f T.bC.fd ["fleet"] (agX T.ah):=by
  have bc:ay P w K mg base bo 2 _ _ _ _:=cj T;have Dz:ay P w K mg base bo 1 _ _ _ _:=IY T;refine T.bC.F.ok bF (fun vs H Q E h=>?_) (fun bP A outer s H vs Q E hr h=>?_)
  . obtain⟨p,A,s,rfl,_⟩:=h;rfl
  . obtain⟨p,A',st,rfl,F,W,k⟩:=h;refine⟨_,(ag (aY (i:=1) (bF.nd) rfl (Or.inl rfl) (aS (aa (rW (aa (aS ab) (aa (aS ab) ab))) ab))) (ag (dQ PassesOwn.never rfl (ba (bf (pv 0) (by rfl))) (aC (i:=2) (bF.nd) (by rfl) (by exact Or.inr rfl)) (ag (aY (i:=3) (bF.nd) rfl (Or.inr rfl) (bT (pv 0) T.ao T.aU.m bc (hr.mono (by decide)) T.aU.b .nil aI (aa (pv 2) ab))) (ai (aY (i:=1) (bF.nd) rfl (Or.inl rfl) (bV pJ (pv 1) (dh rfl (bF.nd) (ba (pv 1)) (own:=[("crews",4),("boats",5)]) (bG rfl) (fun _ _ _ _ _=>by exact(pL (K:=K) (n:=2) rfl rfl (bE (aC (i:=4) (bF.nd) (by rfl) (by exact Or.inl rfl)) (bE (aC (i:=5) (bF.nd) (by rfl) (by exact Or.inl rfl)) fH)))) (fun _ _ _ _ _=>by exact bI) (fun _ _ _ _ _=>by exact(rW (aa (bV pJ (pv 4) (aS (aa (pv 2) ab))) (aa (aH Dz (hr.mono (by decide)) rfl T.gB.g T.gB.F.kp T.gB.b .nil aI (aa (pv 5) (aa (pv 3) ab))) ab)))))))))) (ai (aq (pv 1))))),?_⟩;have hl:=cR W;refine⟨sz (by simp),fun q1 hq1=>⟨sz (by simp),fun q2 Wl=>⟨sz (by simp),fun q3 hq3=>⟨sz (by simp),fun D0 EZ=>?_⟩⟩⟩⟩;have s1:=ak (o:=.lst []) hq1;have s2:=ak (o:=.lst []) Wl;have s3:=ak (o:=.tup [.ref q1,.ref q2]) hq3;have s4:=ak (o:=.lst [.ref q3]) EZ;have s0:=((s1.trans s2).trans s3).trans s4;have F0:=F.same s0;refine⟨_,rfl,p,_,_,_,_,rfl,F0.ins,T.ao,T.aQ,ll,A'.d,rfl,⟨_,aN.of F0.d⟩,?_⟩;refine oo (xs:=ax st.due) (fun i σ H1=>∃D m1 m2,σ=[some (.ref p),some (.ref D),m1,m2,none,none]/\H D=none/\aA H H1/\afx H1 D (yc st (st.due.take i))) ⟨D0,none,none,rfl,((s1.trans s2).trans s3).free EZ,s0,[q3],ae,.cons ⟨q1,q2,s4 _ _ ae,s4 _ _ (s3 _ _ (s2 _ _ ae)),s4 _ _ (s3 _ _ ae)⟩ .nil⟩ (fun i σ H1 ⟨D,_,_,_,_,s,_⟩=>aN.of (F.same s).d) ?_ ?_
    . rintro i x σ H1 hx ⟨D,m1,m2,rfl,hD,s1,ts,hd,LS⟩;obtain⟨c,hc,rfl⟩:=bO hx;have F1:=F.same s1;refine⟨_,rfl,p,_,_,rfl,F1.ins,rfl,_,rfl,p,A',st,c,rfl,F1,tj W hc,W.b7,fun B H2 hB s2 eB=>?_⟩;rw[<-br]at eB;have dD:(yc st (st.due.take i)).length<=128:=by rw[LG];refine VD ?_;rw[length_take];omega
      have adZ:=aD LS;refine⟨_,rfl,_,rfl,D,rfl,⟨_,aN.of (s2 _ _ hd)⟩,?_⟩;refine lR (xs:=ts.map V.ref) (v5 PrH ((yc st (st.due.take i)).map (Bo st c))) (aN.of (s2 _ _ hd)) (sz (by simp;omega)) (fun _ _=>fE) ?_ ?_
      . intro D2 acc j H3 x Y N hx v4 s3 oK r hY hN;obtain⟨t,ht,rfl⟩:=cq hx;obtain⟨pr,Ks,XD⟩:=aV LS ht;have hpm:=aiC st _ pr (mem_of_getElem? Ks);obtain⟨x,y,e1,e2,e3⟩:=(XD.same s2).same s3;have hti:(st.due.take i).length<=7:=by rw[length_take];omega
        refine⟨t,_,rfl,mT.of e1,rfl,_,_,rfl,_,_,rfl,rfl,rfl,yes ⟨_,rfl,_,rfl,sz (by simp),fun u1 M4=>?_⟩⟩;have t1:=ak (o:=.lst [V.int (c:Nat)]) M4;refine⟨x,u1,_,_,rfl,rfl,t1 _ _ e2,ae,sz (by simp[ax];omega),fun u2 E4=>?_⟩;have t2:=ak (o:=.lst (ax pr.1++ [V.int (c:Nat)])) E4;have Y9:=t1.trans t2;refine⟨_,rfl,_,rfl,y,B,pr.2,boatsFor st c,rfl,Y9 _ _ e3,Y9 _ _ (s3 _ _ eB),hpm.2,DT W c,fun u3 H4 hu3 t3 eu3=>?_⟩;refine⟨sz (by simp),fun u4 hu4=>hY _ _ ((Y9.trans t3).trans (ak hu4)) ?_⟩;rw[<-br]at eu3;have agZ:=Y9.trans t3;refine d6 (fun _ _ _ _ s z=>z.same s) r (x:=Bo st c pr) (by rw[getElem?_map,Ks];rfl) (Off.mono (agZ.trans (ak hu4))) ⟨u2,u3,iM oK (agZ.free hu4) ae,iM oK (t1.free E4) (ak hu4 _ _ (t3 _ _ ?_)),iM oK (Y9.free hu3) (ak hu4 _ _ eu3)⟩;rw[ae];simp[ax,Bo]
      . intro D2 acc H3 v4 s3 oK _ r;obtain⟨ts2,rfl,q⟩:=fD r (by simp[adZ]);have l2:=aD q;rw[length_map]at l2;have s23:=s2.trans s3;refine⟨D,D2,_,_,rfl,rfl,s23 _ _ hd,oK,sz (by simp;omega),fun p2 Hn=>?_⟩;have HI:=s1.trans s23;refine⟨p2,_,_,rfl,HI.free Hn,bv HI (HI.free Hn),ts++ts2,by rw[ae,map_append],?_⟩;rw[take_snoc hc,Oq];exact dg (Paired.et LS fun _ _ z=>(z.same s23).same (ak Hn)) (Paired.et q fun _ _ z=>(z.same Off.same).same (ak Hn))
    . rintro σ H1 ⟨D,m1,m2,rfl,hD,s1,h⟩;refine⟨_,rfl,?_⟩;have e:(ax st.due).length=st.due.length:=by simp[ax]
      rw[e,take_length]at h;exact k D H1 hD s1 h
def mJ(p:Pr):Nat:=p.1.length-p.2.length
def iX(s:Vbreai.State):Nat:=greatest ((yc s s.due).map mJ)
theorem eX:∀(l:List Nat) (n:Nat),n<=l.foldl max n/\(∀y∈l,y<=l.foldl max n)/\(l.foldl max n=n\/l.foldl max n∈l)
  | [],n=>⟨le_refl _,(fun y hy=>by cases hy),.inl rfl⟩
  | a::l,n=>by
    obtain⟨h1,h2,h3⟩:=eX l (max n a);rw[foldl_cons];refine⟨by omega,fun y hy=>?_,?_⟩
    . rcases mem_cons.mp hy with rfl | hy
      . omega
      . exact h2 y hy
    . rcases h3 with h3 | h3
      . rw[h3];by_cases h:a<=n
        . left;omega
        . right;rw[show max n a=a by omega];exact mem_cons_self
      . exact .inr (mem_cons_of_mem _ h3)
theorem MS{l:List Nat}{m:Nat}(h:m∈l)(hm:∀y∈l,y<=m):m=greatest l:=by
  obtain⟨h1,h2,h3⟩:=eX l 0;unfold greatest;have:=h2 m h;rcases h3 with h3 | h3
  . omega
  . have:=hm _ h3;omega
theorem wO{l:List Nat}{m:Int}(h:m∈az l)(hm:∀y∈az l,y<=m):m=(greatest l:Nat):=by
  obtain⟨n,hn,rfl⟩:=mem_map.mp h;have:=MS hn fun y hy=>by have:=hm (y:Int) (mem_map.mpr ⟨y,hy,rfl⟩);omega
  omega
def acw(C:Addr):Sp:=fun vs H Q _=>∃(p:Addr) (A:FA) (s:Vbreai.State),vs=[.ref p]/\aL C H p A s/\Wf s/\∀H',aA H H'->Q (.int (iX s:Nat)) H'
theorem TH(s:Vbreai.State)(l:List Nat):0<(yc s l).length:=by rw[LG];exact pow_pos (by omega)
theorem GO{s:Vbreai.State}(W:Wf s):(yc s s.due).length<=128:=by rw[LG];exact VD (cR W)
theorem HE(T:Txt K mg):ay P w K mg base bo 4 T.eQ.f T.eQ.fd ["fleet"] (acw T.ah):=by
  have gi:ay P w K mg base bo 3 _ _ _ _:=lW T;have sM:ay P w K mg base bo 1 _ _ _ _:=FY T;refine T.eQ.F.ok nQ (fun vs H Q E h=>?_) (fun bP A outer s H vs Q E hr h=>?_)
  . obtain⟨p,A,s,rfl,_⟩:=h;rfl
  . obtain⟨p,A',st,rfl,F,W,k⟩:=h;refine⟨_,(ai (aq (aJ (W6 rfl) rfl T.AU JK (aa (dh rfl (nQ.nd) (ba (aH gi (hr.mono (by decide)) rfl T.bC.g T.bC.F.kp T.bC.b .nil aI (aa (pv 0) ab))) (own:=[("pair",1)]) (bG rfl) (fun _ _ _ _ _=>by exact(aC (i:=1) (nQ.nd) (by rfl) (by exact Or.inl rfl))) (fun _ _ _ _ _=>by exact bI) (fun _ _ _ _ _=>by exact(aH sM (hr.mono (by decide)) rfl T.cX.g T.cX.F.kp T.cX.b .nil aI (aa (pv 1) ab)))) ab)))),?_⟩;have hl:=GO W;refine⟨_,rfl,p,A',st,rfl,F,W,fun D1 H1 hD1 s1 ⟨ts,tZ,LS⟩=>⟨D1,rfl,⟨_,aN.of tZ⟩,?_⟩⟩;have dD:=aD LS;refine lR (xs:=ts.map V.ref) (RelM (fun p=>V.int (mJ p:Nat)) (yc st st.due)) (aN.of tZ) (sz (by simp;omega)) (fun _ _=>rfl) ?_ ?_
    . intro D acc i H2 x Y N hx hD s2 hd r hY hN;obtain⟨t,ht,rfl⟩:=cq hx;obtain⟨pr,Ks,XD⟩:=aV LS ht;obtain⟨x,y,e1,e2,e3⟩:=XD.same s2;exact⟨rfl,yes ⟨_,rfl,t,x,y,pr.1,pr.2,rfl,e1,e2,e3,hY _ _ (aA.refl _) (ck r Ks rfl)⟩⟩
    . intro D acc H2 hD s2 hd _ r;have e:=c9 r (by simp[dD]);refine⟨D,az ((yc st st.due).map mJ),rfl,aN.of (by rw[hd,e];unfold az;rw[map_map,map_map];rfl),?_,fun m hm hle=>?_⟩
      . unfold az;rw[length_map,length_map];exact TH _ _
      . rw[wO hm hle];exact k H2 (s1.trans s2)
def gr(s:Vbreai.State):List Nat:=s.due.filter fun c=>((yc s s.due).filter fun p=>mJ p==iX s).all fun p=>p.1.contains c
def VU(C:Addr):Sp:=fun vs H Q _=>∃(p:Addr) (A:FA) (s:Vbreai.State),vs=[.ref p]/\aL C H p A s/\Wf s/\bL H Q (az (gr s))
def ahf{α:Type}(R:Hp->Addr->α->Prop)(f:α->Bool)(xs:List α)(i:Nat)(acc:List V)(H:Hp):Prop:=∃ps:List Addr,acc=ps.map V.ref/\Paired (R H) ps ((xs.take i).filter f)
theorem UG{H:Hp}{ps:List Addr}{L:List Pr}(q:Paired (fun p (pr:Pr)=>H p=some (.lst (ax pr.1))) ps L):Paired (fun p xs=>H p=some (.lst (ax xs))) ps (L.map (·.1)):=by
  induction q with
  | nil=>exact .nil
  | cons h t ih=>exact .cons h ih
theorem zX(T:Txt K mg):ay P w K mg base bo 4 T.cW.f T.cW.fd ["fleet"] (VU T.ah):=by
  have gi:ay P w K mg base bo 3 _ _ _ _:=lW T;have sM:ay P w K mg base bo 1 _ _ _ _:=FY T;have OQ:ay P w K mg base bo 1 _ _ _ _:=NJ T;refine T.cW.F.ok bz (fun vs H Q E h=>?_) (fun bP A outer s H vs Q E hr h=>?_)
  . obtain⟨p,A,s,rfl,_⟩:=h;rfl
  . obtain⟨p,A',st,rfl,F,W,k⟩:=h;refine⟨_,(ag (aY (i:=1) (bz.nd) rfl (Or.inl rfl) (aH gi (hr.mono (by decide)) rfl T.bC.g T.bC.F.kp T.bC.b .nil aI (aa (pv 0) ab))) (ag (aY (i:=2) (bz.nd) rfl (Or.inr rfl) (aJ (W6 rfl) rfl T.AU JK (aa (dh rfl (bz.nd) (ba (pv 1)) (own:=[("pair",3)]) (bG rfl) (fun _ _ _ _ _=>by exact(aC (i:=3) (bz.nd) (by rfl) (by exact Or.inl rfl))) (fun _ _ _ _ _=>by exact bI) (fun _ _ _ _ _=>by exact(aH sM (hr.mono (by decide)) rfl T.cX.g T.cX.F.kp T.cX.b .nil aI (aa (pv 3) ab)))) ab))) (ag (aY (i:=4) (bz.nd) rfl (Or.inr rfl) (dh rfl (bz.nd) (ba (pv 1)) (own:=[("pair",3)]) (bG rfl) (fun _ _ _ _ _=>by exact(aC (i:=3) (bz.nd) (by rfl) (by exact Or.inl rfl))) (fun _ _ _ _ _=>by exact(pO (cT FZ (aH sM (hr.mono (by decide)) rfl T.cX.g T.cX.F.kp T.cX.b .nil aI (aa (pv 3) ab)) (pv 2) (ez _)))) (fun _ _ _ _ _=>by exact(a9 (aaH (K:=K) rfl) (pv 3) aE (fun _ _=>rfl))))) (ai (aq (dh rfl (bz.nd) (ba (bf (pv 0) (by rfl))) (own:=[("crew",5)]) (bG rfl) (fun _ _ _ _ _=>by exact(aC (i:=5) (bz.nd) (by rfl) (by exact Or.inl rfl))) (fun _ _ _ _ _=>by exact(pO (fU (aH OQ (hr.mono (by decide)) rfl T.io.g T.io.F.kp T.io.b .nil aI (aa (pv 4) (aa (pv 5) ab)))))) (fun _ _ _ _ _=>by exact(pv 5)))))))),?_⟩;have hl:=GO W;have hdl:=cR W;refine⟨_,rfl,p,A',st,rfl,F,W,fun D1 H1 hD1 s1 ⟨ts,tZ,LS⟩=>⟨_,rfl,D1,rfl,⟨_,aN.of tZ⟩,?_⟩⟩;have dD:=aD LS;refine lR (xs:=ts.map V.ref) (RelM (fun p=>V.int (mJ p:Nat)) (yc st st.due)) (aN.of tZ) (sz (by simp;omega)) (fun _ _=>rfl) ?_ ?_
    . intro D acc i H2 x Y N hx hD s2 hd r hY hN;obtain⟨t,ht,rfl⟩:=cq hx;obtain⟨pr,Ks,XD⟩:=aV LS ht;obtain⟨x,y,e1,e2,e3⟩:=XD.same s2;exact⟨rfl,yes ⟨_,rfl,t,x,y,pr.1,pr.2,rfl,e1,e2,e3,hY _ _ (aA.refl _) (ck r Ks rfl)⟩⟩
    . intro D acc H2 hD s2 hd _ r;have e:=c9 r (by simp[dD]);refine⟨D,az ((yc st st.due).map mJ),rfl,aN.of (by rw[hd,e];unfold az;rw[map_map,map_map];rfl),(by unfold az;rw[length_map,length_map];exact TH _ _),fun m hm hle=>?_⟩;rw[wO hm hle];have tx:=s1.trans s2;refine⟨_,rfl,D1,rfl,⟨_,aN.of (s2 _ _ tZ)⟩,?_⟩;refine lR (xs:=ts.map V.ref) (ahf (fun H p (pr:Pr)=>H p=some (.lst (ax pr.1))) (fun p=>mJ p==iX st) (yc st st.due)) (aN.of (s2 _ _ tZ)) (sz (by simp;omega)) (fun _ _=>⟨[],rfl,.nil⟩) ?_ ?_
      . intro D acc i H3 x Y N hx hD s3 hd r hY hN;obtain⟨t,ht,rfl⟩:=cq hx;obtain⟨pr,Ks,XD⟩:=aV LS ht;obtain⟨x,y,f1,f2,f3⟩:=XD.same s2;have e1:=s3 _ _ f1;have e2:=s3 _ _ f2;have e3:=s3 _ _ f3;obtain⟨ps,rfl,q⟩:=r;have hxD:x≠D:=aM f2 hD;refine⟨rfl,_,rfl,t,x,y,pr.1,pr.2,rfl,e1,e2,e3,_,rfl,rfl,_,rfl,?_⟩;by_cases z:mJ pr=iX st
        . have z':decide (V.int ((pr.1.length-pr.2.length:Nat):Int)=V.int (iX st:Nat))=true:=decide_eq_true (by rw[<-z];rfl);refine Eq.mpr (congrArg (fun b=>if b=true then _ else _) z') (cx ⟨_,rfl,t,_,_,_,rfl,rfl,mT.of e1,rfl,hY _ _ (aA.refl _) ⟨ps++ [x],by simp,?_⟩⟩);rw[take_snoc Ks,filter_append,filter_cons,if_pos (by simpa using z)];exact dg q (.cons (by show Off D H3 x=_;rw[Off.ne hxD];exact e2) .nil)
        . have z':decide (V.int ((pr.1.length-pr.2.length:Nat):Int)=V.int (iX st:Nat))=false:=decide_eq_false (fun q=>z (by injection q with q;exact Int.ofNat.inj q));refine Eq.mpr (congrArg (fun b=>if b=true then _ else _) z') (cU (hN _ (aA.refl _) ⟨ps,rfl,?_⟩));rw[take_snoc Ks,filter_append,filter_cons,if_neg (by simpa using z)];simpa using q
      . intro D2 acc H3 v4 s3 hd2 _ r;obtain⟨ps,rfl,q⟩:=r;rw[length_map,dD,take_length]at q;have HI:=tx.trans s3;have F3:=F.same HI;refine⟨_,rfl,p,_,_,_,_,rfl,F3.ins,T.ao,T.aQ,ll,A'.d,rfl,⟨_,aN.of F3.d⟩,?_⟩;have hLs:yf H3 D2 (((yc st st.due).filter fun p=>mJ p==iX st).map (·.1)):=by exact⟨ps,hd2,UG (Paired.et q fun _ _ z=>Off.same _ _ z)⟩
        have hfl:((yc st st.due).filter fun p=>mJ p==iX st).length<=128:=le_trans (length_filter_le _ _) hl;refine lR (xs:=ax st.due) (fun i acc _=>acc=ax ((st.due.take i).filter fun c=>((yc st st.due).filter fun p=>mJ p==iX st).all fun p=>p.1.contains c)) (aN.of F3.d) (sz (by simp[ax];omega)) (fun _ _=>rfl) ?_ ?_
        . intro D acc i H4 x Y N hx hD s4 hd r hY hN;obtain⟨c,hc,rfl⟩:=bO hx;refine⟨rfl,_,rfl,_,rfl,D2,_,c,rfl,hLs.same s4,by rw[length_map];omega,fun H5 s5=>⟨_,rfl,?_⟩⟩;rw[all_map];by_cases z:(((yc st st.due).filter fun p=>mJ p==iX st).all fun p=>p.1.contains c)=true
          . refine Eq.mpr (congrArg (fun b=>if b=true then _ else _) z) (cx ⟨_,rfl,hY _ _ s5 ?_⟩);rw[r,take_snoc hc,filter_append,filter_cons,if_pos z];simp[ax]
          . rw[not_eq_true]at z;refine Eq.mpr (congrArg (fun b=>if b=true then _ else _) z) (cU (hN _ s5 ?_));rw[r,take_snoc hc,filter_append,filter_cons,if_neg (by rw[z];decide)];simp
        . intro D acc H4 hD s4 hd _ r;refine k D H4 (HI.free hD) (HI.trans s4) ?_;rw[hd,r,<-br];have e:(ax st.due).length=st.due.length:=by simp[ax]
          rw[e,take_length];rfl
def yu(s:Vbreai.State)(l:List Nat):List Nat:=l.foldl (fun b c=>ZI b (boatsFor s c)) []
theorem EW(s:Vbreai.State):∀(l b:List Nat),(∀x∈b,x<7)->∀x∈l.foldl (fun b c=>ZI b (boatsFor s c)) b,x<7
  | [],b,h=>h
  | c::l,b,h=>EW s l _ (ahc _ _)
def VW(C:Addr):Sp:=fun vs H Q _=>∃(p:Addr) (A:FA) (s:Vbreai.State) (a:Addr) (l:List Nat),vs=[.ref p,.ref a]/\aL C H p A s/\Wf s/\H a=some (.lst (ax l))/\(∀c∈l,c<s.crews)/\bL H Q (az (yu s l))
theorem NH(T:Txt K mg):ay P w K mg base bo 3 T.ik.f T.ik.fd ["fleet","crews"] (VW T.ah):=by
  have bc:ay P w K mg base bo 2 _ _ _ _:=cj T;have Dz:ay P w K mg base bo 1 _ _ _ _:=IY T;refine T.ik.F.ok mN (fun vs H Q E h=>?_) (fun bP A outer s H vs Q E hr h=>?_)
  . obtain⟨p,A,s,a,l,rfl,_⟩:=h;rfl
  . obtain⟨p,A',st,a,l,rfl,F,W,ha,hl,k⟩:=h;refine⟨_,(ag (aY (i:=2) (mN.nd) rfl (Or.inl rfl) (aS ab)) (ag (dQ PassesOwn.never rfl (ba (pv 1)) (aC (i:=3) (mN.nd) (by rfl) (by exact Or.inl rfl)) (ai (aY (i:=2) (mN.nd) rfl (Or.inl rfl) (aH Dz (hr.mono (by decide)) rfl T.gB.g T.gB.F.kp T.gB.b .nil aI (aa (pv 2) (aa (bT (pv 0) T.ao T.aU.m bc (hr.mono (by decide)) T.aU.b .nil aI (aa (pv 3) ab)) ab)))))) (ai (aq (pv 2))))),?_⟩;refine⟨sz (by simp),fun D0 EZ=>?_⟩;have s0:aA H (upd H D0 (.lst [])):=ak EZ;refine⟨_,rfl,a,rfl,⟨_,aN.of (s0 _ _ ha)⟩,?_⟩;refine oo (xs:=ax l) (fun i σ H1=>∃D m,σ=[some (.ref p),some (.ref a),some (.ref D),m]/\H D=none/\aA H H1/\H1 D=some (.lst (ax (yu st (l.take i))))) ⟨D0,none,rfl,EZ,s0,ae⟩ (fun i σ H1 ⟨D,_,_,_,s,_⟩=>aN.of (s _ _ ha)) ?_ ?_
    . rintro i x σ H1 hx ⟨D,m,rfl,hD,s1,hd⟩;obtain⟨c,hc,rfl⟩:=bO hx;have F1:=F.same s1;refine⟨_,rfl,_,rfl,p,_,_,rfl,F1.ins,rfl,_,rfl,p,A',st,c,rfl,F1,hl c (mem_of_getElem? hc),W.b7,fun B H2 hB s2 eB=>?_⟩;rw[<-br]at eB;refine⟨D,B,_,_,rfl,s2 _ _ hd,eB,EW st _ _ (fun x hx=>by cases hx),DT W c,fun D2 H3 v4 s3 e3=>?_⟩;have HI:=s1.trans s2;refine⟨D2,_,rfl,HI.free v4,HI.trans s3,?_⟩;rw[e3,<-br,take_snoc hc];unfold yu;rw[foldl_append];rfl
    . rintro σ H1 ⟨D,m,rfl,hD,s1,h⟩;refine⟨_,rfl,?_⟩;have e:(ax l).length=l.length:=by simp[ax]
      rw[e,take_length,br]at h;exact k D H1 hD s1 h
end
end My
namespace My
open PySem PySem.Spec PyProof.Rows L2 HT
theorem acN{d:Addr}{o:Obj}{aB:List (Key×V)}{g:TG}{tb:TS}{D:Ends}{σ:L2.St}{H:Hp}(Pv:Nat->L2.St->Hp->Prop)(h0:Pv 0 σ H)(hq:∀i σ H,Pv i σ H->H d=some (.gG o (.dK aB)))(hs:∀i k v T σ H,aB[i]? =some (k,v)->H T=none->Pv i σ H->g (.ref T) σ (upd H T (.tup [kV k,v])) fun σ2 H2=>tb { D with nx:=Pv (i+1),ct:=Pv (i+1),bk:=D.nx} σ2 H2)(hd:∀σ H,Pv aB.length σ H->D.nx σ H):∃W:Nat->Nat->L2.St->Hp->Prop,(∃m,W 0 m σ H)/\∀i m σ H,W i m σ H->((Iti d o aB).stop i H/\D.nx σ H)\/((Iti d o aB).go i H/\∃N:L2.St->Hp->Prop,(∀σ' H',N σ' H'->∃m',m'<m/\W (i+1) m' σ' H')/\∀x H',(Iti d o aB).LW i H x H'->g x σ H' fun σ2 H2=>tb { D with nx:=N,ct:=N,bk:=D.nx} σ2 H2):=
  sT aB.length Pv h0 (fun i σ H hi p=>⟨hq _ _ _ p,hi⟩) (fun σ H p=>⟨hq _ _ _ p,le_refl _⟩)
    (fun i x σ H H' hi p y=>by obtain⟨T,k,v,e,rfl,n,rfl⟩:=y;exact hs i k v T σ H e n p) hd
theorem afJ{d:Addr}{o:Obj}{aB:List (Key×V)}{g:TG}{tb:TS}{D:Ends}{σ:L2.St}{H:Hp}(Pv:Nat->L2.St->Hp->Prop)(h0:Pv 0 σ H)(hq:∀i σ H,Pv i σ H->H d=some (.gG o (.dK aB)))(hs:∀i k v σ H,aB[i]? =some (k,v)->Pv i σ H->g v σ H fun σ2 H2=>tb { D with nx:=Pv (i+1),ct:=Pv (i+1),bk:=D.nx} σ2 H2)(hd:∀σ H,Pv aB.length σ H->D.nx σ H):∃W:Nat->Nat->L2.St->Hp->Prop,(∃m,W 0 m σ H)/\∀i m σ H,W i m σ H->((Itd d o aB).stop i H/\D.nx σ H)\/((Itd d o aB).go i H/\∃N:L2.St->Hp->Prop,(∀σ' H',N σ' H'->∃m',m'<m/\W (i+1) m' σ' H')/\∀x H',(Itd d o aB).LW i H x H'->g x σ H' fun σ2 H2=>tb { D with nx:=N,ct:=N,bk:=D.nx} σ2 H2):=
  sT aB.length Pv h0 (fun i σ H hi p=>⟨hq _ _ _ p,hi⟩) (fun σ H p=>⟨hq _ _ _ p,le_refl _⟩)
    (fun i x σ H H' hi p y=>by obtain⟨rfl,k,e⟩:=y;exact hs i k x σ _ e p) hd
theorem mw{H:Hp}{a x:Addr}{o:HO}(h:upd H a o x=none):H x=none:=by
  by_cases e:x=a
  . rw[e,ae]at h;cases h
  . rwa[au e]at h
theorem mP{H H1:Hp}{d:Addr}{u o:HO}(hd:H d=some u)(s:aA (upd H d o) H1):aA H (upd H1 d u):=fun b v e=>by
  by_cases z:b=d
  . rw[z,ae];rw[z,hd]at e;exact e
  . rw[au z];exact s b v (by rw[au z];exact e)
theorem zH{H H1:Hp}{d:Addr}{u o:HO}(s:aA H H1):aA (upd H d o) (upd H1 d o):=fun b v e=>by
  by_cases z:b=d
  . rw[z,ae]at e ⊢;exact e
  . rw[au z]at e ⊢;exact s b v e
def ad8:HO->Bool
  | .lst _=>true
  | .tup _=>true
  | _=>false
def Kp(H H':Hp):Prop:=∀q o,H q=some o->ad8 o=true->H' q=some o
theorem _root_.L2.aA.kp{H H':Hp}(s:aA H H'):Kp H H':=fun q o e _=>s q o e
theorem Kp.trans{H H1 H2:Hp}(a:Kp H H1)(b:Kp H1 H2):Kp H H2:=fun q o e t=>b q o (a q o e t) t
theorem Kp.refl(H:Hp):Kp H H:=fun _ _ e _=>e
theorem pA{H:Hp}{b:Addr}{o o':HO}(hb:H b=some o)(ho:ad8 o=false):Kp H (upd H b o'):=fun q u e t=>by
  have:q≠b:=fun z=>by rw[z,hb]at e;injection e with e;rw[e,t]at ho;cases ho
  rw[au this];exact e
theorem Kp.off{H H':Hp}{D:Addr}(a:Kp H H'):Kp (Off D H) (Off D H'):=fun q o e t=>by
  by_cases z:q=D
  . rw[z,Off.at_]at e;cases e
  . rw[Off.ne z]at e ⊢;exact a q o e t
abbrev Bg:=Int×List Nat
abbrev Fd:=List (Nat×Bg)
def fY(H0 H:Hp)(p:Addr)(e:Bg):Prop:=∃x:Addr,H0 x=none/\H p=some (.tup [.int e.1,.ref x])/\H x=some (.lst (ax e.2))
theorem fY.kp{H0 H H':Hp}{p:Addr}{e:Bg}(h:fY H0 H p e)(k:Kp H H'):fY H0 H' p e:=by obtain⟨x,a,b,c⟩:=h;exact⟨x,a,k _ _ b rfl,k _ _ c rfl⟩
theorem fY.old{H0 H0' H:Hp}{p:Addr}{e:Bg}(h:fY H0 H p e)(s:aA H0' H0):fY H0' H p e:=by obtain⟨x,a,b,c⟩:=h;exact⟨x,s.free a,b,c⟩
theorem fY.Yr{K:Frag}{H0 H:Hp}{p:Addr}{e:Bg}(h:fY H0 H p e):HW K H p e.1 (az e.2):=by obtain⟨x,a,b,c⟩:=h;exact⟨x,mT.of b,aN.of (by rw[c,br])⟩
def oM(H0 H:Hp)(kv:Key×V)(e:Nat×Bg):Prop:=kv.1=Sum.inl (e.1:Int)/\∃p,kv.2=.ref p/\fY H0 H p e.2
theorem oM.kp{H0 H H':Hp}{kv:Key×V}{e:Nat×Bg}(h:oM H0 H kv e)(k:Kp H H'):oM H0 H' kv e:=by obtain⟨a,p,b,c⟩:=h;exact⟨a,p,b,c.kp k⟩
def eY(l:Fd)(t:Nat):Option Bg:=(l.find? fun x=>decide (x.1=t)).map (·.2)
def Gj(l:Fd)(t:Nat)(e:Bg):Fd:=if (l.any fun x=>decide (x.1=t))=true then l.map (fun x=>if x.1=t then (x.1,e) else x) else l++ [(t,e)]
theorem J6{H0 H:Hp}{kv:Key×V}{e:Nat×Bg}(h:oM H0 H kv e)(t:Nat):decide (kv.1=Sum.inl (t:Int))=decide (e.1=t):=by rw[h.1];exact decide_eq_decide.mpr ⟨fun q=>by have:=Sum.inl.inj q;omega,fun q=>by rw[q]⟩
theorem SN{H0 H:Hp}(t:Nat):∀{aB:List (Key×V)} {fd:Fd},Paired (oM H0 H) aB fd->(aB.any fun kv=>decide (kv.1=Sum.inl (t:Int)))=fd.any fun x=>decide (x.1=t)
  | _,_,.nil=>rfl
  | _,_,.cons h r=>by rw[any_cons,any_cons,J6 h t,SN t r]
theorem SQ{H0 H:Hp}(t:Nat):∀{aB:List (Key×V)} {fd:Fd},Paired (oM H0 H) aB fd->(eY fd t=none->sE aB (Sum.inl (t:Int))=none)/\∀e,eY fd t=some e->∃p,sE aB (Sum.inl (t:Int))=some (.ref p)/\fY H0 H p e
  | _,_,.nil=>⟨fun _=>rfl,fun e h=>by cases h⟩
  | kv::aB,x::fd,.cons h r=>by
    have k:=J6 h t;obtain⟨i1,i2⟩:=SQ t r;by_cases z:x.1=t
    . have k':kv.1=Sum.inl (t:Int):=by rw[decide_eq_true z]at k;exact of_decide_eq_true k
      have g:eY (x::fd) t=some x.2:=by unfold eY;rw[find?_cons,decide_eq_true z];rfl
      refine⟨(fun q=>by rw[g]at q;cases q),fun e he=>?_⟩;rw[g]at he;injection he with he;obtain⟨p,hp,hq⟩:=h.2;exact⟨p,by rw[sG k',hp],he▸hq⟩
    . have k':¬kv.1=Sum.inl (t:Int):=by rw[decide_eq_false z]at k;exact of_decide_eq_false k
      have g:eY (x::fd) t=eY fd t:=by unfold eY;rw[find?_cons,decide_eq_false z]
      rw[g,sF k'];exact⟨i1,i2⟩
theorem SS{H0 H:Hp}(t:Nat){p:Addr}{e:Bg}(hp:fY H0 H p e):∀{aB:List (Key×V)} {fd:Fd},Paired (oM H0 H) aB fd->Paired (oM H0 H) (aB.map (fun kv=>if kv.1=Sum.inl (t:Int) then (kv.1,V.ref p) else kv)) (fd.map (fun x=>if x.1=t then (x.1,e) else x))
  | _,_,.nil=>.nil
  | kv::aB,x::fd,.cons h r=>by
    show Paired _ (_::_) (_::_);refine .cons ?_ (SS t hp r);have k:=J6 h t;by_cases z:x.1=t
    . have k':kv.1=Sum.inl (t:Int):=by rw[decide_eq_true z]at k;exact of_decide_eq_true k
      dsimp only;rw[if_pos z,if_pos k'];exact⟨h.1,p,rfl,hp⟩
    . have k':¬kv.1=Sum.inl (t:Int):=by rw[decide_eq_false z]at k;exact of_decide_eq_false k
      dsimp only;rw[if_neg z,if_neg k'];exact h
theorem aay{H0 H:Hp}{t:Nat}{p:Addr}{e:Bg}(hp:fY H0 H p e){aB:List (Key×V)}{fd:Fd}(q:Paired (oM H0 H) aB fd):Paired (oM H0 H) (putK aB (Sum.inl (t:Int)) (.ref p)) (Gj fd t e):=by
  unfold putK Gj;rw[SN t q];split
  . exact SS t hp q
  . exact dg q (.cons ⟨rfl,p,rfl,hp⟩ .nil)
theorem NX(l:Fd)(t:Nat)(e:Bg):(Gj l t e).length<=l.length+1:=by
  unfold Gj;split
  . rw[length_map];omega
  . rw[length_append];exact le_refl _
def yt(e:Bg):List Int:=e.1::az e.2
def yd(t:Nat)(e:Bg)(lg:Fd)(o:Nat×Int):Fd:=
  if t.testBit o.1=true then lg else
    match eY lg (t||| 2^o.1)with
    | none=>Gj lg (t||| 2^o.1) (e.1+o.2,e.2++ [o.1])
    | some old=>if HT.lexLt (yt (e.1+o.2,e.2++ [o.1])) (yt old)=true then Gj lg (t||| 2^o.1) (e.1+o.2,e.2++ [o.1]) else lg
def OC(off:List (Nat×Int))(lg:Fd)(x:Nat×Bg):Fd:=off.foldl (yd x.1 x.2) lg
def wn(fd:Fd)(off:List (Nat×Int)):Fd:=fd.foldl (OC off) []
theorem acF(t:Nat)(e:Bg)(lg:Fd)(o:Nat×Int):(yd t e lg o).length<=lg.length+1:=by
  unfold yd;split
  . omega
  . split
    . exact NX _ _ _
    . split
      . exact NX _ _ _
      . omega
theorem LL(x:Nat×Bg):∀(off:List (Nat×Int)) (lg:Fd),(off.foldl (yd x.1 x.2) lg).length<=lg.length+off.length
  | [],lg=>le_refl _
  | o::off,lg=>by rw[foldl_cons,length_cons];have:=LL x off (yd x.1 x.2 lg o);have:=acF x.1 x.2 lg o;omega
theorem Sa(off:List (Nat×Int)):∀(fd lg:Fd),(fd.foldl (OC off) lg).length<=lg.length+fd.length*off.length
  | [],lg=>by simp
  | x::fd,lg=>by rw[foldl_cons,length_cons,Nat.succ_mul];have:=Sa off fd (OC off lg x);have:(OC off lg x).length<=lg.length+off.length:=LL x off lg;omega
theorem Sh(t b:Nat):(t&&& 2^b=0)↔t.testBit b=false:=by
  constructor
  . intro h;have:=congrArg (fun n=>n.testBit b) h;simp only[Nat.testBit_and,Nat.testBit_two_pow_self,Bool.and_true,Nat.zero_testBit]at this;exact this
  . intro h;refine Nat.eq_of_testBit_eq fun i=>?_;rw[Nat.testBit_and,Nat.testBit_two_pow,Nat.zero_testBit];by_cases e:b=i
    . rw[<-e,h];rfl
    . rw[decide_eq_false e,Bool.and_false]
theorem WH(t b:Nat):(Builtin.bitAnd (t:Int) (1*2^((b:Int)).toNat) !=0)=t.testBit b:=by
  have e:(1:Int)*2^((b:Int)).toNat=((2^b:Nat):Int):=by rw[Int.one_mul,toNat_natCast];simp
  rw[e,bitAnd_pp (by omega) (Int.natCast_nonneg _),toNat_natCast,toNat_natCast];cases h:t.testBit b with
  | false=>rw[(Sh t b).mpr h];rfl
  | true=>
    have:t&&& 2^b≠0:=fun z=>by rw[(Sh t b).mp z]at h;cases h
    exact bne_iff_ne.mpr (by omega)
theorem aeJ(t b:Nat):Builtin.bitOr (t:Int) (1*2^((b:Int)).toNat)=((t||| 2^b:Nat):Int):=by
  have e:(1:Int)*2^((b:Int)).toNat=((2^b:Nat):Int):=by rw[Int.one_mul,toNat_natCast];simp
  rw[e,Bits.WJ (by omega) (Int.natCast_nonneg _),toNat_natCast,toNat_natCast]
theorem W5{b:Nat}(h:b<1000000):afp 1 (b:Int):=⟨by omega,by omega,by decide⟩
def ON(H0 H:Hp)(a:Addr)(fd:Fd):Prop:=∃aB,H a=some (.dK aB)/\Paired (oM H0 H) aB fd
def Wu(H:Hp)(Q:VK)(fd:Fd):Prop:=∀(D:Addr) (H':Hp),H D=none->aA H H'->ON H H' D fd->Q (.ref D) H'
theorem adA{l:List (Nat×Int)}{i:Nat}{k:Key}{v:V}(h:(yO l)[i]? =some (k,v)):∃x,l[i]? =some x/\k=Sum.inl (x.1:Int)/\v=.int x.2:=by unfold yO at h;rw[getElem?_map]at h;obtain⟨x,e1,e2⟩:=Option.map_eq_some_iff.mp h;injection e2 with e2 e3;exact⟨x,e1,e2.symm,e3.symm⟩
section
variable{P:Program}{w:World}{K:Frag}{mg:Str->Option Value}{base:Heap}
def aiB:Sp:=fun vs H Q _=>∃(a b:Addr) (H0:Hp) (fd:Fd) (off:List (Nat×Int)),vs=[.ref a,.ref b]/\ON H0 H a fd/\H b=some (.dK (yO off))/\a≠b/\(∀x∈off,x.1<7)/\fd.length*off.length<=1000000/\(∀x∈fd,x.2.2.length<=100)/\
  Wu H Q (wn fd off)
theorem xy(T:Txt K mg):ay P w K mg base bo 1 T.cG.f T.cG.fd ["found","offer"] (aiB):=by
  refine T.cG.F.ok bM (fun vs H Q E h=>?_) (fun bP A outer s H vs Q E hr h=>?_)
  . obtain⟨a,b,H0,fd,off,rfl,_⟩:=h;rfl
  . obtain⟨a,b,H0,fd,off,rfl,⟨aB,ha,hfd⟩,hb,UJ,h7,hsz,ahu,k⟩:=h;refine⟨_,(ag (aY (i:=2) (bM.nd) rfl (Or.inl rfl) NM) (ag (Ll (dQ PassesOwn.never rfl (F9 (pv 0)) (Ab rfl (bE (aC (i:=3) (bM.nd) (by rfl) (by exact Or.inl rfl)) (bE (aC (i:=4) (bM.nd) (by rfl) (by exact Or.inl rfl)) fH))) (ai (Ll (dQ PassesOwn.never rfl (F9 (pv 1)) (Ab rfl (bE (aC (i:=5) (bM.nd) (by rfl) (by exact Or.inl rfl)) (bE (aC (i:=6) (bM.nd) (by rfl) (by exact Or.inl rfl)) fH))) (ag (bW (r9 (bV Yo (pv 3) (bV Ri aE (pv 5))) (fun _=>rfl)) (ai r8) aZ) (ag (aY (i:=7) (bM.nd) rfl (Or.inl rfl) (bV agw (pv 3) (bV Ri aE (pv 5)))) (ag (aY (i:=8) (bM.nd) rfl (Or.inl rfl) (rW (aa (bV nL (a9 lA (pv 4) aE (fun _ _=>rfl)) (pv 6)) (aa (bV pJ (a9 lA (pv 4) aE (fun _ _=>rfl)) (aS (aa (pv 5) ab))) ab)))) (ai (bW ((Tv (jR (Vu (M5 hr) (pv 7) (pv 2))) (Lm (cT (aeG hr.units) (pv 8) (Ti (M5 hr) (pv 2) (pv 7) (fun _ _=>rfl)) (ez _))))).pt (ai (Tu (M5 hr) (pv 2) (pv 7) (pv 8) rfl)) aZ)))))))))) (ai (aq (pv 2))))),?_⟩;refine fun D hD=>?_;have haD:a≠D:=aM ha hD;have hbD:b≠D:=aM hb hD;refine⟨a,.dK aB,by rw[au haD];exact ha,trivial,fun oa=>?_⟩;refine⟨_,rfl,a,oa,aB,rfl,ae,?_⟩;have kl:Kp H (upd H a (.gG oa (.dK aB))):=pA ha rfl;have II:upd H a (.gG oa (.dK aB)) b=some (.dK (yO off)):=by rw[au UJ.symm];exact hb
    have hlen:=aD hfd;refine acN (fun i σ H2=>∃m3 m4 m5 m6 m7 m8 zz,σ=[some (.ref a),some (.ref b),some (.ref D),m3,m4,m5,m6,m7,m8]/\aA (upd H a (.gG oa (.dK aB))) H2/\H2 D=some (.dK zz)/\Paired (oM H (Off D H2)) zz ((fd.take i).foldl (OC off) []))
      ⟨none,none,none,none,none,none,[],rfl,zH (u:=.dK aB) (ak hD),(by rw[au haD.symm,ae]),.nil⟩ (fun i σ H2 ⟨_,_,_,_,_,_,_,_,s,_⟩=>s _ _ ae) ?_ ?_
    . rintro i ky v Tp σ H2 wU MT ⟨m3,m4,m5,m6,m7,m8,zz,rfl,s2,hd2,Hn⟩;obtain⟨⟨t,e⟩,hte,hk,p,hv,hpn⟩:=aV hfd wU;dsimp only at hk hv;subst hk hv;have aiO:e.2.length<=100:=ahu _ (mem_of_getElem? hte);have aiZ:H Tp=none:=mw (s2.free MT);have s3:=s2.trans (ak (o:=.tup [kV (Sum.inl (t:Int)),.ref p]) MT);have oK:upd H2 Tp (.tup [kV (Sum.inl (t:Int)),.ref p]) D=some (.dK zz):=ak MT _ _ hd2;have hp3:Paired (oM H (Off D (upd H2 Tp (.tup [kV (Sum.inl (t:Int)),.ref p])))) zz ((fd.take i).foldl (OC off) []):=Paired.et Hn fun _ _ z=>z.kp (ak MT).kp.off;have hT3:upd H2 Tp (.tup [kV (Sum.inl (t:Int)),.ref p]) Tp=some (.tup [.int (t:Int),.ref p]):=ae;generalize upd H2 Tp (.tup [kV (Sum.inl (t:Int)),.ref p])=H3 at s3 oK hp3 hT3;have ahS:fY H0 H3 p e:=(hpn.kp kl).kp s3.kp;refine⟨Tp,_,rfl,mT.of hT3,rfl,_,_,rfl,_,_,rfl,rfl,?_⟩;refine⟨b,.dK (yO off),s3 _ _ II,trivial,fun ob=>?_⟩;refine⟨_,rfl,b,ob,yO off,rfl,ae,?_⟩;have k4:Kp H3 (upd H3 b (.gG ob (.dK (yO off)))):=pA (s3 _ _ II) rfl;have ahT:=ahS.kp k4;refine acN (fun j σ H5=>∃m5 m6 m7 m8 oz,σ=[some (.ref a),some (.ref b),some (.ref D),some (.int (t:Int)),some (.ref p),m5,m6,m7,m8]/\aA (upd (upd H a (.gG oa (.dK aB))) b (.gG ob (.dK (yO off)))) H5/\fY H0 H5 p e/\H5 D=some (.dK oz)/\Paired (oM H (Off D H5)) oz ((off.take j).foldl (yd t e) ((fd.take i).foldl (OC off) [])))
        ⟨m5,m6,m7,m8,zz,rfl,zH (u:=.dK aB) s3,ahT,(by rw[au hbD.symm];exact oK),Paired.et hp3 fun _ _ z=>z.kp k4.off⟩ (fun i σ H2 ⟨_,_,_,_,_,_,s,_⟩=>s _ _ ae) ?_ ?_
      . rintro j ky v Tp σ H5 wU adO ⟨n5,n6,n7,n8,oz,rfl,s5,aga,S7,hp5⟩;obtain⟨⟨bt,co⟩,hbc,rfl,rfl⟩:=adA wU;dsimp only;have Zx:=h7 _ (mem_of_getElem? hbc);have s6:=s5.trans (ak (o:=.tup [kV (Sum.inl (bt:Int)),.int co]) adO);have kk:Kp H5 (upd H5 Tp (.tup [kV (Sum.inl (bt:Int)),.int co])):=(ak adO).kp;have hd6:upd H5 Tp (.tup [kV (Sum.inl (bt:Int)),.int co]) D=some (.dK oz):=ak adO _ _ S7;have hp6:Paired (oM H (Off D (upd H5 Tp (.tup [kV (Sum.inl (bt:Int)),.int co])))) oz ((off.take j).foldl (yd t e) ((fd.take i).foldl (OC off) [])):=Paired.et hp5 fun _ _ z=>z.kp kk.off;have hT6:upd H5 Tp (.tup [kV (Sum.inl (bt:Int)),.int co]) Tp=some (.tup [.int (bt:Int),.int co]):=ae;have ad4:=aga.kp kk;generalize upd H5 Tp (.tup [kV (Sum.inl (bt:Int)),.int co])=H6 at s6 hd6 hp6 hT6 ad4;refine⟨Tp,_,rfl,mT.of hT6,rfl,_,_,rfl,_,_,rfl,rfl,?_⟩;have SM:(off.take (j+1)).foldl (yd t e) ((fd.take i).foldl (OC off) [])=yd t e ((off.take j).foldl (yd t e) ((fd.take i).foldl (OC off) [])) (bt,co):=by rw[take_snoc hbc,foldl_append];rfl
        have hln:oz.length<=2000000:=by rw[aD hp6];have a1:=LL (t,e) (off.take j) ((fd.take i).foldl (OC off) []);dsimp only at a1;have a2:=Sa off (fd.take i) [];have a3:(off.take j).length<=off.length:=length_take_le' _ _;have a4:(fd.take i).length*off.length<=fd.length*off.length:=Nat.mul_le_mul_right _ (length_take_le' _ _);have a5:off.length<=fd.length*off.length:=Nat.le_mul_of_pos_left _ (Nat.pos_of_ne_zero fun z=>by rw[length_eq_zero_iff.mp z]at hte;simp at hte);simp only[length_nil,zero_add]at a2;omega
        generalize (off.take j).foldl (yd t e) ((fd.take i).foldl (OC off) [])=lg at hp6 SM;refine⟨_,rfl,_,rfl,_,_,rfl,rfl,W5 (by omega),_,_,rfl,rfl,_,rfl,?_⟩;rw[WH];by_cases Kq:t.testBit bt=true
        . rw[Kq];refine cx ⟨_,_,_,_,oz,rfl,s6,ad4,hd6,?_⟩;rw[SM];unfold yd;rw[if_pos Kq];exact hp6
        . rw[not_eq_true]at Kq;rw[Kq];refine cU ?_;obtain⟨x,hx0,hpx,hxl⟩:=ad4;refine⟨_,rfl,_,rfl,_,_,rfl,rfl,W5 (by omega),_,_,rfl,rfl,?_⟩;simp only[aeJ];refine⟨_,rfl,p,_,_,_,rfl,rfl,mT.of hpx,rfl,_,rfl,_,_,rfl,rfl,_,rfl,p,_,_,_,rfl,rfl,mT.of hpx,rfl,_,rfl,sz (by simp),fun u1 M4=>?_⟩;have t1:=ak (o:=.lst [.int (bt:Int)]) M4;refine⟨x,u1,_,_,rfl,rfl,t1 _ _ hxl,ae,sz (by simp[ax];omega),fun u2 E4=>?_⟩;have t2:=ak (o:=.lst (ax e.2++ [.int (bt:Int)])) E4;refine⟨sz (by simp),fun u3 hu3=>?_⟩;have t3:=ak (o:=.tup [.int (e.1+co),.ref u2]) hu3;have tt:=(t1.trans t2).trans t3;have XH:H u2=none:=mw (mw (s6.free (t1.free E4)));have wW:fY H (Off D (upd (upd (upd H6 u1 (.lst [.int (bt:Int)])) u2 (.lst (ax e.2++ [.int (bt:Int)]))) u3 (.tup [.int (e.1+co),.ref u2]))) u3 (e.1+co,e.2++ [bt]):=
            ⟨u2,XH,iM hd6 ((t1.trans t2).free hu3) ae,iM hd6 (t1.free E4) (t3 _ _ (by rw[ae];simp[ax]))⟩
          have s7:=s6.trans tt;have hd7:=tt _ _ hd6;have hp7:Paired (oM H _) oz lg:=Paired.et hp6 fun _ _ z=>z.kp tt.kp.off;have ad5:fY H0 _ p e:=fY.kp ⟨x,hx0,hpx,hxl⟩ tt.kp;generalize upd (upd (upd H6 u1 (.lst [.int (bt:Int)])) u2 (.lst (ax e.2++ [.int (bt:Int)]))) u3 (.tup [.int (e.1+co),.ref u2])=H7 at wW s7 hd7 hp7 ad5;obtain⟨g1,g2⟩:=SQ (t||| 2^bt) hp7;have aaE:∀(n5 n6 n7 n8:Option V),yd t e lg (bt,co)=Gj lg (t||| 2^bt) (e.1+co,e.2++ [bt])->∃m5 m6 m7 m8 Nc,[some (V.ref a),some (V.ref b),some (V.ref D),some (V.int (t:Int)),some (V.ref p),n5,n6,n7,n8]=[some (V.ref a),some (V.ref b),some (V.ref D),some (V.int (t:Int)),some (V.ref p),m5,m6,m7,m8]/\
              aA (upd (upd H a (.gG oa (.dK aB))) b (.gG ob (.dK (yO off)))) (upd H7 D (.dK (putK oz (Sum.inl ((t||| 2^bt:Nat):Int)) (.ref u3))))/\fY H0 (upd H7 D (.dK (putK oz (Sum.inl ((t||| 2^bt:Nat):Int)) (.ref u3)))) p e/\(upd H7 D (.dK (putK oz (Sum.inl ((t||| 2^bt:Nat):Int)) (.ref u3)))) D=some (.dK Nc)/\Paired (oM H (Off D (upd H7 D (.dK (putK oz (Sum.inl ((t||| 2^bt:Nat):Int)) (.ref u3)))))) Nc ((off.take (j+1)).foldl (yd t e) ((fd.take i).foldl (OC off) [])):=by
            intro n5 n6 n7 n8 ew;refine⟨n5,n6,n7,n8,_,rfl,bv s7 ?_,ad5.kp (pA hd7 rfl),ae,?_⟩
            . rw[au hbD.symm,au haD.symm];exact hD
            . rw[Off.put,SM,ew];exact aay wW hp7
          have af0:∀(n5 n6 n7 n8:Option V),yd t e lg (bt,co)=lg->∃m5 m6 m7 m8 Nc,[some (V.ref a),some (V.ref b),some (V.ref D),some (V.int (t:Int)),some (V.ref p),n5,n6,n7,n8]=[some (V.ref a),some (V.ref b),some (V.ref D),some (V.int (t:Int)),some (V.ref p),m5,m6,m7,m8]/\
              aA (upd (upd H a (.gG oa (.dK aB))) b (.gG ob (.dK (yO off)))) H7/\fY H0 H7 p e/\H7 D=some (.dK Nc)/\Paired (oM H (Off D H7)) Nc ((off.take (j+1)).foldl (yd t e) ((fd.take i).foldl (OC off) [])):=by
            intro n5 n6 n7 n8 ew;refine⟨n5,n6,n7,n8,_,rfl,s7,ad5,hd7,?_⟩;rw[SM,ew];exact hp7
          refine⟨_,rfl,_,rfl,D,_,rfl,.inl ⟨oz,Sum.inl ((t||| 2^bt:Nat):Int),.inl hd7,rfl,rfl⟩,_,rfl,?_⟩;cases hg:eY lg (t||| 2^bt)with
          | none=>rw[g1 hg];refine cx (cx ?_);refine⟨_,rfl,_,rfl,_,rfl,D,_,rfl,.inl ⟨oz,Sum.inl ((t||| 2^bt:Nat):Int),hd7,rfl,lt_of_lt_of_le (by omega:oz.length<16000000) (sz (le_refl _)),rfl⟩,aaE _ _ _ _ ?_⟩;unfold yd;rw[if_neg (by simp[Kq]),hg]
          | some old=>
            obtain⟨po,hpo,hpn⟩:=g2 old hg;rw[hpo];refine cU ⟨_,rfl,_,rfl,_,rfl,D,_,rfl,.inl ⟨oz,Sum.inl ((t||| 2^bt:Nat):Int),.inl hd7,rfl,hpo.symm⟩,u3,po,_,_,_,_,rfl,rfl,(wW.kp Off.same.kp).Yr,(hpn.kp Off.same.kp).Yr,_,rfl,?_⟩;by_cases dD:HT.lexLt (yt (e.1+co,e.2++ [bt])) (yt old)=true
            . refine Eq.mpr (congrArg (fun b=>if b=true then _ else _) dD) (cx ?_);refine⟨_,rfl,_,rfl,_,rfl,D,_,rfl,.inl ⟨oz,Sum.inl ((t||| 2^bt:Nat):Int),hd7,rfl,lt_of_lt_of_le (by omega:oz.length<16000000) (sz (le_refl _)),rfl⟩,aaE _ _ _ _ ?_⟩;unfold yd;rw[if_neg (by simp[Kq]),hg];exact if_pos dD
            . rw[not_eq_true]at dD;refine Eq.mpr (congrArg (fun b=>if b=true then _ else _) dD) (cU (af0 _ _ _ _ ?_));unfold yd;rw[if_neg (by simp[Kq]),hg];exact if_neg (by rw[dD];decide)
      . rintro σ H5 ⟨n5,n6,n7,n8,oz,rfl,s5,aga,S7,hp5⟩;refine⟨s5 _ _ ae,_,_,_,_,_,_,oz,rfl,mP II s5,by rw[au hbD.symm];exact S7,?_⟩;have el:(yO off).length=off.length:=by simp[yO]
        rw[el,take_length]at hp5;rw[take_snoc hte,foldl_append];exact Paired.et hp5 fun _ _ z=>z.kp (pA (s5 _ _ ae) rfl).off
    . rintro σ H2 ⟨m3,m4,m5,m6,m7,m8,zz,rfl,s2,hd2,Hn⟩;refine⟨s2 _ _ ae,_,rfl,?_⟩;rw[hlen,take_length]at Hn;refine k D _ hD (mP ha s2) ⟨zz,by rw[au haD.symm];exact hd2,?_⟩;exact Paired.et Hn fun _ _ z=>(z.kp Off.same.kp).kp (pA (s2 _ _ ae) rfl)
end
end My
namespace My
open PySem PySem.Spec PyProof.Rows L2 HT
theorem NY{l:Fd}{t:Nat}{e:Bg}{x:Nat×Bg}(h:x∈Gj l t e):x∈l\/(x.1=t/\x.2=e):=by
  unfold Gj at h;split at h
  . obtain⟨y,hy,hx⟩:=mem_map.mp h;by_cases z:y.1=t
    . rw[if_pos z]at hx;right;rw[<-hx];exact⟨z,rfl⟩
    . rw[if_neg z]at hx;left;rw[<-hx];exact hy
  . rcases mem_append.mp h with h | h
    . exact .inl h
    . right;rw[mem_singleton]at h;rw[h];exact⟨rfl,rfl⟩
theorem acG{t:Nat}{e:Bg}{lg:Fd}{o:Nat×Int}{x:Nat×Bg}(h:x∈yd t e lg o):x∈lg\/(t.testBit o.1=false/\x.1=t||| 2^o.1/\x.2=(e.1+o.2,e.2++ [o.1])):=by
  unfold yd at h;split at h
  . exact .inl h
  . next hb=>
    rw[not_eq_true]at hb;split at h
    . rcases NY h with h | ⟨a,b⟩
      . exact .inl h
      . exact .inr ⟨hb,a,b⟩
    . split at h
      . rcases NY h with h | ⟨a,b⟩
        . exact .inl h
        . exact .inr ⟨hb,a,b⟩
      . exact .inl h
theorem TR{e:Nat×Bg}{x:Nat×Bg}:∀{off:List (Nat×Int)} {lg:Fd},x∈off.foldl (yd e.1 e.2) lg->x∈lg\/∃o∈off,e.1.testBit o.1=false/\x.1=e.1||| 2^o.1/\x.2=(e.2.1+o.2,e.2.2++ [o.1])
  | [],lg,h=>.inl h
  | o::off,lg,h=>by
    rw[foldl_cons]at h;rcases TR h with h | ⟨o',ho,r⟩
    . rcases acG h with h | r
      . exact .inl h
      . exact .inr ⟨o,mem_cons_self,r⟩
    . exact .inr ⟨o',mem_cons_of_mem _ ho,r⟩
theorem TQ{off:List (Nat×Int)}{x:Nat×Bg}:∀{fd lg:Fd},x∈fd.foldl (OC off) lg->x∈lg\/∃e∈fd,∃o∈off,e.1.testBit o.1=false/\x.1=e.1||| 2^o.1/\x.2=(e.2.1+o.2,e.2.2++ [o.1])
  | [],lg,h=>.inl h
  | e::fd,lg,h=>by
    rw[foldl_cons]at h;rcases TQ h with h | ⟨e',he,r⟩
    . rcases TR h with h | r
      . exact .inl h
      . exact .inr ⟨e,mem_cons_self,r⟩
    . exact .inr ⟨e',mem_cons_of_mem _ he,r⟩
theorem Zm{off:List (Nat×Int)}{x:Nat×Bg}{fd:Fd}(h:x∈wn fd off):∃e∈fd,∃o∈off,e.1.testBit o.1=false/\x.1=e.1||| 2^o.1/\x.2=(e.2.1+o.2,e.2.2++ [o.1]):=by
  rcases TQ h with h | h
  . cases h
  . exact h
def cf(aeA:List (List (Nat×Int))):Fd:=aeA.foldl wn [(0,(0,[]))]
theorem SA(l:List (List (Nat×Int)))(o:List (Nat×Int)):cf (l++ [o])=wn (cf l) o:=by unfold cf;rw[foldl_append];rfl
theorem El:∀(l:List (List (Nat×Int))) (fd:Fd) (n:Nat),(∀o∈l,o.length<=7)->(∀x∈fd,x.2.2.length=n)->(l.foldl wn fd).length<=fd.length*7^l.length/\∀x∈l.foldl wn fd,x.2.2.length=n+l.length
  | [],fd,n,_,h=>⟨by simp,by simpa using h⟩
  | o::l,fd,n,h7,h=>by
    rw[foldl_cons];have h1:(wn fd o).length<=fd.length*o.length:=by have:=Sa o fd [];rw[length_nil,zero_add]at this;exact this
    have h2:∀x∈wn fd o,x.2.2.length=n+1:=fun x hx=>by obtain⟨e,he,o',_,_,_,r⟩:=Zm hx;rw[r];show(e.2.2++ [o'.1]).length=_;rw[length_append,h e he];rfl
    obtain⟨i1,i2⟩:=El l (wn fd o) (n+1) (fun o ho=>h7 o (mem_cons_of_mem _ ho)) h2;refine⟨?_,fun x hx=>?_⟩
    . rw[length_cons,pow_succ];have a:=h7 o mem_cons_self;have b:fd.length*o.length<=fd.length*7:=Nat.mul_le_mul_left _ a;calc _<=(wn fd o).length*7^l.length:=i1
        _<=fd.length*7*7^l.length:=Nat.mul_le_mul_right _ (le_trans h1 b)
        _=fd.length*(7^l.length*7):=by rw[mul_assoc,mul_comm 7]
    . rw[i2 x hx,length_cons];omega
theorem afD{l:List (List (Nat×Int))}(hl:l.length<=6)(h7:∀o∈l,o.length<=7):(cf l).length<=117649:=by obtain⟨a,b⟩:=El l [(0,(0,[]))] 0 h7 (fun x hx=>by rw[mem_singleton]at hx;rw[hx];rfl);have:7^l.length<=7^6:=Nat.pow_le_pow_right (by omega) hl;have a':(cf l).length<=1*7^l.length:=a;omega
theorem ahm{l:List (List (Nat×Int))}(hl:l.length<=7)(h7:∀o∈l,o.length<=7):(cf l).length<=823543/\∀x∈cf l,x.2.2.length=l.length:=by obtain⟨a,b⟩:=El l [(0,(0,[]))] 0 h7 (fun x hx=>by rw[mem_singleton]at hx;rw[hx];rfl);have:7^l.length<=7^7:=Nat.pow_le_pow_right (by omega) hl;refine⟨?_,fun x hx=>by rw[b x hx];omega⟩;have a':(cf l).length<=1*7^l.length:=a;omega
def ai8(x:Nat×Bg):List Int:=yt x.2
def HV(fd:Fd)(e:Bg):Prop:=(∃t,(t,e)∈fd)/\∀x∈fd,HT.lexLt (yt x.2) (yt e)=false
def DsH(H:Hp)(a:Addr)(aO:List (List (Nat×Int))):Prop:=∃ps:List Addr,H a=some (.lst (ps.map V.ref))/\Paired (fun p l=>H p=some (.dK (yO l))) ps aO
theorem DsH.same{H H':Hp}{a:Addr}{aO:List (List (Nat×Int))}(h:DsH H a aO)(s:aA H H'):DsH H' a aO:=by obtain⟨ps,h1,h2⟩:=h;exact⟨ps,s _ _ h1,Paired.et h2 fun _ _ z=>s _ _ z⟩
structure Sf(aO:List (List (Nat×Int))):Prop where
  l:aO.length<=7
  o:∀o∈aO,o.length<=7/\∀x∈o,x.1<7
theorem TM{K:Frag}{H0 H:Hp}:∀{aB:List (Key×V)} {fd:Fd},Paired (oM H0 H) aB fd->acJ K H aB (fd.map fun x=>(x.2.1,az x.2.2))
  | _,_,.nil=>.nil
  | _,_,.cons h r=>by refine .cons ?_ (TM r);obtain⟨_,p,hp,q⟩:=h;exact⟨p,hp,q.Yr⟩
section
variable{P:Program}{w:World}{K:Frag}{mg:Str->Option Value}{base:Heap}
def Sd(fd:Fd)(H:Hp)(Q:VK):Prop:=(fd=[]->∀H',aA H H'->Q .dZ H')/\∀e,HV fd e->∀p H',aA H H'->fY H H' p e->Q (.ref p) H'
def Oe:Sp:=fun vs H Q _=>∃(a:Addr) (aO:List (List (Nat×Int))),vs=[.ref a]/\DsH H a aO/\Sf aO/\Sd (cf aO) H Q
structure PSB(X:Cx)(s:Stmt)(t:TS):Prop where
  h:PS X s t
structure afv(X:Cx)(s:List Stmt)(t:TS):Prop where
  h:OF X s t
structure ZQ(X:Cx)(e:Expr)(t:TE):Prop where
  h:PE X e t
structure PAB(X:Cx)(e:List Expr)(t:TA):Prop where
  h:PA X e t
theorem acK{X:Cx}{i j pos}:ZQ X (.Constant (.int i) j pos) (tC (.int i)):=⟨aE⟩
theorem afz{X:Cx}{pos}:ZQ X (.List [] pos) (afh R1):=⟨aS ab⟩
theorem ahl{X:Cx}{e f:Expr}{te tf:TE}(h:ZQ X e te)(k:ZQ X f tf)(h1:starEach [e,f] X.env=(false,eval e X.env)::starEach [f] X.env)(h2:starEach [f] X.env=(false,eval f X.env)::starEach [] X.env):PAB X [e,f] (Ot te (Ot tf R1)):=⟨aa h.h (aa k.h ab h2) h1⟩
theorem afA{X:Cx}{es:List Expr}{t:TA}{x1 pos}(h:PAB X es t):ZQ X (.Tuple es x1 pos) (aha t):=⟨rW h.h⟩
theorem mY{X:Cx}{e f:Expr}{te tf:TE}{pos}(h:ZQ X e te)(k:ZQ X f tf):ZQ X (.Dict [some e] [f] pos) (ac6 [(te,tf)]):=⟨abH (YB h.h k.h abX) rfl rfl (by intro z;cases z) (by show 1<=15;decide)⟩
theorem qC{X:Cx}{i:Nat}{x:Str}{e:Expr}{te:TE}{pos' pos:Pos}(hN:X.N.Nodup)(hi:X.N[i]? =some x)(hx:Loc X.env.scope x)(he:ZQ X e te)(hs:swapsWith e (some (.Name x pos')) pos.line X.env=pure false)(hf:X.fn x=true\/X.env.scope.names.lookup x=some .local):PSB X (.Assign [.Name x pos'] e pos) (acz te (IH i)):=⟨aY hN hi hx he.h hs hf⟩
theorem adq{X:Cx}{st:Stmt}{rest:List Stmt}{t u:TS}(h1:PSB X st t)(h2:OF X rest u):afv X (st::rest) (afi t u):=⟨ag h1.h h2⟩
theorem ahk{X:Cx}{l:List Stmt}{u:TS}{D:Ends}{s:L2.St}{H:Hp}(h:afv X l u)(q:u D s H):∃t,OF X l t/\t D s H:=⟨_,h.h,q⟩
theorem fS(T:Txt K mg):ay P w K mg base bo 2 T.a8.f T.a8.fd ["offers"] (Oe):=by
  have ye:ay P w K mg base bo 1 _ _ _ _:=xy T;refine T.a8.F.ok dS (fun vs H Q E h=>?_) (fun bP A outer s H vs Q E hr h=>?_)
  . obtain⟨a,aO,rfl,_⟩:=h;rfl
  . obtain⟨a,aO,rfl,⟨ps,ha,IJ⟩,bj,kn,ks⟩:=h;refine ahk (adq (qC (i:=1) (dS.nd) rfl (Or.inl rfl) (mY acK (afA (ahl acK afz rfl rfl))) rfl (.inl rfl)) (ag (dQ PassesOwn.never rfl (ba (pv 0)) (aC (i:=2) (dS.nd) (by rfl) (by exact Or.inl rfl)) (ai (aY (i:=1) (dS.nd) rfl (Or.inl rfl) (aH ye (hr.mono (by decide)) rfl T.cG.g T.cG.F.kp T.cG.b .nil aI (aa (pv 1) (aa (pv 2) ab)))))) (ag (bW (dy (r9 (pv 1) (fun _=>rfl))) (ai (aq vG)) aZ) (ai (aq (Rk rfl (by exact aiM hr) T.AV (pv 1))))))) ?_;refine fun D0 EZ=>⟨sz (by simp),fun u1 M4=>⟨sz (by simp),fun u2 E4=>?_⟩⟩;have s1:=ak (o:=.dK []) EZ;have s2:=ak (o:=.lst []) M4;have s3:=ak (o:=.tup [.int 0,.ref u1]) E4;have s0:=(s1.trans s2).trans s3;have hd0:upd (upd (upd H D0 (.dK [])) u1 (.lst [])) u2 (.tup [.int 0,.ref u1]) D0=some (.dK []):=s3 _ _ (s2 _ _ ae);have hlen:=aD IJ;refine⟨hd0,[(Sum.inl 0,.ref u2)],rfl,by simp,?_⟩;have s4:aA H (upd (upd (upd (upd H D0 (.dK [])) u1 (.lst [])) u2 (.tup [.int 0,.ref u1])) D0 (.dK (fR [] [(Sum.inl 0,.ref u2)]))):=bv s0 EZ;refine⟨_,rfl,a,rfl,⟨_,aN.of (s4 _ _ ha)⟩,?_⟩;refine oo (xs:=ps.map V.ref) (fun i σ H1=>∃D m,σ=[some (.ref a),some (.ref D),m]/\H D=none/\aA H H1/\ON H H1 D (cf (aO.take i))) ⟨D0,none,rfl,EZ,s4,_,ae,?_⟩ (fun i σ H1 ⟨D,_,_,_,s,_⟩=>aN.of (s _ _ ha)) ?_ ?_
    . show Paired _ [((Sum.inl 0:Key),V.ref u2)] [(0,(0,[]))];refine .cons ⟨rfl,u2,rfl,u1,s1.free M4,?_,?_⟩ .nil
      . rw[au (aM (s2 _ _ ae) E4).symm,ae]
      . rw[au (aM ae M4).symm];exact s3 _ _ ae
    . rintro i x σ H1 hx ⟨D,m,rfl,hD,s1,aB,hd,wU⟩;obtain⟨q,hq,rfl⟩:=cq hx;obtain⟨off,ad1,hqo⟩:=aV IJ hq;have hom:=bj.o off (mem_of_getElem? ad1);obtain⟨c1,c2⟩:=ahm (l:=aO.take i) (by rw[length_take];have:=bj.l;omega) (fun o ho=>(bj.o o (mem_of_mem_take ho)).1);refine⟨_,rfl,_,rfl,D,q,H,cf (aO.take i),off,rfl,⟨aB,hd,wU⟩,s1 _ _ hqo,(fun e=>by rw[e,hqo]at hD;cases hD),hom.2,?_,fun x hx=>?_,fun D2 H2 v4 s2 hf2=>?_⟩
      . have l1:i<aO.length:=(List.getElem?_eq_some_iff.mp ad1).1;have:=afD (l:=aO.take i) (by rw[length_take];have:=bj.l;omega) (fun o ho=>(bj.o o (mem_of_mem_take ho)).1);have l2:=hom.1;calc (cf (aO.take i)).length*off.length<=117649*7:=Nat.mul_le_mul this l2
          _<=1000000:=by omega
      . rw[c2 x hx,length_take];have:=bj.l;omega
      . refine⟨D2,_,rfl,s1.free v4,s1.trans s2,?_⟩;rw[take_snoc ad1,SA];obtain⟨zz,e1,e2⟩:=hf2;exact⟨zz,e1,Paired.et e2 fun _ _ ⟨z1,p,z2,z3⟩=>⟨z1,p,z2,z3.old s1⟩⟩
    . rintro σ H1 ⟨D,m,rfl,hD,s1,aB,hd,wU⟩;rw[length_map,hlen,take_length]at wU;refine⟨_,rfl,!aB.isEmpty,.inr (.inr ⟨aB,hd,rfl⟩),?_⟩;cases UM:aB with
      | nil=>
        rw[UM]at wU;have e:cf aO=[]:=by have:=aD wU;exact length_eq_zero_iff.mp this.symm
        exact cx (kn e H1 s1)
      | cons kv ai7=>
        refine cU ⟨_,rfl,D,aB,_,rfl,hd,TM wU,?_,fun i k p e hi he ahM=>?_⟩
        . rw[length_map,<-aD wU,UM];exact Nat.succ_pos _
        . obtain⟨x,hx,_,p',hp',hpn⟩:=aV wU hi;injection hp' with hp';rw[getElem?_map,hx]at he;have he:=Option.some.inj he;refine ks x.2 ⟨⟨x.1,mem_of_getElem? hx⟩,fun y hy=>?_⟩ p H1 s1 (hp'▸hpn);have:=ahM (y.2.1,az y.2.2) (mem_map.mpr ⟨y,hy,rfl⟩);rw[<-he]at this;exact this
end
end My
namespace My
open PySem PySem.Spec PyProof.Rows L2 HT
def wM(bs:List Nat):List (Nat×Int):=bs.map fun b=>(b,(0:Int))
structure LsOk(aj:List (List Nat)):Prop where
  l:aj.length<=7
  n:∀xs∈aj,xs.Pairwise (· < ·)
  b:∀xs∈aj,∀x∈xs,x<7
theorem LsOk.len{aj:List (List Nat)}(h:LsOk aj){xs:List Nat}(m:xs∈aj):xs.length<=7:=Dl (h.n xs m) (h.b xs m)
theorem LsOk.nd{aj:List (List Nat)}(h:LsOk aj){xs:List Nat}(m:xs∈aj):xs.Nodup:=(h.n xs m).imp fun z=>ne_of_lt z
theorem LsOk.off{aj:List (List Nat)}(h:LsOk aj):Sf (aj.map wM):=by refine⟨by rw[length_map];exact h.l,fun o ho=>?_⟩;obtain⟨xs,hx,rfl⟩:=mem_map.mp ho;refine⟨by unfold wM;rw[length_map];exact h.len hx,fun x Qj=>?_⟩;obtain⟨b,hb,rfl⟩:=mem_map.mp Qj;exact h.b xs hx b hb
theorem AX(s:Vbreai.State)(c:Nat):(boatsFor s c).Pairwise (· < ·):=List.Pairwise.filter _ pairwise_lt_range
theorem dP{s:Vbreai.State}(W:Wf s):LsOk (aO s):=by
  refine⟨by unfold aO;rw[length_map];exact cR W,fun xs hx=>?_,fun xs hx=>?_⟩
  . obtain⟨c,_,rfl⟩:=mem_map.mp hx;exact AX s c
  . obtain⟨c,_,rfl⟩:=mem_map.mp hx;exact DT W c
section
variable{P:Program}{w:World}{K:Frag}{mg:Str->Option Value}{base:Heap}
def Se(fd:Fd)(H:Hp)(Q:VK):Prop:=(fd=[]->∀H',aA H H'->Q .dZ H')/\∀e,HV fd e->∀x H',H x=none->aA H H'->H' x=some (.lst (ax e.2))->Q (.ref x) H'
def YW:Sp:=fun vs H Q _=>∃(a:Addr) (aj:List (List Nat)),vs=[.ref a]/\yf H a aj/\LsOk aj/\Se (cf (aj.map wM)) H Q
theorem qi(T:Txt K mg):ay P w K mg base bo 3 T.bZ.f T.bZ.fd ["offers"] (YW):=by
  have cZ:ay P w K mg base bo 2 _ _ _ _:=fS T;have adf:ay P w K mg base bo 1 _ _ _ _:=abx T;refine T.bZ.F.ok fI (fun vs H Q E h=>?_) (fun bP A outer s H vs Q E hr h=>?_)
  . obtain⟨a,aj,rfl,_⟩:=h;rfl
  . obtain⟨a,aj,rfl,⟨ps,ha,IJ⟩,bj,kn,ks⟩:=h;refine⟨_,(ag (aY (i:=1) (fI.nd) rfl (Or.inl rfl) (aH cZ (hr.mono (by decide)) rfl T.a8.g T.a8.F.kp T.a8.b .nil aI (aa (dh rfl (fI.nd) (ba (pv 0)) (own:=[("offer",2)]) (bG rfl) (fun _ _ _ _ _=>by exact(aC (i:=2) (fI.nd) (by rfl) (by exact Or.inl rfl))) (fun _ _ _ _ _=>by exact bI) (fun _ _ _ _ _=>by exact(aH adf (hr.mono (by decide)) rfl T.yR.g T.yR.F.kp T.yR.b .nil aI (aa (pv 2) ab)))) ab))) (ag (bW (jR (vF (pv 1))) (ai (aq vG)) aZ) (ai (aq (a9 lA (pv 1) aE (fun _ _=>rfl)))))),?_⟩;have hlen:=aD IJ;have hl:=bj.l;refine⟨_,rfl,a,rfl,⟨_,aN.of ha⟩,?_⟩;refine lR (xs:=ps.map V.ref) (v5 (fun H p l=>H p=some (.dK (yO l))) (aj.map wM)) (aN.of ha) (sz (by simp;omega)) (fun _ _=>fE) ?_ ?_
    . intro D acc i H1 x Y N hx hD s1 hd r hY hN;obtain⟨q,hq,rfl⟩:=cq hx;obtain⟨xs,IK,Dh⟩:=aV IJ hq;have hm:=mem_of_getElem? IK;have:=bj.len hm;refine⟨rfl,yes ⟨_,rfl,q,xs,rfl,aN.of (s1 _ _ Dh),bj.nd hm,by omega,fun B H2 hB s2 eB=>hY _ _ s2 ?_⟩⟩;exact d6 (fun _ _ _ _ s z=>s _ _ z) r (x:=wM xs) (by rw[getElem?_map,IK];rfl) (Off.mono s2) (iM hd hB eB)
    . intro D acc H1 hD s1 hd _ r;obtain⟨qs,rfl,q⟩:=fD r (by simp[hlen]);refine⟨D,_,rfl,⟨qs,hd,dI (fun _ _ z=>Off.same _ _ z) q⟩,bj.off,fun e H2 s2=>?_,fun e he p H2 s2 hp=>?_⟩
      . refine⟨_,rfl,_,rfl,cx (kn e H2 (s1.trans s2))⟩
      . obtain⟨x,hx0,hpx,hxl⟩:=hp;refine⟨_,rfl,_,rfl,cU ⟨_,rfl,p,_,_,_,rfl,rfl,mT.of hpx,rfl,ks e he x H2 (s1.free hx0) (s1.trans s2) hxl⟩⟩
theorem VG{s:Vbreai.State}(W:Wf s):Sf (s.due.map (fT s)):=by refine⟨by rw[length_map];exact cR W,fun o ho=>?_⟩;obtain⟨c,hc,rfl⟩:=mem_map.mp ho;have:=gu s c;have:=W.b7;refine⟨by unfold fT;rw[length_map];omega,fun x hx=>?_⟩;obtain⟨b,hb,rfl⟩:=mem_map.mp hx;exact DT W c b hb
def RV(C:Addr):Sp:=fun vs H Q _=>∃(p:Addr) (A:FA) (s:Vbreai.State),vs=[.ref p]/\aL C H p A s/\Wf s/\Sd (cf (s.due.map (fT s))) H Q
theorem Bq(T:Txt K mg):ay P w K mg base bo 4 T.dM.f T.dM.fd ["fleet"] (RV T.ah):=by
  have cZ:ay P w K mg base bo 2 _ _ _ _:=fS T;have DD:ay P w K mg base bo 3 _ _ _ _:=CF T;refine T.dM.F.ok sk (fun vs H Q E h=>?_) (fun bP A outer s H vs Q E hr h=>?_)
  . obtain⟨p,A,s,rfl,_⟩:=h;rfl
  . obtain⟨p,A',st,rfl,F,W,kn,ks⟩:=h;refine⟨_,(ai (aq (aH cZ (hr.mono (by decide)) rfl T.a8.g T.a8.F.kp T.a8.b .nil aI (aa (dh rfl (sk.nd) (ba (bf (pv 0) (by rfl))) (own:=[("crew",1)]) (bG rfl) (fun _ _ _ _ _=>by exact(aC (i:=1) (sk.nd) (by rfl) (by exact Or.inl rfl))) (fun _ _ _ _ _=>by exact bI) (fun _ _ _ _ _=>by exact(aH DD (hr.mono (by decide)) rfl T.du.g T.du.F.kp T.du.b .nil aI (aa (pv 0) (aa (pv 1) ab))))) ab)))),?_⟩;have hl:=cR W;refine⟨_,rfl,p,_,_,_,_,rfl,F.ins,T.ao,T.aQ,ll,A'.d,rfl,⟨_,aN.of F.d⟩,?_⟩;refine lR (xs:=ax st.due) (v5 (fun H p l=>H p=some (.dK (yO l))) (st.due.map (fT st))) (aN.of F.d) (sz (by simp[ax];omega)) (fun _ _=>fE) ?_ ?_
    . intro D acc i H1 x Y N hx hD s1 hd r hY hN;obtain⟨c,hc,rfl⟩:=bO hx;refine⟨rfl,yes ⟨_,rfl,_,rfl,p,A',st,c,rfl,F.same s1,tj W hc,W.b7,fun B H2 hB s2 eB=>hY _ _ s2 ?_⟩⟩;exact d6 (fun _ _ _ _ s z=>s _ _ z) r (x:=fT st c) (by rw[getElem?_map,hc];rfl) (Off.mono s2) (iM hd hB eB)
    . intro D acc H1 hD s1 hd _ r;obtain⟨qs,rfl,q⟩:=fD r (by simp[ax]);exact⟨D,_,rfl,⟨qs,hd,dI (fun _ _ z=>Off.same _ _ z) q⟩,VG W,fun e H2 s2=>kn e H2 (s1.trans s2),fun e he p H2 s2 hp=>ks e he p H2 (s1.trans s2) (hp.old s1)⟩
end
end My
namespace My
open PySem PySem.Spec PyProof.Rows L2 HT
theorem aia{d:Addr}{o:Obj}{aB:List (Key×V)}{g:TG}{tt:TT}{te:TE}{vs:List Nat}{σ:L2.St}{H:Hp}{Qd:Addr->Hp->Prop}(Rel:Nat->List V->Hp->Prop)(hq:H d=some (.gG o (.dK aB)))(hn:aB.length<=sizeLine)(h0:∀D,H D=none->Rel 0 [] (Off D H))(step:∀(D:Addr) (acc:List V) (i:Nat) (H1:Hp) (k:Key) (v:V) (T:Addr) (Y:VK) (N:Hp->Prop),aB[i]? =some (k,v)->H1 T=none->H D=none->aA H H1->H1 D=some (.lst acc)->Rel i acc (Off D H1)->(∀y H5,aA H1 H5->Rel (i+1) (acc++ [y]) (Off D H5)->Y y H5)->(∀H4,aA H1 H4->Rel (i+1) acc (Off D H4)->N H4)->g (.ref T) (wipe σ vs) (upd H1 T (.tup [kV k,v])) fun σ2 H3=>wipe σ2 vs=wipe σ vs/\tt σ2 H3 fun b H4=>if b=true then te σ2 H4 Y else N H4)(fin:∀D acc H1,H D=none->aA H H1->H1 D=some (.lst acc)->acc.length<=aB.length->Rel aB.length acc (Off D H1)->Qd D H1):∀D,H D=none->∃W:Nat->Nat->Hp->Prop,(∃m,W 0 m (upd H D (.lst [])))/\∀i m H,W i m H->((Iti d o aB).stop i H/\Qd D H)\/((Iti d o aB).go i H/\∃Nx:Hp->Prop,(∀H',Nx H'->∃m',m'<m/\W (i+1) m' H')/\∀x H',(Iti d o aB).LW i H x H'->g x (wipe σ vs) H' fun σ2 H2=>wipe σ2 vs=wipe σ vs/\tt σ2 H2 fun b H3=>if b=true then te σ2 H3 fun y H4=>∃acc,H4 D=some (.lst acc)/\acc.length<sizeLine/\Nx (upd H4 D (.lst (acc++ [y]))) else Nx H3):=
  Fw aB.length Rel hn h0 (fun i H' hi s=>⟨s _ _ hq,hi⟩) (fun H' s=>⟨s _ _ hq,le_refl _⟩)
    (fun D acc i H1 x H2 Y N hi hD s1 hd r y hY hN=>by obtain⟨T,k,v,e,rfl,n,rfl⟩:=y;exact step D acc i H1 k v T Y N e n hD s1 hd r hY hN) fin
def R0(aj:List (List Nat)):List Int:=Pw (List.replicate aj.length 1)
def mark(b:Nat)(xs:List Nat):Int:=if xs.contains b=true then 1 else 0
def Du(aj:List (List Nat))(b:Nat):List Int:=Pw (aj.map (mark b))
def Yw(a d:Addr):List (Str×V):=[("sizes",.ref a),("takers",.ref d)]
theorem Yx{a d:Addr}:(Yw a d).lookup ("sizes":Str)=some (V.ref a):=by rfl
theorem Ac{a d:Addr}:(Yw a d).lookup ("takers":Str)=some (V.ref d):=by rfl
def Dx(H:Hp)(f:Nat->List Int)(kv:Key×V)(b:Nat):Prop:=kv.1=Sum.inl (b:Int)/\∃q,kv.2=.ref q/\H q=some (.lst ((f b).map V.int))
theorem Dx.kp{H H':Hp}{f:Nat->List Int}{kv:Key×V}{b:Nat}(h:Dx H f kv b)(k:Kp H H'):Dx H' f kv b:=by obtain⟨a,q,e,c⟩:=h;exact⟨a,q,e,k _ _ c rfl⟩
def OU(H:Hp)(d:Addr)(f:Nat->List Int)(bs:List Nat):Prop:=∃aB,H d=some (.dK aB)/\Paired (Dx H f) aB bs
def ZR(C:Addr)(H:Hp)(p:Addr)(aj:List (List Nat)):Prop:=∃dx a d,H p=some (.ins C dx (Yw a d))/\H a=some (.lst ((R0 aj).map V.int))/\OU H d (Du aj) (iO aj)
theorem OU.same{H H':Hp}{d:Addr}{f:Nat->List Int}{bs:List Nat}(h:OU H d f bs)(s:aA H H'):OU H' d f bs:=by obtain⟨aB,a,b⟩:=h;exact⟨aB,s _ _ a,Paired.et b fun _ _ z=>z.kp s.kp⟩
theorem ZR.same{C:Addr}{H H':Hp}{p:Addr}{aj:List (List Nat)}(h:ZR C H p aj)(s:aA H H'):ZR C H' p aj:=by obtain⟨dx,a,d,h1,h2,h3⟩:=h;exact⟨dx,a,d,s _ _ h1,s _ _ h2,h3.same s⟩
def dU(p:Addr)(H H':Hp):Prop:=∀b o,H b=some o->b≠p->H' b=some o
theorem dU.next{p:Addr}{H H1 H2:Hp}(a:dU p H H1)(b:aA H1 H2):dU p H H2:=fun q o e n=>b q o (a q o e n)
theorem dU.put{p:Addr}{H H1:Hp}{o:HO}(a:dU p H H1):dU p H (upd H1 p o):=fun q u e n=>by rw[au n];exact a q u e n
theorem dU.agz{p d:Addr}{H H1:Hp}{o:HO}(a:dU p H H1)(h:H d=none):dU p H (upd H1 d o):=fun q u e n=>by rw[au (aM e h)];exact a q u e n
theorem dU.refl(p:Addr)(H:Hp):dU p H H:=fun _ _ e _=>e
theorem dU.free{p:Addr}{H H':Hp}(a:dU p H H'){l:Addr}(h:H' l=none)(n:l≠p):H l=none:=by
  cases e:H l with
  | none=>rfl
  | some o=>rw[a l o e n]at h;cases h
theorem dU.kp{p:Addr}{H H':Hp}{o:HO}(a:dU p H H')(hp:H p=some o)(ho:ad8 o=false):Kp H H':=fun q u e t=>a q u e fun z=>by rw[z,hp]at e;injection e with e;rw[e,t]at ho;cases ho
theorem yf.kp{H H':Hp}{a:Addr}{aj:List (List Nat)}(h:yf H a aj)(k:Kp H H'):yf H' a aj:=by obtain⟨ps,h1,h2⟩:=h;exact⟨ps,k _ _ h1 rfl,Paired.et h2 fun _ _ z=>k _ _ z rfl⟩
theorem Gp(n:Nat)(v:V):(List.replicate n [v]).flatten=List.replicate n v:=by
  induction n with
  | zero=>rfl
  | succ n ih=>rw[replicate_succ,flatten_cons,ih,replicate_succ];rfl
theorem Am{H:Hp}{f:Nat->List Int}{aB:List (Key×V)}{bs:List Nat}(h:Paired (Dx H f) aB bs){b:Nat}(hb:b∉bs)(v:V):putK aB (Sum.inl (b:Int)) v=aB++ [(Sum.inl (b:Int),v)]:=by
  refine NZ v (Jo fun m=>?_);obtain⟨kv,wU,e⟩:=mem_map.mp m;obtain⟨i,hi⟩:=getElem?_of_mem wU;obtain⟨c,hc,h1,_⟩:=aV h hi;rw[h1]at e;have:=Sum.inl.inj e;have:c=b:=by omega
  exact hb (this▸mem_of_getElem? hc)
theorem xt(aj:List (List Nat)):(iO aj).Pairwise (· < ·):=List.Pairwise.filter _ pairwise_lt_range
theorem agt(aj:List (List Nat)):∀x∈iO aj,x<7:=fun x hx=>mem_range.mp (mem_filter.mp hx).1
theorem NE(aj:List (List Nat)):(iO aj).length<=7:=Dl (xt aj) (agt aj)
theorem KW{l:List Nat}(h:l.Pairwise (· < ·)){i b:Nat}(e:l[i]? =some b):b∉l.take i:=fun m=>by have h2:(l.take (i+1)).Pairwise (· < ·):=h.sublist (List.take_sublist _ _);rw[take_snoc e]at h2;have:=(List.pairwise_append.mp h2).2.2 b m b mem_cons_self;omega
section
variable{P:Program}{w:World}{K:Frag}{mg:Str->Option Value}{base:Heap}
def Y1(C:Addr):Sp:=fun vs H Q _=>∃(p dx a:Addr) (aj:List (List Nat)),vs=[.ref p,.ref a]/\H p=some (.ins C dx [])/\yf H a aj/\LsOk aj/\∀H',dU p H H'->ZR C H' p aj->Q .dZ H'
theorem lU(T:Txt K mg):ay P w K mg base bo 2 T.dc.f T.dc.fd ["self","offers"] (Y1 T.aK):=by
  have pY:ay P w K mg base bo 1 _ _ _ _:=zY T;have TY:ay P w K mg base bo 1 _ _ _ _:=Rf T;refine T.dc.F.ok gY (fun vs H Q E h=>?_) (fun bP A outer s H vs Q E hr h=>?_)
  . obtain⟨p,dx,a,aj,rfl,_⟩:=h;rfl
  . obtain⟨p,dx,a,aj,rfl,hp,⟨ps,ha,IJ⟩,bj,k⟩:=h;refine⟨_,(ag (l8 (pv 0) (aH pY (hr.mono (by decide)) rfl T.bQ.g T.bQ.F.kp T.bQ.b .nil aI (aa (bV z5 (aS (aa aE ab)) (aJ aP rfl T.cC b9 (aa (pv 1) ab))) ab)) rfl) (ag (l8 (pv 0) NM rfl) (ai (dQ PassesOwn.never rfl (ba (aH TY (hr.mono (by decide)) rfl T.j8.g T.j8.F.kp T.j8.b .nil aI (aa (pv 1) ab))) (aC (i:=2) (gY.nd) (by rfl) (by exact Or.inr rfl)) (ai (Tu (M5 hr) (bf (pv 0) (by rfl)) (pv 2) (aH pY (hr.mono (by decide)) rfl T.bQ.g T.bQ.F.kp T.bQ.b .nil aI (aa (dh rfl (gY.nd) (ba (pv 1)) (own:=[("offer",3)]) (bG rfl) (fun _ _ _ _ _=>by exact(aC (i:=3) (gY.nd) (by rfl) (by exact Or.inl rfl))) (fun _ _ _ _ _=>by exact bI) (fun _ _ _ _ _=>by exact(xE (cT (vC (K:=K) rfl) (pv 2) (pv 3) (by with_unfolding_all rfl)) aE aE))) ab)) rfl)))))),?_⟩;have hlen:=aD IJ;have hl:=bj.l;have hLs:∀{H':Hp},dU p H H'->yf H' a aj:=fun s=>yf.kp ⟨ps,ha,IJ⟩ (s.kp hp rfl);refine⟨sz (by simp),fun u1 M4=>?_⟩;have s1:=ak (o:=.lst [.int 1]) M4;refine⟨_,rfl,a,_,rfl,.inl (aN.of (s1 _ _ ha)),u1,_,_,rfl,rfl,ae,by simp only[length_map];omega,by simp only[length_map];omega,sz (by simp;omega),fun u2 E4=>?_⟩;have s2:=ak (o:=.lst (List.replicate (((ps.map V.ref).length:Int)).toNat [V.int 1]).flatten) E4;have e2:List.map V.int (List.replicate aj.length 1)=(List.replicate (((ps.map V.ref).length:Int)).toNat [V.int 1]).flatten:=by rw[Gp,List.map_replicate,toNat_natCast,length_map,hlen]
    refine⟨u2,List.replicate aj.length 1,rfl,(by rw[ae,e2]),by rw[length_replicate];exact hl,fun A1 H1 hA1 s3 eA1=>?_⟩;have aeZ:=(s1.trans s2).trans s3;have UQ:=aeZ _ _ hp;refine⟨_,rfl,p,T.aK,dx,[],rfl,UQ,T.cV,T.dv,(by decide),?_⟩;have x1:dU p H (upd H1 p (.ins T.aK dx (dE "sizes" (.ref A1) []))):=((dU.refl p H).next aeZ).put;have afO:A1≠p:=(aM ((s1.trans s2) _ _ hp) hA1).symm;refine fun d hd=>⟨_,rfl,p,T.aK,dx,_,rfl,(by rw[au (aM ae hd),ae]),T.cV,T.b8,(by simp[dE]),?_⟩;have hdp:d≠p:=(aM ae hd).symm;have tZ:H1 d=none:=by rw[au hdp]at hd;exact hd
    have hd0:H d=none:=aeZ.free tZ;have hAd:A1≠d:=aM eA1 tZ;have x2:dU p H (upd (upd (upd H1 p (.ins T.aK dx (dE "sizes" (.ref A1) []))) d (.dK [])) p (.ins T.aK dx (dE "takers" (.ref d) (dE "sizes" (.ref A1) [])))):=(x1.agz hd0).put;have ef:dE ("takers":Str) (.ref d) (dE "sizes" (.ref A1) [])=Yw A1 d:=by rfl
    rw[ef]at x2 ⊢;have y1:upd (upd (upd H1 p (.ins T.aK dx (dE "sizes" (.ref A1) []))) d (.dK [])) p (.ins T.aK dx (Yw A1 d)) p=some (.ins T.aK dx (Yw A1 d)):=ae;have y2:upd (upd (upd H1 p (.ins T.aK dx (dE "sizes" (.ref A1) []))) d (.dK [])) p (.ins T.aK dx (Yw A1 d)) A1=some (.lst ((R0 aj).map V.int)):=by rw[au afO,au hAd,au afO,eA1];rfl
    have y3:upd (upd (upd H1 p (.ins T.aK dx (dE "sizes" (.ref A1) []))) d (.dK [])) p (.ins T.aK dx (Yw A1 d)) d=some (.dK []):=by rw[au hdp,ae]
    generalize upd (upd (upd H1 p (.ins T.aK dx (dE "sizes" (.ref A1) []))) d (.dK [])) p (.ins T.aK dx (Yw A1 d))=H2 at x2 y1 y2 y3;refine⟨_,rfl,a,aj,rfl,hLs x2,hl,fun xs hx=>⟨bj.len hx,bj.b xs hx⟩,fun B H3 hB s3' eB=>?_⟩;rw[<-br]at eB;refine⟨B,rfl,⟨_,aN.of eB⟩,?_⟩;have hBd:B≠d:=(aM y3 hB).symm;refine oo (xs:=ax (iO aj)) (fun i σ H4=>∃m aB,σ=[some (.ref p),some (.ref a),m,none]/\dU p H H4/\H4 B=some (.lst (ax (iO aj)))/\H4 p=some (.ins T.aK dx (Yw A1 d))/\H4 A1=some (.lst ((R0 aj).map V.int))/\H4 d=some (.dK aB)/\Paired (Dx H4 (Du aj)) aB ((iO aj).take i))
      ⟨none,[],rfl,x2.next s3',eB,s3' _ _ y1,s3' _ _ y2,s3' _ _ y3,.nil⟩ (fun i σ H1 ⟨_,_,_,_,b,_⟩=>aN.of b) ?_ ?_
    . rintro i x σ H4 hx ⟨m,aB,rfl,x4,z0,z1,z2,z3,z4⟩;obtain⟨b,hb,rfl⟩:=bO hx;obtain⟨ps',ha',agc⟩:=hLs x4;have af2:=aD agc;refine⟨_,rfl,a,rfl,⟨_,aN.of ha'⟩,?_⟩;refine lR (xs:=ps'.map V.ref) (RelM (fun xs=>V.int (mark b xs)) aj) (aN.of ha') (sz (by simp;omega)) (fun _ _=>rfl) ?_ ?_
      . intro D acc j H5 x Y N hx hD s5 S7 r hY hN;obtain⟨q,hq,rfl⟩:=cq hx;obtain⟨xs,IK,Dh⟩:=aV agc hq;refine⟨rfl,yes ⟨_,rfl,_,rfl,q,ax xs,rfl,.inl (aN.of (s5 _ _ Dh)),rfl,sS xs,_,rfl,?_⟩⟩;rw[E6];by_cases z:xs.contains b=true
        . refine Eq.mpr (congrArg (fun b=>if b=true then _ else _) z) (cx (hY _ _ (aA.refl _) (ck r IK (by unfold mark;rw[if_pos z]))))
        . have z':=z;rw[not_eq_true]at z;refine Eq.mpr (congrArg (fun b=>if b=true then _ else _) z) (cU (hY _ _ (aA.refl _) (ck r IK (by unfold mark;rw[if_neg z']))))
      . intro D acc H5 hD s5 S7 _ r;have e:=c9 r (by simp[af2]);refine⟨D,aj.map (mark b),rfl,by rw[S7,e,map_map];rfl,by rw[length_map];exact hl,fun A2 H6 hA2 s6 eA2=>?_⟩;have s56:=s5.trans s6;refine⟨_,rfl,p,T.aK,dx,_,_,rfl,s56 _ _ z1,T.cV,T.b8,Ac,_,rfl,d,_,rfl,.inl ⟨aB,Sum.inl (b:Int),s56 _ _ z3,rfl,?_,rfl⟩,?_⟩
        . refine lt_of_lt_of_le (?_:aB.length<16000000) (sz (le_refl _));rw[aD z4];have:=NE aj;have:((iO aj).take i).length<=(iO aj).length:=length_take_le' _ _;omega
        . have kp6:Kp H6 (upd H6 d (.dK (putK aB (Sum.inl (b:Int)) (.ref A2)))):=pA (s56 _ _ z3) rfl;refine⟨_,_,rfl,(x4.next s56).agz hd0,by rw[au hBd];exact s56 _ _ z0,by rw[au hdp.symm];exact s56 _ _ z1,kp6 _ _ (s56 _ _ z2) rfl,ae,?_⟩;have z6:Paired (Dx H6 (Du aj)) aB ((iO aj).take i):=Paired.et z4 fun _ _ z=>z.kp s56.kp;rw[Am z6 (KW (xt aj) hb),take_snoc hb];exact dg (Paired.et z6 fun _ _ z=>z.kp (by rw[<-Am z6 (KW (xt aj) hb)];exact kp6)) (.cons ⟨rfl,A2,rfl,by rw[<-Am z6 (KW (xt aj) hb)];exact kp6 _ _ eA2 rfl⟩ .nil)
    . rintro σ H4 ⟨m,aB,rfl,x4,z0,z1,z2,z3,z4⟩;have e:(ax (iO aj)).length=(iO aj).length:=by simp[ax]
      rw[e,take_length]at z4;exact k H4 x4 ⟨dx,A1,d,z1,z2,aB,z3,z4⟩
end
end My
namespace My
open PySem PySem.Spec PyProof.Rows L2 HT
def mn(i j:Int):Int:=if j<i then j else i
def BA(k:Int)(pl tk:List Int):List Int:=(pl.zip tk).map fun x=>x.1+mn k x.2
def Wp(aj:List (List Nat))(k:Int):List Int:=(iO aj).foldl (fun pl b=>BA k pl (Du aj b)) ((R0 aj).map fun c=> -k*c)
theorem x3(aj:List (List Nat)):(R0 aj).length=2^aj.length:=by unfold R0;rw[C7,length_replicate]
theorem pV(aj:List (List Nat))(b:Nat):(Du aj b).length=2^aj.length:=by unfold Du;rw[C7,length_map]
theorem L9(k:Int)(pl tk:List Int):(BA k pl tk).length=min pl.length tk.length:=by unfold BA;rw[length_map,length_zip]
theorem lp(aj:List (List Nat))(k:Int):∀(bs:List Nat) (pl:List Int),pl.length=2^aj.length->(bs.foldl (fun pl b=>BA k pl (Du aj b)) pl).length=2^aj.length
  | [],pl,h=>h
  | b::bs,pl,h=>by rw[foldl_cons];refine lp aj k bs _ ?_;rw[L9,pV,h,min_self]
theorem pU(aj:List (List Nat))(k:Int):(Wp aj k).length=2^aj.length:=lp aj k _ _ (by rw[length_map,x3])
section
variable{P:Program}{w:World}{K:Frag}{mg:Str->Option Value}{base:Heap}
def acv(C:Addr):Sp:=fun vs H Q _=>∃(p:Addr) (aj:List (List Nat)) (k:Nat),vs=[.ref p,.int k]/\ZR C H p aj/\aj.length<=7/\k<=1000/\bL H Q (Wp aj k)
theorem qh(T:Txt K mg):ay P w K mg base bo 1 T.cK.f T.cK.fd ["self","flights"] (acv T.aK):=by
  refine T.cK.F.ok cv (fun vs H Q E h=>?_) (fun bP A outer s H vs Q E hr h=>?_)
  . obtain⟨p,aj,k,rfl,_⟩:=h;rfl
  . obtain⟨p,aj,k,rfl,⟨dx,a,d,hp,ha,aB,hd,wU⟩,hl,hk,kk⟩:=h;refine⟨_,(ag (oE (i:=2) rfl (cv.nd) rfl rfl rfl (ba (bf (pv 0) (by rfl))) (own:=[("crews",3)]) (bG rfl) (fun _ _ _ _ _=>by exact(aC (i:=3) (cv.nd) (by rfl) (by exact Or.inl rfl))) (fun _ _ _ _ _=>by exact bI) (fun _ _ _ _ _=>by exact(bV aeH (ac3 Zi (pv 1)) (pv 3)))) (ag (Ll (dQ PassesOwn.never rfl (Vw (bf (pv 0) (by rfl))) (aC (i:=4) (cv.nd) (by rfl) (by exact Or.inl rfl)) (ai (oE (i:=2) rfl (cv.nd) rfl rfl rfl (Ga rfl T.tQ (aa (pv 2) (aa (pv 4) ab))) (own:=[("had",5),("more",6)]) (bG rfl) (fun _ _ _ _ _=>by exact(pL (K:=K) (n:=2) rfl rfl (bE (aC (i:=5) (cv.nd) (by rfl) (by exact Or.inl rfl)) (bE (aC (i:=6) (cv.nd) (by rfl) (by exact Or.inl rfl)) fH)))) (fun _ _ _ _ _=>by exact bI) (fun _ _ _ _ _=>by exact(bV nL (pv 5) (aJ (Ue rfl) rfl T.AV JL (aa (pv 1) (aa (pv 6) ab))))))))) (ai (aq (pv 2))))),?_⟩;have afN:=VD hl;refine⟨_,rfl,p,_,_,_,_,rfl,hp,T.cV,T.dv,Yx,a,rfl,⟨_,aN.of ha⟩,?_⟩;refine lR (xs:=(R0 aj).map V.int) (RelM (fun(c:Int)=>V.int (-(k:Int)*c)) (R0 aj)) (aN.of ha) (sz (by rw[length_map,x3];omega)) (fun _ _=>rfl) ?_ ?_
    . intro D acc i H1 x Y N hx hD s1 hd r hY hN;obtain⟨c,hc,rfl⟩:=ints_get hx;exact⟨rfl,yes ⟨_,rfl,_,rfl,_,rfl,_,_,rfl,rfl,.inl ⟨by omega,by omega⟩,hY _ _ (aA.refl _) (ck r hc rfl)⟩⟩
    . intro D0 acc H1 EZ s1 hd0 _ r;have e:=c9 r (by simp);have UQ:=s1 _ _ hp;have tZ:=s1 _ _ hd;refine⟨d,.dK aB,tZ,trivial,fun od=>?_⟩;have hpd:p≠d:=fun z=>by rw[z,hd]at hp;cases hp
      refine⟨_,rfl,p,T.aK,dx,_,_,rfl,(by rw[au hpd];exact UQ),T.cV,T.b8,Ac,d,od,aB,rfl,ae,?_⟩;have kl:Kp H1 (upd H1 d (.gG od (.dK aB))):=pA tZ rfl;have adW:Paired (Dx (upd H1 d (.gG od (.dK aB))) (Du aj)) aB (iO aj):=Paired.et wU fun _ _ z=>(z.kp s1.kp).kp kl;refine afJ (fun i σ H2=>∃D m,σ=[some (.ref p),some (.int k),some (.ref D),none,m,none,none]/\H D=none/\aA (upd H d (.gG od (.dK aB))) H2/\Kp (upd H1 d (.gG od (.dK aB))) H2/\H2 D=some (.lst ((((iO aj).take i).foldl (fun pl b=>BA k pl (Du aj b)) ((R0 aj).map fun c=> -(k:Int)*c)).map V.int)))
        ⟨D0,none,rfl,EZ,zH (u:=.dK aB) s1,Kp.refl _,kl _ _ (by rw[hd0,e,take_zero];show some (HO.lst _)=some (HO.lst (((R0 aj).map fun c=> -(k:Int)*c).map V.int));rw[map_map];rfl) rfl⟩ (fun i σ H2 ⟨_,_,_,_,s,_⟩=>s _ _ ae) ?_ ?_
      . rintro i ky v σ H2 UM ⟨D,m,rfl,hD,s2,k2,hd2⟩;obtain⟨b,hb,_,q,hv,hq⟩:=aV adW UM;dsimp only at hv;subst hv;have Wl:=k2 _ _ hq rfl;have l1:((((iO aj).take i).foldl (fun pl b=>BA k pl (Du aj b)) ((R0 aj).map fun c=> -(k:Int)*c))).length=2^aj.length:=lp aj k _ _ (by rw[length_map,x3]);generalize t6:((iO aj).take i).foldl (fun pl b=>BA k pl (Du aj b)) ((R0 aj).map fun c=> -(k:Int)*c)=pl at hd2 l1;refine⟨_,rfl,_,rfl,D,q,pl.map V.int,(Du aj b).map V.int,rfl,aN.of hd2,aN.of Wl,?_⟩;refine aaU (xs:=pl.map V.int) (ys:=(Du aj b).map V.int) (RelM (fun(x:Int×Int)=>V.int (x.1+mn k x.2)) (pl.zip (Du aj b))) (aN.of hd2) (aN.of Wl) (sz (by rw[length_map];omega)) (fun _ _=>rfl) ?_ ?_
        . intro D2 acc j H3 x y Tp Y N hx hy MT v4 s3 oK r hY hN;obtain⟨h,hh,rfl⟩:=ints_get hx;obtain⟨t,ht,rfl⟩:=ints_get hy;refine⟨Tp,_,rfl,mT.of ae,rfl,_,_,rfl,_,_,rfl,rfl,rfl,yes ⟨_,rfl,_,rfl,_,rfl,_,_,rfl,_,_,rfl,rfl,hY _ _ (ak MT) (ck r (x:=(h,t)) (zip_get hh ht) rfl)⟩⟩
        . intro D2 acc H3 v4 s3 oK _ r;have e2:=c9 r (by simp[length_zip]);refine⟨D2,_,rfl,mw (s2.free v4),s2.trans s3,k2.trans s3.kp,?_⟩;rw[oK,e2,take_snoc hb,foldl_append,t6];show _=some (HO.lst ((BA k pl (Du aj b)).map V.int));unfold BA;rw[map_map];rfl
      . rintro σ H2 ⟨D,m,rfl,hD,s2,k2,hd2⟩;rw[aD wU,take_length]at hd2;have hDd:D≠d:=fun z=>by rw[z,hd]at hD;cases hD
        exact⟨s2 _ _ ae,_,rfl,kk D _ hD (mP hd s2) (by rw[au hDd];exact hd2)⟩
def cA(aj:List (List Nat))(k:Nat):Bool:=decide (0<=iJ (Wp aj k))
def YV(C:Addr):Sp:=fun vs H Q _=>∃(p:Addr) (aj:List (List Nat)) (k:Nat),vs=[.ref p,.int k]/\ZR C H p aj/\aj.length<=7/\k<=1000/\∀H',aA H H'->Q (.bl (cA aj k)) H'
theorem ZR.ins{C:Addr}{H:Hp}{p:Addr}{aj:List (List Nat)}(h:ZR C H p aj):∃dx a d,H p=some (.ins C dx (Yw a d)):=by obtain⟨dx,a,d,h,_⟩:=h;exact⟨dx,a,d,h⟩
theorem eO(T:Txt K mg):ay P w K mg base bo 2 T.bp.f T.bp.fd ["self","flights"] (YV T.aK):=by
  have kg:ay P w K mg base bo 1 _ _ _ _:=qh T;refine T.bp.F.ok si (fun vs H Q E h=>?_) (fun bP A outer s H vs Q E hr h=>?_)
  . obtain⟨p,aj,k,rfl,_⟩:=h;rfl
  . obtain⟨p,aj,k,rfl,hp,hl,hk,kk⟩:=h;refine⟨_,(ai (aq (xD agu (aJ (W7 rfl) rfl T.AV JL (aa (bT (pv 0) T.cV T.cK.m kg (hr.mono (by decide)) T.cK.b .nil aI (aa (pv 1) ab)) ab)) aE (ez _)))),?_⟩;obtain⟨dx,a,d,hi⟩:=hp.ins;refine⟨_,rfl,p,_,_,rfl,hi,rfl,_,rfl,p,aj,k,rfl,hp,hl,hk,fun D H1 hD s1 hd=>?_⟩;refine⟨D,Wp aj k,rfl,aN.of hd,(by rw[pU];exact pow_pos (by omega)),fun m hm hle=>?_⟩;rw[sX hm hle];exact⟨_,_,rfl,rfl,kk H1 s1⟩
def scL(aj:List (List Nat))(k:Nat)(b:Nat):List Int:=az ((List.range (Du aj b).length).filter fun i=>decide ((Du aj b).getD i 0<=k))
def Y5(C:Addr):Sp:=fun vs H Q _=>∃(p:Addr) (aj:List (List Nat)) (k:Nat),vs=[.ref p,.int k]/\ZR C H p aj/\aj.length<=7/\k<=1000/\∀D H',H D=none->aA H H'->OU H' D (scL aj k) (iO aj)->Q (.ref D) H'
def Wx(H:Hp)(f:Nat->List Int)(p:Addr)(b:Nat):Prop:=∃q,H p=some (.tup [.int b,.ref q])/\H q=some (.lst ((f b).map V.int))
theorem Wx.kp{H H':Hp}{f:Nat->List Int}{p:Addr}{b:Nat}(h:Wx H f p b)(k:Kp H H'):Wx H' f p b:=by obtain⟨q,a,b⟩:=h;exact⟨q,k _ _ a rfl,k _ _ b rfl⟩
theorem Ow{K:Frag}{H:Hp}{f:Nat->List Int}:∀{ps:List Addr} {bs:List Nat},Paired (Wx H f) ps bs->∃aB:List (Key×V),Paired (fun p (kv:Key×V)=>mT K H p [kV kv.1,kv.2]) ps aB/\Paired (Dx H f) aB bs/\aB.map (·.1)=bs.map fun(b:Nat)=>(Sum.inl (b:Int):Key)
  | _,_,.nil=>⟨[],.nil,.nil,rfl⟩
  | p::ps,b::bs,.cons ⟨q,h1,h2⟩ t=>by obtain⟨aB,a,e,m⟩:=Ow (K:=K) t;exact⟨(Sum.inl (b:Int),.ref q)::aB,.cons (mT.of h1) a,.cons ⟨rfl,q,rfl,h2⟩ e,by rw[map_cons,map_cons,m]⟩
theorem aa3{bs:List Nat}(h:bs.Pairwise (· < ·)):(bs.map fun(b:Nat)=>(Sum.inl (b:Int):Key)).Nodup:=
  List.Pairwise.map _ (fun a b UJ z=>by have:=Sum.inl.inj z;omega) h
theorem zW(T:Txt K mg):ay P w K mg base bo 2 T.dW.f T.dW.fd ["self","flights"] (Y5 T.aK):=by
  have DC:ay P w K mg base bo 1 _ _ _ _:=CD T;refine T.dW.F.ok ff (fun vs H Q E h=>?_) (fun bP A outer s H vs Q E hr h=>?_)
  . obtain⟨p,aj,k,rfl,_⟩:=h;rfl
  . obtain⟨p,aj,k,rfl,⟨dx,a,d,hp,ha,aB,hd,wU⟩,hl,hk,kk⟩:=h;refine⟨_,(ai (aq (cY (oW rfl) rfl T.mY C6 (aa (abI (dh rfl (ff.nd) (F9 (bf (pv 0) (by rfl))) (own:=[("boat",2),("takers",3)]) (bG rfl) (fun _ _ _ _ _=>by exact(pL (K:=K) (n:=2) rfl rfl (bE (aC (i:=2) (ff.nd) (by rfl) (by exact Or.inl rfl)) (bE (aC (i:=3) (ff.nd) (by rfl) (by exact Or.inl rfl)) fH)))) (fun _ _ _ _ _=>by exact bI) (fun _ _ _ _ _=>by exact(rW (aa (pv 2) (aa (aH DC (hr.mono (by decide)) rfl T.dt.g T.dt.F.kp T.dt.b .nil aI (aa (pv 1) (aa (pv 3) ab))) ab)))))) ab)))),?_⟩;have afN:=VD hl;have hpd:p≠d:=fun z=>by rw[z,hd]at hp;cases hp
    refine⟨d,.dK aB,hd,trivial,fun od=>?_⟩;refine⟨_,rfl,p,T.aK,dx,_,_,rfl,(by rw[au hpd];exact hp),T.cV,T.b8,Ac,d,od,aB,rfl,ae,?_⟩;have kl:Kp H (upd H d (.gG od (.dK aB))):=pA hd rfl;have adW:Paired (Dx (upd H d (.gG od (.dK aB))) (Du aj)) aB (iO aj):=Paired.et wU fun _ _ z=>z.kp kl;have hln:=aD wU;have hof:=NE aj;refine aia (v5 (fun H p b=>Wx H (scL aj k) p b) (iO aj)) ae (sz (by omega)) (fun _ _=>fE) ?_ ?_
    . intro D acc i H1 ky v Tp Y N UM MT hD s1 tZ r hY hN;obtain⟨b,hb,hky,q,hv,hq⟩:=aV adW UM;dsimp only at hv hky;subst hv hky;have s2:=ak (o:=.tup [kV (Sum.inl (b:Int)),.ref q]) MT;refine⟨Tp,_,rfl,mT.of ae,rfl,_,_,rfl,_,_,rfl,rfl,rfl,yes ⟨_,rfl,_,rfl,_,rfl,q,Du aj b,k,rfl,aN.of (s2 _ _ (s1 _ _ hq)),by rw[pV];omega,fun B H2 hB s3 eB=>?_⟩⟩;refine⟨sz (by simp),fun u hu=>hY _ _ ((s2.trans s3).trans (ak hu)) ?_⟩;exact d6 (fun _ _ _ _ s z=>z.kp s.kp) r hb (Off.mono ((s2.trans s3).trans (ak hu))) ⟨B,iM tZ ((s2.trans s3).free hu) ae,iM tZ (s2.free hB) (ak hu _ _ eB)⟩
    . intro D acc H1 hD s1 tZ _ r;refine⟨s1 _ _ ae,?_⟩;obtain⟨ps,rfl,q⟩:=fD r hln;have kp1:Kp H1 (upd H1 d (.dK aB)):=pA (s1 _ _ ae) rfl;have hDd:D≠d:=fun z=>by rw[z,ae]at hD;cases hD
      obtain⟨zz,e1,e2,e3⟩:=Ow (K:=K) (Paired.et q fun _ _ z=>(z.kp Off.same.kp).kp kp1);refine⟨D,ps,zz,rfl,aN.of (by rw[au hDd];exact tZ),e1,fun u hu=>?_⟩;have s2:aA H (upd H1 d (.dK aB)):=mP hd s1;rw[oA _ [] (by rw[nil_append,e3];exact aa3 (xt aj)),nil_append];exact kk u _ (s2.free hu) (bv s2 (s2.free hu)) ⟨zz,ae,Paired.et e2 fun _ _ z=>z.kp (ak hu).kp⟩
def VX:Sp:=fun vs H Q _=>∃(a:Addr) (aj:List (List Nat)) (k:Nat),vs=[.ref a,.int k]/\yf H a aj/\LsOk aj/\k<=1000/\∀H',aA H H'->Q (.bl (cA aj k)) H'
theorem KP{H:Hp}{a x dx C:Addr}{aj:List (List Nat)}(h:yf H a aj)(nx:H x=none)(nd:H dx=none):yf (upd (upd H dx (.own x)) x (.ins C dx [])) a aj:=h.same (aA.made nx nd fun b o e _=>e)
theorem NI(T:Txt K mg):ay P w K mg base bo 4 T.il.f T.il.fd ["offers","flights"] (VX):=by
  have fB:ay P w K mg base bo 2 _ _ _ _:=lU T;have cw:ay P w K mg base bo 2 _ _ _ _:=eO T;refine T.il.F.ok N5 (fun vs H Q E h=>?_) (fun bP A outer s H vs Q E hr h=>?_)
  . obtain⟨a,aj,k,rfl,_⟩:=h;rfl
  . obtain⟨a,aj,k,rfl,ha,bj,hk,kk⟩:=h;refine⟨_,(ai (aq (bT (Lf T.iL fB (hr.mono (by decide)) rfl T.yH T.dc.b .nil aI (aa (pv 0) ab)) T.cV T.bp.m cw (hr.mono (by decide)) T.bp.b .nil aI (aa (pv 1) ab)))),?_⟩;refine⟨_,rfl,fun x dx nx nd ne=>?_⟩;refine⟨x,dx,a,aj,rfl,ae,KP ha nx nd,bj,fun H1 x1 hp=>⟨rfl,?_⟩⟩;have s1:aA H H1:=aA.made nx nd x1;obtain⟨dx',a',d',hi⟩:=hp.ins;exact⟨x,_,_,rfl,hi,rfl,_,rfl,x,aj,k,rfl,hp,bj.l,hk,fun H2 s2=>kk H2 (s1.trans s2)⟩
def acu:Sp:=fun vs H Q _=>∃(a:Addr) (aj:List (List Nat)) (m:Nat),vs=[.ref a]/\yf H a aj/\LsOk aj/\(aj=[]->m=0)/\(aj≠ []->m<=900/\(∀j,j<m->cA aj (j+1)=true)/\cA aj (m+1)=false)/\∀H',aA H H'->Q (.int m) H'
theorem CB(T:Txt K mg):ay P w K mg base bo 4 T.dq.f T.dq.fd ["offers"] (acu):=by
  have fB:ay P w K mg base bo 2 _ _ _ _:=lU T;have cw:ay P w K mg base bo 2 _ _ _ _:=eO T;refine T.dq.F.ok fJ (fun vs H Q E h=>?_) (fun bP A outer s H vs Q E hr h=>?_)
  . obtain⟨a,aj,m,rfl,_⟩:=h;rfl
  . obtain⟨a,aj,m,rfl,ha,bj,h0,h1,kk⟩:=h;refine⟨_,(ag (bW (dy (r9 (pv 0) (fun _=>rfl))) (ai (aq aE)) aZ) (ag (aY (i:=1) (fJ.nd) rfl (Or.inl rfl) (Lf T.iL fB (hr.mono (by decide)) rfl T.yH T.dc.b .nil aI (aa (pv 0) ab))) (ag (aY (i:=2) (fJ.nd) rfl (Or.inl rfl) aE) (ag (NW PassesOwn.never (fU (bT (pv 1) T.cV T.bp.m cw (hr.mono (by decide)) T.bp.b .nil aI (aa (bV nL (pv 2) aE) ab))) (ai (aY (i:=2) (fJ.nd) rfl (Or.inl rfl) (bV nL (pv 2) aE)))) (ai (aq (pv 2))))))),?_⟩;obtain⟨ps,Zw,IJ⟩:=ha;refine⟨_,rfl,_,.inl ⟨_,aN.of Zw,rfl⟩,?_⟩;have hlen:=aD IJ;by_cases eZ:aj=[]
    . have:ps=[]:=by rw[eZ]at hlen;exact length_eq_zero_iff.mp hlen
      rw[this];refine cx ?_;have:=kk H (aA.refl _);rw[h0 eZ]at this;exact this
    . obtain⟨hm,hen,LQ⟩:=h1 eZ;have:(!(ps.map V.ref).isEmpty)=true:=by
        cases ps with
        | nil=>rw[length_nil]at hlen;exact absurd (length_eq_zero_iff.mp hlen.symm) eZ
        | cons _ _=>rfl
      rw[this];refine cU ?_;refine⟨_,rfl,fun x dx nx nd ne=>?_⟩;refine⟨x,dx,a,aj,rfl,ae,KP ⟨ps,Zw,IJ⟩ nx nd,bj,fun H1 x1 hp=>⟨rfl,?_⟩⟩;have s1:aA H H1:=aA.made nx nd x1;refine⟨fun n σ H2=>∃j:Nat,σ=[some (.ref a),some (.ref x),some (.int j)]/\aA H1 H2/\j<=m/\n=m-j,⟨m,0,rfl,aA.refl _,by omega,by omega⟩,?_⟩;rintro n σ H2 ⟨j,rfl,s2,hj,rfl⟩;obtain⟨dx',a',d',hi⟩:=(hp.same s2).ins;refine⟨_,rfl,x,_,_,rfl,hi,rfl,_,rfl,_,_,rfl,rfl,x,aj,j+1,rfl,hp.same s2,bj.l,by omega,fun H3 s3=>⟨_,rfl,?_⟩⟩;by_cases hjm:j<m
      . rw[hen j hjm];refine cx ⟨fun σ H4=>∃j':Nat,σ=[some (.ref a),some (.ref x),some (.int j')]/\aA H1 H4/\j'<=m/\j'=j+1,fun σ' H' ⟨j',e1,e2,e3,e4⟩=>⟨m-j',by omega,j',e1,e2,e3,rfl⟩,_,rfl,_,_,rfl,rfl,?_⟩;exact⟨j+1,rfl,s2.trans s3,hjm,rfl⟩
      . have:j=m:=by omega
        subst this;rw[LQ];exact cU ⟨_,rfl,kk H3 (s1.trans (s2.trans s3))⟩
end
end My
namespace My
open PySem PySem.Spec PyProof.Rows L2 HT
def cu(sc:Nat->List Nat)(c b:Nat):List Nat:=(sc b).filter fun i=>i.testBit c
def comp(aj:List (List Nat))(sc:Nat->List Nat):Nat->List Nat->List Int->Option (List Nat)
  | 0,bg,_=>some bg
  | n+1,bg,sp=>(aj.getD bg.length []).findSome? fun b=>
      if bg.contains b=true then none
      else if ((cu sc bg.length b).all fun i=>decide (0<sp.getD i 0))=true then comp aj sc n (bg++ [b]) (decAll sp (cu sc bg.length b)) else none
theorem uW{α β:Type}{f:α->Option β}{l:List α}{j:Nat}{x:α}(h:(l.take j).findSome? f=none)(e:l[j]? =some x)(z:f x=none):(l.take (j+1)).findSome? f=none:=by rw[take_snoc e,List.findSome?_append,h,Option.none_or,findSome?_cons,z];rfl
theorem IB{α β:Type}{f:α->Option β}:∀{l:List α} {j:Nat} {x:α} {r:β},(l.take j).findSome? f=none->l[j]? =some x->f x=some r->l.findSome? f=some r
  | [],j,x,r,_,e,_=>by simp at e
  | a::l,0,x,r,_,e,z=>by have:a=x:=Option.some.inj e;rw[findSome?_cons,this,z]
  | a::l,j+1,x,r,h,e,z=>by
    rw[List.take_succ_cons,findSome?_cons]at h;rw[findSome?_cons];cases q:f a with
    | none=>rw[q]at h;exact IB (l:=l) (j:=j) h e z
    | some v=>rw[q]at h;cases h
theorem Ou{H:Hp}{f:Nat->List Int}{b:Nat}:∀{aB:List (Key×V)} {bs:List Nat},Paired (Dx H f) aB bs->b∈bs->∃q,sE aB (Sum.inl (b:Int))=some (.ref q)/\H q=some (.lst ((f b).map V.int))
  | _,_,.nil,h=>by cases h
  | kv::aB,c::bs,.cons h r,hb=>by
    by_cases z:c=b
    . subst z;obtain⟨h1,q,h2,h3⟩:=h;exact⟨q,by rw[sG h1,h2],h3⟩
    . have z':¬kv.1=Sum.inl (b:Int):=fun e=>z (by rw[h.1]at e;have:=Sum.inl.inj e;omega);rw[sF z'];exact Ou r (by rcases mem_cons.mp hb with e | e;exact absurd e.symm z;exact e)
theorem NF{aj:List (List Nat)}{xs:List Nat}{b:Nat}(h:xs∈aj)(hb:b∈xs)(h7:b<7):b∈iO aj:=
  mem_filter.mpr ⟨mem_range.mpr h7,any_eq_true.mpr ⟨xs,h,contains_iff_mem.mpr hb⟩⟩
theorem fc(l:List Nat):(ax l).length=l.length:=by simp[ax]
theorem QW(l:List Nat)(b:Nat):ax (l++ [b])=ax l++ [V.int (b:Nat)]:=by simp[ax]
section
variable{P:Program}{w:World}{K:Frag}{mg:Str->Option Value}{base:Heap}
def ahe(o:Option (List Nat))(b:Addr)(H:Hp)(Q:VK):Prop:=(o=none->∀H',aA H H'->Q .dZ H')/\∀l,o=some l->∀x H',(H x=none\/x=b)->aA H H'->H' x=some (.lst (ax l))->Q (.ref x) H'
def ae6:Nat->Sp
  | 0=>fun _ _ _ _=>False
  | N+1=>fun vs H Q _=>∃(b a d s:Addr) (bg:List Nat) (aj:List (List Nat)) (sc:Nat->List Nat) (sp:List Int) (n:Nat),vs=[.ref b,.ref a,.ref d,.ref s]/\H b=some (.lst (ax bg))/\yf H a aj/\LsOk aj/\OU H d (fun b=>az (sc b)) (iO aj)/\
      H s=some (.lst (sp.map V.int))/\sp.length<=1000/\(∀b,∀i∈sc b,i<sp.length)/\(∀b,(sc b).length<=1000)/\bg.length+n=aj.length/\n<=N/\ahe (comp aj sc n bg sp) b H Q
theorem xu(T:Txt K mg):∀N,ay P w K mg base bo (N+1) T.cD.f T.cD.fd ["beginning","offers","scarce","spare"] (ae6 N)
  | 0=>by
    refine T.cD.F.ok cB (fun vs H Q E h=>?_) (fun bP A outer s H vs Q E hr h=>?_)
    . exact h.elim
    . exact h.elim
  | N+1=>by
    have qo:ay P w K mg base bo (N+1) _ _ _ _:=xu T N;have OR:ay P w K mg base bo 1 _ _ _ _:=NK T;refine T.cD.F.ok cB (fun vs H Q E h=>?_) (fun bP A outer s H vs Q E hr h=>?_)
    . obtain⟨b,a,d,s,bg,aj,sc,sp,n,rfl,_⟩:=h;rfl
    . obtain⟨b,a,d,s',bg,aj,sc,sp,n,rfl,hb,⟨ps,ha,IJ⟩,bj,⟨aB,hd,wU⟩,hs,ah0,hsc,agf,hn,hN,kn,ks⟩:=h;refine⟨_,(ag (aY (i:=4) (cB.nd) rfl (Or.inr rfl) (aJ aP rfl T.cC b9 (aa (pv 0) ab))) (ag (bW (cT FZ (pv 4) (aJ aP rfl T.cC b9 (aa (pv 1) ab)) (ez _)) (ai (aq (pv 0))) aZ) (ag (dQ PassesOwn.never rfl (ba (a9 aW (pv 1) (pv 4) (fun _ _=>rfl))) (aC (i:=5) (cB.nd) (by rfl) (by exact Or.inl rfl)) (ag (bW (cT zZ (pv 5) (pv 0) (by with_unfolding_all rfl)) (ai r8) aZ) (ag (oE (i:=6) rfl (cB.nd) rfl rfl rfl (ba (Ti (M5 hr) (pv 2) (pv 5) (fun _ _=>rfl))) (own:=[("number",7)]) (bG rfl) (fun _ _ _ _ _=>by exact(aC (i:=7) (cB.nd) (by rfl) (by exact Or.inl rfl))) (fun _ _ _ _ _=>by exact(pO (Jf (K:=K) rfl (bV Yo (pv 7) (bV Ri aE (pv 4))) (fun _=>rfl)))) (fun _ _ _ _ _=>by exact(pv 7))) (ag (bW (dy (fU (aJ (yI rfl) rfl T.qB uu (aa (dh rfl (cB.nd) (ba (pv 6)) (own:=[("number",7)]) (bG rfl) (fun _ _ _ _ _=>by exact(aC (i:=7) (cB.nd) (by rfl) (by exact Or.inl rfl))) (fun _ _ _ _ _=>by exact bI) (fun _ _ _ _ _=>by exact(xD agv (a9 (jd (K:=K) rfl) (pv 3) (pv 7) (fun _ _=>rfl)) aE (ez _)))) ab)))) (ai r8) aZ) (ag (aY (i:=8) (cB.nd) rfl (Or.inl rfl) (aH qo (hr.mono (by omega)) rfl T.cD.g T.cD.F.kp T.cD.b .nil aI (aa (bV pJ (pv 0) (aS (aa (pv 5) ab))) (aa (pv 1) (aa (pv 2) (aa (aH OR (hr.mono (by omega)) rfl T.ip.g T.ip.F.kp T.ip.b .nil aI (aa (pv 3) (aa (pv 6) ab))) ab)))))) (ai (bW (jR (Dn (pv 8))) (ai (aq (pv 8))) aZ))))))) (ai (aq vG))))),?_⟩;have hlen:=aD IJ;have hl:=bj.l;refine⟨_,rfl,b,_,rfl,.inl (aN.of hb),?_⟩;refine⟨_,rfl,_,rfl,a,_,rfl,.inl (aN.of ha),rfl,_,rfl,?_⟩;rw[length_map,fc,hlen];cases n with
      | zero=>have e:decide (V.int (bg.length:Nat)=V.int (aj.length:Nat))=true:=decide_eq_true (by rw[<-hn];rfl);rw[e];exact cx ⟨_,rfl,ks bg rfl b H (.inr rfl) (aA.refl _) hb⟩
      | succ n=>
        have e:decide (V.int (bg.length:Nat)=V.int (aj.length:Nat))=false:=decide_eq_false (fun q=>by injection q with q;omega);rw[e];refine cU ?_;have dD:bg.length<aj.length:=by omega
        have IK:aj[bg.length]? =some (aj.getD bg.length []):=by rw[getD_eq_getElem?_getD,getElem?_eq_getElem dD];rfl
        have mz:=mem_of_getElem? IK;obtain⟨q,hq⟩:=Ln hlen dD;obtain⟨xs',UU,Dh⟩:=aV IJ hq;rw[IK]at UU;have hxe:=Option.some.inj UU;subst hxe;have S6:comp aj sc (n+1) bg sp=(aj.getD bg.length []).findSome? fun b=>
          if bg.contains b=true then none
          else if ((cu sc bg.length b).all fun i=>decide (0<sp.getD i 0))=true then comp aj sc n (bg++ [b]) (decAll sp (cu sc bg.length b)) else none:=rfl
        generalize hl0:aj.getD bg.length []=l0 at IK mz Dh S6;generalize hf:(fun b=>if bg.contains b=true then none else if ((cu sc bg.length b).all fun i=>decide (0<sp.getD i 0))=true then comp aj sc n (bg++ [b]) (decAll sp (cu sc bg.length b)) else none)=f at S6;refine⟨_,rfl,_,rfl,a,_,_,_,rfl,rfl,aN.of ha,kG hq,q,rfl,⟨_,aN.of Dh⟩,?_⟩;refine oo (xs:=ax l0) (fun j σ H1=>∃m5 m6 m8,σ=[some (.ref b),some (.ref a),some (.ref d),some (.ref s'),some (.int bg.length),m5,m6,none,m8]/\aA H H1/\(l0.take j).findSome? f=none) ⟨none,none,none,rfl,aA.refl _,rfl⟩ (fun _ _ _ ⟨_,_,_,_,s,_⟩=>aN.of (s _ _ Dh)) ?_ ?_
        . rintro j x σ H1 hx ⟨m5,m6,m8,rfl,s1,wX⟩;obtain⟨bt,hbt,rfl⟩:=bO hx;have Zx:=bj.b _ mz bt (mem_of_getElem? hbt);have hbo:=NF mz (mem_of_getElem? hbt) Zx;have hfb:f bt=if bg.contains bt=true then none else if ((cu sc bg.length bt).all fun i=>decide (0<sp.getD i 0))=true then comp aj sc n (bg++ [bt]) (decAll sp (cu sc bg.length bt)) else none:=by rw[<-hf]
          refine⟨_,rfl,_,rfl,b,ax bg,rfl,.inl (aN.of (s1 _ _ hb)),rfl,sS bg,_,rfl,?_⟩;rw[E6];by_cases hc:bg.contains bt=true
          . refine Eq.mpr (congrArg (fun b=>if b=true then _ else _) hc) (cx ⟨_,_,_,rfl,s1,uW wX hbt (by rw[hfb,if_pos hc])⟩)
          . have hc':=hc;rw[not_eq_true]at hc;refine Eq.mpr (congrArg (fun b=>if b=true then _ else _) hc) (cU ?_);rw[if_neg hc']at hfb;obtain⟨z,hz1,hz2⟩:=Ou wU hbo;rw[<-br]at hz2;refine⟨_,rfl,_,rfl,d,_,rfl,.inl ⟨aB,Sum.inl (bt:Int),.inl (s1 _ _ hd),rfl,hz1.symm⟩,z,rfl,⟨_,aN.of (s1 _ _ hz2)⟩,?_⟩;have:=agf bt;refine lR (xs:=ax (sc bt)) (fun i acc _=>acc=ax (((sc bt).take i).filter fun i=>i.testBit bg.length)) (aN.of (s1 _ _ hz2)) (sz (by rw[fc];omega)) (fun _ _=>rfl) ?_ ?_
            . intro D acc i H2 x Y Nn hx hD s2 hd2 r hY hNn;obtain⟨nu,hnu,rfl⟩:=bO hx;refine⟨rfl,_,rfl,_,rfl,_,_,rfl,rfl,W5 (by omega),_,_,rfl,rfl,_,rfl,?_⟩;rw[WH];by_cases ht:nu.testBit bg.length=true
              . rw[ht];refine cx ⟨_,rfl,hY _ _ (aA.refl _) ?_⟩;rw[r,take_snoc hnu,filter_append,filter_cons,if_pos ht];simp[ax]
              . have ht':=ht;rw[not_eq_true]at ht;rw[ht];refine cU (hNn _ (aA.refl _) ?_);rw[r,take_snoc hnu,filter_append,filter_cons,if_neg ht'];simp
            . intro L acc H2 hL s2 hL2 _ r;rw[fc,take_length]at r;subst r;have hL2:H2 L=some (.lst (ax (cu sc bg.length bt))):=hL2;have tx:=s1.trans s2;have hll:(cu sc bg.length bt).length<=1000:=le_trans (length_filter_le _ _) this;have hlm:∀i∈cu sc bg.length bt,i<sp.length:=fun i hi=>hsc bt i (mem_filter.mp hi).1;refine⟨_,rfl,L,rfl,⟨_,aN.of hL2⟩,?_⟩;refine lR (xs:=ax (cu sc bg.length bt)) (RelM (fun i=>V.bl (decide (0<sp.getD i 0))) (cu sc bg.length bt)) (aN.of hL2) (sz (by rw[fc];omega)) (fun _ _=>rfl) ?_ ?_
              . intro D acc i H3 x Y Nn hx hD s3 oK r hY hNn;obtain⟨nu,hnu,rfl⟩:=bO hx;have:=hlm nu (mem_of_getElem? hnu);exact⟨rfl,yes ⟨_,rfl,_,rfl,s',_,_,_,rfl,rfl,aN.of (s3 _ _ (tx _ _ hs)),at_getD this,_,_,rfl,rfl,hY _ _ (aA.refl _) (ck r hnu rfl)⟩⟩
              . intro D acc H3 hD s3 oK _ r;have er:=c9 r (by rw[fc]);refine⟨D,(cu sc bg.length bt).map fun i=>decide (0<sp.getD i 0),rfl,aN.of (by rw[oK,er,map_map];rfl),_,rfl,?_⟩;rw[all_map];have HI:=tx.trans s3;by_cases Zw:((cu sc bg.length bt).all fun i=>decide (0<sp.getD i 0))=true
                . refine Eq.mpr (congrArg (fun b=>if (!b)=true then _ else _) Zw) (cU ?_);rw[if_pos Zw]at hfb;refine⟨_,rfl,_,rfl,sz (by simp),fun u1 M4=>?_⟩;have t1:=ak (o:=.lst [.int (bt:Nat)]) M4;refine⟨b,u1,_,_,rfl,rfl,t1 _ _ (HI _ _ hb),ae,sz (by rw[fc,length_singleton];omega),fun u2 E4=>?_⟩;have t2:=ak (o:=.lst (ax bg++ [.int (bt:Nat)])) E4;have Y9:=t1.trans t2;have s14:=HI.trans Y9;refine⟨_,rfl,_,rfl,_,rfl,_,rfl,s',L,sp,cu sc bg.length bt,rfl,s14 _ _ hs,Y9 _ _ (s3 _ _ hL2),hlm,fun S2 H4 hS2 s4 eS2=>?_⟩;have Tx:=s14.trans s4;have XH:H u2=none:=HI.free (t1.free E4);have acQ:∀o,comp aj sc n (bg++ [bt]) (decAll sp (cu sc bg.length bt))=o->f bt=o:=fun o h=>by rw[hfb,h]
                  cases N with
                  | zero=>omega
                  | succ N=>
                  refine⟨u2,a,d,S2,bg++ [bt],aj,sc,decAll sp (cu sc bg.length bt),n,rfl,(by rw[QW];exact s4 _ _ ae),yf.same ⟨ps,ha,IJ⟩ Tx,bj,OU.same ⟨aB,hd,wU⟩ Tx,eS2,by rw[kY];exact ah0,fun b i hi=>by rw[kY];exact hsc b i hi,agf,by rw[length_append,length_singleton];omega,by omega,?_,?_⟩
                  . intro LQ H5 s5;refine⟨_,rfl,_,rfl,cU ⟨_,_,_,rfl,Tx.trans s5,uW wX hbt (acQ _ LQ)⟩⟩
                  . intro l agg x H5 hx s5 hxl;refine⟨_,rfl,_,rfl,cx ⟨_,rfl,ks l ?_ x H5 ?_ (Tx.trans s5) hxl⟩⟩
                    . rw[S6];exact IB wX hbt (acQ _ agg)
                    . rcases hx with hx | hx
                      . exact .inl (Tx.free hx)
                      . rw[hx];exact .inl XH
                . have ahB:=Zw;rw[not_eq_true]at Zw;refine Eq.mpr (congrArg (fun b=>if (!b)=true then _ else _) Zw) (cx ⟨_,_,_,rfl,HI,uW wX hbt (by rw[hfb,if_neg ahB])⟩)
        . rintro σ H1 ⟨m5,m6,m8,rfl,s1,wX⟩;rw[fc,take_length]at wX;exact kn (by rw[S6];exact wX) H1 s1
end
end My
namespace My
open PySem PySem.Spec PyProof.Rows L2 HT
def ji:List (List Nat)->List Nat->List (List Nat)
  | [],_=>[[]]
  | w::l,used=>(w.filter fun b=> !used.contains b).flatMap fun b=>(ji l (b::used)).map fun f=>b::f
theorem i5:∀{l:List (List Nat)} {used bs:List Nat},bs∈ji l used↔Paired (fun b w=>b∈w) bs l/\bs.Nodup/\∀b∈bs,b∉used
  | [],used,bs=>by
    constructor
    . intro h;have:bs=[]:=mem_singleton.mp h;subst this;exact⟨.nil,nodup_nil,fun b hb=>by cases hb⟩
    . rintro⟨h,_,_⟩;cases h;exact mem_singleton.mpr rfl
  | w::l,used,bs=>by
    constructor
    . intro h;obtain⟨b,hb,h⟩:=mem_flatMap.mp h;obtain⟨f,hf,rfl⟩:=mem_map.mp h;obtain⟨h1,h2,h3⟩:=i5.mp hf;obtain⟨hw,hu⟩:=mem_filter.mp hb;have hu':b∉used:=fun m=>by rw[contains_iff_mem.mpr m]at hu;cases hu
      refine⟨.cons hw h1,nodup_cons.mpr ⟨fun m=>h3 b m mem_cons_self,h2⟩,fun c hc=>?_⟩;rcases mem_cons.mp hc with rfl | hc
      . exact hu'
      . exact fun m=>h3 c hc (mem_cons_of_mem _ m)
    . rintro⟨h,hn,hu⟩;cases h with
      | @cons b _ f _ hw ht=>
        obtain⟨hb,hn⟩:=nodup_cons.mp hn;refine mem_flatMap.mpr ⟨b,mem_filter.mpr ⟨hw,?_⟩,mem_map.mpr ⟨f,i5.mpr ⟨ht,hn,fun c hc m=>?_⟩,rfl⟩⟩
        . have:used.contains b=false:=by
            cases q:used.contains b with
            | false=>rfl
            | true=>exact absurd (contains_iff_mem.mp q) (hu b mem_cons_self)
          rw[this];rfl
        . rcases mem_cons.mp m with rfl | m
          . exact hb hc
          . exact hu c (mem_cons_of_mem _ hc) m
def Fy(a b:List Nat):Bool:=lexLt (az a) (az b)
theorem IW(a b:Nat)(x y:List Nat):Fy (a::x) (b::y)=if a=b then Fy x y else decide (a<b):=by
  show lexLt ((a:Int)::az x) ((b:Int)::az y)=_;rw[bK];by_cases e:a=b
  . rw[if_pos e,if_pos (by omega)];rfl
  . rw[if_neg e,if_neg (by omega)];exact decide_eq_decide.mpr (by omega)
theorem uY:∀{l:List (List Nat)} {used:List Nat},(∀w∈l,w.Pairwise (· < ·))->(ji l used).Pairwise (fun a b=>Fy a b=true)
  | [],used,_=>List.pairwise_singleton _ _
  | w::l,used,h=>by
    have hw:=List.Pairwise.filter (fun b=> !used.contains b) (h w mem_cons_self);have ih:∀u,(ji l u).Pairwise (fun a b=>Fy a b=true):=fun u=>uY fun x hx=>h x (mem_cons_of_mem _ hx);show(List.flatMap _ (w.filter fun b=> !used.contains b)).Pairwise _;generalize w.filter (fun b=> !used.contains b)=v at hw;induction v with
    | nil=>exact List.Pairwise.nil
    | cons b v iv=>
      rw[flatMap_cons];obtain⟨h1,h2⟩:=pairwise_cons.mp hw;refine List.pairwise_append.mpr ⟨?_,iv h2,fun x hx y hy=>?_⟩
      . refine List.Pairwise.map _ (fun x y hxy=>?_) (ih (b::used));rw[IW,if_pos rfl];exact hxy
      . obtain⟨f,_,rfl⟩:=mem_map.mp hx;obtain⟨c,hc,hy⟩:=mem_flatMap.mp hy;obtain⟨g,_,rfl⟩:=mem_map.mp hy;have:=h1 c hc;rw[IW,if_neg (by omega)];exact decide_eq_true this
theorem ou(l:Fd)(t t':Nat)(e:Bg):eY (Gj l t e) t'=if t'=t then some e else eY l t':=by
  unfold Gj;split
  . next h=>
    induction l with
    | nil=>cases h
    | cons x l ih=>
      rw[map_cons];by_cases z:x.1=t
      . rw[if_pos z];by_cases y:t'=t
        . rw[if_pos y];unfold eY;rw[find?_cons,decide_eq_true (by rw[z,y])];rfl
        . rw[if_neg y];have eZ:¬x.1=t':=fun q=>y (by rw[<-q,z]);have e1:eY (x::l) t'=eY l t':=by unfold eY;rw[find?_cons,decide_eq_false eZ]
          have e2:eY ((x.1,e)::l.map (fun x=>if x.1=t then (x.1,e) else x)) t'=eY (l.map (fun x=>if x.1=t then (x.1,e) else x)) t':=by unfold eY;rw[find?_cons,decide_eq_false eZ]
          rw[e1,e2];by_cases hl:(l.any fun x=>decide (x.1=t))=true
          . rw[ih hl,if_neg y]
          . have:l.map (fun x=>if x.1=t then (x.1,e) else x)=l:=by
              rw[not_eq_true,any_eq_false]at hl;conv=>rhs;rw[<-map_id l]
              refine map_congr_left fun q hq=>?_;have:=hl q hq;rw[if_neg (by simpa using this)];rfl
            rw[this]
      . rw[if_neg z];have hl:(l.any fun x=>decide (x.1=t))=true:=by rw[any_cons,decide_eq_false z,Bool.false_or]at h;exact h
        by_cases y:x.1=t'
        . have e1:eY (x::l) t'=some x.2:=by unfold eY;rw[find?_cons,decide_eq_true y];rfl
          have e2:eY (x::l.map (fun x=>if x.1=t then (x.1,e) else x)) t'=some x.2:=by unfold eY;rw[find?_cons,decide_eq_true y];rfl
          rw[e1,e2,if_neg (fun q=>z (by rw[y,q]))]
        . have e1:eY (x::l) t'=eY l t':=by unfold eY;rw[find?_cons,decide_eq_false y]
          have e2:eY (x::l.map (fun x=>if x.1=t then (x.1,e) else x)) t'=eY (l.map (fun x=>if x.1=t then (x.1,e) else x)) t':=by unfold eY;rw[find?_cons,decide_eq_false y]
          rw[e1,e2,ih hl]
  . next h=>
    rw[not_eq_true,any_eq_false]at h;have hn:eY l t=none:=by unfold eY;rw[find?_eq_none.mpr fun x hx=>h x hx];rfl
    unfold eY at hn ⊢;rw[List.find?_append];by_cases y:t'=t
    . rw[if_pos y,y];have:List.find? (fun x=>decide (x.1=t)) l=none:=find?_eq_none.mpr fun x hx=>h x hx;rw[this,Option.none_or,find?_cons,decide_eq_true rfl];rfl
    . rw[if_neg y];have:List.find? (fun x:Nat×Bg=>decide (x.1=t')) [(t,e)]=none:=by rw[find?_cons,decide_eq_false (fun q=>y q.symm)];rfl
      rw[this,Option.or_none]
def Below(lg:Fd)(t:Nat)(z:Bg):Prop:=∃e,eY lg t=some e/\lexLt (yt z) (yt e)=false
theorem Zl{t:Nat}{e:Bg}{lg:Fd}{o:Nat×Int}{t':Nat}{z:Bg}(h:Below lg t' z):Below (yd t e lg o) t' z:=by
  unfold yd;split
  . exact h
  . obtain⟨e',h1,h2⟩:=h;split
    . next hg=>refine⟨e',?_,h2⟩;rw[ou,if_neg (fun q=>by rw[<-q,h1]at hg;cases hg)];exact h1
    . next old hg=>
      split
      . next dD=>
        by_cases q:t'=t||| 2^o.1
        . refine⟨_,by rw[ou,if_pos q],?_⟩;rw[q,hg]at h1;injection h1 with h1;subst h1;cases y:lexLt (yt z) (yt (e.1+o.2,e.2++ [o.1]))with
          | false=>rfl
          | true=>rw[gc y dD]at h2;cases h2
        . exact⟨e',by rw[ou,if_neg q];exact h1,h2⟩
      . exact⟨e',h1,h2⟩
theorem acH{t:Nat}{e:Bg}{lg:Fd}{o:Nat×Int}(h:t.testBit o.1=false):Below (yd t e lg o) (t||| 2^o.1) (e.1+o.2,e.2++ [o.1]):=by
  unfold yd;rw[if_neg (by rw[h];decide)];split
  . exact⟨_,by rw[ou,if_pos rfl],de _⟩
  . next old hg=>
    split
    . exact⟨_,by rw[ou,if_pos rfl],de _⟩
    . next dD=>exact⟨old,hg,by simpa using dD⟩
theorem GU{x:Nat×Bg}{t':Nat}{z:Bg}:∀{off:List (Nat×Int)} {lg:Fd},Below lg t' z->Below (off.foldl (yd x.1 x.2) lg) t' z
  | [],lg,h=>h
  | o::off,lg,h=>GU (off:=off) (Zl h)
theorem TU{x:Nat×Bg}{o:Nat×Int}(h:x.1.testBit o.1=false):∀{off:List (Nat×Int)} {lg:Fd},o∈off->Below (off.foldl (yd x.1 x.2) lg) (x.1||| 2^o.1) (x.2.1+o.2,x.2.2++ [o.1])
  | [],lg,m=>by cases m
  | o'::off,lg,m=>by
    rw[foldl_cons];rcases mem_cons.mp m with rfl | m
    . exact GU (acH h)
    . exact TU h m
theorem TV{off:List (Nat×Int)}{t':Nat}{z:Bg}:∀{fd lg:Fd},Below lg t' z->Below (fd.foldl (OC off) lg) t' z
  | [],lg,h=>h
  | x::fd,lg,h=>TV (fd:=fd) (GU h)
theorem Zn{off:List (Nat×Int)}{x:Nat×Bg}{o:Nat×Int}(h:x.1.testBit o.1=false)(ho:o∈off):∀{fd lg:Fd},x∈fd->Below (fd.foldl (OC off) lg) (x.1||| 2^o.1) (x.2.1+o.2,x.2.2++ [o.1])
  | [],lg,m=>by cases m
  | y::fd,lg,m=>by
    rw[foldl_cons];rcases mem_cons.mp m with rfl | m
    . exact TV (TU h ho)
    . exact Zn h ho m
theorem MQ{l:Fd}{t:Nat}{e:Bg}(h:eY l t=some e):(t,e)∈l:=by unfold eY at h;obtain⟨x,h1,h2⟩:=Option.map_eq_some_iff.mp h;have:=List.find?_some h1;have t1:x.1=t:=of_decide_eq_true this;rw[<-t1,<-h2];exact List.mem_of_find?_eq_some h1
abbrev Wd:=List Nat×(Nat->Int)
def ND(w:Wd):List (Nat×Int):=w.1.map fun b=>(b,w.2 b)
def dn(ws:List Wd)(bs:List Nat):Int:=((ws.zip bs).map fun x=>x.1.2 x.2).sum
def mask(bs:List Nat):Nat:=bs.foldl (fun t b=>t||| 2^b) 0
theorem IX(bs:List Nat)(b:Nat):mask (bs++ [b])=mask bs||| 2^b:=by unfold mask;rw[foldl_append];rfl
theorem IE(b:Nat):∀(bs:List Nat) (t:Nat),(bs.foldl (fun t b=>t||| 2^b) t).testBit b=(t.testBit b||decide (b∈bs))
  | [],t=>by simp
  | c::bs,t=>by
    rw[foldl_cons,IE b bs,Nat.testBit_or,Nat.testBit_two_pow,Bool.or_assoc];congr 1;by_cases e:c=b
    . subst e;simp
    . rw[decide_eq_false e,Bool.false_or];exact decide_eq_decide.mpr ⟨fun h=>mem_cons_of_mem _ h,fun h=>by rcases mem_cons.mp h with h | h;exact absurd h.symm e;exact h⟩
theorem Ng(bs:List Nat)(b:Nat):(mask bs).testBit b=decide (b∈bs):=by unfold mask;rw[IE,Nat.zero_testBit,Bool.false_or]
def OS(ws:List Wd)(bs:List Nat):Prop:=Paired (fun b w=>b∈w) bs (ws.map (·.1))/\bs.Nodup
theorem OS.len{ws:List Wd}{bs:List Nat}(h:OS ws bs):bs.length=ws.length:=by have:=aD h.1;rwa[length_map]at this
theorem pK{α β:Type}{R:α->β->Prop}{bs:List β}{b:β}:∀{as:List α},Paired R as (bs++ [b])->∃Z8 a,as=Z8++ [a]/\Paired R Z8 bs/\R a b:=by
  induction bs with
  | nil=>
    intro as h;cases h with
    | cons h t=>cases t;exact⟨[],_,rfl,.nil,h⟩
  | cons c bs ih=>
    intro as h;cases h with
    | cons h t=>obtain⟨Z8,a,rfl,p,r⟩:=ih t;exact⟨_::Z8,a,rfl,.cons h p,r⟩
theorem IM{ws:List Wd}{w:Wd}{bs:List Nat}:OS (ws++ [w]) bs↔ ∃JI b,bs=JI++ [b]/\OS ws JI/\b∈w.1/\b∉JI:=by
  constructor
  . rintro⟨h,hn⟩;rw[map_append]at h;obtain⟨JI,b,rfl,p,r⟩:=pK h;rw[nodup_append]at hn;exact⟨JI,b,rfl,⟨p,hn.1⟩,r,fun m=>hn.2.2 b m b mem_cons_self rfl⟩
  . rintro⟨JI,b,rfl,⟨p,hn⟩,r,hb⟩;refine⟨?_,?_⟩
    . rw[map_append];exact dg p (.cons r .nil)
    . rw[nodup_append];refine⟨hn,nodup_cons.mpr ⟨not_mem_nil,nodup_nil⟩,fun a ha c hc e=>?_⟩;rw[mem_singleton]at hc;exact hb (hc▸e▸ha)
theorem En{ws:List Wd}{w:Wd}{bs:List Nat}{b:Nat}(h:bs.length=ws.length):dn (ws++ [w]) (bs++ [b])=dn ws bs+w.2 b:=by unfold dn;rw[List.zip_append h.symm,map_append,sum_append];simp
theorem Te{b:Int}:∀{x y:List Int},x.length=y.length->lexLt (x++ [b]) (y++ [b])=lexLt x y
  | [],[],_=>by rw[nil_append,de];rfl
  | [],_::_,h=>by cases h
  | _::_,[],h=>by cases h
  | a::x,c::y,h=>by rw[List.cons_append,List.cons_append,bK,bK,Te (by simpa using h)]
theorem X4{c c' k:Int}{b:Nat}{x y:List Nat}(h:x.length=y.length):lexLt (yt (c+k,x++ [b])) (yt (c'+k,y++ [b]))=lexLt (yt (c,x)) (yt (c',y)):=by
  show lexLt ((c+k)::az (x++ [b])) ((c'+k)::az (y++ [b]))=lexLt (c::az x) (c'::az y);rw[bK,bK];have:lexLt (az (x++ [b])) (az (y++ [b]))=lexLt (az x) (az y):=by unfold az;rw[map_append,map_append];exact Te (by simpa using h)
  rw[this];by_cases e:c=c'
  . rw[if_pos e,if_pos (by omega)]
  . rw[if_neg e,if_neg (by omega)];exact decide_eq_decide.mpr (by omega)
theorem sZ:∀a b:List Int,lexLt a b=true\/a=b\/lexLt b a=true
  | [],[]=>.inr (.inl rfl)
  | [],_::_=>.inl rfl
  | _::_,[]=>.inr (.inr rfl)
  | x::xs,y::ys=>by
    rw[bK,bK];by_cases e:x=y
    . subst e;rw[if_pos rfl,if_pos rfl];rcases sZ xs ys with h | h | h
      . exact .inl h
      . exact .inr (.inl (by rw[h]))
      . exact .inr (.inr h)
    . rw[if_neg e,if_neg (fun q=>e q.symm)];by_cases h:x<y
      . exact .inl (decide_eq_true h)
      . exact .inr (.inr (decide_eq_true (by omega)))
theorem mq{α:Type}{motive:List α->Prop}(nil:motive [])(snoc:∀l x,motive l->motive (l++ [x]))(l:List α):motive l:=by
  have:∀r:List α,motive r.reverse:=fun r=>by
    induction r with
    | nil=>exact nil
    | cons a r ih=>rw[reverse_cons];exact snoc _ _ ih
  have:=this l.reverse;rwa[List.reverse_reverse]at this
theorem W2(ws:List Wd):(∀x∈cf (ws.map ND),OS ws x.2.2/\x.2.1=dn ws x.2.2/\x.1=mask x.2.2)/\∀bs,OS ws bs->Below (cf (ws.map ND)) (mask bs) (dn ws bs,bs):=by
  induction ws using mq with
  | nil=>
    refine⟨fun x hx=>?_,fun bs h=>?_⟩
    . have:x=(0,(0,[])):=mem_singleton.mp hx;subst this;exact⟨⟨.nil,nodup_nil⟩,rfl,rfl⟩
    . obtain⟨h,_⟩:=h;cases h;exact⟨(0,[]),rfl,rfl⟩
  | snoc ws w ih=>
    obtain⟨i1,i2⟩:=ih;have e:cf ((ws++ [w]).map ND)=wn (cf (ws.map ND)) (ND w):=by rw[map_append,List.map_singleton,SA]
    rw[e];refine⟨fun x hx=>?_,fun bs h=>?_⟩
    . obtain⟨y,hy,o,ho,hb,h1,h2⟩:=Zm hx;obtain⟨b,MU,rfl⟩:=mem_map.mp ho;obtain⟨j1,j2,j3⟩:=i1 y hy;dsimp only at hb h1 h2;have hnb:b∉y.2.2:=fun m=>by rw[j3,Ng,decide_eq_true m]at hb;cases hb
      rw[h1,h2];refine⟨IM.mpr ⟨_,_,rfl,j1,MU,hnb⟩,?_,?_⟩
      . show y.2.1+w.2 b=_;rw[En j1.len,j2]
      . rw[IX,j3]
    . obtain⟨JI,b,rfl,p,r,hb⟩:=IM.mp h;obtain⟨e',g1,g2⟩:=i2 JI p;have hm:=MQ g1;obtain⟨j1,j2,j3⟩:=i1 _ hm;dsimp only at j1 j2 j3;have Kq:(mask JI).testBit b=false:=by rw[Ng];exact decide_eq_false hb
      obtain⟨e2,k1,k2⟩:=Zn (off:=ND w) (x:=(mask JI,e')) (o:=(b,w.2 b)) Kq (mem_map.mpr ⟨b,r,rfl⟩) (fd:=cf (ws.map ND)) (lg:=[]) hm;dsimp only at k1 k2;refine⟨e2,by rw[IX];exact k1,?_⟩;cases y:lexLt (yt (dn (ws++ [w]) (JI++ [b]),JI++ [b])) (yt e2)with
      | false=>rfl
      | true=>
        exfalso;rw[En p.len]at y;have hle:lexLt (yt (dn ws JI+w.2 b,JI++ [b])) (yt (e'.1+w.2 b,e'.2++ [b]))=false:=by rw[X4 (by rw[p.len,j1.len])];exact g2
        rcases sZ (yt (e'.1+w.2 b,e'.2++ [b])) (yt (dn ws JI+w.2 b,JI++ [b]))with q | q | q
        . rw[gc q y]at k2;cases k2
        . rw[q,y]at k2;cases k2
        . rw[q]at hle;cases hle
end My
namespace My
open PySem PySem.Spec PyProof.Rows L2 HT
theorem E7{ws:List Wd}{bs:List Nat}:OS ws bs↔bs∈ji (ws.map (·.1)) []:=by rw[i5];exact⟨fun⟨a,b⟩=>⟨a,b,fun _ _=>not_mem_nil⟩,fun⟨a,b,_⟩=>⟨a,b⟩⟩
theorem Px{ws:List Wd}(h:cf (ws.map ND)=[]):ji (ws.map (·.1)) []=[]:=by
  cases q:ji (ws.map (·.1)) []with
  | nil=>rfl
  | cons bs l=>
    have:bs∈ji (ws.map (·.1)) []:=by rw[q];exact mem_cons_self
    obtain⟨e,h1,_⟩:=(W2 ws).2 bs (E7.mpr this);rw[h]at h1;cases h1
def mS(m:List Nat->Int)(L:List (List Nat))(g:List Nat):Prop:=g∈L/\∀f∈L,lexLt (m f::az f) (m g::az g)=false
theorem Em{ws:List Wd}{e:Bg}(h:HV (cf (ws.map ND)) e):mS (dn ws) (ji (ws.map (·.1)) []) e.2/\e.1=dn ws e.2:=by
  obtain⟨⟨t,ht⟩,hm⟩:=h;obtain⟨i1,i2⟩:=W2 ws;obtain⟨j1,j2,j3⟩:=i1 _ ht;dsimp only at j1 j2 j3;refine⟨⟨E7.mp j1,fun f hf=>?_⟩,j2⟩;obtain⟨e',g1,g2⟩:=i2 f (E7.mpr hf);have k:=hm _ (MQ g1);dsimp only at k;have k:lexLt (yt e') (yt e)=false:=k;have g2:lexLt (dn ws f::az f) (yt e')=false:=g2;rw[<-j2];show lexLt (dn ws f::az f) (yt e)=false;cases y:lexLt (dn ws f::az f) (yt e)with
  | false=>rfl
  | true=>
    exfalso;rcases sZ (yt e') (dn ws f::az f)with q | q | q
    . rw[gc q y]at k;cases k
    . rw[q,y]at k;cases k
    . rw[q]at g2;cases g2
theorem zI{a b:List Nat}(h:az a=az b):a=b:=by unfold az at h;exact List.map_inj_right (fun _ _ z=>by omega)|>.mp h
theorem Bh{m:List Nat->Int}{L:List (List Nat)}{g g':List Nat}(h:mS m L g)(h':mS m L g'):g=g':=by
  rcases sZ (m g::az g) (m g'::az g')with q | q | q
  . rw[h'.2 g h.1]at q;cases q
  . exact zI (List.cons.inj q).2
  . rw[h.2 g' h'.1]at q;cases q
def pick(m:List Nat->Int)(o:Option (List Nat))(f:List Nat):Option (List Nat):=match o with
  | none=>some f
  | some g=>if m f<m g then some f else some g
theorem IV{a b:List Nat}(h:Fy a b=true):Fy b a=false:=by
  cases q:Fy b a with
  | false=>rfl
  | true=>have:=gc h q;rw[de]at this;cases this
theorem P6(m:List Nat->Int)(L:List (List Nat))(hs:L.Pairwise (fun a b=>Fy a b=true)):(L=[]/\L.foldl (pick m) none=none)\/∃g,L.foldl (pick m) none=some g/\mS m L g:=by
  induction L using mq with
  | nil=>exact .inl ⟨rfl,rfl⟩
  | snoc L x ih=>
    obtain⟨h1,h2,h3⟩:=List.pairwise_append.mp hs;right;rw[foldl_append];rcases ih h1 with⟨rfl,e⟩ | ⟨g,e,hg,hm⟩
    . refine⟨x,rfl,mem_cons_self,fun f hf=>?_⟩;have:f=x:=mem_singleton.mp hf;subst this;exact de _
    . rw[e];have ge:∀f∈L,m g<=m f:=fun f hf=>by
        have:=hm f hf;rw[bK]at this;by_cases q:m f=m g
        . omega
        . rw[if_neg q]at this;have:=of_decide_eq_false this;omega
      by_cases dD:m x<m g
      . refine⟨x,by show(if m x<m g then some x else some g)=_;rw[if_pos dD],mem_append_right _ mem_cons_self,fun f hf=>?_⟩;rcases mem_append.mp hf with hf | hf
        . have:=ge f hf;rw[bK,if_neg (by omega)];exact decide_eq_false (by omega)
        . have:f=x:=mem_singleton.mp hf;subst this;exact de _
      . refine⟨g,by show(if m x<m g then some x else some g)=_;rw[if_neg dD],mem_append_left _ hg,fun f hf=>?_⟩;rcases mem_append.mp hf with hf | hf
        . exact hm f hf
        . have:f=x:=mem_singleton.mp hf;subst this;rw[bK];by_cases q:m f=m g
          . rw[if_pos q];exact IV (h3 g hg f mem_cons_self)
          . rw[if_neg q];exact decide_eq_false (by omega)
theorem Qe{L:List (List Nat)}(hs:L.Pairwise (fun a b=>Fy a b=true)){g:List Nat}(h:L.head? =some g)(m:List Nat->Int)(hm:∀f∈L,m f=m g):mS m L g:=by
  cases L with
  | nil=>cases h
  | cons a L=>
    have:a=g:=Option.some.inj h;subst this;refine⟨mem_cons_self,fun f hf=>?_⟩;rw[bK,if_pos (hm f hf)];rcases mem_cons.mp hf with rfl | hf
    . exact de _
    . exact IV ((pairwise_cons.mp hs).1 f hf)
def toF(due bs:List Nat):Flight:=(due.zip bs).map fun x=>⟨x.1,x.2⟩
theorem lm:∀(ws:List (Nat×List Nat)) (used:List Nat),flightsFrom ws used=(ji (ws.map (·.2)) used).map (toF (ws.map (·.1)))
  | [],used=>rfl
  | w::ws,used=>by show(List.flatMap _ _)=_;rw[map_cons];show _=(List.flatMap _ _).map _;rw[List.map_flatMap];congr 1;funext b;rw[lm ws (b::used),map_map,map_map];rfl
theorem OB(s:Vbreai.State):(wishes s).map (·.2)=aO s:=by unfold wishes aO;rw[map_map];rfl
theorem OA(s:Vbreai.State):(wishes s).map (·.1)=s.due:=by unfold wishes;rw[map_map];exact map_id _
theorem eM(s:Vbreai.State):flights s=(ji (aO s) []).map (toF s.due):=by unfold flights;rw[lm,OA,OB]
theorem Ze{due bs:List Nat}(h:bs.length=due.length):(toF due bs).map (·.boat)=bs:=by unfold toF;rw[map_map];have:(fun x:Nat×Nat=>(⟨x.1,x.2⟩:Pair).boat)=Prod.snd:=rfl;show((due.zip bs).map Prod.snd)=bs;rw[List.map_snd_zip (by omega)]
theorem i8{due bs:List Nat}(h:bs.length=due.length):boatsIn (toF due bs)=cnt (az bs):=by
  unfold boatsIn counted cnt;have e:(toF due bs).flatMap (fun(p:Pair)=>[(p.boat:Int)])=az bs:=by
    have:az bs=az ((toF due bs).map (·.boat)):=by rw[Ze h]
    rw[this];unfold az;rw[map_map,List.flatMap_def];generalize toF due bs=l;induction l with
    | nil=>rfl
    | cons a l ih=>rw[map_cons,flatten_cons,ih,map_cons];rfl
  rw[e];congr 1;unfold az toF;simp[h]
theorem eW{l:List (List Nat)}{bs used:List Nat}(h:bs∈ji l used):bs.length=l.length:=aD (i5.mp h).1
theorem a7(s:Vbreai.State):(aO s).length=s.due.length:=by unfold aO;rw[length_map]
theorem rd{s:Vbreai.State}(W:Wf s):(ji (aO s) []).Pairwise (fun a b=>Fy a b=true):=uY (dP W).n
def w0(xs:List Nat):Wd:=(xs,fun _=>0)
theorem Xn(aj:List (List Nat)):aj.map wM=(aj.map w0).map ND:=by rw[map_map];rfl
theorem Zj(aj:List (List Nat)):(aj.map w0).map (·.1)=aj:=by rw[map_map];exact map_id _
theorem Pz:∀(aj:List (List Nat)) (bs:List Nat),dn (aj.map w0) bs=0
  | [],bs=>by unfold dn;simp
  | xs::aj,[]=>by unfold dn;simp
  | xs::aj,b::bs=>by have:=Pz aj bs;unfold dn at this ⊢;rw[map_cons,zip_cons_cons,map_cons,sum_cons,this];rfl
theorem P5{aj:List (List Nat)}(bj:LsOk aj):(cf (aj.map wM)=[]->(ji aj []).head? =none)/\∀e,HV (cf (aj.map wM)) e->(ji aj []).head? =some e.2:=by
  rw[Xn];refine⟨fun h=>?_,fun e h=>?_⟩
  . have:=Px h;rw[Zj]at this;rw[this];rfl
  . obtain⟨h1,_⟩:=Em h;rw[Zj]at h1;cases q:(ji aj []).head? with
    | none=>rw[List.head?_eq_none_iff.mp q]at h1;cases h1.1
    | some g=>have:=Qe (uY bj.n) q (dn (aj.map w0)) (fun f _=>by rw[Pz,Pz]);rw[Bh h1 this]
theorem Hk(s:Vbreai.State)(due:List Nat)(L:List (List Nat)):∀(o:Option (List Nat)),(L.map (toF due)).foldl (cheaper s) (o.map (toF due))=(L.foldl (pick fun bs=>(price s (toF due bs):Int)) o).map (toF due):=by
  induction L with
  | nil=>intro o;rfl
  | cons x L ih=>
    intro o;rw[map_cons,foldl_cons,foldl_cons,<-ih];congr 1;cases o with
    | none=>rfl
    | some g=>
      show(if price s (toF due x)<price s (toF due g) then some (toF due x) else some (toF due g))=Option.map (toF due) (if (price s (toF due x):Int)<(price s (toF due g):Int) then some x else some g);by_cases h:price s (toF due x)<price s (toF due g)
      . rw[if_pos h,if_pos (by omega)];rfl
      . rw[if_neg h,if_neg (by omega)];rfl
theorem Km(f:Flight)(due:List Nat)(L:List (List Nat)):∀(o:Option (List Nat)),(L.map (toF due)).foldl (nearer f) (o.map (toF due))=(L.foldl (pick fun bs=>(Vbreai.moves f (toF due bs):Int)) o).map (toF due):=by
  induction L with
  | nil=>intro o;rfl
  | cons x L ih=>
    intro o;rw[map_cons,foldl_cons,foldl_cons,<-ih];congr 1;cases o with
    | none=>rfl
    | some g=>
      show(if Vbreai.moves f (toF due x)<Vbreai.moves f (toF due g) then some (toF due x) else some (toF due g))=Option.map (toF due) (if (Vbreai.moves f (toF due x):Int)<(Vbreai.moves f (toF due g):Int) then some x else some g);by_cases h:Vbreai.moves f (toF due x)<Vbreai.moves f (toF due g)
      . rw[if_pos h,if_pos (by omega)];rfl
      . rw[if_neg h,if_neg (by omega)];rfl
theorem xb{m m':List Nat->Int}{L:List (List Nat)}{g:List Nat}(h:∀f∈L,m f=m' f)(l:mS m L g):mS m' L g:=
  ⟨l.1,fun f hf=>by rw[<-h f hf,<-h g l.1];exact l.2 f hf⟩
theorem Jc{m:List Nat->Int}{L:List (List Nat)}(hs:L.Pairwise (fun a b=>Fy a b=true)){g:List Nat}(h:mS m L g):L.foldl (pick m) none=some g:=by
  rcases P6 m L hs with⟨rfl,_⟩ | ⟨g',e,h'⟩
  . cases h.1
  . rw[e,Bh h h']
theorem foldl_add:∀(l:List Nat) (n:Nat),l.foldl (fun a b=>a+b) n=n+l.sum
  | [],n=>by simp
  | a::l,n=>by rw[foldl_cons,foldl_add l,sum_cons];omega
def wp(s:Vbreai.State)(c:Nat):Wd:=(boatsFor s c,fun b=>(costOf s c b:Int))
theorem VE(s:Vbreai.State):s.due.map (fT s)=(s.due.map (wp s)).map ND:=by rw[map_map];rfl
theorem Zp(s:Vbreai.State):(s.due.map (wp s)).map (·.1)=aO s:=by rw[map_map];rfl
theorem sA:∀l:List Nat,((l.sum:Nat):Int)=(az l).sum
  | []=>rfl
  | a::l=>by show(((a::l).sum:Nat):Int)=((a:Int)::az l).sum;rw[sum_cons,sum_cons,<-sA l];omega
theorem pN(s:Vbreai.State)(bs:List Nat):(price s (toF s.due bs):Int)=dn (s.due.map (wp s)) bs:=by unfold price;rw[foldl_add,zero_add,sA];unfold dn toF az;rw[map_map,map_map,List.zip_map_left,map_map];rfl
theorem Ia{s:Vbreai.State}(W:Wf s):(cf (s.due.map (fT s))=[]->Vbreai.best s=none/\ji (aO s) []=[])/\∀e,HV (cf (s.due.map (fT s))) e->Vbreai.best s=some (toF s.due e.2)/\e.1=(price s (toF s.due e.2):Int)/\mS (dn (s.due.map (wp s))) (ji (aO s) []) e.2:=by
  rw[VE];have hb:Vbreai.best s=((ji (aO s) []).foldl (pick fun bs=>(price s (toF s.due bs):Int)) none).map (toF s.due):=by unfold Vbreai.best;rw[eM];exact Hk s s.due _ none
  refine⟨fun h=>?_,fun e h=>?_⟩
  . have:=Px h;rw[Zp]at this;rw[hb,this];exact⟨rfl,rfl⟩
  . obtain⟨h1,h2⟩:=Em h;rw[Zp]at h1;have h3:=xb (m':=fun bs=>(price s (toF s.due bs):Int)) (fun f _=>(pN s f).symm) h1;rw[hb,Jc (rd W) h3];exact⟨rfl,by rw[h2,pN],h1⟩
def wr(s:Vbreai.State)(x:Nat×Int):Wd:=(boatsFor s x.1,fun b=>if (b:Int)=x.2 then 0 else 1)
theorem wq{b:Nat}{c:Nat}:∀{due:List Nat} {l:List Int} {t:Int},due.Nodup->(∀z∈l,0<=z)->(c,t)∈due.zip l->(((due.zip l).map fun p=>(⟨p.1,p.2.toNat⟩:Pair)).contains ⟨c,b⟩=decide ((b:Int)=t)):=by
  intro due l t nd hl hm;rw[Bool.eq_iff_iff,contains_iff_mem,decide_eq_true_eq];constructor
  . intro h;obtain⟨⟨c',t'⟩,h1,h2⟩:=mem_map.mp h;injection h2 with h2 h3;dsimp only at h2 h3;subst h2;have:t'=t:=by
      obtain⟨i,hi⟩:=getElem?_of_mem h1;obtain⟨j,hj⟩:=getElem?_of_mem hm;rw[List.getElem?_zip_eq_some]at hi hj;have hij:i=j:=by obtain⟨li,ei⟩:=List.getElem?_eq_some_iff.mp hi.1;exact(getElem?_inj li nd).mp (by rw[hi.1,hj.1])
      rw[hij,hj.2]at hi;exact(Option.some.inj hi.2).symm
    rw[<-this];have:=hl t' (of_mem_zip h1).2;omega
  . intro h;refine mem_map.mpr ⟨(c,t),hm,?_⟩;dsimp only;congr 1;omega
theorem FK{s:Vbreai.State}(W:Wf s){l:List Int}(hl:l.length=s.due.length)(h0:∀z∈l,0<=z){bs:List Nat}:(Vbreai.moves (flightOf s l) (toF s.due bs):Int)=dn ((s.due.zip l).map (wr s)) bs:=by
  unfold Vbreai.moves flightOf toF dn;have gen:∀(due:List Nat) (l':List Int) (bs:List Nat),due.length=l'.length->(∀x∈due.zip l',x∈s.due.zip l)->
      ((((due.zip bs).map fun x=>(⟨x.1,x.2⟩:Pair)).filter fun p=> !((s.due.zip l).map fun p=>(⟨p.1,p.2.toNat⟩:Pair)).contains p).length:Int)=((((due.zip l').map (wr s)).zip bs).map fun x=>x.1.2 x.2).sum:=by
    intro due;induction due with
    | nil=>intro l' bs h _;cases l' with
      | nil=>simp
      | cons _ _=>cases h
    | cons c due ih=>
      intro l' bs h hx;cases l' with
      | nil=>cases h
      | cons t l'=>
        cases bs with
        | nil=>simp
        | cons b bs=>
          have i:=ih l' bs (by simpa using h) fun x Qj=>hx x (mem_cons_of_mem _ Qj);have hc:=wq (b:=b) (PY W) h0 (hx (c,t) mem_cons_self);rw[zip_cons_cons,map_cons,filter_cons,zip_cons_cons,map_cons,zip_cons_cons,map_cons,sum_cons,<-i];dsimp only;rw[hc];by_cases e:(b:Int)=t
          . rw[decide_eq_true e];show((filter _ _).length:Int)=(if (b:Int)=t then 0 else 1)+_;rw[if_pos e];omega
          . rw[decide_eq_false e];show((_::filter _ _).length:Int)=(if (b:Int)=t then 0 else 1)+_;rw[if_neg e,length_cons];omega
  exact gen s.due l bs hl.symm fun x hx=>hx
theorem Zq{s:Vbreai.State}{l:List Int}(hl:l.length=s.due.length):((s.due.zip l).map (wr s)).map (·.1)=aO s:=by rw[map_map];have:((fun x:Wd=>x.1)∘wr s)=(boatsFor s)∘Prod.fst:=rfl;rw[this,<-map_map,map_fst_zip (by omega)];rfl
theorem N3{s:Vbreai.State}(W:Wf s){l:List Int}(hl:l.length=s.due.length)(h0:∀z∈l,0<=z):(cf (((s.due.zip l).map (wr s)).map ND)=[]->repaired s (flightOf s l)=none)/\∀e,HV (cf (((s.due.zip l).map (wr s)).map ND)) e->repaired s (flightOf s l)=some (toF s.due e.2)/\e.1=(Vbreai.moves (flightOf s l) (toF s.due e.2):Int)/\e.2∈ji (aO s) []:=by
  have hb:repaired s (flightOf s l)=((ji (aO s) []).foldl (pick fun bs=>(Vbreai.moves (flightOf s l) (toF s.due bs):Int)) none).map (toF s.due):=by unfold repaired;rw[eM];exact Km _ s.due _ none
  refine⟨fun h=>?_,fun e h=>?_⟩
  . have:=Px h;rw[Zq hl]at this;rw[hb,this];rfl
  . obtain⟨h1,h2⟩:=Em h;rw[Zq hl]at h1;have h3:=xb (m':=fun bs=>(Vbreai.moves (flightOf s l) (toF s.due bs):Int)) (fun f _=>(FK W hl h0).symm) h1;rw[hb,Jc (rd W) h3];exact⟨rfl,by rw[h2,FK W hl h0],h1.1⟩
end My
namespace My
open PySem PySem.Spec PyProof.Rows L2 HT
def Wo(aj:List (List Nat))(k:Nat)(b:Nat):List Nat:=(List.range (Du aj b).length).filter fun i=>decide ((Du aj b).getD i 0<=k)
def VI(aj:List (List Nat))(k:Nat):Option (List Nat):=if k=1 then (ji aj []).head? else if cA aj k=true then comp aj (Wo aj (k-1)) aj.length [] (Wp aj ((k-1:Nat):Int)) else none
def rem(aj:List (List Nat))(f:List Nat):List (List Nat):=(aj.zip f).map fun x=>x.1.filter fun b=>decide (b≠x.2)
def qj:Nat->List (List Nat)->Option (List (List Nat))
  | 0,_=>some []
  | k+1,aj=>match VI aj (k+1)with
    | none=>none
    | some f=>(qj k (rem aj f)).map fun l=>f::l
theorem YF{aj:List (List Nat)}(h:LsOk aj)(f:List Nat):LsOk (rem aj f):=by
  refine⟨?_,fun xs hx=>?_,fun xs hx=>?_⟩
  . unfold rem;rw[length_map,length_zip];exact le_trans (min_le_left _ _) h.l
  . obtain⟨⟨a,b⟩,hm,rfl⟩:=mem_map.mp hx;exact List.Pairwise.filter _ (h.n a (of_mem_zip hm).1)
  . obtain⟨⟨a,b⟩,hm,rfl⟩:=mem_map.mp hx;exact fun x hx=>h.b a (of_mem_zip hm).1 x (mem_filter.mp hx).1
theorem afH{lo c:Int}{n:Nat}{g:TG}{tb:TS}{D:Ends}{σ:L2.St}{H:Hp}(Pv:Nat->L2.St->Hp->Prop)(h0:Pv 0 σ H)(hs:∀(i:Nat) σ H,i<n->Pv i σ H->g (.int (lo+(i:Nat)*c)) σ H fun σ2 H2=>tb { D with nx:=Pv (i+1),ct:=Pv (i+1),bk:=D.nx} σ2 H2)(hd:∀σ H,Pv n σ H->D.nx σ H):∃W:Nat->Nat->L2.St->Hp->Prop,(∃m,W 0 m σ H)/\∀i m σ H,W i m σ H->((Itc lo c n).stop i H/\D.nx σ H)\/((Itc lo c n).go i H/\∃N:L2.St->Hp->Prop,(∀σ' H',N σ' H'->∃m',m'<m/\W (i+1) m' σ' H')/\∀x H',(Itc lo c n).LW i H x H'->g x σ H' fun σ2 H2=>tb { D with nx:=N,ct:=N,bk:=D.nx} σ2 H2):=
  sT n Pv h0 (fun i σ H hi p=>hi) (fun σ H p=>le_refl _)
    (fun i x σ H H' hi p y=>by obtain⟨e,y⟩:=y;subst e y;exact hs i σ _ hi p) hd
theorem KU(l:List Nat)(b:Nat):(az l).filter (fun x=>decide (x≠(b:Int)))=az (l.filter fun x=>decide (x≠b)):=by
  induction l with
  | nil=>rfl
  | cons a l ih=>
    show filter _ ((a:Int)::az l)=_;rw[filter_cons,filter_cons,ih];by_cases e:a=b
    . rw[if_neg (by simp[e]),if_neg (by simp[e])]
    . rw[if_pos (by simp;omega),if_pos (by simp[e])];rfl
section
variable{P:Program}{w:World}{K:Frag}{mg:Str->Option Value}{base:Heap}
def aft(o:Option (List Nat))(H:Hp)(Q:VK):Prop:=(o=none->∀H',aA H H'->Q .dZ H')/\∀l,o=some l->∀x H',H x=none->aA H H'->H' x=some (.lst (ax l))->Q (.ref x) H'
def agV:Sp:=fun vs H Q _=>∃(a:Addr) (aj:List (List Nat)) (k:Nat),vs=[.ref a,.int k]/\yf H a aj/\LsOk aj/\1<=k/\k<=1000/\aft (VI aj k) H Q
theorem ES{aj:List (List Nat)}(bj:LsOk aj){H:Hp}{Q:VK}(h:aft (ji aj []).head? H Q):Se (cf (aj.map wM)) H Q:=by obtain⟨m1,m2⟩:=P5 bj;exact⟨fun e H' s=>h.1 (m1 e) H' s,fun e he x H' hx s hl=>h.2 _ (m2 e he) x H' hx s hl⟩
theorem jf(T:Txt K mg):ay P w K mg base bo 11 T.bq.f T.bq.fd ["offers","flights"] (agV):=by
  have kh:ay P w K mg base bo 3 _ _ _ _:=qi T;have fB:ay P w K mg base bo 2 _ _ _ _:=lU T;have cw:ay P w K mg base bo 2 _ _ _ _:=eO T;have Bw:ay P w K mg base bo 2 _ _ _ _:=zW T;have kg:ay P w K mg base bo 1 _ _ _ _:=qh T;have qo:ay P w K mg base bo 9 _ _ _ _:=xu T 8;refine T.bq.F.ok jh (fun vs H Q E h=>?_) (fun bP A outer s H vs Q E hr h=>?_)
  . obtain⟨a,aj,k,rfl,_⟩:=h;rfl
  . obtain⟨a,aj,k,rfl,ha,bj,ZA,hk,kk⟩:=h;refine⟨_,(ag (bW (cT FZ (pv 1) aE (ez _)) (ai (aq (aH kh (hr.mono (by decide)) rfl T.bZ.g T.bZ.F.kp T.bZ.b .nil aI (aa (pv 0) ab)))) aZ) (ag (aY (i:=2) (jh.nd) rfl (Or.inl rfl) (Lf T.iL fB (hr.mono (by decide)) rfl T.yH T.dc.b .nil aI (aa (pv 0) ab))) (ag (bW (dy (fU (bT (pv 2) T.cV T.bp.m cw (hr.mono (by decide)) T.bp.b .nil aI (aa (pv 1) ab)))) (ai (aq vG)) aZ) (ai (aq (aH qo (hr.mono (by decide)) rfl T.cD.g T.cD.F.kp T.cD.b .nil aI (aa (aS ab) (aa (pv 0) (aa (bT (pv 2) T.cV T.dW.m Bw (hr.mono (by decide)) T.dW.b .nil aI (aa (bV vD (pv 1) aE) ab)) (aa (bT (pv 2) T.cV T.cK.m kg (hr.mono (by decide)) T.cK.b .nil aI (aa (bV vD (pv 1) aE) ab)) ab)))))))))),?_⟩;refine⟨_,rfl,rfl,_,rfl,?_⟩;by_cases e1:k=1
    . have e:decide (V.int (k:Nat)=V.int 1)=true:=decide_eq_true (by rw[e1];rfl);rw[e];unfold VI at kk;rw[if_pos e1]at kk;exact cx ⟨_,rfl,a,aj,rfl,ha,bj,ES bj kk⟩
    . have e:decide (V.int (k:Nat)=V.int 1)=false:=decide_eq_false (fun q=>by injection q with q;omega);rw[e];unfold VI at kk;rw[if_neg e1]at kk;refine cU ⟨_,rfl,fun x dx nx nd ne=>?_⟩;refine⟨x,dx,a,aj,rfl,ae,KP ha nx nd,bj,fun H1 x1 hp=>⟨rfl,?_⟩⟩;have s1:aA H H1:=aA.made nx nd x1;obtain⟨dx',a',d',hi⟩:=hp.ins;refine⟨_,rfl,x,_,_,rfl,hi,rfl,_,rfl,x,aj,k,rfl,hp,bj.l,hk,fun H2 s2=>⟨_,rfl,?_⟩⟩;have tx:=s1.trans s2;cases hen:cA aj k with
      | false=>rw[hen]at kk;exact cx (kk.1 rfl H2 tx)
      | true=>
        rw[hen]at kk;refine cU ⟨sz (by simp),fun u hu=>?_⟩;have s3:=ak (o:=.lst []) hu;have s23:=s2.trans s3;have ek:(k:Int)-1=((k-1:Nat):Int):=by omega
        refine⟨_,rfl,_,rfl,x,_,_,rfl,s23 _ _ hi,rfl,_,rfl,_,_,rfl,rfl,x,aj,k-1,(by rw[<-ek];rfl),hp.same s23,bj.l,by omega,fun D4 H4 hD4 s4 hT4=>?_⟩;have s24:=s23.trans s4;refine⟨_,rfl,x,_,_,rfl,s24 _ _ hi,rfl,_,rfl,_,_,rfl,rfl,x,aj,k-1,(by rw[<-ek];rfl),hp.same s24,bj.l,by omega,fun D5 H5 hD5 s5 S7=>?_⟩;have s25:=s24.trans s5;have Tx:=s1.trans s25;have afN:=VD bj.l;refine⟨u,a,D4,D5,[],aj,Wo aj (k-1),Wp aj ((k-1:Nat):Int),aj.length,rfl,s5 _ _ (s4 _ _ ae),ha.same Tx,bj,hT4.same s5,S7,by rw[pU];omega,fun b i hi=>?_,fun b=>?_,by simp,bj.l,fun LQ H6 s6=>?_,fun l hl x6 H6 hx6 s6 e6=>?_⟩
        . have:=mem_range.mp (mem_filter.mp hi).1;rw[pV]at this;rw[pU];exact this
        . unfold Wo;refine le_trans (length_filter_le _ _) ?_;rw[length_range,pV];omega
        . exact kk.1 (by rw[if_pos rfl];exact LQ) H6 (Tx.trans s6)
        . refine kk.2 l (by rw[if_pos rfl];exact hl) x6 H6 ?_ (Tx.trans s6) e6;rcases hx6 with h | h
          . exact Tx.free h
          . rw[h];exact tx.free hu
def Y2:Sp:=fun vs H Q _=>∃(a:Addr) (aj:List (List Nat)) (k:Nat),vs=[.ref a,.int k]/\yf H a aj/\LsOk aj/\k<=1000/\(qj k aj=none->∀H',aA H H'->Q .dZ H')/\∀Tr,qj k aj=some Tr->acI H Q Tr
theorem yf.off{H H':Hp}{D a:Addr}{aj:List (List Nat)}(h:yf (Off D H) a aj)(s:aA H H'):yf (Off D H') a aj:=h.same (Off.mono s)
theorem Rg(T:Txt K mg):ay P w K mg base bo 12 T.j9.f T.j9.fd ["offers","flights"] (Y2):=by
  have fg:ay P w K mg base bo 11 _ _ _ _:=jf T;have T1:ay P w K mg base bo 1 _ _ _ _:=Rh T;refine T.j9.F.ok fX (fun vs H Q E h=>?_) (fun bP A outer s H vs Q E hr h=>?_)
  . obtain⟨a,aj,k,rfl,_⟩:=h;rfl
  . obtain⟨a,aj,k,rfl,ha,bj,hk,kn,ks⟩:=h;refine⟨_,(ag (aY (i:=2) (fX.nd) rfl (Or.inl rfl) (aS ab)) (ag (dQ PassesOwn.never rfl (Vv rfl T.fF (aa (pv 1) (aa aE (aa (ac3 Zi aE) ab)))) (aC (i:=3) (fX.nd) (by rfl) (by exact Or.inl rfl)) (ag (aY (i:=4) (fX.nd) rfl (Or.inl rfl) (aH fg (hr.mono (by decide)) rfl T.bq.g T.bq.F.kp T.bq.b .nil aI (aa (pv 0) (aa (pv 3) ab)))) (ag (bW (jR (vF (pv 4))) (ai (aq vG)) aZ) (ag (eE (xC PySem.F.plainAttrs_list PySem.F.slot_list_append PySem.F.type_list_append tm (pv 2) (aa (pv 4) ab))) (ai (oE (i:=0) rfl (fX.nd) rfl rfl rfl (Ga rfl T.tQ (aa (pv 0) (aa (pv 4) ab))) (own:=[("offer",5),("boat",6)]) (bG rfl) (fun _ _ _ _ _=>by exact(pL (K:=K) (n:=2) rfl rfl (bE (aC (i:=5) (fX.nd) (by rfl) (by exact Or.inl rfl)) (bE (aC (i:=6) (fX.nd) (by rfl) (by exact Or.inl rfl)) fH)))) (fun _ _ _ _ _=>by exact bI) (fun _ _ _ _ _=>by exact(aH T1 (hr.mono (by decide)) rfl T.kb.g T.kb.F.kp T.kb.b .nil aI (aa (pv 5) (aa (pv 6) ab)))))))))) (ai (aq (pv 2))))),?_⟩;refine⟨sz (by simp),fun D hD=>?_⟩;have s0:=ak (o:=.lst []) hD;refine⟨_,rfl,_,rfl,(k:Int),0,-1,k,rfl,(by have:=RgC.neg (i:=(k:Int)) (j:=0) (by omega) (by omega) (by omega) (by omega);rwa[Int.sub_zero,toNat_natCast]at this),?_⟩;refine afH (fun i σ H1=>∃m3 m4 a1 xs ps pl,σ=[some (.ref a1),some (.int k),some (.ref D),m3,m4,none,none]/\aA H H1/\H1 D=some (.lst (ps.map V.ref))/\Paired (fun p xs=>Off D H1 p=some (.lst (ax xs))) ps pl/\yf (Off D H1) a1 xs/\LsOk xs/\pl.length=i/\qj k aj=(qj (k-i) xs).map fun l=>pl++l)
      ⟨none,none,a,aj,[],[],rfl,s0,ae,.nil,ha.same (Off.old s0 hD),bj,rfl,by rw[Nat.sub_zero];simp⟩ ?_ ?_
    . rintro i σ H1 hi ⟨m3,m4,a1,xs,ps,pl,rfl,s1,hd,hp,hls,XC,t6,M2⟩;have ei:(k:Int)+(i:Nat)*(-1)=((k-i:Nat):Int):=by omega
      rw[ei];have hki:qj (k-i) xs=match VI xs (k-i)with | none=>none | some f=>(qj (k-(i+1)) (rem xs f)).map fun l=>f::l:=by obtain⟨j,hj⟩:∃j,k-i=j+1:=⟨k-i-1,by omega⟩;rw[hj,show k-(i+1)=j by omega];rfl
      refine⟨_,rfl,_,rfl,a1,xs,k-i,rfl,hls.same Off.same,XC,by omega,by omega,?_,?_⟩
      . intro LQ H2 s2;refine⟨_,rfl,_,rfl,cx (kn ?_ H2 (s1.trans s2))⟩;rw[M2,hki,LQ];rfl
      . intro f hf x H2 hx s2 hxl;have hxD:x≠D:=(aM hd hx).symm;refine⟨_,rfl,_,rfl,cU ?_⟩;have ahU:=aD hp;refine⟨_,rfl,.inl ⟨rfl,_,aN.of (s2 _ _ hd)⟩,_,rfl,D,_,_,rfl,rfl,s2 _ _ hd,?_,?_⟩
        . refine lt_of_lt_of_le (?_:(ps.map V.ref).length<16000000) (sz (le_refl _));rw[length_map,ahU,t6];omega
        . have s3:aA H (upd H2 D (.lst (ps.map V.ref++ [.ref x]))):=bv (s1.trans s2) hD;have oK:upd H2 D (.lst (ps.map V.ref++ [.ref x])) D=some (.lst ((ps++ [x]).map V.ref)):=by rw[ae];simp
          have ho:Off D (upd H2 D (.lst (ps.map V.ref++ [.ref x])))=Off D H2:=Off.put;have hp3:Paired (fun p xs=>Off D (upd H2 D (.lst (ps.map V.ref++ [.ref x]))) p=some (.lst (ax xs))) (ps++ [x]) (pl++ [f]):=by rw[ho];exact dg (Paired.et hp fun _ _ z=>Off.mono s2 _ _ z) (.cons (by rw[Off.ne hxD];exact hxl) .nil)
          have af3:yf (Off D (upd H2 D (.lst (ps.map V.ref++ [.ref x])))) a1 xs:=by rw[ho];exact hls.off s2
          have hx3:Off D (upd H2 D (.lst (ps.map V.ref++ [.ref x]))) x=some (.lst (ax f)):=by rw[ho,Off.ne hxD];exact hxl
          generalize upd H2 D (.lst (ps.map V.ref++ [.ref x]))=H3 at s3 oK hp3 af3 hx3;have af4:=af3.same Off.same;obtain⟨qs,ha1,XE⟩:=af4;have age:=aD XE;have ai4:=XC.l;refine⟨_,rfl,_,rfl,a1,x,qs.map V.ref,ax f,rfl,aN.of ha1,aN.of (Off.same _ _ hx3),?_⟩;refine aaU (xs:=qs.map V.ref) (ys:=ax f) (v5 (fun H p l=>p≠D/\H p=some (.lst (ax l))) (rem xs f)) (aN.of ha1) (aN.of (Off.same _ _ hx3)) (sz (by rw[length_map];omega)) (fun _ _=>fE) ?_ ?_
          . intro D2 acc j H4 xv yv Tp Y N hxv hyv MT v4 s4 hd4 r hY hN;obtain⟨q,hq,rfl⟩:=cq hxv;obtain⟨b,hb,rfl⟩:=bO hyv;obtain⟨l,hl,hql⟩:=aV XE hq;have s5:=ak (o:=.tup [.ref q,.int (b:Nat)]) MT;have hll:=XC.len (mem_of_getElem? hl);refine⟨Tp,_,rfl,mT.of ae,rfl,_,_,rfl,_,_,rfl,rfl,rfl,yes ⟨_,rfl,_,rfl,q,az l,b,rfl,aN.of (by rw[<-br];exact s5 _ _ (s4 _ _ hql)),(by unfold az;rw[length_map];omega),fun B H5 hB s6 eB=>hY _ _ (s5.trans s6) ?_⟩⟩;rw[KU,<-br]at eB;exact d6 (fun _ _ _ _ s z=>⟨z.1,s _ _ z.2⟩) r (x:=l.filter fun x=>decide (x≠b)) (by unfold rem;rw[getElem?_map,zip_get hl hb];rfl) (Off.mono (s5.trans s6)) ⟨(aM (s5 _ _ (s4 _ _ oK)) hB).symm,iM hd4 (s5.free hB) eB⟩
          . intro D2 acc H4 v4 s4 hd4 _ r;obtain⟨rs,rfl,q⟩:=fD r (by rw[length_map,fc,age];unfold rem;rw[length_map,length_zip]);have ahw:D≠D2:=aM oK v4;have hp4:Paired (fun p xs=>Off D H4 p=some (.lst (ax xs))) (ps++ [x]) (pl++ [f]):=Paired.et hp3 fun _ _ z=>Off.mono s4 _ _ z;refine⟨_,_,D2,rem xs f,ps++ [x],pl++ [f],rfl,s3.trans s4,s4 _ _ oK,hp4,⟨rs,by rw[Off.ne ahw.symm];exact hd4,?_⟩,YF XC f,by rw[length_append,t6];rfl,?_⟩
            . exact Paired.et q fun p _ z=>by rw[Off.ne z.1];exact Off.same _ _ z.2
            . rw[M2,hki,hf];show Option.map _ (Option.map _ _)=_;rw[Option.map_map];congr 1;funext l;simp
    . rintro σ H1 ⟨m3,m4,a1,xs,ps,pl,rfl,s1,hd,hp,hls,XC,t6,M2⟩;refine⟨_,rfl,?_⟩;rw[Nat.sub_self]at M2;have:qj k aj=some pl:=by rw[M2];show Option.map _ (some [])=_;simp
      exact ks pl this D H1 hD s1 ⟨ps,hd,Paired.et hp fun _ _ z=>Off.same _ _ z⟩
end
end My
namespace My
open PySem PySem.Spec PyProof.Rows L2 HT
theorem set_range{n b:Nat}{g:Nat->V}{v:V}:((List.range n).map g).set b v=(List.range n).map fun b'=>if b'=b then v else g b':=by
  refine ext_getElem? fun i=>?_;rw[getElem?_set,getElem?_map,getElem?_map,length_map,length_range];by_cases hi:i<n
  . rw[getElem?_range hi];by_cases e:b=i
    . subst e;rw[if_pos rfl,if_pos hi];simp
    . rw[if_neg e];have e':¬i=b:=fun h=>e h.symm;simp[e']
  . have:(List.range n)[i]? =none:=getElem?_eq_none (by rw[length_range];omega);rw[this];by_cases e:b=i
    . subst e;rw[if_pos rfl,if_neg hi];rfl
    . rw[if_neg e];rfl
theorem E5{l:List Addr}{a:Addr}(h:a∈l):∃c:Nat,l[c]? =some a:=getElem?_of_mem h
theorem Kt{l:List Addr}(nd:l.Nodup){a:Addr}{i j:Nat}(hi:l[i]? =some a)(hj:l[j]? =some a):i=j:=
  (getElem?_inj (List.getElem?_eq_some_iff.mp hi).1 nd).mp (by rw[hi,hj])
theorem Ji(n:Nat)(v:V):List.replicate n v=(List.range n).map fun _=>v:=by rw[List.map_const',length_range]
section
variable{P:Program}{w:World}{K:Frag}{mg:Str->Option Value}{base:Heap}
def ae9(C:Addr):Sp:=fun vs H Q _=>∃(p:Addr) (A:FA) (nc nb:Nat) (l:Addr) (ts:List Addr) (f:Flight) (v:Bool) (tg:Nat->Nat->Bool),vs=[.ref p,.ref l,.bl v]/\H p=some (.ins C A.dx (Hj nc nb A))/\
  H A.t=some (.lst (A.tr.map V.ref))/\A.tr.length=nc/\A.tr.Nodup/\A.t∉A.tr/\(∀(c:Nat) (a:Addr),A.tr[c]? =some a->H a=some (.lst ((List.range nb).map fun b=>V.bl (tg c b))))/\
  H l=some (.lst (ts.map V.ref))/\l∉A.tr/\Paired (Jw H) ts f/\(∀x∈f,x.crew<nc/\x.boat<nb)/\f.length<=1000/\
  ∀H',(∀b o,H b=some o->b∉A.tr->H' b=some o)->(∀(c:Nat) (a:Addr),A.tr[c]? =some a->H' a=some (.lst ((List.range nb).map fun b=>V.bl (if f.contains ⟨c,b⟩=true then v else tg c b))))->Q .dZ H'
theorem gS(T:Txt K mg):ay P w K mg base bo 1 T.bB.f T.bB.fd ["self","pairs","together"] (ae9 T.ah):=by
  refine T.bB.F.ok dR (fun vs H Q E h=>?_) (fun bP A outer s H vs Q E hr h=>?_)
  . obtain⟨p,A,nc,nb,l,ts,f,v,tg,rfl,_⟩:=h;rfl
  . obtain⟨p,A',nc,nb,l,ts,f,v,tg,rfl,hp,ht,htl,nd,hta,XF,hl,dD,LS,hf,hfl,kk⟩:=h;refine⟨_,(ai (dQ PassesOwn.never rfl (ba (pv 1)) (Ab rfl (bE (aC (i:=3) (dR.nd) (by rfl) (by exact Or.inl rfl)) (bE (aC (i:=4) (dR.nd) (by rfl) (by exact Or.inl rfl)) fH))) (ai (Al (pv 2) (Aa (a9 aW (bf (pv 0) (by rfl)) (pv 3) (fun _ _=>rfl)) (pv 4) set_list))))),?_⟩;have hrl:∀a∈A'.tr,∃xs,H a=some (.lst xs):=fun a ha=>by obtain⟨c,hc⟩:=E5 ha;exact⟨_,XF c a hc⟩
    have XD:p∉A'.tr:=fun m=>by obtain⟨xs,e⟩:=hrl p m;rw[hp]at e;cases e
    have hlen:=aD LS;refine⟨_,rfl,l,rfl,⟨_,aN.of hl⟩,?_⟩;refine oo (xs:=ts.map V.ref) (fun i σ H1=>∃m3 m4,σ=[some (.ref p),some (.ref l),some (.bl v),m3,m4]/\(∀b o,H b=some o->b∉A'.tr->H1 b=some o)/\∀(c:Nat) (a:Addr),A'.tr[c]? =some a->H1 a=some (.lst ((List.range nb).map fun b=>V.bl (if (f.take i).contains ⟨c,b⟩=true then v else tg c b))))
      ⟨none,none,rfl,fun _ _ e _=>e,fun c a h=>XF c a h⟩ (fun _ _ _ ⟨_,_,_,k,_⟩=>aN.of (k _ _ hl dD)) ?_ ?_
    . rintro i x σ H1 hx ⟨m3,m4,rfl,k1,r1⟩;obtain⟨t,htt,rfl⟩:=cq hx;obtain⟨pr,Ks,agd⟩:=aV LS htt;obtain⟨hc,hb⟩:=hf pr (mem_of_getElem? Ks);have htr:t∉A'.tr:=fun m=>by obtain⟨xs,e⟩:=hrl t m;rw[show H t=_ from agd]at e;cases e
      obtain⟨a,ha⟩:=Ln htl hc;refine⟨t,_,rfl,mT.of (k1 _ _ agd htr),rfl,_,_,rfl,_,_,rfl,rfl,?_⟩;refine⟨_,rfl,_,rfl,p,_,_,_,_,rfl,k1 _ _ hp XD,T.ao,T.ci,Ba,_,rfl,_,_,_,_,rfl,rfl,aN.of (k1 _ _ ht hta),kG ha,_,rfl,a,_,_,_,rfl,rfl,r1 _ _ ha,sW (by rw[length_map,length_range];exact hb),?_⟩;have ham:a∈A'.tr:=mem_of_getElem? ha;refine⟨_,_,rfl,fun b o e n=>by rw[au (fun q:b=a=>n (by rw[q];exact ham))];exact k1 b o e n,fun c' a' h'=>?_⟩;by_cases e:a'=a
      . subst e;have:c'=pr.crew:=Kt nd h' ha;subst this;rw[ae,set_range,take_snoc Ks];congr 2;refine map_congr_left fun b' _=>?_;rw[Bool.eq_iff_iff.mpr (by rw[contains_iff_mem,or_eq_true,contains_iff_mem,mem_append,mem_singleton,decide_eq_true_eq]:(f.take i++ [pr]).contains ⟨pr.crew,b'⟩=true↔((f.take i).contains ⟨pr.crew,b'⟩||decide ((⟨pr.crew,b'⟩:Pair)=pr))=true)];by_cases z:b'=pr.boat
        . subst z;simp
        . have:¬((⟨pr.crew,b'⟩:Pair)=pr):=fun q=>z (by rw[<-q]);rw[if_neg z,decide_eq_false this,Bool.or_false]
      . rw[au e,r1 c' a' h',take_snoc Ks];have hcc:c'≠pr.crew:=fun q=>e (by rw[q,ha]at h';exact(Option.some.inj h').symm);congr 2;refine map_congr_left fun b' _=>?_;have:(f.take i++ [pr]).contains ⟨c',b'⟩=(f.take i).contains ⟨c',b'⟩:=by rw[Bool.eq_iff_iff,contains_iff_mem,contains_iff_mem,mem_append,mem_singleton];exact⟨fun h=>by rcases h with h | h;exact h;exact absurd (by rw[<-h]) hcc,fun h=>.inl h⟩
        rw[this]
    . rintro σ H1 ⟨m3,m4,rfl,k1,r1⟩;rw[length_map,hlen,take_length]at r1;exact kk H1 k1 r1
theorem Lq{K:Frag}{ta tv:TE}{f:Str}{D:Ends}{σ:L2.St}{H:Hp}(h:tv σ H fun y H1=>ta σ H1 fun x H2=>∃a C dx fs,x=.ref a/\H2 a=some (.ins C dx fs)/\TX K C/\eI K C f/\fs.length<1000/\D.nx σ (upd H2 a (.ins C dx (dE f y fs)))):agG K ta tv f D σ H:=h
theorem TJ{t u:TS}{D:Ends}{σ:L2.St}{H:Hp}(h:t { D with nx:=u D} σ H):afi t u D σ H:=h
def begun(c b:Nat):Vbreai.State:=⟨c,b,[],[],[],List.range c,[]⟩
theorem KR{c b:Nat}{v:V}{p:Addr}{H:Hp}{Q:VK}(hc:c<=1000)(hb:b<=1000)(k:∀(D:Addr) (ps:List Addr) (H':Hp),aA H H'->H' D=some (.lst (ps.map V.ref))->ps.length=c->(D::ps).Nodup->(∀q∈D::ps,H q=none)->(∀q∈ps,H' q=some (.lst (List.replicate b v)))->Q (.ref D) H'):tLc (acX (Ot (acB 1) R1)) (IH 3) afk (tOp agD (afh (Ot (tC v) R1)) (acB 2)) [3] [some (.ref p),some (.int c),some (.int b),none] H Q:=by
  refine⟨_,rfl,_,rfl,by omega,by omega,?_⟩;refine aei (fun i acc H1=>∃ps:List Addr,acc=ps.map V.ref/\ps.length=i/\ps.Nodup/\∀q∈ps,H q=none/\H1 q=some (.lst (List.replicate b v))) (sz (by omega)) (fun _ _=>⟨[],rfl,rfl,nodup_nil,fun _ h=>by cases h⟩) ?_ ?_
  . intro D acc i H1 Y N hi hD s1 hd ⟨ps,e1,e2,e3,e4⟩ hY hN;subst e1;refine⟨rfl,yes ⟨sz (by simp),fun u hu=>?_⟩⟩;have t1:=ak (o:=.lst [v]) hu;refine⟨_,rfl,u,_,_,rfl,rfl,ae,by omega,by omega,sz (by simp;omega),fun u2 E4=>?_⟩;have t2:=ak (o:=.lst (List.replicate (b:Int).toNat [v]).flatten) E4;have Y9:=t1.trans t2;have XH:H u2=none:=s1.free (t1.free E4);refine hY _ _ Y9 ⟨ps++ [u2],by simp,by rw[length_append,e2];rfl,?_,fun q hq=>?_⟩
    . rw[nodup_append];refine⟨e3,nodup_cons.mpr ⟨not_mem_nil,nodup_nil⟩,fun a ha b hb e=>?_⟩;rw[mem_singleton]at hb;subst hb;have:=(e4 a ha).2;have:=t1 _ _ (Off.same _ _ this);rw[e,E4]at this;cases this
    . rcases mem_append.mp hq with hq | hq
      . exact⟨(e4 q hq).1,Off.mono Y9 _ _ (e4 q hq).2⟩
      . rw[mem_singleton]at hq;subst hq;refine⟨XH,?_⟩;refine iM hd (t1.free E4) ?_;rw[ae,Gp,toNat_natCast]
  . intro D acc H1 hD s1 hd _ ⟨ps,e1,e2,e3,e4⟩;subst e1;refine k D ps H1 s1 hd (by rw[e2,toNat_natCast]) (nodup_cons.mpr ⟨fun m=>?_,e3⟩) (fun q hq=>?_) fun q hq=>Off.same _ _ (e4 q hq).2
    . have:=(e4 D m).2;rw[Off.at_]at this;cases this
    . rcases mem_cons.mp hq with rfl | hq
      . exact hD
      . exact(e4 q hq).1
theorem jg(f:Str)(v:V):∀fs:List (Str×V),(dE f v fs).length<=fs.length+1
  | []=>le_refl _
  | (g,x)::r=>by
    unfold dE;split
    . simp
    . rw[length_cons,length_cons];have:=jg f v r;omega
structure Laid(p:Addr)(H:Hp)(G:List (Addr×HO))(H':Hp):Prop where
  x:dU p H H'
  nd:(G.map (·.1)).Nodup
  g:∀g∈G,H' g.1=some g.2/\H g.1=none/\g.1≠p
theorem Laid.more{p:Addr}{H H1 H2:Hp}{G:List (Addr×HO)}{o':HO}(L:Laid p H G H1)(hp:∃o,H1 p=some o)(s:aA H1 H2)(G':List (Addr×HO))(nd:(G'.map (·.1)).Nodup)(h:∀g∈G',H1 g.1=none/\H2 g.1=some g.2):Laid p H (G++G') (upd H2 p o'):=by
  obtain⟨o,hp⟩:=hp;have eZ:∀g∈G',g.1≠p:=fun g hg=>(aM hp (h g hg).1).symm;refine⟨(L.x.next s).put,?_,fun g hg=>?_⟩
  . rw[map_append,nodup_append];refine⟨L.nd,nd,fun a ha b hb e=>?_⟩;obtain⟨g,hg,rfl⟩:=mem_map.mp ha;obtain⟨g',hg',rfl⟩:=mem_map.mp hb;have:=(L.g g hg).1;rw[e,(h g' hg').1]at this;cases this
  . rcases mem_append.mp hg with hg | hg
    . obtain⟨a,b,c⟩:=L.g g hg;exact⟨by rw[au c];exact s _ _ a,b,c⟩
    . refine⟨by rw[au (eZ g hg)];exact(h g hg).2,L.x.free (h g hg).1 (eZ g hg),eZ g hg⟩
def uc(D:Addr)(ps:List Addr)(b:Nat)(v:V):List (Addr×HO):=(D,.lst (ps.map V.ref))::ps.map fun q=>(q,.lst (List.replicate b v))
theorem oG(D:Addr)(ps:List Addr)(b:Nat)(v:V):(uc D ps b v).map (·.1)=D::ps:=by unfold uc;rw[map_cons,map_map];have:((fun x:Addr×HO=>x.1)∘fun q=>(q,HO.lst (List.replicate b v)))=id:=rfl;rw[this,map_id]
theorem Lo{D:Addr}{ps:List Addr}{b:Nat}{v:V}{H1 H2:Hp}(hd:H2 D=some (.lst (ps.map V.ref)))(hn:∀q∈D::ps,H1 q=none)(hr:∀q∈ps,H2 q=some (.lst (List.replicate b v))):∀g∈uc D ps b v,H1 g.1=none/\H2 g.1=some g.2:=fun g hg=>by
  rcases mem_cons.mp hg with rfl | hg
  . exact⟨hn _ mem_cons_self,hd⟩
  . obtain⟨q,hq,rfl⟩:=mem_map.mp hg;exact⟨hn _ (mem_cons_of_mem _ hq),hr q hq⟩
def c8(A:FA):List Addr:=[A.r,A.k,A.o,A.d,A.sl,A.t]++A.rr++A.kr++A.tr++A.sf
def ago(fs:List (Str×V)):Prop:=fs=[]\/∃c b A,fs=Hj c b A
def acr(C:Addr):Sp:=fun vs H Q _=>∃(p dx:Addr) (fs:List (Str×V)) (c b:Nat),vs=[.ref p,.int c,.int b]/\H p=some (.ins C dx fs)/\ago fs/\c<=7/\b<=7/\
  ∀A' H',dU p H H'->aL C H' p A' (begun c b)->(∀q∈c8 A',H q=none/\q≠p)->Q .dZ H'
theorem NN(r k o d sl t:Addr)(rr kr tr:List Addr):(([r,k,o,d,sl,t]++rr++kr++tr++ []).Perm (((((r::rr)++(k::kr))++ [o])++ [d]++ [sl])++(t::tr))):=by rw[List.perm_iff_count];intro a;simp only[List.count_append,count_cons,List.count_nil];omega
theorem rV(T:Txt K mg):ay P w K mg base bo 1 T.da.f T.da.fd ["self","crews","boats"] (acr T.ah):=by
  refine T.da.F.ok cN (fun vs H Q E h=>?_) (fun bP A outer s H vs Q E hr h=>?_)
  . obtain⟨p,dx,fs,c,b,rfl,_⟩:=h;rfl
  . obtain⟨p,dx,fs,c,b,rfl,hp,hfs,hc,hb,kk⟩:=h;refine⟨_,(ag (l8 (pv 0) (pv 1) rfl) (ag (l8 (pv 0) (pv 2) rfl) (ag (l8 (pv 0) (dh rfl (cN.nd) (ke rfl T.fF (aa (pv 1) ab)) (own:=[("crew",3)]) (bG rfl) (fun _ _ _ _ _=>by exact(aC (i:=3) (cN.nd) (by rfl) (by exact Or.inl rfl))) (fun _ _ _ _ _=>by exact bI) (fun _ _ _ _ _=>by exact(bV z5 (aS (aa xB ab)) (pv 2)))) rfl) (ag (l8 (pv 0) (dh rfl (cN.nd) (ke rfl T.fF (aa (pv 1) ab)) (own:=[("crew",3)]) (bG rfl) (fun _ _ _ _ _=>by exact(aC (i:=3) (cN.nd) (by rfl) (by exact Or.inl rfl))) (fun _ _ _ _ _=>by exact bI) (fun _ _ _ _ _=>by exact(bV z5 (aS (aa aE ab)) (pv 2)))) rfl) (ag (l8 (pv 0) (bV z5 (aS (aa xB ab)) (pv 2)) rfl) (ag (l8 (pv 0) (cY (G7 rfl) rfl T.ut JJ (aa (cY Mh rfl T.fF WK (aa (pv 1) ab)) ab)) rfl) (ag (l8 (pv 0) (aS ab) rfl) (ai (l8 (pv 0) (dh rfl (cN.nd) (ke rfl T.fF (aa (pv 1) ab)) (own:=[("crew",3)]) (bG rfl) (fun _ _ _ _ _=>by exact(aC (i:=3) (cN.nd) (by rfl) (by exact Or.inl rfl))) (fun _ _ _ _ _=>by exact bI) (fun _ _ _ _ _=>by exact(bV z5 (aS (aa xB ab)) (pv 2)))) rfl))))))))),?_⟩;have hfl:fs.length<=8:=by
      rcases hfs with rfl | ⟨c',b',A',rfl⟩
      . simp
      . simp[Hj]
    have l1:=jg ("crews":Str) (.int (c:Nat)) fs;refine⟨_,rfl,_,rfl,p,T.ah,dx,fs,rfl,hp,T.ao,T.df,by omega,?_⟩;generalize hf1:dE ("crews":Str) (V.int (c:Nat)) fs=f1 at l1;have l2:=jg ("boats":Str) (.int (b:Nat)) f1;refine⟨_,rfl,_,rfl,p,T.ah,dx,f1,rfl,ae,T.ao,T.bN,by omega,?_⟩;generalize hf2:dE ("boats":Str) (V.int (b:Nat)) f1=f2 at l2;rw[acD];have L0:Laid p H [] (upd H p (.ins T.ah dx f2)):=⟨(dU.refl p H).put,nodup_nil,fun g hg=>by cases hg⟩;have q0:upd H p (.ins T.ah dx f2) p=some (.ins T.ah dx f2):=ae;generalize upd H p (.ins T.ah dx f2)=H0 at L0 q0;dsimp only;refine TJ (Lq ?_);refine KR (c:=c) (b:=b) (by omega) (by omega) fun D1 p1 H1 s1 tZ Hm nd1 hn1 hr1=>?_;have l3:=jg ("refused":Str) (.ref D1) f2;refine⟨_,rfl,p,T.ah,dx,f2,rfl,s1 _ _ q0,T.ao,T.b6,by omega,?_⟩;generalize hf3:dE ("refused":Str) (V.ref D1) f2=f3 at l3;have L1:=L0.more (o':=.ins T.ah dx f3) ⟨_,q0⟩ s1 (uc D1 p1 b (.bl false)) (by rw[oG];exact nd1) (Lo tZ hn1 hr1);have q1:upd H1 p (.ins T.ah dx f3) p=some (.ins T.ah dx f3):=ae;generalize upd H1 p (.ins T.ah dx f3)=H1' at L1 q1;dsimp only;refine TJ (Lq ?_);refine KR (c:=c) (b:=b) (by omega) (by omega) fun D2 p2 H2 s2 hd2 Xz nd2 hn2 hr2=>?_;have l4:=jg ("costs":Str) (.ref D2) f3;refine⟨_,rfl,p,T.ah,dx,f3,rfl,s2 _ _ q1,T.ao,T.bX,by omega,?_⟩;generalize hf4:dE ("costs":Str) (V.ref D2) f3=f4 at l4;have L2:=L1.more (o':=.ins T.ah dx f4) ⟨_,q1⟩ s2 (uc D2 p2 b (.int 0)) (by rw[oG];exact nd2) (Lo hd2 hn2 hr2);have q2:upd H2 p (.ins T.ah dx f4) p=some (.ins T.ah dx f4):=ae;generalize upd H2 p (.ins T.ah dx f4)=H2' at L2 q2;refine⟨sz (by simp),fun u hu=>?_⟩;have t1:=ak (o:=.lst [.bl false]) hu;refine⟨_,rfl,u,_,_,rfl,rfl,ae,by omega,by omega,sz (by simp;omega),fun D3 S1=>?_⟩;have t2:=t1.trans (ak (o:=.lst (List.replicate (b:Int).toNat [V.bl false]).flatten) S1);have l5:=jg ("boats_out":Str) (.ref D3) f4;refine⟨_,rfl,p,T.ah,dx,f4,rfl,t2 _ _ q2,T.ao,T.bD,by omega,?_⟩;generalize hf5:dE ("boats_out":Str) (V.ref D3) f4=f5 at l5;have L3:=L2.more (o':=.ins T.ah dx f5) ⟨_,q2⟩ t2 [(D3,.lst (List.replicate b (.bl false)))] (nodup_cons.mpr ⟨not_mem_nil,nodup_nil⟩) (fun g hg=>by rw[mem_singleton]at hg;subst hg;exact⟨t1.free S1,by rw[ae,Gp,toNat_natCast]⟩);have q3:upd (upd (upd H2' u (.lst [.bl false])) D3 (.lst (List.replicate (b:Int).toNat [V.bl false]).flatten)) p (.ins T.ah dx f5) p=some (.ins T.ah dx f5):=ae;generalize upd (upd (upd H2' u (.lst [.bl false])) D3 (.lst (List.replicate (b:Int).toNat [V.bl false]).flatten)) p (.ins T.ah dx f5)=H3' at L3 q3;refine⟨_,rfl,c,rfl,fun u4 hu4=>?_⟩;have t3:=ak (o:=.rng 0 c) hu4;refine⟨u4,c,rfl,ae,by omega,fun D4 hD4=>?_⟩;have t4:=t3.trans (ak (o:=.lst ((List.range c).map fun i=>V.int (i:Nat))) hD4);have l6:=jg ("due_crews":Str) (.ref D4) f5;refine⟨_,rfl,p,T.ah,dx,f5,rfl,t4 _ _ q3,T.ao,T.aQ,by omega,?_⟩;generalize hf6:dE ("due_crews":Str) (V.ref D4) f5=f6 at l6;have L4:=L3.more (o':=.ins T.ah dx f6) ⟨_,q3⟩ t4 [(D4,.lst ((List.range c).map fun i=>V.int (i:Nat)))] (nodup_cons.mpr ⟨not_mem_nil,nodup_nil⟩) (fun g hg=>by rw[mem_singleton]at hg;subst hg;exact⟨t3.free hD4,ae⟩);have q4:upd (upd (upd H3' u4 (.rng 0 c)) D4 (.lst ((List.range c).map fun i=>V.int (i:Nat)))) p (.ins T.ah dx f6) p=some (.ins T.ah dx f6):=ae;generalize upd (upd (upd H3' u4 (.rng 0 c)) D4 (.lst ((List.range c).map fun i=>V.int (i:Nat)))) p (.ins T.ah dx f6)=H4' at L4 q4;refine⟨sz (by simp),fun D5 hD5=>?_⟩;have t5:=ak (o:=.lst []) hD5;have l7:=jg ("sailed":Str) (.ref D5) f6;refine⟨_,rfl,p,T.ah,dx,f6,rfl,t5 _ _ q4,T.ao,T.be,by omega,?_⟩;generalize hf7:dE ("sailed":Str) (V.ref D5) f6=f7 at l7;have L5:=L4.more (o':=.ins T.ah dx f7) ⟨_,q4⟩ t5 [(D5,.lst [])] (nodup_cons.mpr ⟨not_mem_nil,nodup_nil⟩) (fun g hg=>by rw[mem_singleton]at hg;subst hg;exact⟨hD5,ae⟩);have q5:upd (upd H4' D5 (.lst [])) p (.ins T.ah dx f7) p=some (.ins T.ah dx f7):=ae;generalize upd (upd H4' D5 (.lst [])) p (.ins T.ah dx f7)=H5' at L5 q5;dsimp only;refine Lq ?_;refine KR (c:=c) (b:=b) (by omega) (by omega) fun D6 p6 H6 s6 hd6 hl6 nd6 hn6 hr6=>?_;refine⟨_,rfl,p,T.ah,dx,f7,rfl,s6 _ _ q5,T.ao,T.ci,by omega,?_⟩;have L6:=L5.more (o':=.ins T.ah dx (dE "together" (.ref D6) f7)) ⟨_,q5⟩ s6 (uc D6 p6 b (.bl false)) (by rw[oG];exact nd6) (Lo hd6 hn6 hr6);have hf8:dE "together" (.ref D6) f7=Hj c b ⟨dx,D1,D2,D3,D4,D5,D6,p1,p2,p6,[]⟩:=by rw[<-hf7,<-hf6,<-hf5,<-hf4,<-hf3,<-hf2,<-hf1];rcases hfs with rfl | ⟨c',b',A',rfl⟩<;>rfl
    rw[hf8]at L6 ⊢;have q6:upd H6 p (.ins T.ah dx (Hj c b ⟨dx,D1,D2,D3,D4,D5,D6,p1,p2,p6,[]⟩)) p=some (.ins T.ah dx (Hj c b ⟨dx,D1,D2,D3,D4,D5,D6,p1,p2,p6,[]⟩)):=ae;generalize upd H6 p (.ins T.ah dx (Hj c b ⟨dx,D1,D2,D3,D4,D5,D6,p1,p2,p6,[]⟩))=H6' at L6 q6;have nd:=L6.nd;simp only[map_append,oG,map_cons,map_nil,nil_append]at nd;have row:∀(D:Addr) (ps:List Addr) (v:V),(∀g∈uc D ps b v,H6' g.1=some g.2)->H6' D=some (.lst (ps.map V.ref))/\∀(i:Nat) (a:Addr),ps[i]? =some a->H6' a=some (.lst ((List.range b).map fun _=>v)):=fun D ps v h=>⟨h _ mem_cons_self,fun i a ha=>by rw[<-Ji];exact h (a,.lst (List.replicate b v)) (mem_cons_of_mem _ (mem_map.mpr ⟨a,mem_of_getElem? ha,rfl⟩))⟩;have g1:=row D1 p1 (.bl false) fun g hg=>(L6.g g (by simp[hg])).1;have g2:=row D2 p2 (.int 0) fun g hg=>(L6.g g (by simp[hg])).1;have g6:=row D6 p6 (.bl false) fun g hg=>(L6.g g (by simp[hg])).1;have g3:=(L6.g (D3,.lst (List.replicate b (.bl false))) (by simp)).1;have g4:=(L6.g (D4,.lst ((List.range c).map fun i=>V.int (i:Nat))) (by simp)).1;have g5:=(L6.g (D5,.lst []) (by simp)).1;have nd':(c8 ⟨dx,D1,D2,D3,D4,D5,D6,p1,p2,p6,[]⟩).Nodup:=(NN D1 D2 D3 D4 D5 D6 p1 p2 p6).nodup_iff.mpr (by simpa using nd);refine kk ⟨dx,D1,D2,D3,D4,D5,D6,p1,p2,p6,[]⟩ H6' L6.x ⟨q6,g1.1,Hm,fun i a h=>g1.2 i a h,g2.1,Xz,fun i a h=>g2.2 i a h,g6.1,hl6,fun i a h=>g6.2 i a h,(by rw[g3,Ji];rfl),g4,g5,.nil,nd'⟩ fun q hq=>?_;have LR:=(NN D1 D2 D3 D4 D5 D6 p1 p2 p6).mem_iff.mp hq;have Wl:q∈([]++uc D1 p1 b (V.bl false)++uc D2 p2 b (V.int 0)++ [(D3,HO.lst (List.replicate b (V.bl false)))]++ [(D4,HO.lst ((List.range c).map fun i=>V.int (i:Nat)))]++ [(D5,HO.lst [])]++uc D6 p6 b (V.bl false)).map (fun x:Addr×HO=>x.1):=by simp only[map_append,oG,map_cons,map_nil,nil_append];simpa using LR
    obtain⟨g,hg,rfl⟩:=mem_map.mp Wl;exact(L6.g g hg).2
def acs(C:Addr):Sp:=fun vs H Q _=>∃(p dx:Addr),vs=[.ref p]/\H p=some (.ins C dx [])/\∀A' H',dU p H H'->aL C H' p A' Vbreai.start->(∀q∈c8 A',H q=none/\q≠p)->Q .dZ H'
theorem HC(T:Txt K mg):ay P w K mg base bo 2 T.gz.f T.gz.fd ["self"] (acs T.ah):=by
  have mR:ay P w K mg base bo 1 _ _ _ _:=rV T;refine T.gz.F.ok HJ (fun vs H Q E h=>?_) (fun bP A outer s H vs Q E hr h=>?_)
  . obtain⟨p,dx,rfl,_⟩:=h;rfl
  . obtain⟨p,dx,rfl,hp,kk⟩:=h;refine⟨_,(ai (eE (bT (pv 0) T.ao T.da.m mR (hr.mono (by decide)) T.da.b .nil aI (aa aE (aa aE ab))))),?_⟩;exact⟨_,rfl,p,_,_,rfl,hp,rfl,p,dx,[],0,0,rfl,hp,.inl rfl,by omega,by omega,fun A' H' x F n=>kk A' H' x F n⟩
end
end My
namespace My
open PySem PySem.Spec PyProof.Rows L2 HT
def slots(A:FA):List (List Addr):=[[A.r],[A.k],[A.o],[A.d],[A.sl],[A.t],A.rr,A.kr,A.tr,A.sf]
theorem z7(A:FA):c8 A=(slots A).flatten:=by simp[c8,slots]
theorem gQ{A:FA}{x:Addr}:x∈c8 A↔ ∃(i:Nat) (l:List Addr),(slots A)[i]? =some l/\x∈l:=by
  rw[z7,mem_flatten];constructor
  . rintro⟨l,hl,hx⟩;obtain⟨i,hi⟩:=getElem?_of_mem hl;exact⟨i,l,hi,hx⟩
  . rintro⟨i,l,hi,hx⟩;exact⟨l,mem_of_getElem? hi,hx⟩
theorem vE{A:FA}(nd:(c8 A).Nodup)(i j:Nat){l l':List Addr}(hi:(slots A)[i]? =some l)(hj:(slots A)[j]? =some l')(hij:i≠j){x:Addr}(hx:x∈l)(Qj:x∈l'):False:=by
  rw[z7]at nd;unfold Nodup at nd;rw[List.pairwise_flatten]at nd;have h:=nd.2;rw[List.pairwise_iff_getElem]at h;obtain⟨li,ei⟩:=List.getElem?_eq_some_iff.mp hi;obtain⟨lj,ej⟩:=List.getElem?_eq_some_iff.mp hj;rcases Nat.lt_or_gt_of_ne hij with z | z
  . exact h i j li lj z x (by rw[ei];exact hx) x (by rw[ej];exact Qj) rfl
  . exact h j i lj li z x (by rw[ej];exact Qj) x (by rw[ei];exact hx) rfl
theorem Lc{A:FA}(nd:(c8 A).Nodup)(i:Nat){l:List Addr}(hi:(slots A)[i]? =some l):l.Nodup:=by rw[z7]at nd;unfold Nodup at nd;rw[List.pairwise_flatten]at nd;exact nd.1 l (mem_of_getElem? hi)
theorem aL.own{C:Addr}{H:Hp}{p:Addr}{A:FA}{s:Vbreai.State}(F:aL C H p A s):(c8 A).Nodup:=F.nd
theorem aL.lst{C:Addr}{H:Hp}{p:Addr}{A:FA}{s:Vbreai.State}(F:aL C H p A s){x:Addr}(h:x∈c8 A):∃xs,H x=some (.lst xs):=by
  have h:x∈([A.r,A.k,A.o,A.d,A.sl,A.t]++A.rr++A.kr++A.tr++A.sf):=h;simp only[mem_append,mem_cons,not_mem_nil,or_false]at h;rcases h with(((h | h) | h) | h) | h
  . rcases h with rfl | rfl | rfl | rfl | rfl | rfl
    . exact⟨_,F.r⟩
    . exact⟨_,F.k⟩
    . exact⟨_,F.o⟩
    . exact⟨_,F.d⟩
    . exact⟨_,F.sl⟩
    . exact⟨_,F.t⟩
  . obtain⟨c,hc⟩:=E5 h;exact⟨_,F.YH c x hc⟩
  . obtain⟨c,hc⟩:=E5 h;exact⟨_,F.kw c x hc⟩
  . obtain⟨c,hc⟩:=E5 h;exact⟨_,F.tw c x hc⟩
  . obtain⟨c,hc⟩:=E5 h;obtain⟨f,_,ts,e,_⟩:=aV F.sf hc;exact⟨_,e⟩
def pZ(A:FA)(S:List Nat)(H H':Hp):Prop:=∀b o,H b=some o->(∀i∈S,∀l,(slots A)[i]? =some l->b∉l)->H' b=some o
theorem aL.bi{C:Addr}{H H':Hp}{p:Addr}{A:FA}{s:Vbreai.State}(F:aL C H p A s){S:List Nat}(k:pZ A S H H')(j:Nat){l:List Addr}(hj:(slots A)[j]? =some l)(n:j∉S){x:Addr}(hx:x∈l){o:HO}(e:H x=some o):H' x=some o:=
  k x o e fun i hi l' hl' Qj=>vE F.own i j hl' hj (fun q=>n (q▸hi)) Qj hx
theorem aL.fb{C:Addr}{H H':Hp}{p:Addr}{A:FA}{s:Vbreai.State}(F:aL C H p A s){S:List Nat}(k:pZ A S H H'){x:Addr}{o:HO}(e:H x=some o)(n:∀xs,o≠ .lst xs):H' x=some o:=
  k x o e fun i hi l hl hx=>by obtain⟨xs,q⟩:=F.lst (gQ.mpr ⟨i,l,hl,hx⟩);rw[q]at e;exact n xs (Option.some.inj e).symm
theorem aL.KE{C:Addr}{H H':Hp}{p:Addr}{A:FA}{s:Vbreai.State}(F:aL C H p A s){S:List Nat}(k:pZ A S H H')(n:9∉S):Paired (Jr H') A.sf s.sailed.reverse:=by
  have key:∀{sf:List Addr} {fs:List Flight},Paired (Jr H) sf fs->(∀a∈sf,a∈A.sf)->Paired (Jr H') sf fs:=by
    intro sf fs h;induction h with
    | nil=>intro _;exact .nil
    | @cons a f sf fs h t ih=>intro m;refine .cons ?_ (ih fun a ha=>m a (mem_cons_of_mem _ ha));obtain⟨ts,h1,h2⟩:=h;exact⟨ts,F.bi k 9 (l:=A.sf) rfl n (m a mem_cons_self) h1,Paired.et h2 fun _ _ z=>F.fb k z (fun _ q=>by cases q)⟩
  exact key F.sf fun a ha=>ha
structure After(C p:Addr)(A:FA)(H:Hp)(A':FA)(s':Vbreai.State)(H':Hp):Prop where
  ok:aL C H' p A' s'
  kp:∀b o,H b=some o->b≠p->b∉c8 A->H' b=some o
  ow:∀b∈c8 A',b∈c8 A\/H b=none
  fr:∀b,H' b=none->H b=none
theorem Xm{C p:Addr}{A A':FA}{H H':Hp}{s':Vbreai.State}{S:List Nat}(F':aL C H' p A' s')(k:pZ A S H H')(sub:∀i∈S,∀l,(slots A)[i]? =some l->∀b∈l,b∈c8 A'):∀b,H' b=none->H b=none:=fun b h=>by
  cases e:H b with
  | none=>rfl
  | some o=>
    have:∀i∈S,∀l,(slots A)[i]? =some l->b∉l:=fun i hi l hl hb=>by obtain⟨xs,q⟩:=F'.lst (sub i hi l hl b hb);rw[h]at q;cases q
    rw[k b o e this]at h;cases h
theorem After.next{C p:Addr}{A A1 A2:FA}{H H1 H2:Hp}{s1 s2:Vbreai.State}(a:After C p A H A1 s1 H1)(b:After C p A1 H1 A2 s2 H2):After C p A H A2 s2 H2:=by
  refine⟨b.ok,fun q o e n m=>?_,fun q hq=>?_,fun q h=>a.fr q (b.fr q h)⟩
  . refine b.kp q o (a.kp q o e n m) n fun h=>?_;rcases a.ow q h with h | h
    . exact m h
    . rw[h]at e;cases e
  . by_cases z:q∈c8 A
    . exact .inl z
    . right;rcases b.ow q hq with h | h
      . rcases a.ow q h with h | h
        . exact absurd h z
        . exact h
      . cases e:H q with
        | none=>rfl
        | some o=>
          by_cases y:q=p
          . obtain⟨xs,hx⟩:=b.ok.lst hq;rw[y,b.ok.ins]at hx;cases hx
          . rw[a.kp q o e y z]at h;cases h
theorem After.same{C p:Addr}{A:FA}{H H':Hp}{s:Vbreai.State}(F:aL C H p A s)(e:aA H H'):After C p A H A s H':=
  ⟨F.same e,fun b o h _ _=>e b o h,fun b h=>.inl h,fun b h=>e.free h⟩
section
variable{P:Program}{w:World}{K:Frag}{mg:Str->Option Value}{base:Heap}
def afa(C:Addr):Sp:=fun vs H Q _=>∃(p:Addr) (A:FA) (s:Vbreai.State) (l:Addr) (bs:List Nat),vs=[.ref p,.ref l]/\aL C H p A s/\Wf s/\H l=some (.lst (ax bs))/\bs.length=s.due.length/\(∀b∈bs,b<s.boats)/\
  ∀A' H',After C p A H A' (Vbreai.behind s (toF s.due bs)) H'->A'.sf.length=s.sailed.length+1->Q .dZ H'
theorem afl{due bs:List Nat}{i c b:Nat}(hc:due[i]? =some c)(hb:bs[i]? =some b):(toF due bs)[i]? =some ⟨c,b⟩:=by unfold toF;rw[getElem?_map,zip_get hc hb];rfl
theorem x5{due bs:List Nat}(h:bs.length=due.length):(toF due bs).length=due.length:=by unfold toF;rw[length_map,length_zip,h,min_self]
theorem z8{α β:Type}{R:α->β->Prop}:∀{as:List α} {bs:List β},as.length=bs.length->(∀(i:Nat) (a:α) (b:β),as[i]? =some a->bs[i]? =some b->R a b)->Paired R as bs
  | [],[],_,_=>.nil
  | [],_::_,h,_=>by cases h
  | _::_,[],h,_=>by cases h
  | a::as,b::bs,h,k=>.cons (k 0 a b rfl rfl) (z8 (by simpa using h) fun i x y hx hy=>k (i+1) x y hx hy)
theorem Zf{s:Vbreai.State}(W:Wf s){bs:List Nat}(hb:∀b∈bs,b<s.boats):∀x∈toF s.due bs,x.crew<s.crews/\x.boat<s.boats:=fun x hx=>by obtain⟨⟨c,b⟩,hm,rfl⟩:=mem_map.mp hx;exact⟨W.dlt c (of_mem_zip hm).1,hb b (of_mem_zip hm).2⟩
theorem HD(T:Txt K mg):ay P w K mg base bo 2 T.gA.f T.gA.fd ["self","flight"] (afa T.ah):=by
  have d7:ay P w K mg base bo 1 _ _ _ _:=gS T;refine T.gA.F.ok ud (fun vs H Q E h=>?_) (fun bP A outer s H vs Q E hr h=>?_)
  . obtain⟨p,A,s,l,bs,rfl,_⟩:=h;rfl
  . obtain⟨p,A',st,l,bs,rfl,F,W,hl,II,hbb,kk⟩:=h;refine⟨_,(ag (aY (i:=2) (ud.nd) rfl (Or.inl rfl) (Rj rfl T.ut T.tQ (aa (bf (pv 0) (by rfl)) (aa (pv 1) ab)))) (ag (eE (xC PySem.F.plainAttrs_list PySem.F.slot_list_append PySem.F.type_list_append tm (bf (pv 0) (by rfl)) (aa (pv 2) ab))) (ai (eE (bT (pv 0) T.ao T.bB.m d7 (hr.mono (by decide)) T.bB.b .nil aI (aa (pv 2) (aa xB ab))))))),?_⟩;have hdl:=cR W;refine⟨_,rfl,p,_,_,_,_,rfl,F.ins,T.ao,T.aQ,ll,_,rfl,A'.d,l,_,_,rfl,aN.of F.d,aN.of hl,fun D Ts H1 hD hTs s1 hd hTl hTT=>?_⟩;have F1:=F.same s1;have ahA:Ts.length=(toF st.due bs).length:=by rw[hTl,x5 II,length_map,fc,II,min_self]
    have acW:Paired (Jw H1) Ts (toF st.due bs):=z8 ahA fun i t x ht hx=>by obtain⟨v1,v2,e1,e2,e3⟩:=hTT i t ht;obtain⟨c,hc,rfl⟩:=bO (l:=st.due) e1;obtain⟨b,hb,rfl⟩:=bO e2;rw[afl hc hb]at hx;have:=Option.some.inj hx;subst this;exact e3
    have B6:A'.sf.length=st.sailed.length:=by rw[aD F.sf,length_reverse]
    have Xq:=W.sl;refine⟨_,rfl,p,_,_,_,_,rfl,F1.ins,T.ao,T.be,eV,.inl ⟨rfl,_,aN.of F1.sl⟩,_,rfl,A'.sl,_,_,rfl,rfl,F1.sl,?_,?_⟩
    . refine lt_of_lt_of_le (?_:(A'.sf.map V.ref).length<16000000) (sz (le_refl _));rw[length_map];omega
    . have ahZ:A'.sl∈c8 A':=gQ.mpr ⟨4,_,rfl,mem_cons_self⟩;have k2:pZ A' [4] H1 (upd H1 A'.sl (.lst (A'.sf.map V.ref++ [.ref D]))):=fun b o e n=>by rw[au (fun q=>n 4 mem_cons_self _ rfl (by rw[q];exact mem_cons_self))];exact e
      have Zv:D∉c8 A':=fun m=>by obtain⟨xs,e⟩:=F.lst m;rw[hD]at e;cases e
      have adL:D≠A'.sl:=fun q=>Zv (q▸ahZ);have aaz:D∉A'.tr:=fun m=>Zv (gQ.mpr ⟨8,_,rfl,m⟩);have OL:upd H1 A'.sl (.lst (A'.sf.map V.ref++ [.ref D])) A'.sl=some (.lst ((A'.sf++ [D]).map V.ref)):=by rw[ae];simp
      have d2:upd H1 A'.sl (.lst (A'.sf.map V.ref++ [.ref D])) D=some (.lst (Ts.map V.ref)):=by rw[au adL];exact hd
      generalize upd H1 A'.sl (.lst (A'.sf.map V.ref++ [.ref D]))=H2 at k2 OL d2;have aaF:=F1.fb k2 F1.ins (fun _ q=>by cases q);have Hn:Paired (Jw H2) Ts (toF st.due bs):=Paired.et acW fun _ _ z=>F1.fb k2 z (fun _ q=>by cases q);refine⟨_,rfl,p,_,_,rfl,aaF,rfl,_,rfl,p,A',st.crews,st.boats,D,Ts,toF st.due bs,true,_,rfl,aaF,F1.bi k2 5 (l:=[A'.t]) rfl (by decide) mem_cons_self F1.t,F1.tl,Lc F.own 8 rfl,(fun m=>vE F.own 5 8 (l:=[A'.t]) (l':=A'.tr) rfl rfl (by decide) mem_cons_self m),(fun c a h=>F1.bi k2 8 (l:=A'.tr) rfl (by decide) (mem_of_getElem? h) (F1.tw c a h)),d2,aaz,Hn,Zf W hbb,by rw[x5 II];omega,fun H3 k3 r3=>?_⟩;have k3':pZ A' [8] H2 H3:=fun b o e n=>k3 b o e (n 8 mem_cons_self _ rfl);have Dj:pZ A' [4,8] H1 H3:=fun b o e n=>k3' b o (k2 b o e fun i hi=>n i (by simp at hi;simp[hi])) fun i hi=>n i (by simp at hi;simp[hi]);have sl3:=k3 _ _ OL (fun m=>vE F.own 4 8 (l:=[A'.sl]) (l':=A'.tr) rfl rfl (by decide) mem_cons_self m);have d3:=k3 _ _ d2 aaz;have hp3:Paired (Jw H3) Ts (toF st.due bs):=Paired.et acW fun _ _ z=>F1.fb Dj z (fun _ q=>by cases q);have TWX:∀(c:Nat) (a:Addr),A'.tr[c]? =some a->H3 a=some (.lst ((List.range st.boats).map fun b=>V.bl ((toF st.due bs::st.sailed).any fun f=>f.contains ⟨c,b⟩))):=fun c a h=>by rw[r3 c a h];congr 2;refine map_congr_left fun b _=>?_;show V.bl (if (toF st.due bs).contains ⟨c,b⟩=true then true else _)=V.bl ((toF st.due bs::st.sailed).any fun f=>f.contains ⟨c,b⟩);rw[any_cons];cases (toF st.due bs).contains ⟨c,b⟩<;>rfl
      have SFX:Paired (Jr H3) (A'.sf++ [D]) (toF st.due bs::st.sailed).reverse:=by rw[reverse_cons];exact dg (F1.KE Dj (by decide)) (.cons ⟨Ts,d3,hp3⟩ .nil)
      have NDX:([A'.r,A'.k,A'.o,A'.d,A'.sl,A'.t]++A'.rr++A'.kr++A'.tr++(A'.sf++ [D])).Nodup:=by rw[<-append_assoc,nodup_append];refine⟨F.nd,nodup_cons.mpr ⟨not_mem_nil,nodup_nil⟩,fun a ha b hb e=>?_⟩;rw[mem_singleton]at hb;exact Zv (hb▸e▸ha)
      have FF:aL T.ah H3 p { A' with sf:=A'.sf++ [D]} (Vbreai.behind st (toF st.due bs)):=⟨F1.fb Dj F1.ins (fun _ q=>by cases q),F1.bi Dj 0 (l:=[A'.r]) rfl (by decide) mem_cons_self F1.r,F.rl,fun c a h=>F1.bi Dj 6 (l:=A'.rr) rfl (by decide) (mem_of_getElem? h) (F1.YH c a h),
        F1.bi Dj 1 (l:=[A'.k]) rfl (by decide) mem_cons_self F1.k,F.kl,fun c a h=>F1.bi Dj 7 (l:=A'.kr) rfl (by decide) (mem_of_getElem? h) (F1.kw c a h),F1.bi Dj 5 (l:=[A'.t]) rfl (by decide) mem_cons_self F1.t,F.tl,TWX,
        F1.bi Dj 2 (l:=[A'.o]) rfl (by decide) mem_cons_self F1.o,F1.bi Dj 3 (l:=[A'.d]) rfl (by decide) mem_cons_self F1.d,sl3,SFX,NDX⟩
      refine kk { A' with sf:=A'.sf++ [D]} H3 ⟨FF,fun b o e _ m=>?_,fun b hb=>?_,fun b h=>s1.free (Xm FF Dj (fun i hi l hl b hb=>?_) b h)⟩ ?_
      . exact Dj b o (s1 _ _ e) fun i hi l hl hb=>m (gQ.mpr ⟨i,l,hl,hb⟩)
      . have hb:b∈ [A'.r,A'.k,A'.o,A'.d,A'.sl,A'.t]++A'.rr++A'.kr++A'.tr++(A'.sf++ [D]):=hb;rw[<-append_assoc]at hb;rcases mem_append.mp hb with hb | hb
        . exact .inl hb
        . rw[mem_singleton]at hb;exact .inr (hb▸hD)
      . have:b∈c8 A':=gQ.mpr ⟨i,l,hl,hb⟩;show b∈ [A'.r,A'.k,A'.o,A'.d,A'.sl,A'.t]++A'.rr++A'.kr++A'.tr++(A'.sf++ [D]);rw[<-append_assoc];exact mem_append_left _ this
      . show(A'.sf++ [D]).length=_;rw[length_append,B6];rfl
def Y6(C:Addr):Sp:=fun vs H Q _=>∃(p:Addr) (A:FA) (s:Vbreai.State) (f:Flight) (r:List Flight),vs=[.ref p]/\aL C H p A s/\Wf s/\s.sailed=f::r/\
  ∀A' H',After C p A H A' { s with sailed:=r} H'->A'.sf.length=r.length->Q .dZ H'
theorem CA(T:Txt K mg):ay P w K mg base bo 2 T.eK.f T.eK.fd ["self"] (Y6 T.ah):=by
  have d7:ay P w K mg base bo 1 _ _ _ _:=gS T;refine T.eK.F.ok CS (fun vs H Q E h=>?_) (fun bP A outer s H vs Q E hr h=>?_)
  . obtain⟨p,A,s,f,r,rfl,_⟩:=h;rfl
  . obtain⟨p,A',st,f,r,rfl,F,W,hs,kk⟩:=h;refine⟨_,(ai (eE (bT (pv 0) T.ao T.bB.m d7 (hr.mono (by decide)) T.bB.b .nil aI (aa (aeL PySem.F.plainAttrs_list PySem.F.slot_list_pop PySem.F.type_list_pop aem (bf (pv 0) (by rfl))) (aa xB ab))))),?_⟩;have hsf:=F.sf;rw[hs,reverse_cons]at hsf;obtain⟨sf,D,US,ahX,adS⟩:=pK hsf;obtain⟨ts,hDl,LS⟩:=adS;refine⟨_,rfl,p,_,_,rfl,F.ins,rfl,?_⟩;refine⟨_,rfl,p,_,_,_,_,rfl,F.ins,T.ao,T.be,eV,.inl ⟨rfl,_,aN.of F.sl⟩,A'.sl,_,.ref D,rfl,rfl,F.sl,?_,?_⟩
    . rw[US];simp
    . have Zv:D∈A'.sf:=by rw[US];simp
      have adL:D≠A'.sl:=fun q=>vE F.own 9 4 (l:=A'.sf) (l':=[A'.sl]) rfl rfl (by decide) Zv (by rw[q];exact mem_cons_self);have aaz:D∉A'.tr:=fun m=>vE F.own 9 8 (l:=A'.sf) (l':=A'.tr) rfl rfl (by decide) Zv m;have k2:pZ A' [4] H (upd H A'.sl (.lst (A'.sf.map V.ref).dropLast)):=fun b o e n=>by rw[au (fun q=>n 4 mem_cons_self _ rfl (by rw[q];exact mem_cons_self))];exact e
      have OL:upd H A'.sl (.lst (A'.sf.map V.ref).dropLast) A'.sl=some (.lst (sf.map V.ref)):=by rw[ae,US];simp
      have d2:upd H A'.sl (.lst (A'.sf.map V.ref).dropLast) D=some (.lst (ts.map V.ref)):=by rw[au adL];exact hDl
      generalize upd H A'.sl (.lst (A'.sf.map V.ref).dropLast)=H2 at k2 OL d2;have aaF:=F.fb k2 F.ins (fun _ q=>by cases q);have Hn:Paired (Jw H2) ts f:=Paired.et LS fun _ _ z=>F.fb k2 z (fun _ q=>by cases q);have hfm:f∈st.sailed:=by rw[hs];exact mem_cons_self
      refine⟨p,A',st.crews,st.boats,D,ts,f,false,_,rfl,aaF,F.bi k2 5 (l:=[A'.t]) rfl (by decide) mem_cons_self F.t,F.tl,Lc F.own 8 rfl,(fun m=>vE F.own 5 8 (l:=[A'.t]) (l':=A'.tr) rfl rfl (by decide) mem_cons_self m),(fun c a h=>F.bi k2 8 (l:=A'.tr) rfl (by decide) (mem_of_getElem? h) (F.tw c a h)),d2,aaz,Hn,fun x hx=>W.fl f hfm x hx,by have:=W.fn f hfm;omega,fun H3 k3 r3=>?_⟩;have k3':pZ A' [8] H2 H3:=fun b o e n=>k3 b o e (n 8 mem_cons_self _ rfl);have Dj:pZ A' [4,8] H H3:=fun b o e n=>k3' b o (k2 b o e fun i hi=>n i (by simp at hi;simp[hi])) fun i hi=>n i (by simp at hi;simp[hi]);have sl3:=k3 _ _ OL (fun m=>vE F.own 4 8 (l:=[A'.sl]) (l':=A'.tr) rfl rfl (by decide) mem_cons_self m);have zf:∀b∈c8 { A' with sf:=sf},b∈c8 A':=fun b hb=>by have hb:b∈ [A'.r,A'.k,A'.o,A'.d,A'.sl,A'.t]++A'.rr++A'.kr++A'.tr++sf:=hb;show b∈ [A'.r,A'.k,A'.o,A'.d,A'.sl,A'.t]++A'.rr++A'.kr++A'.tr++A'.sf;rw[US,<-append_assoc];exact mem_append_left _ hb
      have acS:=F.KE Dj (by decide);rw[hs,reverse_cons]at acS;obtain⟨sf4,D4,e4,ahY,_⟩:=pK acS;have e5:sf4=sf:=by rw[US]at e4;exact(List.append_inj' e4 rfl).1.symm
      have TWX:∀(c:Nat) (a:Addr),A'.tr[c]? =some a->H3 a=some (.lst ((List.range st.boats).map fun b=>V.bl (r.any fun f=>f.contains ⟨c,b⟩))):=fun c a h=>by
        rw[r3 c a h];congr 2;refine map_congr_left fun b _=>?_;show V.bl (if f.contains ⟨c,b⟩=true then false else st.sailed.any fun f=>f.contains ⟨c,b⟩)=V.bl (r.any fun f=>f.contains ⟨c,b⟩);rw[hs,any_cons];have afW:=W.dis;rw[hs]at afW;cases hfc:f.contains ⟨c,b⟩with
        | false=>rfl
        | true=>
          have:(r.any fun f=>f.contains ⟨c,b⟩)=false:=by rw[any_eq_false];intro g hg hc;exact(pairwise_cons.mp afW).1 g hg _ (contains_iff_mem.mp hfc) (contains_iff_mem.mp hc)
          rw[this];rfl
      have NDX:([A'.r,A'.k,A'.o,A'.d,A'.sl,A'.t]++A'.rr++A'.kr++A'.tr++sf).Nodup:=by have:=F.nd;rw[US,<-append_assoc]at this;exact(nodup_append.mp this).1
      have FF:aL T.ah H3 p { A' with sf:=sf} { st with sailed:=r}:=⟨F.fb Dj F.ins (fun _ q=>by cases q),F.bi Dj 0 (l:=[A'.r]) rfl (by decide) mem_cons_self F.r,F.rl,fun c a h=>F.bi Dj 6 (l:=A'.rr) rfl (by decide) (mem_of_getElem? h) (F.YH c a h),
        F.bi Dj 1 (l:=[A'.k]) rfl (by decide) mem_cons_self F.k,F.kl,fun c a h=>F.bi Dj 7 (l:=A'.kr) rfl (by decide) (mem_of_getElem? h) (F.kw c a h),F.bi Dj 5 (l:=[A'.t]) rfl (by decide) mem_cons_self F.t,F.tl,TWX,
        F.bi Dj 2 (l:=[A'.o]) rfl (by decide) mem_cons_self F.o,F.bi Dj 3 (l:=[A'.d]) rfl (by decide) mem_cons_self F.d,sl3,e5▸ahY,NDX⟩
      refine kk { A' with sf:=sf} H3 ⟨FF,fun b o e _ m=>?_,fun b hb=>.inl (zf b hb),fun b h=>Xm FF Dj (fun i hi l hl b hb=>?_) b h⟩ ?_
      . exact Dj b o e fun i hi l hl hb=>m (gQ.mpr ⟨i,l,hl,hb⟩)
      . simp only[mem_cons,not_mem_nil,or_false]at hi;rcases hi with rfl | rfl
        . exact gQ.mpr ⟨4,l,hl,hb⟩
        . exact gQ.mpr ⟨8,l,hl,hb⟩
      . show sf.length=r.length;rw[aD ahX,length_reverse]
end
end My
namespace My
open PySem PySem.Spec PyProof.Rows L2 HT
abbrev Mk:=List Int->Option Call
def LU(c:Call):Mk:=fun _=>some c
def mk1(f:Int->Call):Mk
  | [a]=>some (f a)
  | _=>none
def X8(f:Int->Int->Call):Mk
  | [a,b]=>some (f a b)
  | _=>none
def mk3(f:Int->Int->Int->Call):Mk
  | [a,b,c]=>some (f a b c)
  | _=>none
def mkR(f:List Int->Call):Mk:=fun l=>some (f l)
theorem KQ{f:Int->Call}:∀{l:List Int} {c:Call},mk1 f l=some c->∃a,l=[a]/\c=f a
  | [],_,h=>by cases h
  | [a],c,h=>⟨a,rfl,(Option.some.inj h).symm⟩
  | _::_::_,_,h=>by cases h
theorem xg{f:Int->Int->Call}:∀{l:List Int} {c:Call},X8 f l=some c->∃a b,l=[a,b]/\c=f a b
  | [],_,h=>by cases h
  | [_],_,h=>by cases h
  | [a,b],c,h=>⟨a,b,rfl,(Option.some.inj h).symm⟩
  | _::_::_::_,_,h=>by cases h
theorem aa1{f:Int->Int->Int->Call}:∀{l:List Int} {c:Call},mk3 f l=some c->∃a b d,l=[a,b,d]/\c=f a b d
  | [],_,h=>by cases h
  | [_],_,h=>by cases h
  | [_,_],_,h=>by cases h
  | [a,b,d],c,h=>⟨a,b,d,rfl,(Option.some.inj h).symm⟩
  | _::_::_::_::_,_,h=>by cases h
def Dv(C p:Addr)(A:FA)(s:Vbreai.State)(c:Call)(H:Hp)(Q:VK):Prop:=∀D A' H',After C p A H A' (Vbreai.step s c).1 H'->H D=none->D∉c8 A'->H' D=some (.lst ((Vbreai.step s c).2.map V.int))->Q (.ref D) H'
def cQ(C:Addr)(mk:Mk):Sp:=fun vs H Q _=>∃(p:Addr) (A:FA) (s:Vbreai.State) (l:Addr) (nums:List Int) (c:Call),vs=[.ref p,.ref l]/\aL C H p A s/\Wf s/\H l=some (.lst (nums.map V.int))/\l∉c8 A/\mk nums=some c/\nums.length<=1000/\Dv C p A s c H Q
theorem aL.zK{C p:Addr}{A:FA}{H:Hp}{s:Vbreai.State}(F:aL C H p A s){D:Addr}(h:H D=none):D∉c8 A:=fun m=>by obtain⟨xs,e⟩:=F.lst m;rw[h]at e;cases e
theorem Dv.ro{C p:Addr}{A:FA}{s:Vbreai.State}{c:Call}{H:Hp}{Q:VK}(k:Dv C p A s c H Q)(F:aL C H p A s){a:List Int}(e:Vbreai.step s c=(s,a)):bL H Q a:=fun D H' hD s' hd=>k D A H' (by rw[e];exact After.same F s') hD (F.zK hD) (by rw[e];exact hd)
theorem bL.mono{H H1:Hp}{Q:VK}{a:List Int}(k:bL H Q a)(s:aA H H1):bL H1 Q a:=fun D H' hD s' e=>k D H' (s.free hD) (s.trans s') e
theorem bL.ret{H:Hp}{Q:VK}{a:List Int}(k:bL H Q a)(hl:a.length<=1000):(a.map V.int).length<=sizeLine/\∀p,H p=none->Q (.ref p) (upd H p (.lst (a.map V.int))):=
  ⟨sz (by rw[length_map];omega),fun D hD=>k D _ hD (ak hD) ae⟩
theorem Dv.ret{C p:Addr}{A A':FA}{s s':Vbreai.State}{c:Call}{H H1:Hp}{Q:VK}(k:Dv C p A s c H Q){a:List Int}(e:Vbreai.step s c=(s',a))(af:After C p A H A' s' H1)(hl:a.length<=1000):(a.map V.int).length<=sizeLine/\∀D,H1 D=none->Q (.ref D) (upd H1 D (.lst (a.map V.int))):=
  ⟨sz (by rw[length_map];omega),fun D hD=>k D A' _ (by rw[e];exact af.next (After.same af.ok (ak hD))) (af.fr D hD) (af.ok.zK hD) (by rw[e,ae])⟩
theorem jb{lo x hi:Int}{σ:L2.St}{H:Hp}{Q:VK}(h:Q (.bl (inside x lo hi)) H):Wn (fun i j=>.bl (decide (i<=j))) (.int lo) (.int x) H (fun z H3=>∃k,z=.bl k/\(if k=true then tC (.int hi) σ H3 fun w' H4=>Wn (fun i j=>.bl (decide (i<=j))) (.int x) w' H4 Q else Q (.bl false) H3)):=by
  refine⟨_,_,rfl,rfl,_,rfl,?_⟩;unfold inside at h;by_cases e:lo<=x
  . rw[decide_eq_true e]at h;rw[decide_eq_true e];exact cx ⟨_,_,rfl,rfl,h⟩
  . rw[decide_eq_false e]at h;rw[decide_eq_false e];exact cU h
theorem XO{b:Bool}{A B:Prop}(h:b=true->A)(h':b=false->B):if b=true then A else B:=by
  cases b with
  | true=>rw[if_pos rfl];exact h rfl
  | false=>rw[if_neg (by decide)];exact h' rfl
theorem lz{b:Bool}{A B:Prop}(h:b=false->A)(h':b=true->B):if (!b)=true then A else B:=by
  cases b with
  | true=>show(if false=true then A else B);rw[if_neg (by decide)];exact h' rfl
  | false=>show(if true=true then A else B);rw[if_pos rfl];exact h rfl
theorem cM{x lo hi:Int}(h:inside x lo hi=true)(h0:0<=lo):∃n:Nat,x=n/\lo<=n/\(n:Int)<=hi:=by unfold inside at h;rw[and_eq_true,decide_eq_true_eq,decide_eq_true_eq]at h;exact⟨x.toNat,by omega,by omega,by omega⟩
theorem pj{s:Vbreai.State}{c:Int}(h:isCrew s c=true):∃n:Nat,c=n/\n<s.crews:=by rw[IL,and_eq_true,decide_eq_true_eq,decide_eq_true_eq]at h;exact⟨c.toNat,by omega,by omega⟩
theorem fO{s:Vbreai.State}{c:Int}(h:isBoat s c=true):∃n:Nat,c=n/\n<s.boats:=by rw[zg,and_eq_true,decide_eq_true_eq,decide_eq_true_eq]at h;exact⟨c.toNat,by omega,by omega⟩
theorem aL.re{C p:Addr}{A:FA}{H H':Hp}{s s':Vbreai.State}{S:List Nat}(F:aL C H p A s)(k:pZ A S H H')(hc:s'.crews=s.crews)(hb:s'.boats=s.boats)(hd:s'.due=s.due)(hsl:s'.sailed=s.sailed)(hr:(6∉S/\s'.refused=s.refused)\/∀(c:Nat) (a:Addr),A.rr[c]? =some a->H' a=some (.lst ((List.range s'.boats).map fun b=>V.bl (s'.refused.contains ⟨c,b⟩))))(hk:(7∉S/\∀c b,costOf s' c b=costOf s c b)\/∀(c:Nat) (a:Addr),A.kr[c]? =some a->H' a=some (.lst ((List.range s'.boats).map fun b=>V.int (costOf s' c b:Nat))))(ho:(2∉S/\s'.out=s.out)\/H' A.o=some (.lst ((List.range s'.boats).map fun b=>V.bl (s'.out.contains b))))(h0:0∉S)(h1:1∉S)(h3:3∉S)(h4:4∉S)(h5:5∉S)(h8:8∉S)(h9:9∉S):After C p A H A s' H':=by
  have FF:aL C H' p A s':=by
    refine⟨by rw[hc,hb];exact F.fb k F.ins (fun _ q=>by cases q),F.bi k 0 (l:=[A.r]) rfl h0 mem_cons_self F.r,by rw[hc];exact F.rl,?_,F.bi k 1 (l:=[A.k]) rfl h1 mem_cons_self F.k,by rw[hc];exact F.kl,?_,F.bi k 5 (l:=[A.t]) rfl h5 mem_cons_self F.t,by rw[hc];exact F.tl,?_,?_,by rw[hd];exact F.bi k 3 (l:=[A.d]) rfl h3 mem_cons_self F.d,F.bi k 4 (l:=[A.sl]) rfl h4 mem_cons_self F.sl,by rw[hsl];exact F.KE k h9,F.nd⟩
    . rcases hr with⟨n,e⟩ | h
      . intro c a h;rw[e,hb];exact F.bi k 6 (l:=A.rr) rfl n (mem_of_getElem? h) (F.YH c a h)
      . exact h
    . rcases hk with⟨n,e⟩ | h
      . intro c a h;rw[hb];have:=F.bi k 7 (l:=A.kr) rfl n (mem_of_getElem? h) (F.kw c a h);rw[this];congr 2;exact map_congr_left fun b _=>by rw[e]
      . exact h
    . intro c a h;rw[hb,hsl];exact F.bi k 8 (l:=A.tr) rfl h8 (mem_of_getElem? h) (F.tw c a h)
    . rcases ho with⟨n,e⟩ | h
      . rw[e,hb];exact F.bi k 2 (l:=[A.o]) rfl n mem_cons_self F.o
      . exact h
  exact⟨FF,fun b o e _ m=>k b o e fun i hi l hl hb=>m (gQ.mpr ⟨i,l,hl,hb⟩),fun b h=>.inl h,Xm FF k fun i hi l hl b hb=>gQ.mpr ⟨i,l,hl,hb⟩⟩
theorem Fm{A:FA}{j:Nat}{l:List Addr}(hj:(slots A)[j]? =some l){a:Addr}(ha:a∈l){H:Hp}{o:HO}:pZ A [j] H (upd H a o):=fun b u e n=>by rw[au (fun q=>n j mem_cons_self l hj (by rw[q];exact ha))];exact e
theorem kZ:∀l:List Int,distinct l=true↔l.Nodup
  | []=>⟨fun _=>nodup_nil,fun _=>rfl⟩
  | a::l=>by show(!l.contains a&&distinct l)=true↔_;rw[and_eq_true,kZ l,nodup_cons];refine and_congr_left fun _=>?_;rw[not_eq_true',<-not_eq_true,contains_iff_mem]
def dd(ns:List Int):List Int:=firstMet (fun i=>ns.getD i 0) ns.length
theorem acL(ns:List Int):dd ns=ns.foldl step_dedup []:=by
  unfold dd firstMet;congr 1;refine ext_getElem? fun i=>?_;rw[getElem?_map];by_cases h:i<ns.length
  . rw[getElem?_range h,getElem?_eq_getElem h];simp[h]
  . rw[getElem?_eq_none (by rw[length_range];omega),getElem?_eq_none (by omega)];rfl
theorem adH(ns:List Int)(k:Int):(dd ns).any (· ==k)=ns.any (· ==k):=by
  unfold dd;rw[firstMet_any];congr 1;refine ext_getElem? fun i=>?_;rw[getElem?_map];by_cases h:i<ns.length
  . rw[getElem?_range h,getElem?_eq_getElem h];simp[h]
  . rw[getElem?_eq_none (by rw[length_range];omega),getElem?_eq_none (by omega)];rfl
theorem adI(ns:List Int):(dd ns).length<=ns.length/\((dd ns).length=ns.length↔ns.Nodup):=by
  induction ns using mq with
  | nil=>exact⟨le_refl _,fun _=>nodup_nil,fun _=>rfl⟩
  | snoc l x ih=>
    have e:dd (l++ [x])=step_dedup (dd l) x:=by rw[acL,acL,foldl_append];rfl
    have hx:(dd l).any (· ==x)=true↔x∈l:=by rw[adH,any_eq_true];exact⟨fun⟨y,hy,h⟩=>(eq_of_beq h)▸hy,fun h=>⟨x,h,beq_self_eq_true x⟩⟩
    have hn:(l++ [x]).Nodup↔l.Nodup/\x∉l:=by rw[nodup_append];refine⟨fun⟨a,_,c⟩=>⟨a,fun m=>c x m x mem_cons_self rfl⟩,fun⟨a,b⟩=>⟨a,nodup_cons.mpr ⟨not_mem_nil,nodup_nil⟩,fun y hy z hz q=>?_⟩⟩;rw[mem_singleton]at hz;exact b (hz▸q▸hy)
    rw[e,hn,<-ih.2];unfold step_dedup;have:=ih.1;by_cases h:x∈l
    . rw[if_pos (hx.mpr h),length_append,length_singleton];exact⟨by omega,⟨fun q=>by omega,fun q=>absurd h q.2⟩⟩
    . rw[if_neg (fun q=>h (hx.mp q)),length_append,length_append,length_singleton];exact⟨by omega,⟨fun q=>⟨by omega,h⟩,fun q=>by omega⟩⟩
theorem acM(ns:List Int):(!decide (V.int ((dd ns).length:Nat)=V.int (ns.length:Nat)))= !distinct ns:=by congr 1;rw[Bool.eq_iff_iff,decide_eq_true_eq,kZ,<-(adI ns).2];exact⟨fun h=>by injection h with h;exact Int.ofNat.inj h,fun h=>by rw[h]⟩
section
variable{P:Program}{w:World}{K:Frag}{mg:Str->Option Value}{base:Heap}
def N1(s:Vbreai.State)(c b:Int):V:=if isCrew s c=false then .int (-1) else if isBoat s b=false then .int (-4) else .dZ
def aiA(C:Addr):Sp:=fun vs H Q _=>∃(p:Addr) (A:FA) (s:Vbreai.State) (c b:Int),vs=[.ref p,.int c,.int b]/\aL C H p A s/\Q (N1 s c b) H
theorem jQ(T:Txt K mg):ay P w K mg base bo 2 T.bx.f T.bx.fd ["fleet","crew","boat"] (aiA T.ah):=by
  have hC:ay P w K mg base bo 1 _ _ _ _:=mL T;have dj:ay P w K mg base bo 1 _ _ _ _:=gR T;refine T.bx.F.ok CT (fun vs H Q E h=>?_) (fun bP A outer s H vs Q E hr h=>?_)
  . obtain⟨p,A,s,c,b,rfl,_⟩:=h;rfl
  . obtain⟨p,A',st,c,b,rfl,F,k⟩:=h;refine⟨_,(ag (bW (dy (fU (bT (pv 0) T.ao T.cc.m hC (hr.mono (by decide)) T.cc.b .nil aI (aa (pv 1) ab)))) (ai (aq (a0 T.Ii))) aZ) (ag (bW (dy (fU (bT (pv 0) T.ao T.bH.m dj (hr.mono (by decide)) T.bH.b .nil aI (aa (pv 2) ab)))) (ai (aq (a0 T.Ih))) aZ) (ai (aq vG)))),?_⟩;refine⟨_,rfl,p,_,_,rfl,F.ins,rfl,_,rfl,p,A',st,c,rfl,F,_,rfl,?_⟩;unfold N1 at k;refine lz (fun h=>?_) fun h=>?_
    . rw[if_pos h]at k;exact k
    . rw[if_neg (by rw[h];decide)]at k;refine⟨_,rfl,p,_,_,rfl,F.ins,rfl,_,rfl,p,A',st,b,rfl,F,_,rfl,lz (fun h=>?_) fun h=>?_⟩
      . rw[if_pos h]at k;exact k
      . rw[if_neg (by rw[h];decide)]at k;exact k
def FH(c b:Int)(v:Bool):Call:=if v=true then .refuse c b else .let_ c b
def aiz(C:Addr):Sp:=fun vs H Q _=>∃(p:Addr) (A:FA) (s:Vbreai.State) (c b:Int) (v:Bool),vs=[.ref p,.int c,.int b,.bl v]/\aL C H p A s/\Wf s/\Dv C p A s (FH c b v) H Q
theorem Bu(s:Vbreai.State)(c b:Int):Vbreai.step s (.refuse c b)=onPair s c b fun x y=>if s.refused.contains ⟨x,y⟩=true then Vbreai.no s (-5) else ({ s with refused:=s.refused++ [⟨x,y⟩]},[0]):=rfl
theorem Og(s:Vbreai.State)(c b:Int):Vbreai.step s (.let_ c b)=onPair s c b fun x y=>if s.refused.contains ⟨x,y⟩=false then Vbreai.no s (-5) else ({ s with refused:=s.refused.filter fun p=>p !=⟨x,y⟩},[0]):=rfl
theorem pI{s:Vbreai.State}{c b:Nat}(hc:isCrew s c=true)(hb:isBoat s b=true)(k:Nat->Nat->Vbreai.State×Answer):onPair s c b k=k c b:=by unfold onPair;rw[if_neg (by rw[hc];decide),if_neg (by rw[hb];decide)];rfl
theorem U7(s:Vbreai.State)(c b:Nat)(v:Bool)(hc:isCrew s c=true)(hb:isBoat s b=true):Vbreai.step s (FH c b v)=if s.refused.contains ⟨c,b⟩=v then (s,[-5]) else ({ s with refused:=if v=true then s.refused++ [⟨c,b⟩] else s.refused.filter fun p=>p !=⟨c,b⟩},[0]):=by
  cases v with
  | true=>rw[show FH c b true=.refuse c b from rfl,Bu,pI hc hb];rfl
  | false=>rw[show FH c b false=.let_ c b from rfl,Og,pI hc hb];rfl
theorem tu{s:Vbreai.State}{c b:Int}{z:Int}(h:N1 s c b=.int z)(k:Nat->Nat->Vbreai.State×Answer):onPair s c b k=(s,[z]):=by
  unfold N1 at h;unfold onPair;by_cases h1:isCrew s c=false
  . rw[if_pos h1]at h ⊢;injection h with h;rw[<-h];rfl
  . rw[if_neg h1]at h ⊢;by_cases h2:isBoat s b=false
    . rw[if_pos h2]at h ⊢;injection h with h;rw[<-h];rfl
    . rw[if_neg h2]at h;cases h
theorem aaX(s:Vbreai.State)(c b:Int)(v:Bool){z:Int}(h:N1 s c b=.int z):Vbreai.step s (FH c b v)=(s,[z]):=by
  cases v with
  | true=>rw[show FH c b true=.refuse c b from rfl,Bu,tu h]
  | false=>rw[show FH c b false=.let_ c b from rfl,Og,tu h]
theorem vL(s:Vbreai.State)(c b:Int):(∃z,N1 s c b=.int z)\/(N1 s c b=.dZ/\isCrew s c=true/\isBoat s b=true):=by
  unfold N1;by_cases h1:isCrew s c=false
  . rw[if_pos h1];exact .inl ⟨_,rfl⟩
  . rw[if_neg h1];by_cases h2:isBoat s b=false
    . rw[if_pos h2];exact .inl ⟨_,rfl⟩
    . rw[if_neg h2];exact .inr ⟨rfl,by simpa using h1,by simpa using h2⟩
theorem Nf(s:Vbreai.State)(c b:Nat)(v:Bool)(c' b':Nat):((if v=true then s.refused++ [⟨c,b⟩] else s.refused.filter fun p=>p !=⟨c,b⟩):List Pair).contains ⟨c',b'⟩=if c'=c/\b'=b then v else s.refused.contains ⟨c',b'⟩:=by
  cases v with
  | true=>
    rw[if_pos rfl,Bool.eq_iff_iff,contains_iff_mem,mem_append,mem_singleton];by_cases e:c'=c/\b'=b
    . rw[if_pos e,e.1,e.2];simp
    . rw[if_neg e,contains_iff_mem];exact⟨fun h=>by rcases h with h | h;exact h;injection h with h1 h2;exact absurd ⟨h1,h2⟩ e,fun h=>.inl h⟩
  | false=>
    rw[if_neg (by decide),Bool.eq_iff_iff,contains_iff_mem,mem_filter];by_cases e:c'=c/\b'=b
    . rw[if_pos e,e.1,e.2];simp
    . rw[if_neg e,contains_iff_mem];refine⟨fun h=>h.1,fun h=>⟨h,bne_iff_ne.mpr fun q=>?_⟩⟩;injection q with h1 h2;exact e ⟨h1,h2⟩
theorem xx(T:Txt K mg):ay P w K mg base bo 3 T.c6.f T.c6.fd ["fleet","crew","boat","refused"] (aiz T.ah):=by
  have eG:ay P w K mg base bo 2 _ _ _ _:=jQ T;refine T.c6.F.ok xS (fun vs H Q E h=>?_) (fun bP A outer s H vs Q E hr h=>?_)
  . obtain⟨p,A,s,c,b,v,rfl,_⟩:=h;rfl
  . obtain⟨p,A',st,c,b,v,rfl,F,W,k⟩:=h;refine⟨_,(ag (aY (i:=4) (xS.nd) rfl (Or.inl rfl) (aH eG (hr.mono (by decide)) rfl T.bx.g T.bx.F.kp T.bx.b .nil aI (aa (pv 0) (aa (pv 1) (aa (pv 2) ab))))) (ag (bW (jR (Dn (pv 4))) (ai (aq (aS (aa (pv 4) ab)))) aZ) (ag (bW (cT FZ (a9 aW (a9 aW (bf (pv 0) (by rfl)) (pv 1) (fun _ _=>rfl)) (pv 2) (fun _ _=>rfl)) (pv 3) (ez _)) (ai (aq (aS (aa (a0 T.DW) ab)))) aZ) (ag (Al (pv 3) (Aa (a9 aW (bf (pv 0) (by rfl)) (pv 1) (fun _ _=>rfl)) (pv 2) set_list)) (ai (aq (aS (aa (a0 T.JP) ab)))))))),?_⟩;refine⟨_,rfl,_,rfl,_,rfl,p,A',st,c,b,rfl,F,?_⟩;rcases vL st c b with⟨z,hz⟩ | ⟨hz,hc,hb⟩
    . rw[hz];exact⟨_,rfl,_,rfl,cx ⟨_,rfl,(k.ro F (aaX st c b v hz)).ret (by simp)⟩⟩
    . rw[hz];refine⟨_,rfl,_,rfl,cU ?_⟩;obtain⟨c,rfl,nR⟩:=pj hc;obtain⟨b,rfl,II⟩:=fO hb;obtain⟨ra,ZD⟩:=Ln F.rl nR;have aG:=U7 st c b v hc hb;refine⟨_,rfl,p,_,_,_,_,rfl,F.ins,T.ao,T.b6,uX,_,rfl,_,_,_,_,rfl,rfl,aN.of F.r,kG ZD,_,rfl,_,_,_,_,rfl,rfl,aN.of (F.YH c ra ZD),eP II,_,rfl,rfl,_,rfl,?_⟩;by_cases he:st.refused.contains ⟨c,b⟩=v
      . have e':decide (V.bl (st.refused.contains ⟨c,b⟩)=V.bl v)=true:=decide_eq_true (by rw[he]);rw[e'];rw[if_pos he]at aG;exact cx ((k.ro F aG).ret (by simp))
      . have e':decide (V.bl (st.refused.contains ⟨c,b⟩)=V.bl v)=false:=decide_eq_false (fun q=>he (by injection q));rw[e'];rw[if_neg he]at aG;refine cU ⟨_,rfl,_,rfl,p,_,_,_,_,rfl,F.ins,T.ao,T.b6,uX,_,rfl,_,_,_,_,rfl,rfl,aN.of F.r,kG ZD,_,rfl,ra,_,_,_,rfl,rfl,F.YH c ra ZD,sW (by rw[length_map,length_range];exact II),?_⟩;refine k.ret aG (F.re (S:=[6]) (Fm (j:=6) rfl (mem_of_getElem? ZD)) rfl rfl rfl rfl (.inr fun c' a' h'=>?_) (.inl ⟨by decide,fun _ _=>rfl⟩) (.inl ⟨by decide,rfl⟩) (by decide) (by decide) (by decide) (by decide) (by decide) (by decide) (by decide)) (by simp);by_cases ea:a'=ra
        . subst ea;have:c'=c:=Kt (Lc F.own 6 rfl) h' ZD;subst this;rw[ae,set_range];congr 2;refine map_congr_left fun b' _=>?_;rw[Nf];by_cases eb:b'=b
          . rw[if_pos eb,if_pos ⟨rfl,eb⟩]
          . rw[if_neg eb,if_neg (fun q=>eb q.2)]
        . rw[au ea,F.YH c' a' h'];congr 2;refine map_congr_left fun b' _=>?_;rw[Nf,if_neg (fun q=>ea (by rw[q.1,ZD]at h';exact(Option.some.inj h').symm))]
theorem Vs(T:Txt K mg):ay P w K mg base bo 4 T.kW.f T.kW.fd ["fleet","numbers"] (cQ T.ah (X8 .refuse)):=by
  have qr:ay P w K mg base bo 3 _ _ _ _:=xx T;refine T.kW.F.ok VM (fun vs H Q E h=>?_) (fun bP A outer s H vs Q E hr h=>?_)
  . obtain⟨p,A,s,l,nums,c,rfl,_⟩:=h;rfl
  . obtain⟨p,A',st,l,nums,cl,rfl,F,W,hl,B5,kc,hn,k⟩:=h;obtain⟨c,b,rfl,rfl⟩:=xg kc;refine⟨_,(ai (aq (aH qr (hr.mono (by decide)) rfl T.c6.g T.c6.F.kp T.c6.b .nil aI (aa (pv 0) (aa (a9 aW (pv 1) aE (fun _ _=>rfl)) (aa (a9 aW (pv 1) aE (fun _ _=>rfl)) (aa xB ab))))))),?_⟩;exact⟨_,rfl,_,rfl,l,_,_,_,rfl,rfl,aN.of hl,rfl,_,rfl,l,_,_,_,rfl,rfl,aN.of hl,rfl,p,A',st,c,b,true,rfl,F,W,k⟩
theorem aeC(T:Txt K mg):ay P w K mg base bo 4 T.Ez.f T.Ez.fd ["fleet","numbers"] (cQ T.ah (X8 .let_)):=by
  have qr:ay P w K mg base bo 3 _ _ _ _:=xx T;refine T.Ez.F.ok ae0 (fun vs H Q E h=>?_) (fun bP A outer s H vs Q E hr h=>?_)
  . obtain⟨p,A,s,l,nums,c,rfl,_⟩:=h;rfl
  . obtain⟨p,A',st,l,nums,cl,rfl,F,W,hl,B5,kc,hn,k⟩:=h;obtain⟨c,b,rfl,rfl⟩:=xg kc;refine⟨_,(ai (aq (aH qr (hr.mono (by decide)) rfl T.c6.g T.c6.F.kp T.c6.b .nil aI (aa (pv 0) (aa (a9 aW (pv 1) aE (fun _ _=>rfl)) (aa (a9 aW (pv 1) aE (fun _ _=>rfl)) (aa xB ab))))))),?_⟩;exact⟨_,rfl,_,rfl,l,_,_,_,rfl,rfl,aN.of hl,rfl,_,rfl,l,_,_,_,rfl,rfl,aN.of hl,rfl,p,A',st,c,b,false,rfl,F,W,k⟩
theorem Yl(T:Txt K mg):ay P w K mg base bo 2 T.oZ.f T.oZ.fd ["fleet","numbers"] (cQ T.ah (X8 .begin_)):=by
  have mR:ay P w K mg base bo 1 _ _ _ _:=rV T;refine T.oZ.F.ok Gz (fun vs H Q E h=>?_) (fun bP A outer s H vs Q E hr h=>?_)
  . obtain⟨p,A,s,l,nums,c,rfl,_⟩:=h;rfl
  . obtain⟨p,A',st,l,nums,cl,rfl,F,W,hl,B5,kc,hn,k⟩:=h;obtain⟨c,b,rfl,rfl⟩:=xg kc;refine⟨_,(ag (aY (i:=2) (Gz.nd) rfl (Or.inl rfl) (a9 aW (pv 1) aE (fun _ _=>rfl))) (ag (aY (i:=3) (Gz.nd) rfl (Or.inl rfl) (a9 aW (pv 1) aE (fun _ _=>rfl))) (ag (bW (dy ((aeU (l9 gT gT aE (pv 2) (a0 T.qD)) (abY (l9 gT gT aE (pv 3) (a0 T.qD))))).pt) (ai (aq (aS (aa (a0 T.dm) ab)))) aZ) (ag (eE (bT (pv 0) T.ao T.da.m mR (hr.mono (by decide)) T.da.b .nil aI (aa (pv 2) (aa (pv 3) ab)))) (ai (aq (aS (aa (a0 T.JP) ab)))))))),?_⟩;refine⟨_,rfl,l,_,_,_,rfl,rfl,aN.of hl,rfl,_,rfl,l,_,_,_,rfl,rfl,aN.of hl,rfl,?_⟩;have LQ:(inside c 1 (MOST:Int)&&inside b 1 (MOST:Int))=false->Vbreai.step st (.begin_ c b)=(st,[-2]):=fun h=>by show(if (inside c 1 (MOST:Int)&&inside b 1 (MOST:Int))=false then Vbreai.no st (-2) else _)=_;rw[if_pos h];rfl
    refine⟨_,rfl,jb ?_⟩;refine⟨_,rfl,XO (fun hc=>⟨_,rfl,jb ⟨_,rfl,lz (fun hb=>?_) fun hb=>?_⟩⟩) fun hc=>cx ?_⟩
    . exact(k.ro F (LQ (by rw[show inside b 1 (MOST:Int)=false from hb,Bool.and_false]))).ret (by simp)
    . have ah4:Vbreai.step st (.begin_ c b)=(⟨c.toNat,b.toNat,[],[],[],List.range c.toNat,[]⟩,[0]):=by show(if (inside c 1 (MOST:Int)&&inside b 1 (MOST:Int))=false then _ else _)=_;rw[if_neg (by rw[show inside b 1 (MOST:Int)=true from hb,show inside c 1 (MOST:Int)=true from hc];decide)]
      obtain⟨c,rfl,hc1,hc2⟩:=cM hc (by omega);obtain⟨b,rfl,hb1,hb2⟩:=cM hb (by omega);refine⟨_,rfl,p,_,_,rfl,F.ins,rfl,_,rfl,_,rfl,p,A'.dx,_,c,b,rfl,F.ins,.inr ⟨_,_,_,rfl⟩,by omega,by omega,fun A1 H1 x1 F1 n1=>?_⟩;refine k.ret ah4 (A':=A1) ⟨F1,fun q o e n _=>x1 q o e n,fun q hq=>.inr (n1 q hq).1,fun q h=>?_⟩ (by simp);by_cases e:q=p
      . rw[e,F1.ins]at h;cases h
      . exact x1.free h e
    . exact(k.ro F (LQ (by rw[show inside c 1 (MOST:Int)=false from hc,Bool.false_and]))).ret (by simp)
end
end My
namespace My
open PySem PySem.Spec PyProof.Rows L2 HT
theorem ML{l:List Cost}{c b c' b':Nat}(h:¬(c'=c/\b'=b)):(l.filter fun p=> !(p.crew==c&&p.boat==b)).find? (fun x=>x.crew==c'&&x.boat==b')=l.find? fun x=>x.crew==c'&&x.boat==b':=by
  induction l with
  | nil=>rfl
  | cons a l ih=>
    rw[filter_cons];by_cases e:(a.crew==c&&a.boat==b)=true
    . rw[e];have hn:(a.crew==c'&&a.boat==b')=false:=by
        rw[and_eq_true,beq_iff_eq,beq_iff_eq]at e;cases q:(a.crew==c'&&a.boat==b')with
        | false=>rfl
        | true=>rw[and_eq_true,beq_iff_eq,beq_iff_eq]at q;exact absurd ⟨q.1.symm.trans e.1,q.2.symm.trans e.2⟩ h
      rw[if_neg (by decide),find?_cons,hn];exact ih
    . rw[not_eq_true]at e;rw[e,if_pos (show(!false)=true from rfl),find?_cons,find?_cons,ih]
theorem Eo(s:Vbreai.State)(c b n c' b':Nat):costOf { s with costs:=⟨c,b,n⟩::s.costs.filter fun p=> !(p.crew==c&&p.boat==b)} c' b'=if c'=c/\b'=b then n else costOf s c' b':=by
  unfold costOf;dsimp only;rw[find?_cons];by_cases e:c'=c/\b'=b
  . rw[if_pos e,e.1,e.2];simp
  . rw[if_neg e];have:(c==c'&&b==b')=false:=by
      cases q:(c==c'&&b==b')with
      | false=>rfl
      | true=>rw[and_eq_true,beq_iff_eq,beq_iff_eq]at q;exact absurd ⟨q.1.symm,q.2.symm⟩ e
    rw[this];dsimp only;rw[ML e]
theorem Jl(s:Vbreai.State)(c b n:Int):Vbreai.step s (.cost c b n)=onPair s c b fun x y=>if inside n 0 1000=false then Vbreai.no s (-2) else ({ s with costs:=⟨x,y,n.toNat⟩::s.costs.filter fun p=> !(p.crew==x&&p.boat==y)},[0]):=rfl
theorem Oi(s:Vbreai.State)(c b:Int):Vbreai.step s (.may c b)=onPair s c b fun x y=>(s,[if mayHave s x y=true then 1 else 0]):=rfl
theorem GN(s:Vbreai.State)(b v:Int):Vbreai.step s (.out b v)=if isBoat s b=false then Vbreai.no s (-4) else if inside v 0 1=false then Vbreai.no s (-2) else ({ s with out:=if v=1 then (s.out.filter fun x=>x !=b.toNat)++ [b.toNat] else s.out.filter fun x=>x !=b.toNat},[0]):=rfl
theorem abG(l:List Nat)(b b':Nat)(v:Prop)[Decidable v]:(if v then (l.filter fun x=>x !=b)++ [b] else l.filter fun x=>x !=b).contains b'=if b'=b then decide v else l.contains b':=by
  rw[Bool.eq_iff_iff,contains_iff_mem];by_cases hv:v
  . rw[if_pos hv,mem_append,mem_filter,mem_singleton,bne_iff_ne];by_cases e:b'=b
    . rw[if_pos e];simp[e,hv]
    . rw[if_neg e,contains_iff_mem];simp[e]
  . rw[if_neg hv,mem_filter,bne_iff_ne];by_cases e:b'=b
    . rw[if_pos e];simp[e,hv]
    . rw[if_neg e,contains_iff_mem];simp[e]
theorem GL(s:Vbreai.State)(l:List Int):Vbreai.step s (.due l)=if (l.all (isCrew s))=false then Vbreai.no s (-1) else if distinct l=false then Vbreai.no s (-5) else ({ s with due:=(List.range s.crews).filter fun c=>l.contains (c:Int)},[(l.length:Int)]):=rfl
theorem mO:∀{a b:List Int},a.Pairwise (· < ·)->b.Pairwise (· < ·)->(∀x,x∈a↔x∈b)->a=b
  | [],[],_,_,_=>rfl
  | [],y::b,_,_,h=>by have:=(h y).mpr mem_cons_self;cases this
  | x::a,[],_,_,h=>by have:=(h x).mp mem_cons_self;cases this
  | x::a,y::b,ha,hb,h=>by
    obtain⟨h1,h2⟩:=pairwise_cons.mp ha;obtain⟨h3,h4⟩:=pairwise_cons.mp hb;have e:x=y:=by
      rcases mem_cons.mp ((h x).mp mem_cons_self)with e | e
      . exact e
      . rcases mem_cons.mp ((h y).mpr mem_cons_self)with e' | e'
        . exact e'.symm
        . have:=h1 y e';have:=h3 x e;omega
    subst e;congr 1;refine mO h2 h4 fun z=>?_;have:=h z;rw[mem_cons,mem_cons]at this;constructor
    . intro hz;rcases this.mp (.inr hz)with e | e
      . have:=h1 z hz;omega
      . exact e
    . intro hz;rcases this.mpr (.inr hz)with e | e
      . have:=h3 z hz;omega
      . exact e
theorem xi{l:List Nat}(h:l.Pairwise (· < ·)):(az l).Pairwise (· < ·):=List.Pairwise.map _ (fun a b UJ=>by omega) h
theorem EJ{s:Vbreai.State}{ns Nq:List Int}(rm:ns.all (isCrew s)=true)(hd:ns.Nodup)(hp:Nq.Perm ns)(hs:Nq.Pairwise (· <= ·)):Nq=az ((List.range s.crews).filter fun c=>ns.contains (c:Int)):=by
  refine mO ?_ (xi (List.Pairwise.filter _ pairwise_lt_range)) fun x=>?_
  . have hn:Nq.Nodup:=hp.nodup_iff.mpr hd;exact(List.pairwise_and_iff.mpr ⟨hs,hn⟩).imp fun h=>by have:=h.1;have:=h.2;omega
  . rw[hp.mem_iff];unfold az;rw[mem_map];constructor
    . intro hx;obtain⟨n,rfl,hn⟩:=pj (all_eq_true.mp rm x hx);exact⟨n,mem_filter.mpr ⟨mem_range.mpr hn,contains_iff_mem.mpr hx⟩,rfl⟩
    . rintro⟨n,hn,rfl⟩;exact contains_iff_mem.mp (mem_filter.mp hn).2
theorem Lg(r k o d sl t:Addr)(X:List Addr):([r,k,o,d,sl,t]++X).Perm (d::([r,k,o,sl,t]++X)):=by rw[List.perm_iff_count];intro a;simp only[List.count_append,count_cons,List.count_nil];omega
theorem aL.aen{C p:Addr}{A:FA}{H H1:Hp}{s:Vbreai.State}{D:Addr}{due:List Nat}(F:aL C H p A s)(s1:aA H H1)(hD:H D=none)(hd:H1 D=some (.lst (ax due))):After C p A H { A with d:=D} { s with due:=due} (upd H1 p (.ins C A.dx (Hj s.crews s.boats { A with d:=D}))):=by
  have F1:=F.same s1;have eZ:∀{q:Addr} {xs:List V},H1 q=some (.lst xs)->q≠p:=fun e z=>by rw[z,F1.ins]at e;cases e
  have ZE:∀{q:Addr} {xs:List V},H1 q=some (.lst xs)->upd H1 p (.ins C A.dx (Hj s.crews s.boats { A with d:=D})) q=some (.lst xs):=fun e=>by rw[au (eZ e)];exact e
  have Zv:=F.zK hD;have UP:∀q,q∈c8 { A with d:=D}↔q=D\/q∈([A.r,A.k,A.o,A.sl,A.t]++(A.rr++A.kr++A.tr++A.sf)):=fun q=>by
    have e:c8 { A with d:=D}=[A.r,A.k,A.o,D,A.sl,A.t]++(A.rr++A.kr++A.tr++A.sf):=by simp[c8]
    rw[e,(Lg A.r A.k A.o D A.sl A.t _).mem_iff,mem_cons]
  have hold:∀q,q∈([A.r,A.k,A.o,A.sl,A.t]++(A.rr++A.kr++A.tr++A.sf))->q∈c8 A:=fun q hq=>by
    have e:c8 A=[A.r,A.k,A.o,A.d,A.sl,A.t]++(A.rr++A.kr++A.tr++A.sf):=by simp[c8]
    rw[e,(Lg A.r A.k A.o A.d A.sl A.t _).mem_iff,mem_cons];exact .inr hq
  have nd:(c8 { A with d:=D}).Nodup:=by
    have e:c8 { A with d:=D}=[A.r,A.k,A.o,D,A.sl,A.t]++(A.rr++A.kr++A.tr++A.sf):=by simp[c8]
    rw[e,(Lg A.r A.k A.o D A.sl A.t _).nodup_iff,nodup_cons];refine⟨fun m=>Zv (hold D m),?_⟩;have n:=F.own;have e:c8 A=[A.r,A.k,A.o,A.d,A.sl,A.t]++(A.rr++A.kr++A.tr++A.sf):=by simp[c8]
    rw[e,(Lg A.r A.k A.o A.d A.sl A.t _).nodup_iff,nodup_cons]at n;exact n.2
  refine⟨⟨ae,ZE F1.r,F.rl,fun c a h=>ZE (F1.YH c a h),ZE F1.k,F.kl,fun c a h=>ZE (F1.kw c a h),ZE F1.t,F.tl,fun c a h=>ZE (F1.tw c a h),ZE F1.o,ZE hd,ZE F1.sl,?_,nd⟩,fun b o e n m=>by rw[au n];exact s1 _ _ e,fun b hb=>?_,fun b h=>s1.free (mw h)⟩
  . refine Paired.et F1.sf fun a f ⟨ts,h1,h2⟩=>⟨ts,ZE h1,Paired.et h2 fun t x z=>?_⟩;have:t≠p:=fun q=>by rw[q]at z;unfold Jw at z;rw[F1.ins]at z;cases z
    show upd H1 p _ t=_;rw[au this];exact z
  . rcases (UP b).mp hb with e | e
    . exact .inr (e▸hD)
    . exact .inl (hold b e)
section
variable{P:Program}{w:World}{K:Frag}{mg:Str->Option Value}{base:Heap}
theorem abv(T:Txt K mg):ay P w K mg base bo 3 T.uG.f T.uG.fd ["fleet","numbers"] (cQ T.ah (mk3 .cost)):=by
  have eG:ay P w K mg base bo 2 _ _ _ _:=jQ T;refine T.uG.F.ok Dr (fun vs H Q E h=>?_) (fun bP A outer s H vs Q E hr h=>?_)
  . obtain⟨p,A,s,l,nums,c,rfl,_⟩:=h;rfl
  . obtain⟨p,A',st,l,nums,cl,rfl,F,W,hl,B5,kc,hn,k⟩:=h;obtain⟨c,b,n,rfl,rfl⟩:=aa1 kc;refine⟨_,(ag (aY (i:=2) (Dr.nd) rfl (Or.inl rfl) (a9 aW (pv 1) aE (fun _ _=>rfl))) (ag (aY (i:=3) (Dr.nd) rfl (Or.inl rfl) (a9 aW (pv 1) aE (fun _ _=>rfl))) (ag (aY (i:=4) (Dr.nd) rfl (Or.inl rfl) (aH eG (hr.mono (by decide)) rfl T.bx.g T.bx.F.kp T.bx.b .nil aI (aa (pv 0) (aa (pv 2) (aa (pv 3) ab))))) (ag (bW (jR (Dn (pv 4))) (ai (aq (aS (aa (pv 4) ab)))) aZ) (ag (bW (dy (l9 gT gT aE (a9 aW (pv 1) aE (fun _ _=>rfl)) (a0 T.DV))) (ai (aq (aS (aa (a0 T.dm) ab)))) aZ) (ag (Al (a9 aW (pv 1) aE (fun _ _=>rfl)) (Aa (a9 aW (bf (pv 0) (by rfl)) (pv 2) (fun _ _=>rfl)) (pv 3) set_list)) (ai (aq (aS (aa (a0 T.JP) ab)))))))))),?_⟩;refine⟨_,rfl,l,_,_,_,rfl,rfl,aN.of hl,rfl,_,rfl,l,_,_,_,rfl,rfl,aN.of hl,rfl,?_⟩;refine⟨_,rfl,_,rfl,_,rfl,p,A',st,c,b,rfl,F,?_⟩;rcases vL st c b with⟨z,hz⟩ | ⟨hz,hc,hb⟩
    . rw[hz];exact⟨_,rfl,_,rfl,cx ⟨_,rfl,(k.ro F (a:=[z]) (by rw[Jl,tu hz])).ret (by simp)⟩⟩
    . rw[hz];refine⟨_,rfl,_,rfl,cU ?_⟩;obtain⟨c,rfl,nR⟩:=pj hc;obtain⟨b,rfl,II⟩:=fO hb;obtain⟨ka,OH⟩:=Ln F.kl nR;have aG:=Jl st c b n;rw[pI hc hb]at aG;refine⟨_,rfl,l,_,_,_,rfl,rfl,aN.of hl,rfl,jb ⟨_,rfl,lz (fun hi=>?_) fun hi=>?_⟩⟩
      . rw[if_pos hi]at aG;exact(k.ro F aG).ret (by simp)
      . rw[if_neg (by rw[hi];decide)]at aG;obtain⟨n,rfl,hn1,hn2⟩:=cM hi (by omega);rw[toNat_natCast]at aG;refine⟨_,rfl,l,_,_,_,rfl,rfl,aN.of hl,rfl,_,rfl,p,_,_,_,_,rfl,F.ins,T.ao,T.bX,rc,_,rfl,_,_,_,_,rfl,rfl,aN.of F.k,kG OH,_,rfl,ka,_,_,_,rfl,rfl,F.kw c ka OH,sW (by rw[length_map,length_range];exact II),?_⟩;refine k.ret aG (F.re (S:=[7]) (Fm (j:=7) rfl (mem_of_getElem? OH)) rfl rfl rfl rfl (.inl ⟨by decide,rfl⟩) (.inr fun c' a' h'=>?_) (.inl ⟨by decide,rfl⟩) (by decide) (by decide) (by decide) (by decide) (by decide) (by decide) (by decide)) (by simp);by_cases ea:a'=ka
        . subst ea;have:c'=c:=Kt (Lc F.own 7 rfl) h' OH;subst this;rw[ae,set_range];congr 2;refine map_congr_left fun b' _=>?_;rw[Eo];by_cases eb:b'=b
          . rw[if_pos eb,if_pos ⟨rfl,eb⟩]
          . rw[if_neg eb,if_neg (fun q=>eb q.2)]
        . rw[au ea,F.kw c' a' h'];congr 2;refine map_congr_left fun b' _=>?_;rw[Eo,if_neg (fun q=>ea (by rw[q.1,OH]at h';exact(Option.some.inj h').symm))]
theorem aeE(T:Txt K mg):ay P w K mg base bo 3 T.EB.f T.EB.fd ["fleet","numbers"] (cQ T.ah (X8 .may)):=by
  have eG:ay P w K mg base bo 2 _ _ _ _:=jQ T;have hG:ay P w K mg base bo 1 _ _ _ _:=mM T;refine T.EB.F.ok YO (fun vs H Q E h=>?_) (fun bP A outer s H vs Q E hr h=>?_)
  . obtain⟨p,A,s,l,nums,c,rfl,_⟩:=h;rfl
  . obtain⟨p,A',st,l,nums,cl,rfl,F,W,hl,B5,kc,hn,k⟩:=h;obtain⟨c,b,rfl,rfl⟩:=xg kc;refine⟨_,(ag (aY (i:=2) (YO.nd) rfl (Or.inl rfl) (aH eG (hr.mono (by decide)) rfl T.bx.g T.bx.F.kp T.bx.b .nil aI (aa (pv 0) (aa (a9 aW (pv 1) aE (fun _ _=>rfl)) (aa (a9 aW (pv 1) aE (fun _ _=>rfl)) ab))))) (ag (bW (jR (Dn (pv 2))) (ai (aq (aS (aa (pv 2) ab)))) aZ) (ai (aq (aS (aa (xE (fU (bT (pv 0) T.ao T.cg.m hG (hr.mono (by decide)) T.cg.b .nil aI (aa (a9 aW (pv 1) aE (fun _ _=>rfl)) (aa (a9 aW (pv 1) aE (fun _ _=>rfl)) ab)))) aE aE) ab)))))),?_⟩;refine⟨_,rfl,_,rfl,l,_,_,_,rfl,rfl,aN.of hl,rfl,_,rfl,l,_,_,_,rfl,rfl,aN.of hl,rfl,p,A',st,c,b,rfl,F,?_⟩;rcases vL st c b with⟨z,hz⟩ | ⟨hz,hc,hb⟩
    . rw[hz];exact⟨_,rfl,_,rfl,cx ⟨_,rfl,(k.ro F (a:=[z]) (by rw[Oi,tu hz])).ret (by simp)⟩⟩
    . rw[hz];refine⟨_,rfl,_,rfl,cU ?_⟩;obtain⟨c,rfl,nR⟩:=pj hc;obtain⟨b,rfl,II⟩:=fO hb;have aG:=Oi st c b;rw[pI hc hb]at aG;refine⟨_,rfl,p,_,_,rfl,F.ins,rfl,_,rfl,l,_,_,_,rfl,rfl,aN.of hl,rfl,_,rfl,l,_,_,_,rfl,rfl,aN.of hl,rfl,p,A',st,c,b,rfl,F,nR,II,_,rfl,XO (fun hm=>?_) fun hm=>?_⟩
      . rw[if_pos hm]at aG;exact(k.ro F aG).ret (by simp)
      . rw[if_neg (by rw[hm];decide)]at aG;exact(k.ro F aG).ret (by simp)
theorem aeF(T:Txt K mg):ay P w K mg base bo 2 T.EC.f T.EC.fd ["fleet","numbers"] (cQ T.ah (X8 .out)):=by
  have dj:ay P w K mg base bo 1 _ _ _ _:=gR T;refine T.EC.F.ok YQ (fun vs H Q E h=>?_) (fun bP A outer s H vs Q E hr h=>?_)
  . obtain⟨p,A,s,l,nums,c,rfl,_⟩:=h;rfl
  . obtain⟨p,A',st,l,nums,cl,rfl,F,W,hl,B5,kc,hn,k⟩:=h;obtain⟨b,v,rfl,rfl⟩:=xg kc;refine⟨_,(ag (aY (i:=2) (YQ.nd) rfl (Or.inl rfl) (a9 aW (pv 1) aE (fun _ _=>rfl))) (ag (bW (dy (fU (bT (pv 0) T.ao T.bH.m dj (hr.mono (by decide)) T.bH.b .nil aI (aa (pv 2) ab)))) (ai (aq (aS (aa (a0 T.Ih) ab)))) aZ) (ag (bW (dy (l9 gT gT aE (a9 aW (pv 1) aE (fun _ _=>rfl)) aE)) (ai (aq (aS (aa (a0 T.dm) ab)))) aZ) (ag (Al (xD FZ (a9 aW (pv 1) aE (fun _ _=>rfl)) aE (ez _)) (Aa (bf (pv 0) (by rfl)) (pv 2) set_list)) (ai (aq (aS (aa (a0 T.JP) ab)))))))),?_⟩;have aG:=GN st b v;refine⟨_,rfl,l,_,_,_,rfl,rfl,aN.of hl,rfl,_,rfl,p,_,_,rfl,F.ins,rfl,_,rfl,p,A',st,b,rfl,F,_,rfl,lz (fun hb=>?_) fun hb=>?_⟩
    . rw[if_pos hb]at aG;exact(k.ro F aG).ret (by simp)
    . rw[if_neg (by rw[hb];decide)]at aG;obtain⟨b,rfl,II⟩:=fO hb;refine⟨_,rfl,l,_,_,_,rfl,rfl,aN.of hl,rfl,jb ⟨_,rfl,lz (fun hi=>?_) fun hi=>?_⟩⟩
      . rw[if_pos hi]at aG;exact(k.ro F aG).ret (by simp)
      . rw[if_neg (by rw[hi];decide),toNat_natCast]at aG;refine⟨_,rfl,l,_,_,_,rfl,rfl,aN.of hl,rfl,rfl,_,rfl,p,_,_,_,_,rfl,F.ins,T.ao,T.bD,Kk,_,rfl,A'.o,_,_,_,rfl,rfl,F.o,sW (by rw[length_map,length_range];exact II),?_⟩;refine k.ret aG (F.re (S:=[2]) (Fm (j:=2) rfl mem_cons_self) rfl rfl rfl rfl (.inl ⟨by decide,rfl⟩) (.inl ⟨by decide,fun _ _=>rfl⟩) (.inr ?_) (by decide) (by decide) (by decide) (by decide) (by decide) (by decide) (by decide)) (by simp);rw[ae,set_range];congr 2;refine map_congr_left fun b' _=>?_;rw[abG];by_cases eb:b'=b
        . rw[if_pos eb,if_pos eb];congr 1;exact decide_eq_decide.mpr ⟨fun q=>by injection q,fun q=>by rw[q]⟩
        . rw[if_neg eb,if_neg eb]
theorem aeB(T:Txt K mg):ay P w K mg base bo 2 T.Ey.f T.Ey.fd ["fleet","row"] (cQ T.ah (mkR .due)):=by
  have hC:ay P w K mg base bo 1 _ _ _ _:=mL T;refine T.Ey.F.ok RI (fun vs H Q E h=>?_) (fun bP A outer s H vs Q E hr h=>?_)
  . obtain⟨p,A,s,l,nums,c,rfl,_⟩:=h;rfl
  . obtain⟨p,A',st,l,nums,cl,rfl,F,W,hl,B5,kc,hn,k⟩:=h;have nR:cl=.due nums:=(Option.some.inj kc).symm;subst nR;refine⟨_,(ag (bW (dy (fU (aJ (yI rfl) rfl T.qB uu (aa (dh rfl (RI.nd) (ba (pv 1)) (own:=[("crew",2)]) (bG rfl) (fun _ _ _ _ _=>by exact(aC (i:=2) (RI.nd) (by rfl) (by exact Or.inl rfl))) (fun _ _ _ _ _=>by exact bI) (fun _ _ _ _ _=>by exact(bT (pv 0) T.ao T.cc.m hC (hr.mono (by decide)) T.cc.b .nil aI (aa (pv 2) ab)))) ab)))) (ai (aq (aS (aa (a0 T.Ii) ab)))) aZ) (ag (bW (cT IZ (aJ Ij rfl T.cC b9 (aa (cY (Im rfl) rfl T.qC DU (aa (pv 1) ab)) ab)) (aJ aP rfl T.cC b9 (aa (pv 1) ab)) (ez _)) (ai (aq (aS (aa (a0 T.DW) ab)))) aZ) (ag (l8 (pv 0) (aJ Ui rfl T.kH yw (aa (pv 1) ab)) rfl) (ai (aq (aS (aa (aJ aP rfl T.cC b9 (aa (pv 1) ab)) ab))))))),?_⟩;have aG:=GL st nums;refine⟨_,rfl,l,rfl,⟨_,aN.of hl⟩,?_⟩;refine lR (xs:=nums.map V.int) (RelM (fun z=>V.bl (isCrew st z)) nums) (aN.of hl) (sz (by rw[length_map];omega)) (fun _ _=>rfl) ?_ ?_
    . intro D acc i H1 x Y N hx hD s1 hd r hY hN;obtain⟨z,hz,rfl⟩:=ints_get hx;exact⟨rfl,yes ⟨_,rfl,p,_,_,rfl,(F.same s1).ins,rfl,_,rfl,p,A',st,z,rfl,F.same s1,hY _ _ (aA.refl _) (ck r hz rfl)⟩⟩
    . intro D acc H1 hD s1 hd _ r;have e:=c9 r (by simp);have F1:=F.same s1;refine⟨D,nums.map (isCrew st),rfl,aN.of (by rw[hd,e,map_map];rfl),_,rfl,?_⟩;rw[all_map];refine lz (fun h=>?_) fun h=>?_
      . rw[if_pos (show nums.all (isCrew st)=false from h)]at aG;exact((k.ro F aG).mono s1).ret (by simp)
      . have h':nums.all (isCrew st)=true:=h;rw[if_neg (by rw[h'];decide)]at aG;refine⟨_,rfl,l,nums,rfl,aN.of (s1 _ _ hl),by omega,fun u hu=>?_⟩;have s2:=ak (o:=.set (fun k=>(firstMet (fun i=>nums.getD i 0) nums.length).any (· ==k)) (firstMet (fun i=>nums.getD i 0) nums.length).length) hu;refine⟨u,_,_,rfl,ae,_,rfl,l,_,rfl,.inl (aN.of (s2 _ _ (s1 _ _ hl))),rfl,_,rfl,?_⟩;rw[length_map];have e2:=acM nums;unfold dd at e2;rw[e2];have tx:=s1.trans s2;refine lz (fun hd2=>?_) fun hd2=>?_
        . rw[if_pos hd2]at aG;exact((k.ro F aG).mono tx).ret (by simp)
        . rw[if_neg (by rw[hd2];decide)]at aG;have hnd:=(kZ nums).mp hd2;have aiQ:nums.length<=7:=by
            have:∃L:List Nat,nums.Perm (az L)/\L.Pairwise (· < ·)/\∀x∈L,x<st.crews:=by
              have IJ:(nums.mergeSort (fun a b=>decide (a<=b))).Perm nums:=List.mergeSort_perm _ _;refine⟨(List.range st.crews).filter fun c=>nums.contains (c:Int),?_,List.Pairwise.filter _ pairwise_lt_range,fun x hx=>mem_range.mp (mem_filter.mp hx).1⟩;have ah1:(nums.mergeSort (fun a b=>decide (a<=b))).Pairwise (· <= ·):=by have:=List.pairwise_mergeSort (le:=fun a b:Int=>decide (a<=b)) (fun a b c h1 h2=>by simp at*;omega) (fun a b=>by simp;omega) nums;exact this.imp fun h=>by simpa using h
              rw[<-EJ h' hnd IJ ah1];exact IJ.symm
            obtain⟨L,h1,h2,h3⟩:=this;have:=h1.length_eq;have l2:=Dl h2 h3;have:=W.c7;unfold az at*;rw[length_map]at*;omega
          refine⟨_,rfl,l,nums,rfl,aN.of (tx _ _ hl),by omega,fun Nq D2 S9 agh v4=>?_⟩;have s3:=tx.trans (ak (o:=.lst (Nq.map V.int)) v4);have ens:=EJ h' hnd S9 agh;refine⟨_,rfl,p,T.ah,A'.dx,_,rfl,(F.same s3).ins,T.ao,T.aQ,(by simp[Hj]),?_⟩;have af:=F.aen (due:=(List.range st.crews).filter fun c=>nums.contains (c:Int)) s3 (tx.free v4) (by rw[ae,ens,br]);have ef:dE ("due_crews":Str) (.ref D2) (Hj st.crews st.boats A')=Hj st.crews st.boats { A' with d:=D2}:=rfl;rw[ef];refine⟨_,rfl,l,_,rfl,.inl (aN.of (af.kp _ _ hl (fun q=>by rw[q,F.ins]at hl;cases hl) B5)),?_⟩;rw[length_map];exact k.ret aG af (by simp)
end
end My
namespace My
open PySem PySem.Spec PyProof.Rows L2 HT
theorem cF:∀{l x:List Nat},x∈subsets l↔x.Sublist l
  | [],x=>by show x∈ [[]]↔_;rw[mem_singleton,sublist_nil]
  | a::l,x=>by show x∈subsets l++(subsets l).map (fun x=>a::x)↔_;rw[mem_append,cF,mem_map,List.sublist_cons_iff];refine or_congr Iff.rfl ⟨fun⟨y,hy,e⟩=>⟨y,e.symm,cF.mp hy⟩,fun⟨y,e,hy⟩=>⟨y,cF.mpr hy,e.symm⟩⟩
theorem Ki{n:Nat}(h:n<=7)(q:Nat->Bool):(List.range 7).filter (fun b=>decide (b<n)&&q b)=(List.range n).filter q:=by refine zI (mO (xi (List.Pairwise.filter _ pairwise_lt_range)) (xi (List.Pairwise.filter _ pairwise_lt_range)) fun x=>?_);unfold az;rw[mem_map,mem_map];refine exists_congr fun y=>and_congr_left fun _=>?_;rw[mem_filter,mem_filter,mem_range,mem_range,and_eq_true,decide_eq_true_eq];exact⟨fun⟨a,b,c⟩=>⟨b,c⟩,fun⟨a,b⟩=>⟨by omega,a,b⟩⟩
theorem gs(s:Vbreai.State)(c b:Nat):(boatsFor s c).contains b=(decide (b<s.boats)&&mayHave s c b):=by rw[Bool.eq_iff_iff,contains_iff_mem,and_eq_true,decide_eq_true_eq];unfold boatsFor;rw[mem_filter,mem_range]
def bu(s:Vbreai.State)(l:List Nat):List Nat:=(List.range 7).filter fun b=>l.any fun c=>(boatsFor s c).contains b
theorem WM{s:Vbreai.State}(h:s.boats<=7)(l:List Nat):bu s l=boatsOf s l:=by
  unfold boatsOf;rw[<-Ki h];unfold bu;congr 1;funext b;simp only[gs];induction l with
  | nil=>simp
  | cons c l ih=>rw[any_cons,any_cons,ih];cases decide (b<s.boats)<;>simp
theorem R7(s:Vbreai.State)(l:List Nat)(c:Nat):ZI (bu s l) (boatsFor s c)=bu s (l++ [c]):=by unfold ZI;unfold bu;refine filter_congr fun b hb=>?_;rw[List.any_append,any_cons,List.any_nil,Bool.or_false];congr 1;rw[Bool.eq_iff_iff,contains_iff_mem,mem_filter];exact⟨fun h=>h.2,fun h=>⟨hb,h⟩⟩
theorem Uc(s:Vbreai.State)(l:List Nat):yu s l=bu s l:=by
  induction l using mq with
  | nil=>unfold yu bu;simp
  | snoc l c ih=>rw[<-R7,<-ih];unfold yu;rw[foldl_append];rfl
theorem sub_snoc{l x:List Nat}{c:Nat}:x.Sublist (l++ [c])↔x.Sublist l\/∃y,x=y++ [c]/\y.Sublist l:=by
  rw[List.sublist_append_iff];constructor
  . rintro⟨a,b,rfl,ha,hb⟩;rcases List.sublist_cons_iff.mp hb with h | ⟨r,rfl,h⟩
    . rw[sublist_nil]at h;subst h;left;simpa using ha
    . rw[sublist_nil]at h;subst h;exact .inr ⟨a,rfl,ha⟩
  . rintro(h | ⟨y,rfl,h⟩)
    . exact⟨x,[],by simp,h,List.nil_sublist _⟩
    . exact⟨y,[c],rfl,h,List.Sublist.refl _⟩
theorem xf(s:Vbreai.State)(l:List Nat):∀p,p∈yc s l↔p.1.Sublist l/\p.2=bu s p.1:=by
  induction l using mq with
  | nil=>
    intro p;show p∈ [([],[])]↔_;rw[mem_singleton,sublist_nil];constructor
    . rintro rfl;exact⟨rfl,by unfold bu;simp⟩
    . rintro⟨h1,h2⟩;rw[h1]at h2;have:bu s []=[]:=by unfold bu;simp
      rw[this]at h2;exact Prod.ext h1 h2
  | snoc l c ih=>
    intro p;rw[Oq,mem_append,ih,mem_map,sub_snoc];constructor
    . rintro(⟨h1,h2⟩ | ⟨q,hq,rfl⟩)
      . exact⟨.inl h1,h2⟩
      . obtain⟨h1,h2⟩:=(ih q).mp hq;exact⟨.inr ⟨q.1,rfl,h1⟩,by show ZI q.2 _=bu s (q.1++ [c]);rw[h2,R7]⟩
    . rintro⟨h1 | ⟨y,hy,h1⟩,h2⟩
      . exact .inl ⟨h1,h2⟩
      . refine .inr ⟨(y,bu s y),(ih _).mpr ⟨h1,rfl⟩,?_⟩;refine Prod.ext hy.symm ?_;show ZI (bu s y) _=p.2;rw[R7,h2,hy]
theorem xa{s:Vbreai.State}(h:s.boats<=7){l:List Nat}{p:Pr}(hp:p∈yc s l):mJ p=lack s p.1:=by unfold mJ lack;rw[((xf s l p).mp hp).2,WM h]
theorem EY{a b:List Nat}(h:∀x,x∈a↔x∈b):greatest a=greatest b:=by
  obtain⟨_,a2,a3⟩:=eX a 0;obtain⟨_,b2,b3⟩:=eX b 0;unfold greatest;apply Nat.le_antisymm
  . rcases a3 with e | e
    . omega
    . exact b2 _ ((h _).mp e)
  . rcases b3 with e | e
    . omega
    . exact a2 _ ((h _).mpr e)
theorem GV{s:Vbreai.State}(W:Wf s):iX s=worst s:=by
  unfold iX worst;refine EY fun x=>?_;rw[mem_map,mem_map];constructor
  . rintro⟨p,hp,rfl⟩;exact⟨p.1,cF.mpr ((xf s s.due p).mp hp).1,(xa W.b7 hp).symm⟩
  . rintro⟨y,hy,rfl⟩;have hp:(y,bu s y)∈yc s s.due:=(xf s s.due _).mpr ⟨cF.mp hy,rfl⟩;exact⟨_,hp,xa W.b7 hp⟩
theorem wd{s:Vbreai.State}(W:Wf s):gr s=Vbreai.blocked s:=by
  unfold gr Vbreai.blocked;dsimp only;congr 1;funext c;rw[GV W,Bool.eq_iff_iff,all_eq_true,all_eq_true];constructor
  . intro h x hx;obtain⟨hx,he⟩:=mem_filter.mp hx;have hp:(x,bu s x)∈yc s s.due:=(xf s s.due _).mpr ⟨cF.mp hx,rfl⟩;exact h (x,bu s x) (mem_filter.mpr ⟨hp,by rw[xa W.b7 hp];exact he⟩)
  . intro h p hp;obtain⟨hp,he⟩:=mem_filter.mp hp;refine h p.1 (mem_filter.mpr ⟨cF.mpr ((xf s s.due p).mp hp).1,?_⟩);rw[<-xa W.b7 hp];exact he
theorem AW{s:Vbreai.State}(W:Wf s):(gr s).length<=7:=le_trans (length_filter_le _ _) (cR W)
theorem WO(s:Vbreai.State)(l:List Nat):(bu s l).length<=7:=by unfold bu;exact le_trans (length_filter_le _ _) (by rw[length_range];omega)
theorem Zo(s:Vbreai.State):worst s<=s.due.length:=by
  unfold worst greatest;obtain⟨_,_,h⟩:=eX ((subsets s.due).map (lack s)) 0;rcases h with h | h
  . omega
  . obtain⟨x,hx,e⟩:=mem_map.mp h;rw[<-e];unfold lack;have:=(cF.mp hx).length_le;omega
theorem EU:∀(l:List Nat) (n:Nat),((l.foldl min n:Nat):Int)=(az l).foldl min (n:Int)
  | [],n=>rfl
  | a::l,n=>by show _=(az l).foldl min (min (n:Int) (a:Int));rw[foldl_cons,EU l];congr 1;omega
theorem sY(l:List Nat):((leastOf l:Nat):Int)=iJ (az l):=by
  cases l with
  | nil=>rfl
  | cons a l=>exact EU l a
theorem IA(s:Vbreai.State)(ps:List Nat)(c:Nat):oh s (az ps) c=az ((boatsFor s c).map fun b=>costOf s c b+ps.getD b 0):=by
  unfold oh;show _=((boatsFor s c).map fun b=>costOf s c b+ps.getD b 0).map _;rw[map_map];refine map_congr_left fun b _=>?_;show(costOf s c b:Int)+(az ps).getD b 0=((costOf s c b+ps.getD b 0:Nat):Int);have:(az ps).getD b 0=((ps.getD b 0:Nat):Int):=by unfold az;rw[getD_eq_getElem?_getD,getElem?_map,getD_eq_getElem?_getD];cases ps[b]? <;>rfl
  rw[this];omega
theorem y9(s:Vbreai.State)(ps:List Nat)(c:Nat):fare s ps c=if (boatsFor s c).isEmpty=true then none else some (leastOf ((boatsFor s c).map fun b=>costOf s c b+ps.getD b 0)):=by
  unfold fare;cases boatsFor s c with
  | nil=>rfl
  | cons b l=>rfl
theorem Xl(s:Vbreai.State)(ps:List Nat)(c:Nat)(h:boatsFor s c≠ []):(((fare s ps c).getD 0:Nat):Int)=iJ (oh s (az ps) c):=by rw[y9,if_neg (by simpa using h),IA,<-sY];rfl
theorem tO(s:Vbreai.State)(ps:List Nat):∀l:List Nat,(l.all fun c=> !(boatsFor s c).isEmpty)=false->allFares s ps l=none
  | [],h=>by cases h
  | c::l,h=>by
    show(match fare s ps c,allFares s ps l with | some a,some b=>some (a+b) | _,_=>none)=none;rw[all_cons]at h;by_cases e:(boatsFor s c).isEmpty=true
    . rw[y9,if_pos e]
    . rw[tO s ps l (by rw[not_eq_true]at e;rw[e]at h;simpa using h)];cases fare s ps c<;>rfl
theorem tP(s:Vbreai.State)(ps:List Nat):∀l:List Nat,(l.all fun c=> !(boatsFor s c).isEmpty)=true->∃n,allFares s ps l=some n/\(n:Int)=(l.map fun c=>iJ (oh s (az ps) c)).sum
  | [],_=>⟨0,rfl,rfl⟩
  | c::l,h=>by
    rw[all_cons,and_eq_true]at h;obtain⟨n,e1,e2⟩:=tP s ps l h.2;have eZ:¬(boatsFor s c).isEmpty=true:=by intro q;rw[q]at h;cases h.1
    refine⟨leastOf ((boatsFor s c).map fun b=>costOf s c b+ps.getD b 0)+n,?_,?_⟩
    . show(match fare s ps c,allFares s ps l with | some a,some b=>some (a+b) | _,_=>none)=_;rw[y9,if_neg eZ,e1]
    . rw[map_cons,sum_cons,<-e2,IA,<-sY];omega
theorem Bn{l:List Int}(h:∀z∈l,0<=z):az (l.map Int.toNat)=l:=by
  unfold az;rw[map_map];conv=>rhs;rw[<-map_id l]
  refine map_congr_left fun z hz=>?_;have:=h z hz;show((z.toNat:Nat):Int)=z;omega
theorem NV(s:Vbreai.State){l:List Int}(h:∀z∈l,0<=z):proved s (l.map Int.toNat)=if (s.due.all fun c=> !(boatsFor s c).isEmpty)=true then some ((s.due.map fun c=>iJ (oh s l c)).sum-(wm s l).sum) else none:=by
  unfold proved;by_cases e:(s.due.all fun c=> !(boatsFor s c).isEmpty)=true
  . obtain⟨n,e1,e2⟩:=tP s (l.map Int.toNat) s.due e;rw[if_pos e,e1];rw[Bn h]at e2;show some (((n:Nat):Int)-((((inUse s).map fun b=>(l.map Int.toNat).getD b 0).foldl (fun a b=>a+b) 0:Nat):Int))=_;congr 1;rw[e2];congr 1;rw[foldl_add,zero_add,sA];unfold wm az;rw[map_map];congr 1;refine map_congr_left fun b _=>?_;show(((l.map Int.toNat).getD b 0:Nat):Int)=l.getD b 0;rw[getD_eq_getElem?_getD,getElem?_map,getD_eq_getElem?_getD];cases q:l[b]? with
    | none=>rfl
    | some z=>have:=h z (mem_of_getElem? q);show((z.toNat:Nat):Int)=z;omega
  . rw[if_neg e,tO s _ _ (by simpa using e)];rfl
end My
namespace My
open PySem PySem.Spec PyProof.Rows L2 HT
theorem fZ(l:List Nat):counted Vbreai.one l=cnt (az l):=by
  unfold counted cnt;have e:l.flatMap Vbreai.one=az l:=by
    induction l with
    | nil=>rfl
    | cons a l ih=>rw[flatMap_cons,ih];rfl
  rw[e];congr 1;unfold az;rw[length_map]
theorem dw(l:List Nat):(az l).length=l.length:=by unfold az;rw[length_map]
theorem oX(l:List Int):(cnt l).length=l.length+1:=rfl
section
variable{P:Program}{w:World}{K:Frag}{mg:Str->Option Value}{base:Heap}
theorem abD(T:Txt K mg):ay P w K mg base bo 5 T.uM.f T.uM.fd ["fleet","numbers"] (cQ T.ah (LU .size)):=by
  have Ju:ay P w K mg base bo 4 _ _ _ _:=HE T;refine T.uM.F.ok acb (fun vs H Q E h=>?_) (fun bP A outer s H vs Q E hr h=>?_)
  . obtain⟨p,A,s,l,nums,c,rfl,_⟩:=h;rfl
  . obtain⟨p,A',st,l,nums,cl,rfl,F,W,hl,B5,kc,hn,k⟩:=h;have nR:cl=.size:=(Option.some.inj kc).symm;subst nR;refine⟨_,(ai (aq (aS (aa (bV vD (aJ aP rfl T.cC b9 (aa (bf (pv 0) (by rfl)) ab)) (aH Ju (hr.mono (by decide)) rfl T.eQ.g T.eQ.F.kp T.eQ.b .nil aI (aa (pv 0) ab))) ab)))),?_⟩;have aG:Vbreai.step st .size=(st,[((st.due.length-worst st:Nat):Int)]):=rfl;refine⟨_,rfl,p,_,_,_,_,rfl,F.ins,T.ao,T.aQ,ll,A'.d,_,rfl,.inl (aN.of F.d),_,rfl,p,A',st,rfl,F,W,fun H1 s1=>⟨_,_,rfl,rfl,?_⟩⟩;have:=((k.ro F aG).mono s1).ret (by simp);have e:((st.due.map fun c=>V.int (c:Nat)).length:Int)-(iX st:Nat)=((st.due.length-worst st:Nat):Int):=by rw[length_map,GV W];have:=Zo st;omega
    rw[<-e]at this;exact this
theorem Rc(T:Txt K mg):ay P w K mg base bo 5 T.ij.f T.ij.fd ["fleet","numbers"] (cQ T.ah (LU .blocked)):=by
  have Bx:ay P w K mg base bo 4 _ _ _ _:=zX T;have OO:ay P w K mg base bo 3 _ _ _ _:=NH T;have dk:ay P w K mg base bo 1 _ _ _ _:=lV T;refine T.ij.F.ok GA (fun vs H Q E h=>?_) (fun bP A outer s H vs Q E hr h=>?_)
  . obtain⟨p,A,s,l,nums,c,rfl,_⟩:=h;rfl
  . obtain⟨p,A',st,l,nums,cl,rfl,F,W,hl,B5,kc,hn,k⟩:=h;have nR:cl=.blocked:=(Option.some.inj kc).symm;subst nR;refine⟨_,(ag (aY (i:=2) (GA.nd) rfl (Or.inl rfl) (aH Bx (hr.mono (by decide)) rfl T.cW.g T.cW.F.kp T.cW.b .nil aI (aa (pv 0) ab))) (ai (aq (bV pJ (aH dk (hr.mono (by decide)) rfl T.bh.g T.bh.F.kp T.bh.b .nil aI (aa (pv 2) ab)) (aH dk (hr.mono (by decide)) rfl T.bh.g T.bh.F.kp T.bh.b .nil aI (aa (aH OO (hr.mono (by decide)) rfl T.ik.g T.ik.F.kp T.ik.b .nil aI (aa (pv 0) (aa (pv 2) ab))) ab)))))),?_⟩;have aG:Vbreai.step st .blocked=(st,cnt (az (gr st))++cnt (az (bu st (gr st)))):=by show(st,counted Vbreai.one (Vbreai.blocked st)++counted Vbreai.one (boatsOf st (Vbreai.blocked st)))=_;rw[fZ,fZ,<-wd W,WM W.b7]
    have k:=k.ro F aG;have II:=AW W;have hbu:=WO st (gr st);refine⟨_,rfl,p,A',st,rfl,F,W,fun D1 H1 hD1 s1 e1=>?_⟩;refine⟨_,rfl,D1,_,rfl,e1,by rw[dw];omega,fun D2 H2 v4 s2 e2=>?_⟩;have tx:=s1.trans s2;refine⟨_,rfl,_,rfl,p,A',st,D1,gr st,rfl,F.same tx,W,by rw[br];exact s2 _ _ e1,fun c hc=>W.dlt c (mem_filter.mp hc).1,fun D3 H3 S1 s3 e3=>?_⟩;rw[Uc]at e3;refine⟨D3,_,rfl,e3,by rw[dw];omega,fun D4 H4 hD4 s4 e4=>?_⟩;have s34:=s3.trans s4;refine⟨D2,D4,_,_,rfl,rfl,s34 _ _ e2,e4,sz (by simp[cnt,az];omega),fun q hq=>?_⟩;have s14:=tx.trans s34;refine k q _ (s14.free hq) (bv s14 (s14.free hq)) ?_;rw[ae,map_append]
theorem d5{s:Vbreai.State}{o:Option Flight}{f:Flight->Answer}:orNone s o f=(s,match o with | none=>[-7] | some g=>f g):=by cases o<;>rfl
theorem Yn(T:Txt K mg):ay P w K mg base bo 4 T.o4.f T.o4.fd ["fleet","numbers"] (cQ T.ah (LU .first)):=by
  have kh:ay P w K mg base bo 3 _ _ _ _:=qi T;have jj:ay P w K mg base bo 2 _ _ _ _:=oB T;have aR:ay P w K mg base bo 3 _ _ _ _:=bA T;refine T.o4.F.ok YN (fun vs H Q E h=>?_) (fun bP A outer s H vs Q E hr h=>?_)
  . obtain⟨p,A,s,l,nums,c,rfl,_⟩:=h;rfl
  . obtain⟨p,A',st,l,nums,cl,rfl,F,W,hl,B5,kc,hn,k⟩:=h;have nR:cl=.first:=(Option.some.inj kc).symm
    subst nR;refine⟨_,(ai (aq (aH jj (hr.mono (by decide)) rfl T.bR.g T.bR.F.kp T.bR.b .nil aI (aa (aH kh (hr.mono (by decide)) rfl T.bZ.g T.bZ.F.kp T.bZ.b .nil aI (aa (gU (pv 0) T.ao T.aF.m aR (hr.mono (by decide)) T.aF.b .nil aI) ab)) ab)))),?_⟩;have aG:Vbreai.step st .first=(st,match (ji (aO st) []).head? with | none=>[-7] | some bs=>cnt (az bs)):=by
      show orNone st (flights st).head? boatsIn=_;rw[d5,eM,List.head?_map];congr 1;cases q:(ji (aO st) []).head? with
      | none=>rfl
      | some bs=>have:bs∈ji (aO st) []:=mem_of_head? q;exact i8 (by rw[eW this,a7])
    have k:=k.ro F aG;refine⟨_,rfl,p,_,_,rfl,F.ins,rfl,p,A',st,rfl,F,W,fun D1 H1 hD1 s1 h1=>?_⟩;refine⟨D1,aO st,rfl,h1,dP W,ES (dP W) ⟨fun LQ H2 s2=>?_,fun bs Wk x H2 hx s2 e2=>?_⟩⟩
    . rw[LQ]at k;exact .inl ⟨rfl,k.mono (s1.trans s2)⟩
    . rw[Wk]at k;have:bs∈ji (aO st) []:=mem_of_head? Wk;have hlen:=eW this;have:=(dP W).l;exact .inr ⟨x,az bs,rfl,by rw[<-br];exact e2,by rw[dw];omega,k.mono (s1.trans s2)⟩
theorem abu(T:Txt K mg):ay P w K mg base bo 5 T.uF.f T.uF.fd ["fleet","numbers"] (cQ T.ah (LU .best)):=by
  have ug:ay P w K mg base bo 4 _ _ _ _:=Bq T;have jk:ay P w K mg base bo 2 _ _ _ _:=oC T;refine T.uF.F.ok ab6 (fun vs H Q E h=>?_) (fun bP A outer s H vs Q E hr h=>?_)
  . obtain⟨p,A,s,l,nums,c,rfl,_⟩:=h;rfl
  . obtain⟨p,A',st,l,nums,cl,rfl,F,W,hl,B5,kc,hn,k⟩:=h;have nR:cl=.best:=(Option.some.inj kc).symm;subst nR;refine⟨_,(ai (aq (aH jk (hr.mono (by decide)) rfl T.bS.g T.bS.F.kp T.bS.b .nil aI (aa (aH ug (hr.mono (by decide)) rfl T.dM.g T.dM.F.kp T.dM.b .nil aI (aa (pv 0) ab)) ab)))),?_⟩;have aG:Vbreai.step st .best=(st,match Vbreai.best st with | none=>[-7] | some g=>(price st g:Int)::boatsIn g):=by show orNone st (Vbreai.best st) _=_;rw[d5]
    have k:=k.ro F aG;obtain⟨m1,m2⟩:=Ia W;refine⟨_,rfl,p,A',st,rfl,F,W,fun e H1 s1=>?_,fun e he q H1 s1 hq=>?_⟩
    . rw[(m1 e).1]at k;exact .inl ⟨rfl,k.mono s1⟩
    . obtain⟨b1,b2,b3⟩:=m2 e he;rw[b1]at k;have hlen:=eW b3.1;have:=(dP W).l;obtain⟨x,_,hq1,Wl⟩:=hq;have k:bL H Q (e.1::cnt (az e.2)):=by
        have e3:((price st (toF st.due e.2):Int)::boatsIn (toF st.due e.2))=e.1::cnt (az e.2):=by rw[b2,i8 (by rw[hlen,a7])]
        rw[<-e3];exact k
      exact .inr ⟨q,e.1,az e.2,rfl,⟨x,hq1,by rw[<-br];exact Wl⟩,by rw[dw];omega,k.mono s1⟩
theorem vY(s:Vbreai.State)(l:List Int):Vbreai.step s (.check l)=if l.length≠s.boats\/(l.all fun z=>inside z 0 1000000)=false then Vbreai.no s (-3) else match proved s (l.map Int.toNat)with
        | none=>(s,[0])
        | some n=>(s,[1,n]):=rfl
theorem Ym(T:Txt K mg):ay P w K mg base bo 6 T.o3.f T.o3.fd ["fleet","row"] (cQ T.ah (mkR .check)):=by
  have Ws:ay P w K mg base bo 5 _ _ _ _:=Vr T;refine T.o3.F.ok xR (fun vs H Q E h=>?_) (fun bP A outer s H vs Q E hr h=>?_)
  . obtain⟨p,A,s,l,nums,c,rfl,_⟩:=h;rfl
  . obtain⟨p,A',st,l,nums,cl,rfl,F,W,hl,B5,kc,hn,k⟩:=h;have nR:cl=.check nums:=(Option.some.inj kc).symm;subst nR;refine⟨_,(ag (bW (L2.PW.pt (Tv (cT IZ (aJ aP rfl T.cC b9 (aa (pv 1) ab)) (bf (pv 0) (by rfl)) (ez _)) (Lm (dy (fU (aJ (yI rfl) rfl T.qB uu (aa (dh rfl (xR.nd) (ba (pv 1)) (own:=[("price",2)]) (bG rfl) (fun _ _ _ _ _=>by exact(aC (i:=2) (xR.nd) (by rfl) (by exact Or.inl rfl))) (fun _ _ _ _ _=>by exact bI) (fun _ _ _ _ _=>by exact(F6 gT gT aE (pv 2) (a0 T.BJ)))) ab))))))) (ai (aq (aS (aa (a0 T.qE) ab)))) aZ) (ag (aY (i:=3) (xR.nd) rfl (Or.inl rfl) (aH Ws (hr.mono (by decide)) rfl T.oe.g T.oe.F.kp T.oe.b .nil aI (aa (pv 0) (aa (pv 1) ab)))) (ag (bW (jR (vF (pv 3))) (ai (aq (aS (aa aE ab)))) aZ) (ai (aq (aS (aa aE (aa (pv 3) ab)))))))),?_⟩;have aG:=vY st nums;refine⟨_,rfl,l,_,rfl,.inl (aN.of hl),_,rfl,p,_,_,_,_,rfl,F.ins,T.ao,T.bN,oj,rfl,_,rfl,?_⟩;rw[length_map];by_cases hlen:nums.length=st.boats
    . have e:(!decide (V.int (nums.length:Nat)=V.int (st.boats:Nat)))=false:=by rw[decide_eq_true (by rw[hlen])];rfl
      rw[e];refine cU ?_;refine⟨_,rfl,l,rfl,⟨_,aN.of hl⟩,?_⟩;refine lR (xs:=nums.map V.int) (RelM (fun z=>V.bl (inside z 0 1000000)) nums) (aN.of hl) (sz (by rw[length_map];omega)) (fun _ _=>rfl) ?_ ?_
      . intro D acc i H1 x Y N hx hD s1 hd r hY hN;obtain⟨z,hz,rfl⟩:=ints_get hx;exact⟨rfl,yes ⟨_,rfl,jb (hY _ _ (aA.refl _) (ck r hz rfl))⟩⟩
      . intro D acc H1 hD s1 hd _ r;have e:=c9 r (by simp);refine⟨D,nums.map fun z=>inside z 0 1000000,rfl,aN.of (by rw[hd,e,map_map];rfl),_,rfl,?_⟩;rw[all_map];refine lz (fun h=>?_) fun h=>?_
        . rw[if_pos (.inr (show(nums.all fun z=>inside z 0 1000000)=false from h))]at aG;exact((k.ro F aG).mono s1).ret (by simp)
        . have h':(nums.all fun z=>inside z 0 1000000)=true:=h;have h0:∀z∈nums,0<=z:=fun z hz=>by obtain⟨n,rfl,_⟩:=cM (all_eq_true.mp h' z hz) (Int.le_refl 0);omega
          rw[if_neg (by rw[h'];simp[hlen]),NV st h0]at aG;have F1:=F.same s1;refine⟨_,rfl,_,rfl,p,A',st,l,nums,rfl,F1,W,s1 _ _ hl,hlen,fun H2 s2=>?_⟩;have tx:=s1.trans s2;by_cases ea:(st.due.all fun c=> !(boatsFor st c).isEmpty)=true
          . rw[if_pos ea]at aG ⊢;exact⟨_,rfl,_,rfl,cU ⟨_,rfl,((k.ro F aG).mono tx).ret (by simp)⟩⟩
          . rw[if_neg ea]at aG ⊢;exact⟨_,rfl,_,rfl,cx (((k.ro F aG).mono tx).ret (by simp))⟩
    . have e:(!decide (V.int (nums.length:Nat)=V.int (st.boats:Nat)))=true:=by rw[decide_eq_false (fun q=>hlen (by injection q with q;exact Int.ofNat.inj q))];rfl
      rw[e];rw[if_pos (.inl hlen)]at aG;exact cx (cx ((k.ro F aG).ret (by simp)))
theorem Mq(f:Nat->Bool)(l:List Nat):(l.map f).count false=(l.filter fun b=> !f b).length:=by
  induction l with
  | nil=>rfl
  | cons a l ih=>rw[map_cons,count_cons,ih,filter_cons];cases f a<;>simp
theorem Vp(T:Txt K mg):ay P w K mg base bo 1 T.kT.f T.kT.fd ["fleet","numbers"] (cQ T.ah (LU .counts)):=by
  refine T.kT.F.ok VJ (fun vs H Q E h=>?_) (fun bP A outer s H vs Q E hr h=>?_)
  . obtain⟨p,A,s,l,nums,c,rfl,_⟩:=h;rfl
  . obtain⟨p,A',st,l,nums,cl,rfl,F,W,hl,B5,kc,hn,k⟩:=h;have nR:cl=.counts:=(Option.some.inj kc).symm;subst nR;refine⟨_,(ai (aq (aS (aa (bf (pv 0) (by rfl)) (aa (bf (pv 0) (by rfl)) (aa (aJ aP rfl T.cC b9 (aa (bf (pv 0) (by rfl)) ab)) (aa (xC PySem.F.plainAttrs_list PySem.F.slot_list_count PySem.F.type_list_count Vb (bf (pv 0) (by rfl)) (aa xB ab)) (aa (aJ aP rfl T.cC b9 (aa (bf (pv 0) (by rfl)) ab)) ab)))))))),?_⟩;have aG:Vbreai.step st .counts=(st,[(st.crews:Int),(st.boats:Int),(st.due.length:Int),((inUse st).length:Int),(st.sailed.length:Int)]):=rfl;have ho:H A'.o=some (.lst (((List.range st.boats).map fun b=>st.out.contains b).map V.bl)):=by rw[F.o,map_map];rfl
    refine⟨_,rfl,p,_,_,_,_,rfl,F.ins,T.ao,T.df,MN,_,rfl,p,_,_,_,_,rfl,F.ins,T.ao,T.bN,oj,_,rfl,p,_,_,_,_,rfl,F.ins,T.ao,T.aQ,ll,A'.d,_,rfl,.inl (aN.of F.d),?_⟩;refine⟨_,rfl,p,_,_,_,_,rfl,F.ins,T.ao,T.bD,Kk,.inl ⟨rfl,_,aN.of ho⟩,A'.o,_,false,rfl,rfl,aN.of ho,?_⟩;refine⟨_,rfl,p,_,_,_,_,rfl,F.ins,T.ao,T.be,eV,A'.sl,_,rfl,.inl (aN.of F.sl),?_⟩;have e1:((st.due.map fun c=>V.int (c:Nat)).length:Int)=st.due.length:=by rw[length_map]
    have e2:((((List.range st.boats).map fun b=>st.out.contains b).count false:Nat):Int)=(inUse st).length:=by rw[Mq];rfl
    have e3:((A'.sf.map V.ref).length:Int)=st.sailed.length:=by rw[length_map,aD F.sf,length_reverse]
    rw[e1,e2,e3];exact(k.ro F aG).ret (by simp)
end
end My
namespace My
open PySem PySem.Spec PyProof.Rows L2 HT
def lT(x:Int×List Nat):Bool:=(az x.2).contains x.1
def vS(s:Vbreai.State)(l:List Int):Bool:=decide (l.length=s.due.length)&&(distinct l&&(l.zip (aO s)).all lT)
theorem NG(s:Vbreai.State)(c:Nat)(z:Int):lT (z,boatsFor s c)=(isBoat s z&&mayHave s c z.toNat):=by
  unfold lT;rw[Bool.eq_iff_iff,contains_iff_mem,and_eq_true];unfold az;rw[mem_map];constructor
  . rintro⟨b,hb,rfl⟩;have:=mem_filter.mp hb;refine⟨?_,by simpa using this.2⟩;rw[zg];have:=mem_range.mp this.1;simp;omega
  . rintro⟨h1,h2⟩;obtain⟨b,rfl,hb⟩:=fO h1;exact⟨b,mem_filter.mpr ⟨mem_range.mpr hb,by simpa using h2⟩,rfl⟩
theorem OE(s:Vbreai.State):∀(due:List Nat) (l:List Int),l.length=due.length->(l.zip (due.map (boatsFor s))).all lT=(l.all (isBoat s)&&((due.zip l).map fun p=>(⟨p.1,p.2.toNat⟩:Pair)).all fun p=>mayHave s p.crew p.boat)
  | [],[],_=>rfl
  | [],_::_,h=>by cases h
  | _::_,[],h=>by cases h
  | c::due,z::l,h=>by rw[map_cons,zip_cons_cons,all_cons,OE s due l (by simpa using h),NG,all_cons,zip_cons_cons,map_cons,all_cons];dsimp only;cases isBoat s z<;>cases mayHave s c z.toNat<;>cases l.all (isBoat s)<;>simp
theorem tz(s:Vbreai.State)(l:List Int):(l.length≠s.due.length\/(l.all (isBoat s))=false\/distinct l=false\/((flightOf s l).all fun p=>mayHave s p.crew p.boat)=false)↔vS s l=false:=by
  unfold vS;by_cases h:l.length=s.due.length
  . rw[decide_eq_true h,Bool.true_and];have e:(l.zip (aO s)).all lT=(l.all (isBoat s)&&(flightOf s l).all fun p=>mayHave s p.crew p.boat):=OE s s.due l h;rw[e];cases distinct l<;>cases l.all (isBoat s)<;>cases ((flightOf s l).all fun p=>mayHave s p.crew p.boat)<;>simp[h]
  . rw[decide_eq_false h,Bool.false_and];exact⟨fun _=>rfl,fun _=>.inl h⟩
theorem UV(z:Int)(l:List Nat):inV (.int z) (ax l)=(az l).contains z:=by rw[br,XJ]
section
variable{P:Program}{w:World}{K:Frag}{mg:Str->Option Value}{base:Heap}
def agW(C:Addr):Sp:=fun vs H Q _=>∃(p:Addr) (A:FA) (s:Vbreai.State) (l:Addr) (nums:List Int),vs=[.ref p,.ref l]/\aL C H p A s/\Wf s/\H l=some (.lst (nums.map V.int))/\nums.length<=1000/\∀H',aA H H'->Q (.bl (vS s nums)) H'
theorem K9(T:Txt K mg):ay P w K mg base bo 4 T.f9.f T.f9.fd ["fleet","row"] (agW T.ah):=by
  have aR:ay P w K mg base bo 3 _ _ _ _:=bA T;refine T.f9.F.ok j7 (fun vs H Q E h=>?_) (fun bP A outer s H vs Q E hr h=>?_)
  . obtain⟨p,A,s,l,nums,rfl,_⟩:=h;rfl
  . obtain⟨p,A',st,l,nums,rfl,F,W,hl,hn,k⟩:=h;refine⟨_,(ag (bW (L2.PW.pt (Tv (cT IZ (aJ aP rfl T.cC b9 (aa (pv 1) ab)) (aJ aP rfl T.cC b9 (aa (bf (pv 0) (by rfl)) ab)) (ez _)) (Lm (cT IZ (aJ Ij rfl T.cC b9 (aa (cY (Im rfl) rfl T.qC DU (aa (pv 1) ab)) ab)) (aJ aP rfl T.cC b9 (aa (pv 1) ab)) (ez _))))) (ai (aq xB)) aZ) (ai (aq (aJ (yI rfl) rfl T.qB uu (aa (dh rfl (j7.nd) (Ga rfl T.tQ (aa (pv 1) (aa (gU (pv 0) T.ao T.aF.m aR (hr.mono (by decide)) T.aF.b .nil aI) ab))) (own:=[("boat",2),("offer",3)]) (bG rfl) (fun _ _ _ _ _=>by exact(pL (K:=K) (n:=2) rfl rfl (bE (aC (i:=2) (j7.nd) (by rfl) (by exact Or.inl rfl)) (bE (aC (i:=3) (j7.nd) (by rfl) (by exact Or.inl rfl)) fH)))) (fun _ _ _ _ _=>by exact bI) (fun _ _ _ _ _=>by exact(xD (vC (K:=K) rfl) (pv 2) (pv 3) (by with_unfolding_all rfl)))) ab))))),?_⟩;unfold vS at k;refine⟨_,rfl,l,_,rfl,.inl (aN.of hl),_,rfl,p,_,_,_,_,rfl,F.ins,T.ao,T.aQ,ll,A'.d,_,rfl,.inl (aN.of F.d),rfl,_,rfl,?_⟩;rw[length_map,length_map];by_cases hlen:nums.length=st.due.length
    . have e:(!decide (V.int (nums.length:Nat)=V.int (st.due.length:Nat)))=false:=by rw[decide_eq_true (by rw[hlen])];rfl
      rw[e];rw[decide_eq_true hlen,Bool.true_and]at k;refine cU ?_;refine⟨_,rfl,l,nums,rfl,aN.of hl,by omega,fun u hu=>?_⟩;have s1:=ak (o:=.set (fun k=>(firstMet (fun i=>nums.getD i 0) nums.length).any (· ==k)) (firstMet (fun i=>nums.getD i 0) nums.length).length) hu;refine⟨u,_,_,rfl,ae,_,rfl,l,_,rfl,.inl (aN.of (s1 _ _ hl)),rfl,_,rfl,?_⟩;rw[length_map];have e2:=acM nums;unfold dd at e2;rw[e2];refine lz (fun hd=>?_) fun hd=>?_
      . rw[hd,Bool.false_and]at k;exact k _ s1
      . rw[hd,Bool.true_and]at k;generalize upd H u (.set (fun k=>(firstMet (fun i=>nums.getD i 0) nums.length).any (· ==k)) (firstMet (fun i=>nums.getD i 0) nums.length).length)=H1 at s1;have F1:=F.same s1;refine⟨_,rfl,_,rfl,p,_,_,rfl,F1.ins,rfl,p,A',st,rfl,F1,W,fun D2 H2 v4 s2 ⟨qs,ha,XE⟩=>?_⟩;have tx:=s1.trans s2;have hql:=aD XE;refine⟨l,D2,_,_,rfl,aN.of (tx _ _ hl),aN.of ha,?_⟩;refine aaU (xs:=nums.map V.int) (ys:=qs.map V.ref) (RelM (fun x=>V.bl (lT x)) (nums.zip (aO st))) (aN.of (tx _ _ hl)) (aN.of ha) (sz (by rw[length_map];omega)) (fun _ _=>rfl) ?_ ?_
        . intro D acc i H3 x y Tp Y N hx hy MT hD s3 oK r hY hN;obtain⟨z,hz,rfl⟩:=ints_get hx;obtain⟨q,hq,rfl⟩:=cq hy;obtain⟨xs,IK,Dh⟩:=aV XE hq;have s4:=ak (o:=.tup [.int z,.ref q]) MT;refine⟨Tp,_,rfl,mT.of ae,rfl,_,_,rfl,_,_,rfl,rfl,rfl,yes ⟨_,rfl,_,rfl,q,ax xs,rfl,.inl (aN.of (s4 _ _ (s3 _ _ Dh))),rfl,sS xs,hY _ _ s4 (ck r (x:=(z,xs)) (zip_get hz IK) ?_)⟩⟩;rw[UV];rfl
        . intro D acc H3 hD s3 oK _ r;have er:=c9 r (by rw[length_map,length_map,length_zip,hql]);refine⟨D,(nums.zip (aO st)).map lT,rfl,aN.of (by rw[oK,er,map_map];rfl),?_⟩;rw[all_map];exact k H3 (tx.trans s3)
    . have e:(!decide (V.int (nums.length:Nat)=V.int (st.due.length:Nat)))=true:=by rw[decide_eq_false (fun q=>hlen (by injection q with q;exact Int.ofNat.inj q))];rfl
      rw[e];rw[decide_eq_false hlen,Bool.false_and]at k;exact cx (cx (k H (aA.refl _)))
theorem AN(s:Vbreai.State)(l:List Int):Vbreai.step s (.sail l)=if l.length≠s.due.length\/(l.all (isBoat s))=false\/distinct l=false\/((flightOf s l).all fun p=>mayHave s p.crew p.boat)=false then Vbreai.no s (-3) else if FLIGHTS<=s.sailed.length then Vbreai.no s (-8) else (Vbreai.behind s (flightOf s l),[((s.sailed.length+1:Nat):Int)]):=rfl
theorem xN{s:Vbreai.State}{l:List Int}(h:vS s l=true):l.length=s.due.length/\l=az (l.map Int.toNat)/\(∀b∈l.map Int.toNat,b<s.boats)/\flightOf s l=toF s.due (l.map Int.toNat):=by
  have hc:=(not_congr (tz s l)).mpr (by rw[h];decide);have h1:l.length=s.due.length:=Decidable.byContradiction fun z=>hc (.inl z);have h2:l.all (isBoat s)=true:=by
    cases q:l.all (isBoat s)with
    | true=>rfl
    | false=>exact absurd (.inr (.inl q)) hc
  have h3:∀z∈l,∃n:Nat,z=n/\n<s.boats:=fun z hz=>fO (all_eq_true.mp h2 z hz);refine⟨h1,(Bn fun z hz=>?_).symm,fun b hb=>?_,?_⟩
  . obtain⟨n,rfl,_⟩:=h3 z hz;omega
  . obtain⟨z,hz,rfl⟩:=mem_map.mp hb;obtain⟨n,rfl,hn⟩:=h3 z hz;simpa using hn
  . unfold flightOf toF;rw[List.zip_map_right,map_map];rfl
theorem abC(T:Txt K mg):ay P w K mg base bo 5 T.uL.f T.uL.fd ["fleet","row"] (cQ T.ah (mkR .sail)):=by
  have LZ:ay P w K mg base bo 4 _ _ _ _:=K9 T;have Jt:ay P w K mg base bo 2 _ _ _ _:=HD T;refine T.uL.F.ok aca (fun vs H Q E h=>?_) (fun bP A outer s H vs Q E hr h=>?_)
  . obtain⟨p,A,s,l,nums,c,rfl,_⟩:=h;rfl
  . obtain⟨p,A',st,l,nums,cl,rfl,F,W,hl,B5,kc,hn,k⟩:=h;have nR:cl=.sail nums:=(Option.some.inj kc).symm;subst nR;refine⟨_,(ag (bW (dy (fU (aH LZ (hr.mono (by decide)) rfl T.f9.g T.f9.F.kp T.f9.b .nil aI (aa (pv 0) (aa (pv 1) ab))))) (ai (aq (aS (aa (a0 T.qE) ab)))) aZ) (ag (bW (cT FZ (aJ aP rfl T.cC b9 (aa (bf (pv 0) (by rfl)) ab)) (a0 T.G5) (ez _)) (ai (aq (aS (aa (a0 T.JN) ab)))) aZ) (ag (eE (bT (pv 0) T.ao T.gA.m Jt (hr.mono (by decide)) T.gA.b .nil aI (aa (pv 1) ab))) (ai (aq (aS (aa (aJ aP rfl T.cC b9 (aa (bf (pv 0) (by rfl)) ab)) ab))))))),?_⟩;have aG:=AN st nums;refine⟨_,rfl,_,rfl,p,A',st,l,nums,rfl,F,W,hl,hn,fun H1 s1=>⟨_,rfl,?_⟩⟩;refine lz (fun h=>?_) fun h=>?_
    . rw[if_pos ((tz st nums).mpr h)]at aG;exact((k.ro F aG).mono s1).ret (by simp)
    . rw[if_neg (fun z=>by rw[(tz st nums).mp z]at h;cases h)]at aG;obtain⟨b1,b2,b3,b4⟩:=xN h;have F1:=F.same s1;have B6:(A'.sf.map V.ref).length=st.sailed.length:=by rw[length_map,aD F.sf,length_reverse]
      refine⟨_,rfl,p,_,_,_,_,rfl,F1.ins,T.ao,T.be,eV,A'.sl,_,rfl,.inl (aN.of F1.sl),rfl,_,rfl,?_⟩;rw[B6];by_cases Xq:FLIGHTS<=st.sailed.length
      . have h21:st.sailed.length=20:=by have:=W.sl;unfold FLIGHTS at Xq;omega
        have e:decide (V.int (st.sailed.length:Nat)=V.int 20)=true:=decide_eq_true (by rw[h21];rfl);rw[e];rw[if_pos Xq]at aG;exact cx (((k.ro F aG).mono s1).ret (by simp))
      . have e:decide (V.int (st.sailed.length:Nat)=V.int 20)=false:=decide_eq_false (fun q=>by injection q with q;unfold FLIGHTS at Xq;omega);rw[e];rw[if_neg Xq,b4]at aG;refine cU ⟨_,rfl,p,_,_,rfl,F1.ins,rfl,_,rfl,p,A',st,l,nums.map Int.toNat,rfl,F1,W,(by rw[br,<-b2];exact s1 _ _ hl),by rw[length_map];exact b1,b3,fun A2 H2 af hsf=>?_⟩;have af':=(After.same F s1).next af
        refine⟨_,rfl,p,_,_,_,_,rfl,af.ok.ins,T.ao,T.be,eV,A2.sl,_,rfl,.inl (aN.of af.ok.sl),?_⟩;rw[length_map,hsf];exact k.ret aG af' (by simp)
theorem AJ(s:Vbreai.State):Vbreai.step s .back=match s.sailed with
      | []=>Vbreai.no s (-6)
      | _::r=>({ s with sailed:=r},[(r.length:Int)]):=rfl
theorem abt(T:Txt K mg):ay P w K mg base bo 3 T.uE.f T.uE.fd ["fleet","numbers"] (cQ T.ah (LU .back)):=by
  have Dy:ay P w K mg base bo 2 _ _ _ _:=CA T;refine T.uE.F.ok ab5 (fun vs H Q E h=>?_) (fun bP A outer s H vs Q E hr h=>?_)
  . obtain⟨p,A,s,l,nums,c,rfl,_⟩:=h;rfl
  . obtain⟨p,A',st,l,nums,cl,rfl,F,W,hl,B5,kc,hn,k⟩:=h;have nR:cl=.back:=(Option.some.inj kc).symm;subst nR;refine⟨_,(ag (bW (dy (r9 (bf (pv 0) (by rfl)) (fun _=>rfl))) (ai (aq (aS (aa (a0 T.G6) ab)))) aZ) (ag (eE (gU (pv 0) T.ao T.eK.m Dy (hr.mono (by decide)) T.eK.b .nil aI)) (ai (aq (aS (aa (aJ aP rfl T.cC b9 (aa (bf (pv 0) (by rfl)) ab)) ab)))))),?_⟩;have aG:=AJ st;have B6:A'.sf.length=st.sailed.length:=by rw[aD F.sf,length_reverse]
    refine⟨_,rfl,p,_,_,_,_,rfl,F.ins,T.ao,T.be,eV,_,.inl ⟨_,aN.of F.sl,rfl⟩,?_⟩;cases hs:st.sailed with
    | nil=>rw[hs]at aG B6;rw[length_eq_zero_iff.mp B6];exact cx ((k.ro F aG).ret (by simp))
    | cons f r=>
      rw[hs]at aG B6;have:(!(A'.sf.map V.ref).isEmpty)=true:=by
        cases q:A'.sf with
        | nil=>rw[q]at B6;cases B6
        | cons _ _=>rfl
      rw[this];refine cU ⟨_,rfl,p,_,_,rfl,F.ins,rfl,p,A',st,f,r,rfl,F,W,hs,fun A2 H2 af hsf=>?_⟩;refine⟨_,rfl,p,_,_,_,_,rfl,af.ok.ins,T.ao,T.be,eV,A2.sl,_,rfl,.inl (aN.of af.ok.sl),?_⟩;rw[length_map,hsf];exact k.ret aG af (by simp)
def I0(p:Pair):List Int:=[(p.crew:Int),(p.boat:Int)]
def MP(f:Flight):List Int:=(f.length:Int)::f.flatMap I0
theorem Ja(f:Flight):(f.flatMap I0).length=2*f.length:=by
  induction f with
  | nil=>rfl
  | cons p f ih=>rw[flatMap_cons,length_append,ih,length_cons];show 2+_=_;omega
theorem ET:∀(fs:List Flight),(∀f∈fs,f.length<=7)->(fs.flatMap MP).length<=15*fs.length
  | [],_=>by simp
  | f::fs,h=>by
    rw[flatMap_cons,length_append,length_cons];have:=ET fs fun g hg=>h g (mem_cons_of_mem _ hg);have h7:=h f mem_cons_self;have e:(MP f).length=2*f.length+1:=by unfold MP;rw[length_cons,Ja]
    omega
theorem Oh(s:Vbreai.State):Vbreai.step s .log=(s,(s.sailed.length:Int)::s.sailed.reverse.flatMap MP):=by show(s,counted (fun(f:Flight)=>counted (fun(p:Pair)=>[(p.crew:Int),(p.boat:Int)]) f) s.sailed.reverse)=_;unfold counted;rw[length_reverse];rfl
theorem aeD(T:Txt K mg):ay P w K mg base bo 1 T.EA.f T.EA.fd ["fleet","numbers"] (cQ T.ah (LU .log)):=by
  refine T.EA.F.ok GB (fun vs H Q E h=>?_) (fun bP A outer s H vs Q E hr h=>?_)
  . obtain⟨p,A,s,l,nums,c,rfl,_⟩:=h;rfl
  . obtain⟨p,A',st,l,nums,cl,rfl,F,W,hl,B5,kc,hn,k⟩:=h;have nR:cl=.log:=(Option.some.inj kc).symm;subst nR;refine⟨_,(ag (aY (i:=2) (GB.nd) rfl (Or.inl rfl) (aS (aa (aJ aP rfl T.cC b9 (aa (bf (pv 0) (by rfl)) ab)) ab))) (ag (dQ PassesOwn.never rfl (ba (bf (pv 0) (by rfl))) (aC (i:=3) (GB.nd) (by rfl) (by exact Or.inl rfl)) (ag (eE (xC PySem.F.plainAttrs_list PySem.F.slot_list_append PySem.F.type_list_append tm (pv 2) (aa (aJ aP rfl T.cC b9 (aa (pv 3) ab)) ab))) (ai (dQ PassesOwn.never rfl (ba (pv 3)) (Ab rfl (bE (aC (i:=4) (GB.nd) (by rfl) (by exact Or.inl rfl)) (bE (aC (i:=5) (GB.nd) (by rfl) (by exact Or.inl rfl)) fH))) (ai (eE (xC PySem.F.plainAttrs_list PySem.F.slot_list_extend PySem.F.type_list_extend tp (pv 2) (aa (aS (aa (pv 4) (aa (pv 5) ab))) ab)))))))) (ai (aq (pv 2))))),?_⟩;have k:=k.ro F (Oh st);have B6:A'.sf.length=st.sailed.reverse.length:=aD F.sf;have hsl:=W.sl;have h7:∀f∈st.sailed.reverse,f.length<=7:=fun f hf=>W.fn f (List.mem_reverse.mp hf);refine⟨_,rfl,p,_,_,_,_,rfl,F.ins,T.ao,T.be,eV,A'.sl,_,rfl,.inl (aN.of F.sl),sz (by simp),fun D hD=>?_⟩;have s0:=ak (o:=.lst [.int ((A'.sf.map V.ref).length:Nat)]) hD;have F0:=F.same s0;have e0:((A'.sf.map V.ref).length:Nat)=st.sailed.length:=by rw[length_map,B6,length_reverse]
    refine⟨_,rfl,p,_,_,_,_,rfl,F0.ins,T.ao,T.be,eV,A'.sl,rfl,⟨_,aN.of F0.sl⟩,?_⟩;refine oo (xs:=A'.sf.map V.ref) (fun i σ H1=>∃m3 m4 m5,σ=[some (.ref p),some (.ref l),some (.ref D),m3,m4,m5]/\aA H H1/\H1 D=some (.lst (((st.sailed.length:Int)::(st.sailed.reverse.take i).flatMap MP).map V.int))) ⟨none,none,none,rfl,s0,by rw[ae,e0];rfl⟩ (fun _ _ _ ⟨_,_,_,_,s,_⟩=>aN.of (F.same s).sl) ?_ ?_
    . rintro i x σ H1 hx ⟨m3,m4,m5,rfl,s1,hd⟩;obtain⟨q,hq,rfl⟩:=cq hx;obtain⟨f,hf,ts,hqt,LS⟩:=aV F.sf hq;have htl:=aD LS;have hf7:=h7 f (mem_of_getElem? hf);have l1:((st.sailed.reverse.take i).flatMap MP).length<=15*(st.sailed.reverse.take i).length:=ET _ fun g hg=>h7 g (mem_of_mem_take hg);have l2:(st.sailed.reverse.take i).length<=st.sailed.length:=by rw[<-length_reverse (as:=st.sailed)];exact length_take_le' _ _
      refine⟨_,rfl,.inl ⟨rfl,_,aN.of hd⟩,_,rfl,q,_,rfl,.inl (aN.of (s1 _ _ hqt)),D,_,_,rfl,rfl,hd,?_,?_⟩
      . refine lt_of_lt_of_le (?_:_<16000000) (sz (le_refl _));rw[length_map,length_cons];omega
      . generalize aaD:((st.sailed.length:Int)::(st.sailed.reverse.take i).flatMap MP)=pre at hd;have aiS:pre.length<=301:=by rw[<-aaD,length_cons];omega
        have hd2:upd H1 D (.lst (pre.map V.int++ [.int ((ts.map V.ref).length:Nat)])) D=some (.lst ((pre++ [(f.length:Int)]++(f.take 0).flatMap I0).map V.int)):=by rw[ae,length_map,htl];simp
        have s2:aA H (upd H1 D (.lst (pre.map V.int++ [.int ((ts.map V.ref).length:Nat)]))):=bv s1 hD;refine⟨_,rfl,q,rfl,⟨_,aN.of (s2 _ _ hqt)⟩,?_⟩;refine oo (xs:=ts.map V.ref) (fun j σ H2=>∃m4 m5,σ=[some (.ref p),some (.ref l),some (.ref D),some (.ref q),m4,m5]/\aA H H2/\H2 D=some (.lst ((pre++ [(f.length:Int)]++(f.take j).flatMap I0).map V.int))) ⟨m4,m5,rfl,s2,hd2⟩ (fun _ _ _ ⟨_,_,_,s,_⟩=>aN.of (s _ _ hqt)) ?_ ?_
        . rintro j x σ H2 hx ⟨n4,n5,rfl,s3,oK⟩;obtain⟨t,ht,rfl⟩:=cq hx;obtain⟨pr,Ks,XD⟩:=aV LS ht;refine⟨t,_,rfl,mT.of (s3 _ _ XD),rfl,_,_,rfl,_,_,rfl,rfl,?_⟩;refine⟨_,rfl,.inl ⟨rfl,_,aN.of oK⟩,_,rfl,_,rfl,sz (by simp),fun u hu=>?_⟩;have t1:=ak (o:=.lst [.int (pr.crew:Nat),.int (pr.boat:Nat)]) hu;have l3:((f.take j).flatMap I0).length<=14:=by rw[Ja];have:(f.take j).length<=f.length:=length_take_le' _ _;omega
          refine⟨D,u,_,_,rfl,rfl,t1 _ _ oK,ae,sz (by simp only[length_map,length_append,length_cons,length_nil];omega),?_⟩;refine⟨_,_,rfl,bv (s3.trans t1) hD,?_⟩;rw[ae,take_snoc Ks,List.flatMap_append];simp[I0]
        . rintro σ H2 ⟨n4,n5,rfl,s3,oK⟩;rw[length_map,htl,take_length]at oK;refine⟨_,_,_,rfl,s3,?_⟩;rw[oK,take_snoc hf,List.flatMap_append,<-aaD];simp[MP]
    . rintro σ H1 ⟨m3,m4,m5,rfl,s1,hd⟩;refine⟨_,rfl,?_⟩;rw[length_map,B6,take_length]at hd;exact k D H1 hD s1 hd
theorem sy(s:Vbreai.State)(l:List Int):Vbreai.step s (.repair l)=if l.length≠s.due.length\/(l.all (isBoat s))=false then Vbreai.no s (-3) else orNone s (repaired s (flightOf s l)) fun g=>(Vbreai.moves (flightOf s l) g:Int)::boatsIn g:=rfl
theorem ahd{s:Vbreai.State}(W:Wf s)(l:List Int):Sf (((s.due.zip l).map (wr s)).map ND):=by
  refine⟨?_,fun o ho=>?_⟩
  . rw[length_map,length_map,length_zip];have:=cR W;omega
  . obtain⟨w,hw,rfl⟩:=mem_map.mp ho;obtain⟨x,hx,rfl⟩:=mem_map.mp hw;have:=gu s x.1;have:=W.b7;refine⟨by unfold ND wr;rw[length_map];dsimp only;omega,fun y hy=>?_⟩;obtain⟨b,hb,rfl⟩:=mem_map.mp hy;exact DT W x.1 b hb
theorem Vt(T:Txt K mg):ay P w K mg base bo 4 T.kX.f T.kX.fd ["fleet","row"] (cQ T.ah (mkR .repair)):=by
  have dj:ay P w K mg base bo 1 _ _ _ _:=gR T;have aR:ay P w K mg base bo 3 _ _ _ _:=bA T;have DB:ay P w K mg base bo 1 _ _ _ _:=CC T;have cZ:ay P w K mg base bo 2 _ _ _ _:=fS T;have jk:ay P w K mg base bo 2 _ _ _ _:=oC T;refine T.kX.F.ok kf (fun vs H Q E h=>?_) (fun bP A outer s H vs Q E hr h=>?_)
  . obtain⟨p,A,s,l,nums,c,rfl,_⟩:=h;rfl
  . obtain⟨p,A',st,l,nums,cl,rfl,F,W,hl,B5,kc,hn,k⟩:=h;have nR:cl=.repair nums:=(Option.some.inj kc).symm;subst nR;refine⟨_,(ag (bW (L2.PW.pt (Tv (cT IZ (aJ aP rfl T.cC b9 (aa (pv 1) ab)) (aJ aP rfl T.cC b9 (aa (bf (pv 0) (by rfl)) ab)) (ez _)) (Lm (dy (fU (aJ (yI rfl) rfl T.qB uu (aa (dh rfl (kf.nd) (ba (pv 1)) (own:=[("boat",2)]) (bG rfl) (fun _ _ _ _ _=>by exact(aC (i:=2) (kf.nd) (by rfl) (by exact Or.inl rfl))) (fun _ _ _ _ _=>by exact bI) (fun _ _ _ _ _=>by exact(bT (pv 0) T.ao T.bH.m dj (hr.mono (by decide)) T.bH.b .nil aI (aa (pv 2) ab)))) ab))))))) (ai (aq (aS (aa (a0 T.qE) ab)))) aZ) (ag (oE (i:=3) rfl (kf.nd) rfl rfl rfl (Ga rfl T.tQ (aa (gU (pv 0) T.ao T.aF.m aR (hr.mono (by decide)) T.aF.b .nil aI) (aa (pv 1) ab))) (own:=[("boats",4),("told",5)]) (bG rfl) (fun _ _ _ _ _=>by exact(pL (K:=K) (n:=2) rfl rfl (bE (aC (i:=4) (kf.nd) (by rfl) (by exact Or.inl rfl)) (bE (aC (i:=5) (kf.nd) (by rfl) (by exact Or.inl rfl)) fH)))) (fun _ _ _ _ _=>by exact bI) (fun _ _ _ _ _=>by exact(aH DB (hr.mono (by decide)) rfl T.dr.g T.dr.F.kp T.dr.b .nil aI (aa (pv 4) (aa (pv 5) ab))))) (ai (aq (aH jk (hr.mono (by decide)) rfl T.bS.g T.bS.F.kp T.bS.b .nil aI (aa (aH cZ (hr.mono (by decide)) rfl T.a8.g T.a8.F.kp T.a8.b .nil aI (aa (pv 3) ab)) ab)))))),?_⟩;have aG:=sy st nums;refine⟨_,rfl,l,_,rfl,.inl (aN.of hl),_,rfl,p,_,_,_,_,rfl,F.ins,T.ao,T.aQ,ll,A'.d,_,rfl,.inl (aN.of F.d),rfl,_,rfl,?_⟩;rw[length_map,length_map];by_cases hlen:nums.length=st.due.length
    . have e:(!decide (V.int (nums.length:Nat)=V.int (st.due.length:Nat)))=false:=by rw[decide_eq_true (by rw[hlen])];rfl
      rw[e];refine cU ?_;refine⟨_,rfl,l,rfl,⟨_,aN.of hl⟩,?_⟩;refine lR (xs:=nums.map V.int) (RelM (fun z=>V.bl (isBoat st z)) nums) (aN.of hl) (sz (by rw[length_map];omega)) (fun _ _=>rfl) ?_ ?_
      . intro D acc i H1 x Y N hx hD s1 hd r hY hN;obtain⟨z,hz,rfl⟩:=ints_get hx;exact⟨rfl,yes ⟨_,rfl,p,_,_,rfl,(F.same s1).ins,rfl,_,rfl,p,A',st,z,rfl,F.same s1,hY _ _ (aA.refl _) (ck r hz rfl)⟩⟩
      . intro D acc H1 hD s1 hd _ r;have e:=c9 r (by simp);refine⟨D,nums.map (isBoat st),rfl,aN.of (by rw[hd,e,map_map];rfl),_,rfl,?_⟩;rw[all_map];refine lz (fun h=>?_) fun h=>?_
        . rw[if_pos (.inr (show nums.all (isBoat st)=false from h))]at aG;exact((k.ro F aG).mono s1).ret (by simp)
        . have h':nums.all (isBoat st)=true:=h;have h0:∀z∈nums,0<=z:=fun z hz=>by obtain⟨n,rfl,_⟩:=fO (all_eq_true.mp h' z hz);omega
          rw[if_neg (by rw[h'];simp[hlen]),d5]at aG;have k:=k.ro F aG;have F1:=F.same s1;refine⟨_,rfl,p,_,_,rfl,F1.ins,rfl,p,A',st,rfl,F1,W,fun D2 H2 v4 s2 ⟨qs,ha,XE⟩=>?_⟩;have tx:=s1.trans s2;have hql:=aD XE;have hol:=a7 st;have hdl:=cR W;refine⟨_,rfl,D2,l,_,_,rfl,aN.of ha,aN.of (tx _ _ hl),?_⟩;refine aaU (xs:=qs.map V.ref) (ys:=nums.map V.int) (v5 (fun H p l=>H p=some (.dK (yO l))) (((st.due.zip nums).map (wr st)).map ND)) (aN.of ha) (aN.of (tx _ _ hl)) (sz (by rw[length_map];omega)) (fun _ _=>fE) ?_ ?_
          . intro D acc i H3 x y Tp Y N hx hy MT hD s3 oK r hY hN;obtain⟨q,hq,rfl⟩:=cq hx;obtain⟨z,hz,rfl⟩:=ints_get hy;obtain⟨xs,IK,Dh⟩:=aV XE hq;have UU:=IK;unfold aO at UU;rw[getElem?_map]at UU;obtain⟨c,hc,hcx⟩:=Option.map_eq_some_iff.mp UU;subst hcx;have s4:=ak (o:=.tup [.ref q,.int z]) MT;have II:=gu st c;have:=W.b7;refine⟨Tp,_,rfl,mT.of ae,rfl,_,_,rfl,_,_,rfl,rfl,rfl,yes ⟨_,rfl,_,rfl,q,boatsFor st c,z,rfl,aN.of (s4 _ _ (s3 _ _ Dh)),AY st c,by omega,fun B H5 hB s6 eB=>hY _ _ (s4.trans s6) ?_⟩⟩;exact d6 (fun _ _ _ _ s z=>s _ _ z) r (x:=ND (wr st (c,z))) (by rw[getElem?_map,getElem?_map,zip_get hc hz];rfl) (Off.mono (s4.trans s6)) (iM oK (s4.free hB) eB)
          . intro D3 acc H3 S1 s3 oK _ r;obtain⟨rs,rfl,q⟩:=fD r (by rw[length_map,length_map,length_map,length_map,length_zip,hql,hol]);have HI:=tx.trans s3;obtain⟨m1,m2⟩:=N3 W hlen h0;refine⟨_,rfl,D3,_,rfl,⟨rs,oK,dI (fun _ _ z=>Off.same _ _ z) q⟩,ahd W nums,fun e H4 s4=>?_,fun e he q H4 s4 hq=>?_⟩
            . rw[m1 e]at k;exact .inl ⟨rfl,k.mono (HI.trans s4)⟩
            . obtain⟨b1,b2,b3⟩:=m2 e he;rw[b1]at k;have acT:=eW b3;obtain⟨x,_,hq1,Wl⟩:=hq;have k:bL H Q (e.1::cnt (az e.2)):=by
                have e3:((Vbreai.moves (flightOf st nums) (toF st.due e.2):Int)::boatsIn (toF st.due e.2))=e.1::cnt (az e.2):=by rw[b2,i8 (by rw[acT,a7])]
                rw[<-e3];exact k
              exact .inr ⟨q,e.1,az e.2,rfl,⟨x,hq1,by rw[<-br];exact Wl⟩,by rw[dw];omega,k.mono (HI.trans s4)⟩
    . have e:(!decide (V.int (nums.length:Nat)=V.int (st.due.length:Nat)))=true:=by rw[decide_eq_false (fun q=>hlen (by injection q with q;exact Int.ofNat.inj q))];rfl
      rw[e];rw[if_pos (.inl hlen)]at aG;exact cx (cx ((k.ro F aG).ret (by simp)))
end
end My
namespace My
open PySem PySem.Spec PyProof.Rows L2 HT
theorem vZ{α:Type}{f g:α->Int}:∀{l:List α},(∀b∈l,f b<=g b)->(l.map f).sum<=(l.map g).sum
  | [],_=>Int.le_refl _
  | a::l,h=>by rw[map_cons,map_cons,sum_cons,sum_cons];have:=vZ (l:=l) fun b hb=>h b (mem_cons_of_mem _ hb);have:=h a mem_cons_self;omega
theorem g0{α:Type}(f g:α->Int):∀l:List α,(l.map fun b=>f b+g b).sum=(l.map f).sum+(l.map g).sum
  | []=>rfl
  | a::l=>by rw[map_cons,map_cons,map_cons,sum_cons,sum_cons,sum_cons,g0 f g l];omega
theorem mr{α:Type}(k:Int)(f:α->Int):∀l:List α,(l.map fun b=>k*f b).sum=k*(l.map f).sum
  | []=>by simp
  | a::l=>by rw[map_cons,map_cons,sum_cons,sum_cons,mr k f l,Int.mul_add]
theorem dA{α:Type}{f g:α->Int}{l:List α}(h:∀b∈l,f b=g b):(l.map f).sum=(l.map g).sum:=by rw[map_congr_left h]
theorem xZ{α:Type}{f:α->Int}{l:List α}(h:∀b∈l,f b=0):(l.map f).sum=0:=by
  induction l with
  | nil=>rfl
  | cons a l ih=>rw[map_cons,sum_cons,h a mem_cons_self,ih fun b hb=>h b (mem_cons_of_mem _ hb)];rfl
theorem sum_filter{α:Type}{f:α->Int}{p:α->Bool}:∀{l:List α},(∀b∈l,p b=false->f b=0)->((l.filter p).map f).sum=(l.map f).sum
  | [],_=>rfl
  | a::l,h=>by
    have ih:=sum_filter (l:=l) fun b hb=>h b (mem_cons_of_mem _ hb);rw[filter_cons,map_cons,sum_cons];cases q:p a with
    | true=>rw[if_pos rfl,map_cons,sum_cons,ih]
    | false=>rw[if_neg (by decide),ih,h a mem_cons_self q];omega
theorem Y8{α β:Type}(f:α->β->Int)(l:List α)(m:List β):(l.map fun a=>(m.map fun b=>f a b).sum).sum=(m.map fun b=>(l.map fun a=>f a b).sum).sum:=by
  induction l with
  | nil=>simp[xZ]
  | cons a l ih=>rw[map_cons,sum_cons,ih,<-g0];exact dA fun b _=>by rw[map_cons,sum_cons]
theorem xY(n b:Nat)(h:b<n):((List.range n).map fun x=>if x=b then (1:Int) else 0).sum=1:=by
  induction n with
  | zero=>omega
  | succ n ih=>
    rw[range_succ,map_append,sum_append];by_cases e:b=n
    . have:((List.range n).map fun x=>if x=b then (1:Int) else 0).sum=0:=xZ fun x hx=>by have:=mem_range.mp hx;rw[if_neg (by omega)]
      rw[this];simp[e]
    . rw[ih (by omega)];have e':¬n=b:=fun q=>e q.symm;simp[e']
theorem KN{α:Type}(p:α->Bool)(l:List α):((l.filter p).length:Int)=(l.map fun a=>if p a=true then (1:Int) else 0).sum:=by
  induction l with
  | nil=>rfl
  | cons a l ih=>
    rw[filter_cons,map_cons,sum_cons,<-ih];cases p a with
    | true=>rw[if_pos rfl,if_pos rfl,length_cons];omega
    | false=>rw[if_neg (by decide),if_neg (by decide)];omega
def bitsOf(n i:Nat):List Nat:=(List.range n).filter fun j=>i.testBit j
theorem wc{n i:Nat}(h:i<2^n):bitsOf (n+1) i=bitsOf n i:=by unfold bitsOf;rw[range_succ,filter_append,filter_cons,Nat.testBit_lt_two_pow h,if_neg (by decide)];simp
theorem wb{n i:Nat}(h:i<2^n):bitsOf (n+1) (2^n+i)=bitsOf n i++ [n]:=by unfold bitsOf;rw[range_succ,filter_append,filter_cons,Nat.testBit_two_pow_add_eq,Nat.testBit_lt_two_pow h,if_pos (by decide),List.filter_nil];congr 1;refine filter_congr fun j hj=>?_;rw[Nat.testBit_two_pow_add_gt (mem_range.mp hj)]
theorem adu(marks:List Int):∀i,i<2^marks.length->(Pw marks)[i]? =some ((bitsOf marks.length i).map fun j=>marks.getD j 0).sum:=by
  induction marks using mq with
  | nil=>
    intro i hi;have:i=0:=by simp at hi;omega
    subst this;rfl
  | snoc l m ih=>
    intro i hi;rw[length_append,length_singleton]at hi ⊢;rw[Mj];have hl:=C7 l;have old:∀j∈bitsOf l.length i,True:=fun _ _=>trivial;have gd:∀(k:Nat),(((bitsOf l.length k).map fun j=>(l++ [m]).getD j 0).sum)=((bitsOf l.length k).map fun j=>l.getD j 0).sum:=fun k=>dA fun j hj=>by have:=mem_range.mp (mem_filter.mp hj).1;rw[getD_eq_getElem?_getD,getElem?_append_left this,getD_eq_getElem?_getD]
    by_cases h:i<2^l.length
    . rw[getElem?_append_left (by omega),ih i h,wc h,gd]
    . have hi2:i-2^l.length<2^l.length:=by rw[pow_succ]at hi;omega
      rw[getElem?_append_right (by omega),hl,getElem?_map,ih _ hi2];have e:i=2^l.length+(i-2^l.length):=by omega
      conv=>rhs;rw[e]
      rw[wb hi2,map_append,sum_append,gd];simp
theorem Mi(marks:List Int){i:Nat}(h:i<2^marks.length):(Pw marks).getD i 0=((bitsOf marks.length i).map fun j=>marks.getD j 0).sum:=by rw[getD_eq_getElem?_getD,adu marks i h];rfl
abbrev ZN:=Nat->Nat->Bool
def eN(aj:List (List Nat)):ZN:=fun j b=>(aj.getD j []).contains b
def TT(n:Nat)(has:ZN)(i b:Nat):Nat:=((bitsOf n i).filter fun j=>has j b).length
def FF(n:Nat)(has:ZN)(k i:Nat):Int:=((List.range 7).map fun b=>((min k (TT n has i b):Nat):Int)).sum-(k:Int)*((bitsOf n i).length:Int)
theorem Zd{aj:List (List Nat)}{i:Nat}(h:i<2^aj.length)(b:Nat):(Du aj b).getD i 0=(TT aj.length (eN aj) i b:Nat):=by unfold Du;rw[Mi _ (by rw[length_map];exact h),length_map];unfold TT;rw[KN];refine dA fun j hj=>?_;have GZ:=mem_range.mp (mem_filter.mp hj).1;unfold eN;rw[getD_eq_getElem?_getD,getElem?_map,getD_eq_getElem?_getD,getElem?_eq_getElem GZ];rfl
theorem afd{aj:List (List Nat)}{i:Nat}(h:i<2^aj.length):(R0 aj).getD i 0=((bitsOf aj.length i).length:Int):=by
  unfold R0;rw[Mi _ (by rw[length_replicate];exact h),length_replicate];have:((bitsOf aj.length i).map fun j=>(List.replicate aj.length (1:Int)).getD j 0).sum=((bitsOf aj.length i).map fun _=>(1:Int)).sum:=dA fun j hj=>by have GZ:=mem_range.mp (mem_filter.mp hj).1;rw[getD_eq_getElem?_getD,List.getElem?_replicate,if_pos GZ];rfl
  rw[this];generalize bitsOf aj.length i=l;induction l with
  | nil=>rfl
  | cons a l ih=>rw[map_cons,sum_cons,ih,length_cons];omega
theorem ZU{k:Int}{pl tk:List Int}{i:Nat}(h1:i<pl.length)(h2:i<tk.length):(BA k pl tk).getD i 0=pl.getD i 0+mn k (tk.getD i 0):=by unfold BA;rw[getD_eq_getElem?_getD,getElem?_map,getD_eq_getElem?_getD,getD_eq_getElem?_getD,zip_get (getElem?_eq_getElem h1) (getElem?_eq_getElem h2),getElem?_eq_getElem h1,getElem?_eq_getElem h2];rfl
theorem tW{aj:List (List Nat)}{k:Int}{i:Nat}(h:i<2^aj.length):∀(bs:List Nat) (pl:List Int),pl.length=2^aj.length->(bs.foldl (fun pl b=>BA k pl (Du aj b)) pl).getD i 0=pl.getD i 0+(bs.map fun b=>mn k (TT aj.length (eN aj) i b:Nat)).sum
  | [],pl,_=>by simp
  | b::bs,pl,hl=>by rw[foldl_cons,tW h bs _ (by rw[L9,pV,hl,min_self]),ZU (by omega) (by rw[pV];exact h),Zd h,map_cons,sum_cons];omega
theorem ael(k t:Nat):mn (k:Int) (t:Int)=((min k t:Nat):Int):=by unfold mn;split<;>omega
theorem adi{aj:List (List Nat)}{i b:Nat}(h:b∉iO aj)(h7:b<7):TT aj.length (eN aj) i b=0:=by unfold TT;rw[length_eq_zero_iff,List.filter_eq_nil_iff];intro j hj hb;have GZ:=mem_range.mp (mem_filter.mp hj).1;unfold eN at hb;rw[getD_eq_getElem?_getD,getElem?_eq_getElem GZ]at hb;exact h (NF (getElem_mem GZ) (contains_iff_mem.mp hb) h7)
theorem LF{aj:List (List Nat)}{k i:Nat}(h:i<2^aj.length):(Wp aj (k:Int)).getD i 0=FF aj.length (eN aj) k i:=by
  unfold Wp;rw[tW h _ _ (by rw[length_map,x3])];have e1:((R0 aj).map fun c=> -(k:Int)*c).getD i 0= -(k:Int)*((bitsOf aj.length i).length:Int):=by rw[<-afd h,getD_eq_getElem?_getD,getElem?_map,getD_eq_getElem?_getD,getElem?_eq_getElem (by rw[x3];exact h)];rfl
  rw[e1];have e2:((iO aj).map fun b=>mn (k:Int) (TT aj.length (eN aj) i b:Nat)).sum=((List.range 7).map fun b=>((min k (TT aj.length (eN aj) i b):Nat):Int)).sum:=by unfold iO;have:∀l:List Nat,(l.map fun b=>mn (k:Int) (TT aj.length (eN aj) i b:Nat))=l.map fun b=>((min k (TT aj.length (eN aj) i b):Nat):Int):=fun l=>map_congr_left fun b _=>ael _ _;rw[this];refine sum_filter fun b hb hn=>?_;rw[adi (fun m=>by rw[(mem_filter.mp m).2]at hn;cases hn) (mem_range.mp hb)];simp
  rw[e2];unfold FF;rw[Int.neg_mul];omega
theorem eL(aj:List (List Nat))(k:Nat):cA aj k=true↔ ∀i,i<2^aj.length->0<=FF aj.length (eN aj) k i:=by
  unfold cA;rw[decide_eq_true_eq];have agb:Wp aj (k:Int)≠ []:=fun q=>by have:=pU aj k;rw[q,length_nil]at this;have:=pow_pos (n:=aj.length) (show 0<2 by omega);omega
  obtain⟨h1,h2⟩:=Fx agb;constructor
  . intro h i hi;rw[<-LF hi];have:(Wp aj (k:Int)).getD i 0∈Wp aj (k:Int):=by rw[getD_eq_getElem?_getD,getElem?_eq_getElem (by rw[pU];exact hi)];exact getElem_mem _
    have:=h2 _ this;omega
  . intro h;obtain⟨i,hi⟩:=getElem?_of_mem h1;obtain⟨hl,e⟩:=List.getElem?_eq_some_iff.mp hi;rw[pU]at hl;have:=h i hl;rw[<-LF hl,getD_eq_getElem?_getD,hi]at this;exact this
theorem ZJ{n:Nat}{has:ZN}{k i:Nat}(h:0<=FF n has (k+1) i):0<=FF n has k i:=by
  unfold FF at h ⊢;generalize ((bitsOf n i).length:Int)=L at h ⊢;have h1:((k:Int)+1)*((List.range 7).map fun b=>((min k (TT n has i b):Nat):Int)).sum>=(k:Int)*((List.range 7).map fun b=>((min (k+1) (TT n has i b):Nat):Int)).sum:=by
    rw[<-mr,<-mr];refine vZ fun b _=>?_;generalize TT n has i b=t;by_cases e:t<=k
    . rw[Nat.min_eq_right e,Nat.min_eq_right (by omega),add_mul];omega
    . rw[Nat.min_eq_left (by omega),Nat.min_eq_left (by omega)];show(k:Int)*((k+1:Nat):Int)<=((k:Int)+1)*(k:Int);rw[Int.mul_comm];exact Int.le_refl _
  generalize ((List.range 7).map fun b=>((min k (TT n has i b):Nat):Int)).sum=A at h1 ⊢;generalize ((List.range 7).map fun b=>((min (k+1) (TT n has i b):Nat):Int)).sum=B at h h1;have h2:(k:Int)*B>=(k:Int)*(((k:Int)+1)*L):=Int.mul_le_mul_of_nonneg_left (by push_cast at h;omega) (by omega);have h3:((k:Int)+1)*A>=((k:Int)+1)*((k:Int)*L):=by
    have:(k:Int)*(((k:Int)+1)*L)=((k:Int)+1)*((k:Int)*L):=by rw[<-Int.mul_assoc,<-Int.mul_assoc,Int.mul_comm (k:Int)]
    omega
  have:=Int.le_of_mul_le_mul_left h3 (by omega);omega
theorem A8{aj:List (List Nat)}{k:Nat}(h:cA aj (k+1)=true):cA aj k=true:=
  (eL aj k).mpr fun i hi=>ZJ ((eL aj (k+1)).mp h i hi)
theorem A9(aj:List (List Nat)):cA aj 0=true:=(eL aj 0).mpr fun i _=>by unfold FF;rw[xZ (fun b _=>by simp)];simp
end My
namespace My
open PySem PySem.Spec PyProof.Rows L2 HT
theorem o7{α:Type}{p d:α->Bool}:∀{l:List α},(∀a∈l,d a=true->p a=true)->(l.filter p).length=(l.filter fun a=>p a&& !d a).length+(l.filter d).length
  | [],_=>rfl
  | a::l,h=>by
    have ih:=o7 (l:=l) fun b hb=>h b (mem_cons_of_mem _ hb);have ha:=h a mem_cons_self;rw[filter_cons,filter_cons,filter_cons];cases hd:d a with
    | true=>rw[ha hd];simp only[Bool.not_true,Bool.and_false,if_true,false_eq_true,if_false,length_cons];omega
    | false=>
      cases hp:p a with
      | true=>simp only[Bool.not_false,Bool.and_true,if_true,false_eq_true,if_false,length_cons];omega
      | false=>simp only[Bool.false_and,false_eq_true,if_false];omega
theorem DE{n:Nat}{has u6:ZN}{i b:Nat}(h:∀j,j<n->has j b=u6 j b):TT n has i b=TT n u6 i b:=by unfold TT;congr 1;exact filter_congr fun j hj=>h j (mem_range.mp (mem_filter.mp hj).1)
theorem ZT{n:Nat}{has u6:ZN}{i b:Nat}(h:∀j,j<n->has j b=true->u6 j b=true):TT n has i b<=TT n u6 i b:=by
  unfold TT;have:∀l:List Nat,(∀j∈l,has j b=true->u6 j b=true)->(l.filter fun j=>has j b).length<=(l.filter fun j=>u6 j b).length:=by
    intro l;induction l with
    | nil=>intro _;exact le_refl _
    | cons a l ih=>
      intro hl;have:=ih fun j hj=>hl j (mem_cons_of_mem _ hj);rw[filter_cons,filter_cons];have ha:=hl a mem_cons_self;cases q:has a b with
      | true=>rw[ha q];simp;omega
      | false=>cases u6 a b<;>simp<;>omega
  exact this _ fun j hj=>h j (mem_range.mp (mem_filter.mp hj).1)
theorem ZK{n k i:Nat}{has u6:ZN}(h:∀j b,j<n->has j b=true->u6 j b=true):FF n has k i<=FF n u6 k i:=by
  unfold FF;have:=vZ (l:=List.range 7) (f:=fun b=>((min k (TT n has i b):Nat):Int)) (g:=fun b=>((min k (TT n u6 i b):Nat):Int)) fun b _=>by have:=ZT (n:=n) (i:=i) (b:=b) fun j hj=>h j b hj;omega
  omega
theorem LY{n k i:Nat}{has u6:ZN}(h:∀j b,j<n->has j b=u6 j b):FF n has k i=FF n u6 k i:=by unfold FF;congr 2;exact map_congr_left fun b _=>by rw[DE fun j hj=>h j b hj]
def jD(aj:List (List Nat))(bg:List Nat):ZN:=fun j b=>eN aj j b&& !decide (bg[j]? =some b)
theorem je{n i j:Nat}:j∈bitsOf n i↔j<n/\i.testBit j=true:=by unfold bitsOf;rw[mem_filter,mem_range]
theorem Sm(n i:Nat):(bitsOf n i).Nodup:=List.Pairwise.filter _ nodup_range
theorem Hi{l:List Nat}(nd:l.Nodup)(c:Nat):(l.filter fun j=>decide (j=c)).length=if c∈l then 1 else 0:=by
  induction l with
  | nil=>simp
  | cons a l ih=>
    obtain⟨h1,h2⟩:=nodup_cons.mp nd;rw[filter_cons];by_cases e:a=c
    . subst e;rw[decide_eq_true rfl,if_pos rfl,length_cons,ih h2,if_neg h1,if_pos mem_cons_self]
    . rw[decide_eq_false e,if_neg (by decide),ih h2];have:(c∈a::l)↔c∈l:=by rw[mem_cons];exact⟨fun h=>h.resolve_left fun q=>e q.symm,.inr⟩
      by_cases m:c∈l
      . rw[if_pos m,if_pos (this.mpr m)]
      . rw[if_neg m,if_neg (fun q=>m (this.mp q))]
theorem ZL{aj:List (List Nat)}{bg:List Nat}{b k i:Nat}(hc:bg.length<aj.length)(hb:b∈aj.getD bg.length [])(hn:b∉bg)(h7:b<7):FF aj.length (jD aj (bg++ [b])) k i=FF aj.length (jD aj bg) k i-(if i.testBit bg.length=true/\TT aj.length (eN aj) i b<=k then 1 else 0):=by
  have hap:∀(j b':Nat),(bg++ [b])[j]? =some b'↔(bg[j]? =some b'\/(j=bg.length/\b'=b)):=fun j b'=>by
    by_cases hj:j<bg.length
    . rw[getElem?_append_left hj];exact⟨.inl,fun h=>h.resolve_right fun q=>by omega⟩
    . rw[getElem?_append_right (by omega)];have wX:bg[j]? =none:=getElem?_eq_none (by omega);rw[wX];by_cases e:j=bg.length
      . subst e;simp[eq_comm]
      . have:[b][j-bg.length]? =none:=getElem?_eq_none (by simp;omega);rw[this];simp[e]
  have hb0:∀j,bg[j]? ≠some b:=fun j q=>hn (mem_of_getElem? q);have other:∀b',b'≠b->TT aj.length (jD aj (bg++ [b])) i b'=TT aj.length (jD aj bg) i b':=fun b' ne=>DE fun j _=>by unfold jD;congr 2;exact decide_eq_decide.mpr ((hap j b').trans ⟨fun h=>h.resolve_right fun q=>ne q.2,.inl⟩)
  have old:TT aj.length (jD aj bg) i b=TT aj.length (eN aj) i b:=DE fun j _=>by unfold jD;rw[decide_eq_false (hb0 j)];simp
  have new:TT aj.length (eN aj) i b=TT aj.length (jD aj (bg++ [b])) i b+(if i.testBit bg.length=true then 1 else 0):=by
    unfold TT;rw[o7 (d:=fun j=>decide (j=bg.length)) (l:=bitsOf aj.length i) (p:=fun j=>eN aj j b) fun j hj hd=>by rw[of_decide_eq_true hd];exact contains_iff_mem.mpr hb];rw[Hi (Sm _ _)];congr 1
    . congr 1;refine filter_congr fun j _=>?_;unfold jD;congr 2;exact decide_eq_decide.mpr ⟨fun h=>(hap j b).mpr (.inr ⟨h,rfl⟩),fun h=>((hap j b).mp h).elim (fun q=>absurd q (hb0 j)) fun q=>q.1⟩
    . by_cases z:i.testBit bg.length=true
      . rw[if_pos z,if_pos (je.mpr ⟨hc,z⟩)]
      . rw[if_neg z,if_neg (fun m=>z (je.mp m).2)]
  have key:∀b'∈List.range 7,((min k (TT aj.length (jD aj (bg++ [b])) i b'):Nat):Int)=((min k (TT aj.length (jD aj bg) i b'):Nat):Int)+(-(if i.testBit bg.length=true/\TT aj.length (eN aj) i b<=k then 1 else 0))*(if b'=b then 1 else 0):=fun b' _=>by
    by_cases e:b'=b
    . subst e;rw[if_pos rfl,old,new];by_cases z:i.testBit bg.length=true
      . rw[if_pos z];by_cases y:TT aj.length (jD aj (bg++ [b'])) i b'+1<=k
        . rw[if_pos ⟨z,y⟩];omega
        . rw[if_neg (fun q=>y q.2)];omega
      . rw[if_neg z,if_neg (fun q=>z q.1)];omega
    . rw[if_neg e,other b' e];omega
  unfold FF;rw[dA key,g0,mr,xY 7 b h7];omega
theorem sP:∀(ls:List Nat) (sp:List Int) (i:Nat),ls.Nodup->(∀n∈ls,n<sp.length)->(decAll sp ls).getD i 0=sp.getD i 0-(if i∈ls then 1 else 0)
  | [],sp,i,_,_=>by simp[decAll]
  | n::ls,sp,i,nd,hl=>by
    obtain⟨h1,h2⟩:=nodup_cons.mp nd;show(decAll (sp.set n (sp.getD n 0-1)) ls).getD i 0=_;rw[sP ls _ i h2 (fun m hm=>by rw[length_set];exact hl m (mem_cons_of_mem _ hm))];have hn:=hl n mem_cons_self;by_cases e:i=n
    . subst e;rw[if_neg h1,if_pos mem_cons_self];have:(sp.set i (sp.getD i 0-1)).getD i 0=sp.getD i 0-1:=by rw[getD_eq_getElem?_getD,getElem?_set,if_pos rfl,if_pos hn];rfl
      rw[this];omega
    . have:(sp.set n (sp.getD n 0-1)).getD i 0=sp.getD i 0:=by rw[getD_eq_getElem?_getD,getElem?_set,if_neg (fun q=>e q.symm),getD_eq_getElem?_getD]
      rw[this];have:(i∈n::ls)↔i∈ls:=by rw[mem_cons];exact⟨fun h=>h.resolve_left e,.inr⟩
      by_cases m:i∈ls
      . rw[if_pos m,if_pos (this.mpr m)]
      . rw[if_neg m,if_neg (fun q=>m (this.mp q))]
theorem ID:∀{l:List (List Nat)} {u u':List Nat},(∀x,x∈u↔x∈u')->ji l u=ji l u'
  | [],_,_,_=>rfl
  | w::l,u,u',h=>by
    show(List.flatMap _ _)=(List.flatMap _ _);have e1:(w.filter fun b=> !u.contains b)=w.filter fun b=> !u'.contains b:=filter_congr fun b _=>by congr 1;rw[Bool.eq_iff_iff,contains_iff_mem,contains_iff_mem];exact h b
    rw[e1];congr 1;funext b;rw[ID (l:=l) (u:=b::u) (u':=b::u') fun x=>by rw[mem_cons,mem_cons,h x]]
def good(aj:List (List Nat))(k:Nat)(f:List Nat):Bool:=(List.range (2^aj.length)).all fun i=>decide (0<=FF aj.length (jD aj f) k i)
theorem wN{aj:List (List Nat)}{k:Nat}{f:List Nat}:good aj k f=true↔ ∀i,i<2^aj.length->0<=FF aj.length (jD aj f) k i:=by unfold good;rw[all_eq_true];exact⟨fun h i hi=>of_decide_eq_true (h i (mem_range.mpr hi)),fun h i hi=>decide_eq_true (h i (mem_range.mp hi))⟩
theorem wJ{α β:Type}(p:β->Bool)(f:α->List β):∀l:List α,(l.flatMap f).find? p=l.findSome? fun a=>(f a).find? p
  | []=>rfl
  | a::l=>by rw[flatMap_cons,List.find?_append,findSome?_cons,wJ p f l];cases (f a).find? p<;>rfl
theorem qe{α β:Type}(p:α->Bool)(f:α->Option β):∀l:List α,(l.filter p).findSome? f=l.findSome? fun a=>if p a=true then f a else none
  | []=>rfl
  | a::l=>by
    rw[filter_cons,findSome?_cons,<-qe p f l];cases q:p a with
    | true=>rw[if_pos rfl,if_pos rfl,findSome?_cons]
    | false=>rw[if_neg (by decide),if_neg (by decide)]
theorem rb{α β:Type}{f g:α->Option β}:∀{l:List α},(∀a∈l,f a=g a)->l.findSome? f=l.findSome? g
  | [],_=>rfl
  | a::l,h=>by rw[findSome?_cons,findSome?_cons,h a mem_cons_self,rb fun b hb=>h b (mem_cons_of_mem _ hb)]
theorem ab4{aj:List (List Nat)}{k b i:Nat}:i∈Wo aj k b↔i<2^aj.length/\TT aj.length (eN aj) i b<=k:=by unfold Wo;rw[mem_filter,mem_range,pV];refine and_congr_right fun h=>?_;rw[decide_eq_true_eq,Zd h];omega
theorem Iw{aj:List (List Nat)}(bj:LsOk aj)(k:Nat):∀(m:Nat) (bg:List Nat) (sp:List Int),bg.length+m=aj.length->(∀(j b:Nat),bg[j]? =some b->b∈aj.getD j [])->sp.length=2^aj.length->(∀i,i<2^aj.length->sp.getD i 0=FF aj.length (jD aj bg) k i)->(∀i,i<2^aj.length->0<=sp.getD i 0)->comp aj (Wo aj k) m bg sp=((ji (aj.drop bg.length) bg).map fun f=>bg++f).find? (good aj k)
  | 0,bg,sp,hl,ze,hsl,Ta,h0=>by have:aj.drop bg.length=[]:=drop_eq_nil_of_le (by omega);rw[this];show some bg=([[]].map fun f=>bg++f).find? (good aj k);rw[map_cons,map_nil,append_nil,find?_cons,wN.mpr fun i hi=>by rw[<-Ta i hi];exact h0 i hi]
  | m+1,bg,sp,hl,ze,hsl,Ta,h0=>by
    have dD:bg.length<aj.length:=by omega
    have MW:aj.drop bg.length=aj.getD bg.length []::aj.drop (bg.length+1):=by rw[getD_eq_getElem?_getD,getElem?_eq_getElem dD];exact drop_eq_getElem_cons dD
    have mz:aj.getD bg.length []∈aj:=by rw[getD_eq_getElem?_getD,getElem?_eq_getElem dD];exact getElem_mem dD
    rw[MW];show((aj.getD bg.length []).findSome? _)=(((List.flatMap _ _)).map fun f=>bg++f).find? _;rw[List.map_flatMap,wJ,qe];refine rb fun b hb=>?_;have Zx:b<7:=bj.b _ mz b hb;by_cases hc:bg.contains b=true
    . rw[if_pos hc,if_neg (show ¬(!bg.contains b)=true by rw[hc];decide)]
    . rw[if_neg hc,if_pos (show(!bg.contains b)=true by simpa using hc)];have hnb:b∉bg:=fun q=>hc (contains_iff_mem.mpr q);have ahL:((ji (aj.drop (bg.length+1)) (b::bg)).map (fun f=>b::f)).map (fun f=>bg++f)=(ji (aj.drop (bg++ [b]).length) (bg++ [b])).map fun f=>(bg++ [b])++f:=by rw[map_map,length_append,length_singleton,ID (u:=b::bg) (u':=bg++ [b]) fun x=>by rw[mem_cons,mem_append,mem_singleton];exact Or.comm];exact map_congr_left fun f _=>by simp
      rw[ahL];have UN:∀i,i∈cu (Wo aj k) bg.length b↔i<2^aj.length/\(i.testBit bg.length=true/\TT aj.length (eN aj) i b<=k):=fun i=>by unfold cu;rw[mem_filter,ab4];exact⟨fun⟨⟨a,b⟩,c⟩=>⟨a,c,b⟩,fun⟨a,c,b⟩=>⟨⟨a,b⟩,c⟩⟩
      have hnd:(cu (Wo aj k) bg.length b).Nodup:=List.Pairwise.filter _ (List.Pairwise.filter _ nodup_range);have wW:∀i,i<2^aj.length->(decAll sp (cu (Wo aj k) bg.length b)).getD i 0=FF aj.length (jD aj (bg++ [b])) k i:=fun i hi=>by
        rw[sP _ _ _ hnd (fun n hn=>by rw[hsl];exact((UN n).mp hn).1),Ta i hi,ZL dD hb hnb Zx];by_cases z:i∈cu (Wo aj k) bg.length b
        . rw[if_pos z,if_pos ((UN i).mp z).2]
        . rw[if_neg z,if_neg (fun q=>z ((UN i).mpr ⟨hi,q⟩))]
      by_cases ha:((cu (Wo aj k) bg.length b).all fun i=>decide (0<sp.getD i 0))=true
      . rw[if_pos ha];refine Iw bj k m (bg++ [b]) _ (by rw[length_append,length_singleton];omega) (fun j c hj=>?_) (by rw[kY,hsl]) wW fun i hi=>?_
        . by_cases GZ:j<bg.length
          . rw[getElem?_append_left GZ]at hj;exact ze j c hj
          . have LP:=(List.getElem?_eq_some_iff.mp hj).1;rw[length_append,length_singleton]at LP;have:j=bg.length:=by omega
            subst this;rw[getElem?_append_right (le_refl _)]at hj;simp at hj;rw[<-hj];exact hb
        . rw[sP _ _ _ hnd (fun n hn=>by rw[hsl];exact((UN n).mp hn).1)];have:=h0 i hi;by_cases z:i∈cu (Wo aj k) bg.length b
          . rw[if_pos z];have:=of_decide_eq_true (all_eq_true.mp ha i z);omega
          . rw[if_neg z];omega
      . rw[if_neg ha];symm;rw[find?_eq_none];intro f hf hg;obtain⟨g,hg',rfl⟩:=mem_map.mp hf;apply ha;rw[all_eq_true];intro i hi;have hil:=((UN i).mp hi).1;refine decide_eq_true ?_;have h1:=wN.mp hg i hil;have h2:FF aj.length (jD aj ((bg++ [b])++g)) k i<=FF aj.length (jD aj (bg++ [b])) k i:=ZK fun j c _ h=>by unfold jD at h ⊢;rw[and_eq_true]at h ⊢;refine⟨h.1,?_⟩;have:=h.2;rw[not_eq_true',decide_eq_false_iff_not]at this ⊢;intro q;apply this;rw[getElem?_append_left (List.getElem?_eq_some_iff.mp q).1];exact q
        rw[<-wW i hil,sP _ _ _ hnd (fun n hn=>by rw[hsl];exact((UN n).mp hn).1),if_pos hi]at h2;omega
theorem ab3{aj:List (List Nat)}{f:List Nat}(hl:f.length=aj.length)(j b:Nat)(hj:j<aj.length):eN (rem aj f) j b=jD aj f j b:=by
  unfold eN jD rem eN;have hf:j<f.length:=by omega
  rw[getD_eq_getElem?_getD,getElem?_map,zip_get (getElem?_eq_getElem hj) (getElem?_eq_getElem hf),getD_eq_getElem?_getD,getElem?_eq_getElem hj,getElem?_eq_getElem hf];show((aj[j].filter fun b=>decide (b≠f[j])).contains b)=(aj[j].contains b&& !decide (some f[j]=some b));rw[Bool.eq_iff_iff,contains_iff_mem,mem_filter,and_eq_true,contains_iff_mem,decide_eq_true_eq,not_eq_true',decide_eq_false_iff_not];refine and_congr_right fun _=>⟨fun h q=>h (Option.some.inj q).symm,fun h q=>h (by rw[q])⟩
theorem Tw{aj:List (List Nat)}{f:List Nat}(hl:f.length=aj.length):(rem aj f).length=aj.length:=by unfold rem;rw[length_map,length_zip,hl,min_self]
theorem MR{aj:List (List Nat)}{k:Nat}{f:List Nat}(hl:f.length=aj.length):good aj k f=cA (rem aj f) k:=by rw[Bool.eq_iff_iff,wN,eL,Tw hl];exact forall_congr' fun i=>forall_congr' fun _=>by rw[LY fun j b hj=>ab3 hl j b hj]
theorem MO{aj:List (List Nat)}(bj:LsOk aj){k:Nat}{f:List Nat}(hf:f∈ji aj [])(h:good aj k f=true):cA aj (k+1)=true:=by
  obtain⟨hp,hn,_⟩:=i5.mp hf;have hlen:=aD hp;refine(eL aj (k+1)).mpr fun i hi=>?_;have h0:=wN.mp h i hi;have ze:∀(j b:Nat),f[j]? =some b->b∈aj.getD j []:=fun j b hj=>by obtain⟨w,hw,hb⟩:=aV hp hj;rw[getD_eq_getElem?_getD,hw];exact hb
  have split:∀b,TT aj.length (eN aj) i b=TT aj.length (jD aj f) i b+((bitsOf aj.length i).filter fun j=>decide (f[j]? =some b)).length:=fun b=>by unfold TT;exact o7 fun j _ hd=>contains_iff_mem.mpr (ze j b (of_decide_eq_true hd))
  have one:∀b,((bitsOf aj.length i).filter fun j=>decide (f[j]? =some b)).length<=1:=fun b=>by
    have nd:=List.Pairwise.filter (fun j=>decide (f[j]? =some b)) (Sm aj.length i);cases q:(bitsOf aj.length i).filter fun j=>decide (f[j]? =some b)with
    | nil=>simp
    | cons x l=>
      cases l with
      | nil=>simp
      | cons y l=>
        exfalso;rw[q]at nd;have hx:x∈(bitsOf aj.length i).filter fun j=>decide (f[j]? =some b):=by rw[q];exact mem_cons_self
        have hy:y∈(bitsOf aj.length i).filter fun j=>decide (f[j]? =some b):=by rw[q];exact mem_cons_of_mem _ mem_cons_self
        have ex:=of_decide_eq_true (mem_filter.mp hx).2;have ey:=of_decide_eq_true (mem_filter.mp hy).2;have:x=y:=(getElem?_inj (List.getElem?_eq_some_iff.mp ex).1 hn).mp (by rw[ex,ey]);exact(nodup_cons.mp nd).1 (this▸mem_cons_self)
  have tot:((List.range 7).map fun b=>((((bitsOf aj.length i).filter fun j=>decide (f[j]? =some b)).length:Nat):Int)).sum=((bitsOf aj.length i).length:Int):=by
    have e1:∀b∈List.range 7,((((bitsOf aj.length i).filter fun j=>decide (f[j]? =some b)).length:Nat):Int)=((bitsOf aj.length i).map fun j=>if decide (f[j]? =some b)=true then (1:Int) else 0).sum:=fun b _=>KN _ _;rw[dA e1,Y8];have e2:∀j∈bitsOf aj.length i,((List.range 7).map fun b=>if decide (f[j]? =some b)=true then (1:Int) else 0).sum=1:=fun j hj=>by
      have GZ:=(je.mp hj).1;have hjf:j<f.length:=by omega
      have h7:f[j]<7:=by have:=ze j f[j] (getElem?_eq_getElem hjf);rw[getD_eq_getElem?_getD,getElem?_eq_getElem GZ]at this;exact bj.b _ (getElem_mem GZ) _ this
      refine Eq.trans (dA fun b _=>?_) (xY 7 f[j] h7);rw[getElem?_eq_getElem hjf];by_cases e:b=f[j]
      . rw[if_pos e,if_pos (decide_eq_true (by rw[e]))]
      . rw[if_neg e,if_neg (fun q=>e (Option.some.inj (of_decide_eq_true q)).symm)]
    rw[dA e2];generalize bitsOf aj.length i=l;induction l with
    | nil=>rfl
    | cons a l ih=>rw[map_cons,sum_cons,ih,length_cons];omega
  unfold FF at h0 ⊢;have le:=vZ (l:=List.range 7) (f:=fun b=>((min k (TT aj.length (jD aj f) i b):Nat):Int)+((((bitsOf aj.length i).filter fun j=>decide (f[j]? =some b)).length:Nat):Int)) (g:=fun b=>((min (k+1) (TT aj.length (eN aj) i b):Nat):Int)) fun b _=>by have:=split b;have:=one b;omega
  rw[g0,tot]at le
  push_cast
  rw[add_mul];omega
theorem Xr(aj:List (List Nat))(j b:Nat):jD aj [] j b=eN aj j b:=by unfold jD;simp
theorem Gy{aj:List (List Nat)}(bj:LsOk aj){k:Nat}(hk:1<=k):VI aj k=(ji aj []).find? fun f=>cA (rem aj f) (k-1):=by
  have afY:∀k',((ji aj []).find? fun f=>cA (rem aj f) k')=(ji aj []).find? (good aj k'):=fun k'=>by
    have:∀l:List (List Nat),(∀f∈l,f.length=aj.length)->l.find? (fun f=>cA (rem aj f) k')=l.find? (good aj k'):=by
      intro l;induction l with
      | nil=>intro _;rfl
      | cons a l ih=>intro h;rw[find?_cons,find?_cons,ih fun f hf=>h f (mem_cons_of_mem _ hf),MR (h a mem_cons_self)]
    exact this _ fun f hf=>eW hf
  unfold VI;by_cases e:k=1
  . subst e;rw[if_pos rfl];cases q:ji aj []with
    | nil=>rfl
    | cons a l=>rw[find?_cons,A9];rfl
  . rw[if_neg e,afY];obtain⟨k',rfl⟩:∃k',k=k'+1:=⟨k-1,by omega⟩;rw[Nat.add_sub_cancel];by_cases he:cA aj (k'+1)=true
    . rw[if_pos he];have h0:=(eL aj k').mp (A8 he);have:=Iw bj k' aj.length [] (Wp aj (k':Int)) (by simp) (fun j b h=>by simp at h) (pU aj k') (fun i hi=>by rw[LF hi];exact LY fun j b _=>(Xr aj j b).symm) (fun i hi=>by rw[LF hi];exact h0 i hi);rw[this];show((ji aj []).map fun f=>[]++f).find? _=_;congr 1;simp
    . rw[if_neg he];symm;rw[find?_eq_none];intro f hf hg;exact he (MO bj hf hg)
end My
namespace My
open PySem PySem.Spec PyProof.Rows L2 HT
def lZ(due:List Nat)(i:Nat):List Nat:=(bitsOf due.length i).map fun j=>due.getD j 0
theorem ub{l:List Nat}{c i:Nat}(h:i<2^l.length):lZ (l++ [c]) i=lZ l i:=by unfold lZ;rw[length_append,length_singleton,wc h];refine map_congr_left fun j hj=>?_;have:=(je.mp hj).1;rw[getD_eq_getElem?_getD,getElem?_append_left this,getD_eq_getElem?_getD]
theorem ua{l:List Nat}{c i:Nat}(h:i<2^l.length):lZ (l++ [c]) (2^l.length+i)=lZ l i++ [c]:=by
  unfold lZ;rw[length_append,length_singleton,wb h,map_append,map_cons,map_nil];congr 1
  . refine map_congr_left fun j hj=>?_;have:=(je.mp hj).1;rw[getD_eq_getElem?_getD,getElem?_append_left this,getD_eq_getElem?_getD]
  . simp
theorem Om(due:List Nat):∀l:List Nat,l.Sublist due↔ ∃i,i<2^due.length/\l=lZ due i:=by
  induction due using mq with
  | nil=>
    intro l;rw[sublist_nil];constructor
    . rintro rfl;exact⟨0,by simp,rfl⟩
    . rintro⟨i,hi,rfl⟩;rfl
  | snoc due c ih=>
    intro l;rw[sub_snoc];have hlen:(due++ [c]).length=due.length+1:=by simp
    rw[hlen,pow_succ];constructor
    . rintro(h | ⟨y,rfl,h⟩)
      . obtain⟨i,hi,e⟩:=(ih l).mp h;exact⟨i,by omega,by rw[ub hi];exact e⟩
      . obtain⟨i,hi,e⟩:=(ih y).mp h;exact⟨2^due.length+i,by omega,by rw[ua hi,e]⟩
    . rintro⟨i,hi,rfl⟩;by_cases h:i<2^due.length
      . rw[ub h];exact .inl ((ih _).mpr ⟨i,h,rfl⟩)
      . have h2:i-2^due.length<2^due.length:=by omega
        have e:i=2^due.length+(i-2^due.length):=by omega
        rw[e,ua h2];exact .inr ⟨_,rfl,(ih _).mpr ⟨_,h2,rfl⟩⟩
theorem zV{s:Vbreai.State}{j:Nat}(h:j<s.due.length):(aO s).getD j []=boatsFor s (s.due.getD j 0):=by unfold aO;rw[getD_eq_getElem?_getD,getElem?_map,getD_eq_getElem?_getD,getElem?_eq_getElem h];rfl
theorem MF{s:Vbreai.State}{i b:Nat}(hb:b<s.boats):degree s (lZ s.due i) b=TT (aO s).length (eN (aO s)) i b:=by unfold degree lZ TT;rw[a7,List.filter_map,length_map];congr 1;refine filter_congr fun j hj=>?_;show mayHave s (s.due.getD j 0) b=eN (aO s) j b;unfold eN;rw[zV (je.mp hj).1,gs,decide_eq_true hb,Bool.true_and]
theorem Wv{s:Vbreai.State}{i b:Nat}(hb:¬b<s.boats):TT (aO s).length (eN (aO s)) i b=0:=by unfold TT;rw[length_eq_zero_iff,List.filter_eq_nil_iff];intro j hj h;unfold eN at h;rw[a7]at hj;rw[zV (je.mp hj).1,gs,decide_eq_false hb]at h;cases h
theorem aeV{n:Nat}(h:n<=7){f:Nat->Int}(h0:∀b,¬b<n->f b=0):((List.range n).map f).sum=((List.range 7).map f).sum:=by rw[<-sum_filter (l:=List.range 7) (p:=fun b=>decide (b<n)&&true) fun b _ hb=>h0 b (by simpa using hb),Ki h];congr 2;symm;exact List.filter_eq_self.mpr fun _ _=>rfl
theorem oF{s:Vbreai.State}(h7:s.boats<=7)(k:Nat):Vbreai.rest s k=cA (aO s) k:=by
  rw[Bool.eq_iff_iff,eL];unfold Vbreai.rest;rw[all_eq_true];have key:∀i,i<2^s.due.length->(decide (k*(lZ s.due i).length<=((List.range s.boats).map fun b=>min k (degree s (lZ s.due i) b)).foldl (fun a b=>a+b) 0)=true↔0<=FF (aO s).length (eN (aO s)) k i):=fun i hi=>by
    rw[decide_eq_true_eq,foldl_add,zero_add];unfold FF;have e1:(((((List.range s.boats).map fun b=>min k (degree s (lZ s.due i) b)).sum:Nat)):Int)=((List.range 7).map fun b=>((min k (TT (aO s).length (eN (aO s)) i b):Nat):Int)).sum:=by rw[sA];unfold az;rw[map_map,<-aeV h7 (f:=fun b=>((min k (TT (aO s).length (eN (aO s)) i b):Nat):Int)) fun b hb=>by rw[Wv hb];simp];refine dA fun b hb=>?_;show((min k (degree s (lZ s.due i) b):Nat):Int)=_;rw[MF (mem_range.mp hb)]
    have e2:(lZ s.due i).length=(bitsOf (aO s).length i).length:=by unfold lZ;rw[length_map,a7]
    rw[<-e1,e2];rw[show(k:Int)*((bitsOf (aO s).length i).length:Int)=((k*(bitsOf (aO s).length i).length:Nat):Int) by push_cast;rfl];omega
  constructor
  . intro h i hi;rw[a7]at hi;exact(key i hi).mp (h _ (cF.mpr ((Om s.due _).mpr ⟨i,hi,rfl⟩)))
  . intro h l hl;obtain⟨i,hi,rfl⟩:=(Om s.due l).mp (cF.mp hl);exact(key i hi).mpr (h i (by rw[a7];exact hi))
structure W0(s:Vbreai.State):Prop where
  b7:s.boats<=7
  nd:s.due.Nodup
  dl:s.due.length<=7
theorem Wf.w0{s:Vbreai.State}(W:Wf s):W0 s:=⟨W.b7,PY W,cR W⟩
theorem W0.ok{s:Vbreai.State}(W:W0 s):LsOk (aO s):=by
  refine⟨by rw[a7];exact W.dl,fun xs hx=>?_,fun xs hx=>?_⟩
  . obtain⟨c,_,rfl⟩:=mem_map.mp hx;exact AX s c
  . obtain⟨c,_,rfl⟩:=mem_map.mp hx;exact fun x hx=>lt_of_lt_of_le (cz hx) W.b7
theorem W0.behind{s:Vbreai.State}(W:W0 s)(f:Flight):W0 (Vbreai.behind s f):=⟨W.b7,W.nd,W.dl⟩
theorem LI{due bs:List Nat}(nd:due.Nodup){c t:Nat}(h:(c,t)∈due.zip bs)(b:Nat):(toF due bs).contains ⟨c,b⟩=decide (b=t):=by
  unfold toF;rw[Bool.eq_iff_iff,contains_iff_mem,decide_eq_true_eq];constructor
  . intro hm;obtain⟨⟨c',t'⟩,h1,h2⟩:=mem_map.mp hm;injection h2 with h2 h3;dsimp only at h2 h3;subst h2;obtain⟨i,hi⟩:=getElem?_of_mem h1;obtain⟨j,hj⟩:=getElem?_of_mem h;rw[List.getElem?_zip_eq_some]at hi hj;have hij:i=j:=(getElem?_inj (List.getElem?_eq_some_iff.mp hi.1).1 nd).mp (by rw[hi.1,hj.1]);rw[hij,hj.2]at hi;rw[<-h3];exact(Option.some.inj hi.2).symm
  . intro e;exact mem_map.mpr ⟨(c,t),h,by rw[e]⟩
theorem Pe(s:Vbreai.State)(f:Flight)(c b:Nat):mayHave (Vbreai.behind s f) c b=(mayHave s c b&& !f.contains ⟨c,b⟩):=by unfold mayHave Vbreai.behind;dsimp only;rw[all_cons];cases s.refused.contains ⟨c,b⟩<;>cases s.out.contains b<;>cases f.contains ⟨c,b⟩<;>simp
theorem Bp{s:Vbreai.State}(W:W0 s){bs:List Nat}(hl:bs.length=s.due.length):aO (Vbreai.behind s (toF s.due bs))=rem (aO s) bs:=by
  have e1:rem (aO s) bs=(s.due.zip bs).map fun x=>(boatsFor s x.1).filter fun b=>decide (b≠x.2):=by unfold rem aO;rw[List.zip_map_left,map_map];rfl
  have e2:aO (Vbreai.behind s (toF s.due bs))=(s.due.zip bs).map fun x=>boatsFor (Vbreai.behind s (toF s.due bs)) x.1:=by
    have:s.due=(s.due.zip bs).map Prod.fst:=(map_fst_zip (by omega)).symm;unfold aO;show s.due.map (boatsFor (Vbreai.behind s (toF s.due bs)))=_;generalize boatsFor (Vbreai.behind s (toF s.due bs))=g;conv=>lhs;rw[this]
    rw[map_map];rfl
  rw[e1,e2];refine map_congr_left fun x hx=>?_;unfold boatsFor;rw[List.filter_filter];refine filter_congr fun b _=>?_;rw[Pe,LI W.nd hx,Bool.and_comm];congr 1;simp
theorem MM{α β:Type}(p:β->Bool)(f:α->β):∀l:List α,(l.map f).find? p=(l.find? fun a=>p (f a)).map f
  | []=>rfl
  | a::l=>by rw[map_cons,find?_cons,find?_cons,MM p f l];cases p (f a)<;>rfl
theorem ER{α:Type}{p q:α->Bool}:∀{l:List α},(∀a∈l,p a=q a)->l.find? p=l.find? q
  | [],_=>rfl
  | a::l,h=>by rw[find?_cons,find?_cons,h a mem_cons_self,ER fun b hb=>h b (mem_cons_of_mem _ hb)]
theorem Jk{s:Vbreai.State}(W:W0 s){k:Nat}(hk:1<=k):Vbreai.safe s k=(VI (aO s) k).map (toF s.due):=by
  unfold Vbreai.safe;rw[eM,MM,Gy W.ok hk];congr 1;refine ER fun bs Wk=>?_;have hl:bs.length=s.due.length:=by rw[eW Wk,a7]
  rw[oF (W.behind _).b7,Bp W hl]
theorem Ae:∀(k:Nat) {s:Vbreai.State},W0 s->Vbreai.plan s k=(qj k (aO s)).map fun l=>l.map (toF s.due)
  | 0,s,W=>rfl
  | k+1,s,W=>by
    show(match Vbreai.safe s (k+1)with | none=>none | some f=>(Vbreai.plan (Vbreai.behind s f) k).map fun l=>f::l)=_;rw[Jk W (by omega)];show _=(match VI (aO s) (k+1)with | none=>none | some f=>(qj k (rem (aO s) f)).map fun l=>f::l).map _;cases q:VI (aO s) (k+1)with
    | none=>rfl
    | some bs=>
      have Wk:bs∈ji (aO s) []:=by rw[Gy W.ok (by omega)]at q;exact List.mem_of_find?_eq_some q
      have hl:bs.length=s.due.length:=by rw[eW Wk,a7]
      show(Vbreai.plan (Vbreai.behind s (toF s.due bs)) k).map _=_;rw[Ae k (W.behind _),Bp W hl];dsimp only;rw[Option.map_map,Option.map_map];rfl
theorem Tz{aj:List (List Nat)}(bj:LsOk aj){k:Nat}(hk:1<=k){bs:List Nat}(h:VI aj k=some bs):bs.length=aj.length:=by rw[Gy bj hk]at h;exact eW (List.mem_of_find?_eq_some h)
theorem Ad:∀(k:Nat) {aj:List (List Nat)} {l:List (List Nat)},LsOk aj->qj k aj=some l->l.length=k/\∀f∈l,f.length=aj.length
  | 0,aj,l,_,h=>by have:l=[]:=(Option.some.inj h).symm;subst this;exact⟨rfl,fun f hf=>by cases hf⟩
  | k+1,aj,l,bj,h=>by
    have h:(match VI aj (k+1)with | none=>none | some f=>(qj k (rem aj f)).map fun l=>f::l)=some l:=h;cases q:VI aj (k+1)with
    | none=>rw[q]at h;cases h
    | some f=>
      rw[q]at h;obtain⟨l',h1,rfl⟩:=Option.map_eq_some_iff.mp h;obtain⟨i1,i2⟩:=Ad k (YF bj f) h1;have hf:=Tz bj (by omega) q;refine⟨by rw[length_cons,i1],fun g hg=>?_⟩;rcases mem_cons.mp hg with rfl | hg
      . exact hf
      . rw[i2 g hg,Tw hf]
theorem UA{aj:List (List Nat)}{k j:Nat}(h:cA aj k=true)(hj:j<=k):cA aj j=true:=by
  induction k with
  | zero=>
    have:j=0:=by omega
    subst this;exact h
  | succ k ih=>
    by_cases e:j=k+1
    . subst e;exact h
    . exact ih (A8 h) (by omega)
theorem J5{s:Vbreai.State}(h7:s.boats<=7)(eZ:s.due≠ []){k:Nat}(h:cA (aO s) k=true):k<=s.boats:=by
  have hn:0<(aO s).length:=by rw[a7];exact List.length_pos_iff.mpr eZ
  have h1:1<2^(aO s).length:=Nat.one_lt_two_pow (by omega);have h0:=(eL _ _).mp h 1 h1;have hb:bitsOf (aO s).length 1=[0]:=by
    refine zI (mO (xi (List.Pairwise.filter _ pairwise_lt_range)) (by unfold az;simp) fun x=>?_);unfold az;rw[mem_map,mem_map];refine exists_congr fun y=>and_congr_left fun _=>?_;rw[je,mem_singleton];constructor
    . rintro⟨_,h⟩;have:(1:Nat)=2^0:=rfl;rw[this,Nat.testBit_two_pow,decide_eq_true_eq]at h;exact h.symm
    . rintro rfl;exact⟨hn,rfl⟩
  unfold FF at h0;rw[hb]at h0;have le:=vZ (l:=List.range 7) (f:=fun b=>((min k (TT (aO s).length (eN (aO s)) 1 b):Nat):Int)) (g:=fun b=>if decide (b<s.boats)=true then (1:Int) else 0) fun b _=>by
    by_cases e:b<s.boats
    . rw[if_pos (decide_eq_true e)];have:TT (aO s).length (eN (aO s)) 1 b<=1:=by unfold TT;rw[hb];exact length_filter_le _ _
      omega
    . rw[Wv e,if_neg (by simpa using e)];omega
  have e3:((List.range 7).map fun b=>if decide (b<s.boats)=true then (1:Int) else 0).sum=s.boats:=by
    rw[<-KN];have:(List.range 7).filter (fun b=>decide (b<s.boats))=List.range s.boats:=by have:=Ki h7 (fun _=>true);simp only[Bool.and_true]at this;rw[this];exact List.filter_eq_self.mpr fun _ _=>rfl
    rw[this,length_range]
  rw[e3]at le;simp only[length_singleton]at h0;omega
theorem Va{s:Vbreai.State}(W:W0 s):(aO s=[]->Vbreai.most s=0)/\(aO s≠ []->Vbreai.most s<=900/\(∀j,j<Vbreai.most s->cA (aO s) (j+1)=true)/\cA (aO s) (Vbreai.most s+1)=false):=by
  have MY:aO s=[]↔s.due=[]:=by unfold aO;exact List.map_eq_nil_iff
  constructor
  . intro h;unfold Vbreai.most;rw[if_pos (by rw[MY.mp h];rfl)]
  . intro h;have hd:s.due≠ []:=fun q=>h (MY.mpr q);have hm:Vbreai.most s=greatest ((List.range (s.boats+1)).filter (Vbreai.rest s)):=by unfold Vbreai.most;rw[if_neg (by simpa using hd)]
    obtain⟨_,g2,g3⟩:=eX ((List.range (s.boats+1)).filter (Vbreai.rest s)) 0;have mz:greatest ((List.range (s.boats+1)).filter (Vbreai.rest s))∈(List.range (s.boats+1)).filter (Vbreai.rest s):=by
      rcases g3 with e | e
      . unfold greatest;rw[e];exact mem_filter.mpr ⟨mem_range.mpr (by omega),by rw[oF W.b7];exact A9 _⟩
      . exact e
    obtain⟨m1,m2⟩:=mem_filter.mp mz;have m1:=mem_range.mp m1;rw[oF W.b7]at m2;have:=W.b7;rw[hm];refine⟨by omega,fun j hj=>UA m2 (by omega),?_⟩;cases q:cA (aO s) (greatest ((List.range (s.boats+1)).filter (Vbreai.rest s))+1)with
    | false=>rfl
    | true=>exfalso;have hb:=J5 W.b7 hd q;have:=g2 (greatest ((List.range (s.boats+1)).filter (Vbreai.rest s))+1) (mem_filter.mpr ⟨mem_range.mpr (by omega),by rw[oF W.b7];exact q⟩);have e:greatest ((List.range (s.boats+1)).filter (Vbreai.rest s))=((List.range (s.boats+1)).filter (Vbreai.rest s)).foldl max 0:=rfl;omega
end My
namespace My
open PySem PySem.Spec PyProof.Rows L2 HT
section
variable{P:Program}{w:World}{K:Frag}{mg:Str->Option Value}{base:Heap}
theorem AL(s:Vbreai.State)(k:Int):Vbreai.step s (.rest k)=if inside k 0 20=false then Vbreai.no s (-2) else (s,[if Vbreai.rest s k.toNat=true then 1 else 0]):=rfl
theorem AM(s:Vbreai.State)(k:Int):Vbreai.step s (.safe k)=if inside k 1 20=false then Vbreai.no s (-2) else orNone s (Vbreai.safe s k.toNat) boatsIn:=rfl
theorem AK(s:Vbreai.State)(k:Int):Vbreai.step s (.plan k)=if inside k 1 20=false then Vbreai.no s (-2) else match Vbreai.plan s k.toNat with
      | none=>Vbreai.no s (-7)
      | some l=>(s,counted boatsIn l):=rfl
theorem abA(T:Txt K mg):ay P w K mg base bo 5 T.uJ.f T.uJ.fd ["fleet","numbers"] (cQ T.ah (mk1 .rest)):=by
  have aR:ay P w K mg base bo 3 _ _ _ _:=bA T;have OP:ay P w K mg base bo 4 _ _ _ _:=NI T;refine T.uJ.F.ok ab8 (fun vs H Q E h=>?_) (fun bP A outer s H vs Q E hr h=>?_)
  . obtain⟨p,A,s,l,nums,c,rfl,_⟩:=h;rfl
  . obtain⟨p,A',st,l,nums,cl,rfl,F,W,hl,B5,kc,hn,k⟩:=h;obtain⟨z,rfl,rfl⟩:=KQ kc;refine⟨_,(ag (bW (dy (l9 gT gT aE (a9 aW (pv 1) aE (fun _ _=>rfl)) (a0 T.oU))) (ai (aq (aS (aa (a0 T.dm) ab)))) aZ) (ai (aq (aS (aa (xE (fU (aH OP (hr.mono (by decide)) rfl T.il.g T.il.F.kp T.il.b .nil aI (aa (gU (pv 0) T.ao T.aF.m aR (hr.mono (by decide)) T.aF.b .nil aI) (aa (a9 aW (pv 1) aE (fun _ _=>rfl)) ab)))) aE aE) ab))))),?_⟩;have aG:=AL st z;refine⟨_,rfl,l,_,_,_,rfl,rfl,aN.of hl,rfl,jb ⟨_,rfl,lz (fun hi=>?_) fun hi=>?_⟩⟩
    . rw[if_pos hi]at aG;exact(k.ro F aG).ret (by simp)
    . rw[if_neg (by rw[hi];decide)]at aG;obtain⟨n,rfl,hn1,hn2⟩:=cM hi (by omega);rw[toNat_natCast,oF W.b7]at aG;refine⟨_,rfl,p,_,_,rfl,F.ins,rfl,p,A',st,rfl,F,W,fun D1 H1 hD1 s1 h1=>?_⟩;refine⟨_,rfl,l,_,_,_,rfl,rfl,aN.of (s1 _ _ hl),rfl,D1,aO st,n,rfl,h1,dP W,by omega,fun H2 s2=>⟨_,rfl,?_⟩⟩;have tx:=s1.trans s2;refine XO (fun he=>?_) fun he=>?_
      . rw[if_pos he]at aG;exact((k.ro F aG).mono tx).ret (by simp)
      . rw[if_neg (by rw[he];decide)]at aG;exact((k.ro F aG).mono tx).ret (by simp)
theorem aby(T:Txt K mg):ay P w K mg base bo 5 T.uH.f T.uH.fd ["fleet","numbers"] (cQ T.ah (LU .most)):=by
  have aR:ay P w K mg base bo 3 _ _ _ _:=bA T;have DA:ay P w K mg base bo 4 _ _ _ _:=CB T;refine T.uH.F.ok ab7 (fun vs H Q E h=>?_) (fun bP A outer s H vs Q E hr h=>?_)
  . obtain⟨p,A,s,l,nums,c,rfl,_⟩:=h;rfl
  . obtain⟨p,A',st,l,nums,cl,rfl,F,W,hl,B5,kc,hn,k⟩:=h;have nR:cl=.most:=(Option.some.inj kc).symm;subst nR;refine⟨_,(ai (aq (aS (aa (aH DA (hr.mono (by decide)) rfl T.dq.g T.dq.F.kp T.dq.b .nil aI (aa (gU (pv 0) T.ao T.aF.m aR (hr.mono (by decide)) T.aF.b .nil aI) ab)) ab)))),?_⟩;have aG:Vbreai.step st .most=(st,[(Vbreai.most st:Int)]):=rfl;obtain⟨m1,m2⟩:=Va W.w0;refine⟨_,rfl,p,_,_,rfl,F.ins,rfl,p,A',st,rfl,F,W,fun D1 H1 hD1 s1 h1=>?_⟩;exact⟨D1,aO st,Vbreai.most st,rfl,h1,dP W,m1,m2,fun H2 s2=>((k.ro F aG).mono (s1.trans s2)).ret (by simp)⟩
theorem abB(T:Txt K mg):ay P w K mg base bo 12 T.uK.f T.uK.fd ["fleet","numbers"] (cQ T.ah (mk1 .safe)):=by
  have aR:ay P w K mg base bo 3 _ _ _ _:=bA T;have fg:ay P w K mg base bo 11 _ _ _ _:=jf T;have jj:ay P w K mg base bo 2 _ _ _ _:=oB T;refine T.uK.F.ok ab9 (fun vs H Q E h=>?_) (fun bP A outer s H vs Q E hr h=>?_)
  . obtain⟨p,A,s,l,nums,c,rfl,_⟩:=h;rfl
  . obtain⟨p,A',st,l,nums,cl,rfl,F,W,hl,B5,kc,hn,k⟩:=h;obtain⟨z,rfl,rfl⟩:=KQ kc;refine⟨_,(ag (bW (dy (l9 gT gT aE (a9 aW (pv 1) aE (fun _ _=>rfl)) (a0 T.oU))) (ai (aq (aS (aa (a0 T.dm) ab)))) aZ) (ai (aq (aH jj (hr.mono (by decide)) rfl T.bR.g T.bR.F.kp T.bR.b .nil aI (aa (aH fg (hr.mono (by decide)) rfl T.bq.g T.bq.F.kp T.bq.b .nil aI (aa (gU (pv 0) T.ao T.aF.m aR (hr.mono (by decide)) T.aF.b .nil aI) (aa (a9 aW (pv 1) aE (fun _ _=>rfl)) ab))) ab))))),?_⟩;have aG:=AM st z;refine⟨_,rfl,l,_,_,_,rfl,rfl,aN.of hl,rfl,jb ⟨_,rfl,lz (fun hi=>?_) fun hi=>?_⟩⟩
    . rw[if_pos hi]at aG;exact(k.ro F aG).ret (by simp)
    . rw[if_neg (by rw[hi];decide)]at aG;obtain⟨n,rfl,hn1,hn2⟩:=cM hi (by omega);have aaB:1<=n:=by omega
      rw[toNat_natCast,d5,Jk W.w0 aaB]at aG;have k:=k.ro F aG;refine⟨_,rfl,p,_,_,rfl,F.ins,rfl,p,A',st,rfl,F,W,fun D1 H1 hD1 s1 h1=>?_⟩;refine⟨_,rfl,l,_,_,_,rfl,rfl,aN.of (s1 _ _ hl),rfl,D1,aO st,n,rfl,h1,dP W,aaB,by omega,fun LQ H2 s2=>?_,fun bs Wk x H2 hx s2 e2=>?_⟩
      . rw[LQ]at k;exact .inl ⟨rfl,k.mono (s1.trans s2)⟩
      . rw[Wk]at k;have hlen:=Tz (dP W) aaB Wk;have:=(dP W).l;have k:bL H Q (cnt (az bs)):=by have e3:boatsIn (toF st.due bs)=cnt (az bs):=i8 (by rw[hlen,a7]);rw[<-e3];exact k
        exact .inr ⟨x,az bs,rfl,by rw[<-br];exact e2,by rw[dw];omega,k.mono (s1.trans s2)⟩
def xF(fs:List (List Nat)):List Int:=fs.flatMap fun bs=>cnt (az bs)
theorem Je:∀(fs:List (List Nat)),(∀f∈fs,f.length<=7)->(xF fs).length<=8*fs.length
  | [],_=>by simp[xF]
  | f::fs,h=>by have:=Je fs fun g hg=>h g (mem_cons_of_mem _ hg);have h7:=h f mem_cons_self;unfold xF at this ⊢;rw[flatMap_cons,length_append,length_cons,oX,dw];omega
theorem xG{due:List Nat}:∀{fs:List (List Nat)},(∀f∈fs,f.length=due.length)->(fs.map (toF due)).flatMap boatsIn=xF fs
  | [],_=>rfl
  | f::fs,h=>by unfold xF;rw[map_cons,flatMap_cons,flatMap_cons,i8 (h f mem_cons_self),xG fun g hg=>h g (mem_cons_of_mem _ hg)];rfl
theorem abz(T:Txt K mg):ay P w K mg base bo 13 T.uI.f T.uI.fd ["fleet","numbers"] (cQ T.ah (mk1 .plan)):=by
  have aR:ay P w K mg base bo 3 _ _ _ _:=bA T;have TZ:ay P w K mg base bo 12 _ _ _ _:=Rg T;have dk:ay P w K mg base bo 1 _ _ _ _:=lV T;refine T.uI.F.ok Ds (fun vs H Q E h=>?_) (fun bP A outer s H vs Q E hr h=>?_)
  . obtain⟨p,A,s,l,nums,c,rfl,_⟩:=h;rfl
  . obtain⟨p,A',st,l,nums,cl,rfl,F,W,hl,B5,kc,hn,k⟩:=h;obtain⟨z,rfl,rfl⟩:=KQ kc;refine⟨_,(ag (bW (dy (l9 gT gT aE (a9 aW (pv 1) aE (fun _ _=>rfl)) (a0 T.oU))) (ai (aq (aS (aa (a0 T.dm) ab)))) aZ) (ag (aY (i:=2) (Ds.nd) rfl (Or.inl rfl) (aH TZ (hr.mono (by decide)) rfl T.j9.g T.j9.F.kp T.j9.b .nil aI (aa (gU (pv 0) T.ao T.aF.m aR (hr.mono (by decide)) T.aF.b .nil aI) (aa (a9 aW (pv 1) aE (fun _ _=>rfl)) ab)))) (ag (bW (jR (vF (pv 2))) (ai (aq (aS (aa (a0 T.mB) ab)))) aZ) (ag (aY (i:=3) (Ds.nd) rfl (Or.inl rfl) (aS (aa (aJ aP rfl T.cC b9 (aa (pv 2) ab)) ab))) (ag (dQ PassesOwn.never rfl (ba (pv 2)) (aC (i:=4) (Ds.nd) (by rfl) (by exact Or.inl rfl)) (ai (eE (xC PySem.F.plainAttrs_list PySem.F.slot_list_extend PySem.F.type_list_extend tp (pv 3) (aa (aH dk (hr.mono (by decide)) rfl T.bh.g T.bh.F.kp T.bh.b .nil aI (aa (pv 4) ab)) ab))))) (ai (aq (pv 3)))))))),?_⟩;have aG:=AK st z;refine⟨_,rfl,l,_,_,_,rfl,rfl,aN.of hl,rfl,jb ⟨_,rfl,lz (fun hi=>?_) fun hi=>?_⟩⟩
    . rw[if_pos hi]at aG;exact(k.ro F aG).ret (by simp)
    . rw[if_neg (by rw[hi];decide)]at aG;obtain⟨n,rfl,hn1,hn2⟩:=cM hi (by omega);have aaB:1<=n:=by omega
      rw[toNat_natCast,Ae n W.w0]at aG;refine⟨_,rfl,p,_,_,rfl,F.ins,rfl,p,A',st,rfl,F,W,fun D1 H1 hD1 s1 h1=>?_⟩;refine⟨_,rfl,l,_,_,_,rfl,rfl,aN.of (s1 _ _ hl),rfl,D1,aO st,n,rfl,h1,dP W,by omega,fun LQ H2 s2=>?_,fun Tr af9 D2 H2 v4 s2 hls=>?_⟩
      . rw[LQ]at aG;exact⟨_,rfl,_,rfl,cx (((k.ro F aG).mono (s1.trans s2)).ret (by simp))⟩
      . obtain⟨pl1,pl2⟩:=Ad n (dP W) af9;have Qh:Vbreai.step st (.plan n)=(st,(n:Int)::xF Tr):=by rw[aG,af9];show(st,counted boatsIn (Tr.map (toF st.due)))=_;unfold counted;rw[length_map,pl1,xG fun f hf=>by rw[pl2 f hf,a7]]
        have k:=k.ro F Qh;have h7:∀f∈Tr,f.length<=7:=fun f hf=>by rw[pl2 f hf];exact(dP W).l
        obtain⟨qs,ha,XE⟩:=hls;have hql:=aD XE;refine⟨_,rfl,_,rfl,cU ⟨_,rfl,D2,_,rfl,.inl (aN.of ha),sz (by simp),fun D hD=>?_⟩⟩;have s3:=ak (o:=.lst [.int ((qs.map V.ref).length:Nat)]) hD;have tx:=s1.trans s2;have EZ:=tx.free hD;refine⟨_,rfl,D2,rfl,⟨_,aN.of (s3 _ _ ha)⟩,?_⟩;refine oo (xs:=qs.map V.ref) (fun i σ H3=>∃m4,σ=[some (.ref p),some (.ref l),some (.ref D2),some (.ref D),m4]/\aA H2 H3/\H3 D=some (.lst (((n:Int)::xF (Tr.take i)).map V.int))) ⟨none,rfl,s3,by rw[ae,length_map,hql,pl1];rfl⟩ (fun _ _ _ ⟨_,_,s,_⟩=>aN.of (s _ _ ha)) ?_ ?_
        . rintro i x σ H3 hx ⟨m4,rfl,s4,hd⟩;obtain⟨q,hq,rfl⟩:=cq hx;obtain⟨bs,Wk,hqb⟩:=aV XE hq;have Zx:=h7 bs (mem_of_getElem? Wk);have l1:(xF (Tr.take i)).length<=8*(Tr.take i).length:=Je _ fun g hg=>h7 g (mem_of_mem_take hg);have l2:(Tr.take i).length<=Tr.length:=length_take_le' _ _;refine⟨_,rfl,.inl ⟨rfl,_,aN.of hd⟩,_,rfl,q,az bs,rfl,by rw[<-br];exact s4 _ _ hqb,by rw[dw];omega,fun B H4 hB s5 eB=>?_⟩;refine⟨D,B,_,_,rfl,rfl,s5 _ _ hd,eB,sz (by rw[length_map,length_map,length_cons,oX,dw];omega),?_⟩;refine⟨_,rfl,bv (s4.trans s5) hD,?_⟩;rw[ae,take_snoc Wk];unfold xF;rw[List.flatMap_append];simp
        . rintro σ H3 ⟨m4,rfl,s4,hd⟩;refine⟨_,rfl,?_⟩;rw[length_map,hql,take_length]at hd;exact k D H3 EZ (tx.trans s4) hd
end
end My
namespace My
open PySem PySem.Spec PyProof.Rows L2 HT
section
variable(aj:List (List Nat))(cst:Nat->Nat->Int)(f:List Nat)
def Hq:List Nat->Nat->Prop
  | [],_=>True
  | i::r,b=>i<aj.length/\b∈aj.getD i []/\Hq r (f.getD i 0)
def wsum:List Nat->Nat->Int
  | [],_=>0
  | i::r,b=>cst i (f.getD i 0)-cst i b+wsum r (f.getD i 0)
def qV:List Nat->Nat->Nat
  | [],b=>b
  | i::r,_=>qV r (f.getD i 0)
def mv:List Nat->Nat->List Nat
  | [],_=>f
  | i::r,b=>(mv r (f.getD i 0)).set i b
def eC(n:Nat)(g:List Nat):Int:=((List.range n).map fun j=>cst j (g.getD j 0)).sum
end
section
variable{aj:List (List Nat)}{cst:Nat->Nat->Int}{f:List Nat}
theorem MI:∀(a c:List Nat) (b:Nat),qV f (a++c) b=qV f c (qV f a b)
  | [],_,_=>rfl
  | i::a,c,b=>MI a c _
theorem oI:∀(a c:List Nat) (b:Nat),wsum cst f (a++c) b=wsum cst f a b+wsum cst f c (qV f a b)
  | [],c,b=>by show _=0+wsum cst f c b;rw[Int.zero_add];rfl
  | i::a,c,b=>by show _+wsum cst f (a++c) _=_+wsum cst f a _+wsum cst f c (qV f a _);rw[oI a c];omega
theorem sV:∀(a c:List Nat) (b:Nat),Hq aj f (a++c) b↔Hq aj f a b/\Hq aj f c (qV f a b)
  | [],c,b=>⟨fun h=>⟨trivial,h⟩,fun h=>h.2⟩
  | i::a,c,b=>by show(_/\_/\Hq aj f (a++c) _)↔(_/\_/\Hq aj f a _)/\Hq aj f c (qV f a _);rw[sV a c];exact⟨fun⟨a,b,c,d⟩=>⟨⟨a,b,c⟩,d⟩,fun⟨⟨a,b,c⟩,d⟩=>⟨a,b,c,d⟩⟩
theorem Iz:∀{r:List Nat},¬r.Nodup->∃u i v w,r=u++i::(v++i::w)/\(v++ [i]).Nodup
  | [],h=>absurd nodup_nil h
  | x::r,h=>by
    by_cases hr:r.Nodup
    . have hx:x∈r:=Decidable.byContradiction fun z=>h (nodup_cons.mpr ⟨z,hr⟩);obtain⟨v,w,e,hv⟩:=List.eq_append_cons_of_mem hx;refine⟨[],x,v,w,by rw[e];rfl,?_⟩;rw[nodup_append];have:v.Nodup:=by rw[e]at hr;exact(nodup_append.mp hr).1
      refine⟨this,nodup_cons.mpr ⟨not_mem_nil,nodup_nil⟩,fun a ha b hb q=>?_⟩;rw[mem_singleton]at hb;exact hv (hb▸q▸ha)
    . obtain⟨u,i,v,w,e,n⟩:=Iz hr;exact⟨x::u,i,v,w,by rw[e];rfl,n⟩
theorem sr(cyc:∀(r:List Nat) (b:Nat),r.Nodup->Hq aj f r b->qV f r b=b->wsum cst f r b<=0):∀(n:Nat) (r:List Nat) (b:Nat),r.length=n->Hq aj f r b->∃r',Hq aj f r' b/\r'.Nodup/\wsum cst f r b<=wsum cst f r' b:=by
  intro n;induction n using Nat.strongRecOn with
  | _ n ih=>
    intro r b hn hr;by_cases h:r.Nodup
    . exact⟨r,hr,h,Int.le_refl _⟩
    . obtain⟨u,i,v,w,e,nd⟩:=Iz h;have e1:r=u++([i]++((v++ [i])++w)):=by rw[e];simp
      rw[e1]at hr;obtain⟨h1,h2⟩:=(sV _ _ _).mp hr;obtain⟨h3,h4⟩:=(sV _ _ _).mp h2;obtain⟨h5,h6⟩:=(sV _ _ _).mp h4;have E2:qV f [i] (qV f u b)=f.getD i 0:=rfl;have Xw:qV f (v++ [i]) (f.getD i 0)=f.getD i 0:=by rw[MI];rfl
      rw[E2]at h5 h6;rw[Xw]at h6;have hc:=cyc (v++ [i]) (f.getD i 0) nd h5 Xw;have hr2:Hq aj f (u++([i]++w)) b:=(sV _ _ _).mpr ⟨h1,(sV _ _ _).mpr ⟨h3,h6⟩⟩;obtain⟨r',a1,a2,a3⟩:=ih (u++([i]++w)).length (by rw[<-hn,e1];simp;omega) _ b rfl hr2;refine⟨r',a1,a2,?_⟩;have s1:wsum cst f r b=wsum cst f (u++([i]++w)) b+wsum cst f (v++ [i]) (f.getD i 0):=by have a1:=oI (cst:=cst) (f:=f) u ([i]++((v++ [i])++w)) b;have a2:=oI (cst:=cst) (f:=f) [i] ((v++ [i])++w) (qV f u b);have a3:=oI (cst:=cst) (f:=f) (v++ [i]) w (f.getD i 0);have b1:=oI (cst:=cst) (f:=f) u ([i]++w) b;have b2:=oI (cst:=cst) (f:=f) [i] w (qV f u b);rw[E2]at a2 b2;rw[Xw]at a3;rw[e1];omega
      omega
theorem KS:∀(r:List Nat) (b:Nat),(mv f r b).length=f.length
  | [],_=>rfl
  | i::r,b=>by show((mv f r _).set i b).length=_;rw[length_set,KS r]
theorem rj{α:Type}(l:List α)(i j:Nat)(v d:α):(l.set i v).getD j d=if j=i/\i<l.length then v else l.getD j d:=by
  rw[getD_eq_getElem?_getD,getElem?_set,getD_eq_getElem?_getD];by_cases e:i=j
  . subst e;rw[if_pos rfl];by_cases h:i<l.length
    . rw[if_pos h,if_pos ⟨rfl,h⟩];rfl
    . rw[if_neg h,if_neg (fun q=>h q.2),getElem?_eq_none (by omega)]
  . rw[if_neg e,if_neg (fun q=>e q.1.symm)]
theorem FL:∀(r:List Nat) (b j:Nat),j∉r->(mv f r b).getD j 0=f.getD j 0
  | [],_,_,_=>rfl
  | i::r,b,j,h=>by show((mv f r _).set i b).getD j 0=_;rw[rj,if_neg (fun(q:j=i/\i<(mv f r (f.getD i 0)).length)=>h (by rw[q.1];exact mem_cons_self)),FL r _ j fun m=>h (mem_cons_of_mem _ m)]
theorem ac0(hf:∀j,j<aj.length->f.getD j 0∈aj.getD j [])(hl:f.length=aj.length):∀(r:List Nat) (b:Nat),Hq aj f r b->∀j,j<aj.length->(mv f r b).getD j 0∈aj.getD j []
  | [],_,_,j,hj=>hf j hj
  | i::r,b,h,j,hj=>by
    show((mv f r _).set i b).getD j 0∈_;rw[rj];by_cases e:j=i/\i<(mv f r (f.getD i 0)).length
    . rw[if_pos e,e.1];exact h.2.1
    . rw[if_neg e];exact ac0 hf hl r _ h.2.2 j hj
theorem Uh{n i b:Nat}{g:List Nat}(hi:i<n)(hl:i<g.length):eC cst n (g.set i b)=eC cst n g-cst i (g.getD i 0)+cst i b:=by
  unfold eC;have:∀j∈List.range n,cst j ((g.set i b).getD j 0)=cst j (g.getD j 0)+(cst i b-cst i (g.getD i 0))*(if j=i then 1 else 0):=fun j _=>by
    rw[rj];by_cases e:j=i
    . subst e;rw[if_pos ⟨rfl,hl⟩,if_pos rfl];omega
    . rw[if_neg (fun q=>e q.1),if_neg e];omega
  rw[dA this,g0,mr,xY n i hi];omega
theorem Dm(hl:f.length=aj.length):∀(r:List Nat) (b:Nat),r.Nodup->Hq aj f r b->eC cst aj.length (mv f r b)=eC cst aj.length f-wsum cst f r b
  | [],_,_,_=>by show eC cst _ f=_-0;omega
  | i::r,b,nd,h=>by obtain⟨h1,h2⟩:=nodup_cons.mp nd;show eC cst _ ((mv f r _).set i b)=_-(cst i (f.getD i 0)-cst i b+wsum cst f r _);rw[Uh h.1 (by rw[KS,hl];exact h.1),FL r _ i h1,Dm hl r _ h2 h.2.2];omega
theorem Ep{g:List Nat}{i b x:Nat}(hi:i<g.length):(g.set i b).count x+(if g.getD i 0=x then 1 else 0)=g.count x+(if b=x then 1 else 0):=by
  induction g generalizing i with
  | nil=>exact absurd hi (Nat.not_lt_zero _)
  | cons a g ih=>
    cases i with
    | zero=>show(b::g).count x+(if a=x then 1 else 0)=_;rw[count_cons,count_cons];by_cases e1:a=x<;>by_cases e2:b=x<;>simp[e1,e2]
    | succ i=>show(a::g.set i b).count x+(if g.getD i 0=x then 1 else 0)=_;have:=ih (i:=i) (by simpa using hi);rw[count_cons,count_cons];omega
theorem xh(hl:f.length=aj.length):∀(r:List Nat) (b x:Nat),r.Nodup->Hq aj f r b->(mv f r b).count x+(if qV f r b=x then 1 else 0)=f.count x+(if b=x then 1 else 0)
  | [],b,x,_,_=>rfl
  | i::r,b,x,nd,h=>by obtain⟨h1,h2⟩:=nodup_cons.mp nd;have a:=xh hl r (f.getD i 0) x h2 h.2.2;have c:=Ep (g:=mv f r (f.getD i 0)) (i:=i) (b:=b) (x:=x) (by rw[KS,hl];exact h.1);rw[FL r _ i h1]at c;show((mv f r _).set i b).count x+(if qV f r _=x then 1 else 0)=_;omega
end
theorem mK{l:List Nat}(h:∀x,l.count x<=1):l.Nodup:=List.nodup_iff_count.mpr h
theorem jc{l:List Nat}(h:l.Nodup)(x:Nat):l.count x<=1:=List.nodup_iff_count.mp h x
def Wt(aj:List (List Nat))(g:List Nat):Prop:=g.length=aj.length/\∀j,j<aj.length->g.getD j 0∈aj.getD j []
theorem Di{aj:List (List Nat)}{g:List Nat}(h:Wt aj g)(nd:g.Nodup):g∈ji aj []:=by refine i5.mpr ⟨z8 h.1 fun i a w ha hw=>?_,nd,fun _ _=>not_mem_nil⟩;have:=h.2 i (List.getElem?_eq_some_iff.mp hw).1;rw[getD_eq_getElem?_getD,getD_eq_getElem?_getD,ha,hw]at this;exact this
theorem Df{aj:List (List Nat)}{g u:List Nat}(h:g∈ji aj u):Wt aj g:=by obtain⟨hp,_,_⟩:=i5.mp h;have hl:=aD hp;refine⟨hl,fun j hj=>?_⟩;obtain⟨w,hw,hb⟩:=aV hp (getElem?_eq_getElem (by omega:j<g.length));rw[getD_eq_getElem?_getD,getD_eq_getElem?_getD,getElem?_eq_getElem (by omega:j<g.length),hw];exact hb
structure nU(aj:List (List Nat))(cst:Nat->Nat->Int)(f:List Nat):Prop where
  x:Wt aj f
  nd:f.Nodup
  min:∀g,Wt aj g->g.Nodup->eC cst aj.length f<=eC cst aj.length g
section
variable{aj:List (List Nat)}{cst:Nat->Nat->Int}{f:List Nat}
theorem nU.mvX(F:nU aj cst f){r:List Nat}{b:Nat}(h:Hq aj f r b):Wt aj (mv f r b):=⟨by rw[KS];exact F.x.1,ac0 F.x.2 F.x.1 r b h⟩
theorem nU.cyc(F:nU aj cst f)(r:List Nat)(b:Nat)(nd:r.Nodup)(h:Hq aj f r b)(e:qV f r b=b):wsum cst f r b<=0:=by have hc:=Dm (cst:=cst) F.x.1 r b nd h;have hm:=F.min (mv f r b) (F.mvX h) (mK fun x=>by have:=xh F.x.1 r b x nd h;rw[e]at this;have:=jc F.nd x;omega);omega
theorem nU.free(F:nU aj cst f)(r:List Nat)(b:Nat)(h:Hq aj f r b)(e:b∉f):wsum cst f r b<=0:=by
  obtain⟨r',h1,nd,h2⟩:=sr (cst:=cst) F.cyc r.length r b rfl h;have hc:=Dm (cst:=cst) F.x.1 r' b nd h1;have hm:=F.min (mv f r' b) (F.mvX h1) (mK fun x=>by
    have a:=xh F.x.1 r' b x nd h1;have b1:=jc F.nd x;by_cases q:b=x
    . have:f.count x=0:=List.count_eq_zero.mpr (q▸e);rw[if_pos q]at a;omega
    . rw[if_neg q]at a;omega)
  omega
end
structure Dbl(aj:List (List Nat))(b:Nat)(g:List Nat):Prop where
  x:Wt aj g
  one:∀x,g.count x<=1+(if b=x then 1 else 0)
theorem Jn{l:List Nat}(h:∀x∈l,x<7)(p:Nat->Int):(l.map p).sum=((List.range 7).map fun x=>(l.count x:Int)*p x).sum:=by
  induction l with
  | nil=>exact(xZ fun b _=>by simp).symm
  | cons a l ih=>
    rw[map_cons,sum_cons,ih fun x hx=>h x (mem_cons_of_mem _ hx)];have:∀x∈List.range 7,(((a::l).count x:Nat):Int)*p x=(l.count x:Int)*p x+p a*(if x=a then 1 else 0):=fun x _=>by
      rw[count_cons];by_cases e:a=x
      . subst e;simp[add_mul]
      . have e':¬x=a:=fun q=>e q.symm;simp[e,e']
    rw[dA this,g0,mr,xY 7 a (h a mem_cons_self)];omega
theorem rO(g:List Nat)(p:Nat->Int):((List.range g.length).map fun j=>p (g.getD j 0)).sum=(g.map p).sum:=by
  congr 1;refine ext_getElem? fun i=>?_;rw[getElem?_map,getElem?_map];by_cases h:i<g.length
  . rw[getElem?_range h,getElem?_eq_getElem h];simp[h]
  . rw[getElem?_eq_none (by rw[length_range];omega),getElem?_eq_none (by omega)];rfl
theorem ahp{aj:List (List Nat)}{cst:Nat->Nat->Int}{f:List Nat}(F:nU aj cst f)(h7:∀w∈aj,∀x∈w,x<7)(p:Nat->Int)(h0:∀x,0<=p x)(wR:∀x,x∉f->p x=0)(ahH:∀i b,i<aj.length->b∈aj.getD i []->cst i (f.getD i 0)+p (f.getD i 0)-cst i b<=p b){b:Nat}{g:List Nat}(G:Dbl aj b g)(Zx:b<7):eC cst aj.length f-p b<=eC cst aj.length g:=by
  have g7:∀{g:List Nat},Wt aj g->∀x∈g,x<7:=fun {g} hx x hm=>by obtain⟨j,hj⟩:=getElem?_of_mem hm;have LP:=(List.getElem?_eq_some_iff.mp hj).1;rw[hx.1]at LP;have:=hx.2 j LP;rw[getD_eq_getElem?_getD,getD_eq_getElem?_getD,hj,getElem?_eq_getElem LP]at this;exact h7 _ (getElem_mem LP) x this
  have h1:eC cst aj.length f+(f.map p).sum<=eC cst aj.length g+(g.map p).sum:=by rw[<-rO f,<-rO g,F.x.1,G.x.1];unfold eC;rw[<-g0,<-g0];refine vZ fun j hj=>?_;have hj:=mem_range.mp hj;have:=ahH j (g.getD j 0) hj (G.x.2 j hj);omega
  have h2:(g.map p).sum<=(f.map p).sum+p b:=by
    rw[Jn (g7 G.x),Jn (g7 F.x)];have e:p b=p b*((List.range 7).map fun x=>if x=b then (1:Int) else 0).sum:=by rw[xY 7 b Zx];omega
    rw[e,<-mr,<-g0];refine vZ fun x _=>?_;have hx:=G.one x;by_cases hm:x∈f
    . have:1<=f.count x:=List.one_le_count_iff.mpr hm;by_cases q:x=b
      . subst q;rw[if_pos rfl]at hx ⊢;have hp:=h0 x;have:(g.count x:Int)*p x<=((f.count x:Int)+1)*p x:=Int.mul_le_mul_of_nonneg_right (by omega) hp;rw[add_mul]at this;omega
      . rw[if_neg (fun z=>q z.symm)]at hx;rw[if_neg q];have hp:=h0 x;have:(g.count x:Int)*p x<=(f.count x:Int)*p x:=Int.mul_le_mul_of_nonneg_right (by omega) hp;omega
    . rw[wR x hm,Int.mul_zero,Int.mul_zero];by_cases q:x=b
      . subst q;rw[wR x hm,if_pos rfl];omega
      . rw[if_neg q];omega
  omega
end My
namespace My
open PySem PySem.Spec PyProof.Rows L2 HT
def dJ(s:Vbreai.State)(i b:Nat):Int:=(costOf s (s.due.getD i 0) b:Int)
theorem C8{s:Vbreai.State}{g:List Nat}(h:g.length=s.due.length):dn (s.due.map (wp s)) g=eC (dJ s) s.due.length g:=by
  unfold dn eC;congr 1;refine ext_getElem? fun i=>?_;rw[getElem?_map,getElem?_map];by_cases hi:i<s.due.length
  . rw[getElem?_range hi];have h1:(s.due.map (wp s))[i]? =some (wp s s.due[i]):=by rw[getElem?_map,getElem?_eq_getElem hi];rfl
    have h2:g[i]? =some g[i]:=getElem?_eq_getElem (by omega);rw[zip_get h1 h2];show some _=some _;congr 1;show(costOf s s.due[i] g[i]:Int)=dJ s i (g.getD i 0);unfold dJ;rw[getD_eq_getElem?_getD,getD_eq_getElem?_getD,h2,getElem?_eq_getElem hi];rfl
  . rw[getElem?_eq_none (by rw[length_zip,length_map];omega),getElem?_eq_none (by rw[length_range];omega)];rfl
theorem W4{s:Vbreai.State}{f:List Nat}(h:mS (dn (s.due.map (wp s))) (ji (aO s) []) f):nU (aO s) (dJ s) f:=by
  have hl:∀{g:List Nat},g∈ji (aO s) []->g.length=s.due.length:=fun hg=>by rw[eW hg,a7]
  refine⟨Df h.1,(i5.mp h.1).2.1,fun g hx nd=>?_⟩;have hg:=Di hx nd;have:=h.2 g hg;rw[C8 (hl hg),C8 (hl h.1),bK]at this;rw[a7];by_cases e:eC (dJ s) s.due.length g=eC (dJ s) s.due.length f
  . omega
  . rw[if_neg e]at this;have:=of_decide_eq_false this;omega
def T2(s:Vbreai.State)(f:List Nat)(p:List Int):Prop:=p.length=s.boats/\∀x,x<s.boats->∃r,Hq (aO s) f r x/\p.getD x 0=wsum (dJ s) f r x
theorem Ao(s:Vbreai.State)(c:Nat)(z:Int)(p:List Int)(b x:Nat):(ma s c z p b).getD x 0=if x=b/\b<p.length then mx (p.getD b 0) (z-(costOf s c b:Int)) else p.getD x 0:=by unfold ma;rw[rj]
theorem za{α β:Type}{g:β->α->β}{P:β->Prop}:∀{l:List α} {q:β},(∀x∈l,∀q,P q->P (g q x))->P q->P (l.foldl g q)
  | [],q,_,h=>h
  | a::l,q,k,h=>za (l:=l) (fun x hx=>k x (mem_cons_of_mem _ hx)) (k a mem_cons_self q h)
theorem tq{s:Vbreai.State}{i:Nat}(hi:i<s.due.length):(aO s).getD i []=boatsFor s (s.due.getD i 0):=zV hi
theorem aeW{s:Vbreai.State}{f:List Nat}(hf:Wt (aO s) f){p:List Int}(h:T2 s f p){i:Nat}(hi:i<s.due.length):T2 s f (qk s p (s.due.getD i 0,f.getD i 0)):=by
  unfold qk;dsimp only;have ze:=hf.2 i (by rw[a7];exact hi);rw[tq hi]at ze;obtain⟨r0,w0,e0⟩:=h.2 _ (cz ze);refine za (P:=T2 s f) (fun b hb q hq=>?_) h;refine⟨by rw[vM];exact hq.1,fun x hx=>?_⟩;rw[Ao];by_cases e:x=b/\b<q.length
  . rw[if_pos e,e.1];unfold mx;split
    . refine⟨i::r0,⟨by rw[a7];exact hi,by rw[tq hi];exact hb,w0⟩,?_⟩;show _=dJ s i (f.getD i 0)-dJ s i b+wsum (dJ s) f r0 (f.getD i 0);rw[e0];unfold dJ;omega
    . exact e.1▸hq.2 x hx
  . rw[if_neg e];exact hq.2 x hx
theorem afn{s:Vbreai.State}{f:List Nat}{x:Nat×Nat}(h:x∈s.due.zip f):∃i,i<s.due.length/\x=(s.due.getD i 0,f.getD i 0):=by obtain⟨i,hi⟩:=getElem?_of_mem h;rw[List.getElem?_zip_eq_some]at hi;refine⟨i,(List.getElem?_eq_some_iff.mp hi.1).1,?_⟩;rw[getD_eq_getElem?_getD,getD_eq_getElem?_getD,hi.1,hi.2];rfl
theorem we{s:Vbreai.State}{f:List Nat}(hf:Wt (aO s) f):∀t,T2 s f (cp s f t)
  | 0=>⟨length_replicate,fun x hx=>⟨[],trivial,by show(List.replicate s.boats (0:Int)).getD x 0=0;rw[getD_eq_getElem?_getD,List.getElem?_replicate,if_pos hx];rfl⟩⟩
  | t+1=>by show T2 s f (Gi s f (cp s f t));unfold Gi;refine za (P:=T2 s f) (fun x hx q hq=>?_) (we hf t);obtain⟨i,hi,rfl⟩:=afn hx;exact aeW hf hq hi
def Ge(p q:List Int):Prop:=∀x,p.getD x 0<=q.getD x 0
theorem Ge.trans{p q r:List Int}(a:Ge p q)(b:Ge q r):Ge p r:=fun x=>Int.le_trans (a x) (b x)
theorem ac1(i j:Int):i<=mx i j/\j<=mx i j:=by unfold mx;split<;>omega
theorem VH(s:Vbreai.State)(c:Nat)(z:Int)(p:List Int)(b:Nat):Ge p (ma s c z p b):=fun x=>by
  rw[Ao];by_cases e:x=b/\b<p.length
  . rw[if_pos e,e.1];exact(ac1 _ _).1
  . rw[if_neg e];exact Int.le_refl _
theorem jA(s:Vbreai.State)(c:Nat)(z:Int):∀(l:List Nat) (p:List Int),Ge p (l.foldl (ma s c z) p)
  | [],p=>fun _=>Int.le_refl _
  | b::l,p=>(VH s c z p b).trans (jA s c z l _)
theorem qf(s:Vbreai.State)(c:Nat)(z:Int):∀(l:List Nat) (p:List Int) (b:Nat),b∈l->b<p.length->z-(costOf s c b:Int)<=(l.foldl (ma s c z) p).getD b 0
  | [],_,_,h,_=>by cases h
  | a::l,p,b,h,hb=>by
    rw[foldl_cons];rcases mem_cons.mp h with rfl | h
    . refine Int.le_trans ?_ (jA s c z l _ b);rw[Ao,if_pos ⟨rfl,hb⟩];exact(ac1 _ _).2
    . exact qf s c z l _ b h (by rw[vM];exact hb)
theorem N2(s:Vbreai.State)(p:List Int)(x:Nat×Nat):Ge p (qk s p x):=jA s _ _ _ p
theorem lq(s:Vbreai.State):∀(l:List (Nat×Nat)) (p:List Int),Ge p (l.foldl (qk s) p)
  | [],p=>fun _=>Int.le_refl _
  | x::l,p=>(N2 s p x).trans (lq s l _)
theorem rf(s:Vbreai.State){x:Nat×Nat}{b:Nat}(hb:b∈boatsFor s x.1):∀(l:List (Nat×Nat)) (p:List Int),x∈l->p.length=s.boats->(costOf s x.1 x.2:Int)+p.getD x.2 0-(costOf s x.1 b:Int)<=(l.foldl (qk s) p).getD b 0
  | [],_,h,_=>by cases h
  | a::l,p,h,hl=>by
    rw[foldl_cons];rcases mem_cons.mp h with e | h
    . subst e;exact Int.le_trans (qf s x.1 _ _ p b hb (by rw[hl];exact cz hb)) (lq s l _ b)
    . have:=rf s hb l (qk s p a) h (by rw[Jh];exact hl);have:=N2 s p a x.2;omega
theorem AZ(s:Vbreai.State)(f:List Nat):∀t,Ge (List.replicate s.boats 0) (cp s f t)
  | 0=>fun _=>Int.le_refl _
  | t+1=>(AZ s f t).trans (lq s _ _)
theorem oR(s:Vbreai.State)(f:List Nat)(t x:Nat):0<=(cp s f t).getD x 0:=by
  have:=AZ s f t x;have e:(List.replicate s.boats (0:Int)).getD x 0=0:=by rw[getD_eq_getElem?_getD,List.getElem?_replicate];split<;>rfl
  rw[e]at this;exact this
theorem Mg{s:Vbreai.State}{f:List Nat}(hf:Wt (aO s) f):∀(t:Nat) (r:List Nat) (b:Nat),Hq (aO s) f r b->r.length<=t->wsum (dJ s) f r b<=(cp s f t).getD b 0
  | t,[],b,_,_=>oR s f t b
  | 0,i::r,b,_,h=>by simp at h
  | t+1,i::r,b,hw,h=>by
    obtain⟨h1,h2,h3⟩:=hw;have ih:=Mg hf t r _ h3 (by simpa using h);rw[a7]at h1;rw[tq h1]at h2;have hz:(s.due.getD i 0,f.getD i 0)∈s.due.zip f:=by have hl:=hf.1;rw[a7]at hl;have a1:s.due[i]? =some s.due[i]:=getElem?_eq_getElem h1;have a2:f[i]? =some f[i]:=getElem?_eq_getElem (by omega);have:=mem_of_getElem? (zip_get a1 a2);rw[getD_eq_getElem?_getD,getD_eq_getElem?_getD,a1,a2];exact this
    have:=rf s (x:=(s.due.getD i 0,f.getD i 0)) h2 (s.due.zip f) (cp s f t) hz (eJ s f t);show dJ s i (f.getD i 0)-dJ s i b+wsum (dJ s) f r (f.getD i 0)<=(Gi s f (cp s f t)).getD b 0;unfold Gi;unfold dJ at*;dsimp only at this;omega
theorem zJ:∀(n:Nat) {l:List Nat},l.Nodup->(∀x∈l,x<n)->l.length<=n
  | 0,l,_,h=>by
    cases l with
    | nil=>exact le_refl _
    | cons a l=>have:=h a mem_cons_self;omega
  | n+1,l,nd,h=>by
    by_cases m:n∈l
    . have:=zJ n (nd.erase n) fun x hx=>by have Qj:=(Nodup.mem_erase_iff nd).mp hx;have:=h x Qj.2;have:=Qj.1;omega
      rw[List.length_erase_of_mem m]at this;omega
    . have:=zJ n nd fun x hx=>by have:=h x hx;have:x≠n:=fun q=>m (q▸hx);omega
      omega
theorem XN{aj:List (List Nat)}{f:List Nat}:∀{r:List Nat} {b:Nat},Hq aj f r b->∀i∈r,i<aj.length
  | [],_,_,_,h=>by cases h
  | j::r,b,hw,i,h=>by
    rcases mem_cons.mp h with rfl | h
    . exact hw.1
    . exact XN hw.2.2 i h
section
variable{s:Vbreai.State}{f:List Nat}
def pf(s:Vbreai.State)(f:List Nat)(x:Nat):Int:=(cp s f f.length).getD x 0
theorem abK(F:nU (aO s) (dJ s) f){r:List Nat}{b:Nat}(h:Hq (aO s) f r b):wsum (dJ s) f r b<=pf s f b:=by
  obtain⟨r',h1,nd,h2⟩:=sr (cst:=dJ s) F.cyc r.length r b rfl h;have hl:r'.length<=f.length:=by rw[F.x.1];exact zJ _ nd (XN h1)
  exact Int.le_trans h2 (Mg F.x _ r' b h1 hl)
theorem abJ(F:nU (aO s) (dJ s) f){x:Nat}(h:x∉f):pf s f x=0:=by
  have h0:=oR s f f.length x;by_cases hx:x<s.boats
  . obtain⟨r,w,e⟩:=(we F.x f.length).2 x hx;have:=F.free r x w h;unfold pf;omega
  . unfold pf;rw[getD_eq_getElem?_getD,getElem?_eq_none (by rw[eJ];omega)];rfl
theorem aeO(F:nU (aO s) (dJ s) f){i b:Nat}(hi:i<(aO s).length)(hb:b∈(aO s).getD i []):dJ s i (f.getD i 0)+pf s f (f.getD i 0)-dJ s i b<=pf s f b:=by
  have ze:=F.x.2 i hi;have hi':i<s.due.length:=by rw[a7]at hi;exact hi
  rw[tq hi']at ze;obtain⟨r,w,e⟩:=(we F.x f.length).2 _ (cz ze);have:=abK F (r:=i::r) (b:=b) ⟨hi,hb,w⟩;have e2:wsum (dJ s) f (i::r) b=dJ s i (f.getD i 0)-dJ s i b+wsum (dJ s) f r (f.getD i 0):=rfl;unfold pf at*;omega
def sub(s:Vbreai.State)(b x:Nat):Nat:=if x=s.boats then b else x
def C3(s:Vbreai.State)(b:Nat):List (List Nat):=(aO s).map fun w=>if w.contains b=true then w++ [s.boats] else w
theorem EH(s:Vbreai.State)(b:Nat):flightsFrom (doubled s b) []=(ji (C3 s b) []).map (toF s.due):=by
  rw[lm];have e1:(doubled s b).map (·.2)=C3 s b:=by unfold doubled C3;rw[map_map,<-OB,map_map];rfl
  have e2:(doubled s b).map (·.1)=s.due:=by unfold doubled;rw[map_map,<-OA s];rfl
  rw[e1,e2]
theorem r6{b:Nat}{g:List Nat}(h:g.length=s.due.length):(priceWith s b (toF s.due g):Int)=eC (dJ s) s.due.length (g.map (sub s b)):=by
  unfold priceWith;rw[foldl_add,zero_add,sA];unfold az toF eC;rw[map_map,map_map];congr 1;refine ext_getElem? fun i=>?_;rw[getElem?_map,getElem?_map];by_cases hi:i<s.due.length
  . have h1:s.due[i]? =some s.due[i]:=getElem?_eq_getElem hi;have h2:g[i]? =some g[i]:=getElem?_eq_getElem (by omega);rw[getElem?_range hi,zip_get h1 h2];show some _=some _;congr 1;show(costOf s s.due[i] (if g[i]=s.boats then b else g[i]):Int)=dJ s i ((g.map (sub s b)).getD i 0);unfold dJ;rw[getD_eq_getElem?_getD,getD_eq_getElem?_getD,getElem?_map,h1,h2];rfl
  . rw[getElem?_eq_none (by rw[length_zip];omega),getElem?_eq_none (by rw[length_range];omega)];rfl
theorem oJ(s:Vbreai.State)(b:Nat):(C3 s b).length=(aO s).length:=by unfold C3;rw[length_map]
theorem LM{s:Vbreai.State}{b j:Nat}(h:j<(aO s).length):(C3 s b).getD j []=if ((aO s).getD j []).contains b=true then (aO s).getD j []++ [s.boats] else (aO s).getD j []:=by unfold C3;rw[getD_eq_getElem?_getD,getD_eq_getElem?_getD,getElem?_map,getElem?_eq_getElem h];rfl
theorem K8{s:Vbreai.State}{j x:Nat}(hj:j<(aO s).length)(h:x∈(aO s).getD j []):x<s.boats:=by rw[a7]at hj;rw[tq hj]at h;exact cz h
theorem Iy(s:Vbreai.State)(b x:Nat):∀g:List Nat,(g.map (sub s b)).count x<=g.count x+(if b=x then g.count s.boats else 0)
  | []=>by simp
  | y::g=>by
    have ih:=Iy s b x g;rw[map_cons,count_cons,count_cons,count_cons];unfold sub at*;by_cases e1:y=s.boats
    . rw[if_pos e1];by_cases e2:b=x
      . subst e2;rw[if_pos rfl]at ih ⊢;simp[e1];omega
      . rw[if_neg e2]at ih ⊢;simp[e2];omega
    . rw[if_neg e1];by_cases e2:b=x
      . rw[if_pos e2]at ih ⊢;simp[e1];omega
      . rw[if_neg e2]at ih ⊢;omega
theorem adB{b:Nat}{g:List Nat}(h:g∈ji (C3 s b) []):Dbl (aO s) b (g.map (sub s b)):=by
  have hx:=Df h;have nd:=(i5.mp h).2.1;rw[Wt,oJ]at hx;refine⟨⟨by rw[length_map];exact hx.1,fun j hj=>?_⟩,fun x=>?_⟩
  . have GZ:=hx.2 j hj;rw[LM hj]at GZ;have e:(g.map (sub s b)).getD j 0=sub s b (g.getD j 0):=by
      have hg:j<g.length:=by omega
      rw[getD_eq_getElem?_getD,getD_eq_getElem?_getD,getElem?_map,getElem?_eq_getElem hg];rfl
    rw[e];unfold sub;by_cases hc:((aO s).getD j []).contains b=true
    . rw[if_pos hc]at GZ;by_cases q:g.getD j 0=s.boats
      . rw[if_pos q];exact contains_iff_mem.mp hc
      . rw[if_neg q];rcases mem_append.mp GZ with m | m
        . exact m
        . exact absurd (mem_singleton.mp m) q
    . rw[if_neg hc]at GZ;have:=K8 hj GZ;rw[if_neg (by omega)];exact GZ
  . have a:=Iy s b x g;have b1:=jc nd x;have b2:=jc nd s.boats;by_cases q:b=x
    . rw[if_pos q]at a ⊢;omega
    . rw[if_neg q]at a ⊢;omega
theorem aez{b:Nat}(hb:b<s.boats){g:List Nat}(G:Dbl (aO s) b g):∃g'∈ji (C3 s b) [],g'.map (sub s b)=g:=by
  have glt:∀x∈g,x<s.boats:=fun x hm=>by
    obtain⟨j,hj⟩:=getElem?_of_mem hm;have LP:=(List.getElem?_eq_some_iff.mp hj).1;rw[G.x.1]at LP;have:=G.x.2 j LP;have gj:g.getD j 0=x:=by rw[getD_eq_getElem?_getD,hj];rfl
    rw[gj]at this;exact K8 LP this
  have zf:g.map (sub s b)=g:=by
    conv=>rhs;rw[<-map_id g]
    exact map_congr_left fun x hx=>by unfold sub;rw[if_neg (by have:=glt x hx;omega)];rfl
  have inD:∀j,j<(aO s).length->g.getD j 0∈(C3 s b).getD j []:=fun j hj=>by
    rw[LM hj];have:=G.x.2 j hj;split
    . exact mem_append_left _ this
    . exact this
  by_cases h2:g.count b<=1
  . refine⟨g,Di ⟨by rw[oJ];exact G.x.1,fun j hj=>inD j (by rw[oJ]at hj;exact hj)⟩ (mK fun x=>?_),zf⟩;have:=G.one x;by_cases q:b=x
    . subst q;exact h2
    . rw[if_neg q]at this;exact this
  . have hm:b∈g:=List.one_le_count_iff.mp (by omega);obtain⟨j,hj⟩:=getElem?_of_mem hm;have LP:=(List.getElem?_eq_some_iff.mp hj).1;have hjo:j<(aO s).length:=by rw[<-G.x.1];exact LP
    have gj:g.getD j 0=b:=by rw[getD_eq_getElem?_getD,hj];rfl
    refine⟨g.set j s.boats,Di ⟨by rw[length_set,oJ];exact G.x.1,fun i hi=>?_⟩ (mK fun x=>?_),?_⟩
    . rw[rj];rw[oJ]at hi;by_cases e:i=j/\j<g.length
      . rw[if_pos e,e.1,LM hjo];have GY:=G.x.2 j hjo;rw[gj]at GY;rw[if_pos (contains_iff_mem.mpr GY)];exact mem_append_right _ mem_cons_self
      . rw[if_neg e];exact inD i hi
    . have a:=Ep (g:=g) (i:=j) (b:=s.boats) (x:=x) LP;rw[gj]at a;have b1:=G.one x;by_cases q:s.boats=x
      . have z:g.count x=0:=List.count_eq_zero.mpr fun m=>by have:=glt x m;omega
        rw[if_pos q]at a;omega
      . rw[if_neg q]at a;by_cases q2:b=x
        . rw[if_pos q2]at a b1;omega
        . rw[if_neg q2]at a b1;omega
    . rw[map_set,zf];have:sub s b s.boats=b:=by unfold sub;rw[if_pos rfl]
      rw[this];refine ext_getElem? fun i=>?_;rw[getElem?_set];by_cases e:j=i
      . subst e;rw[if_pos rfl,if_pos LP,hj]
      . rw[if_neg e]
theorem Ru(W:Wf s)(F:nU (aO s) (dJ s) f){b:Nat}(hb:b<s.boats):(priceOf s b:Int)=pf s f b:=by
  have h7:=(dP W).b;have Zx:b<7:=lt_of_lt_of_le hb W.b7;have hlen:∀{g:List Nat},g∈ji (aO s) []->g.length=s.due.length:=fun hg=>by rw[eW hg,a7]
  have acU:∀{g:List Nat},g∈ji (C3 s b) []->g.length=s.due.length:=fun hg=>by rw[eW hg,oJ,a7]
  have A:((leastOf ((flights s).map (price s)):Nat):Int)=eC (dJ s) s.due.length f:=by
    rw[sY];symm;have hf:=Di F.x F.nd;refine sX ?_ fun y hy=>?_
    . unfold az;rw[eM,map_map,map_map];exact mem_map.mpr ⟨f,hf,by show(price s (toF s.due f):Int)=_;rw[pN,C8 (hlen hf)]⟩
    . unfold az at hy;rw[eM,map_map,map_map]at hy;obtain⟨g,hg,rfl⟩:=mem_map.mp hy;show _<=(price s (toF s.due g):Int);rw[pN,C8 (hlen hg)];have:=F.min g (Df hg) (i5.mp hg).2.1;rw[a7]at this;exact this
  have B:((leastOf ((flightsFrom (doubled s b) []).map (priceWith s b)):Nat):Int)=eC (dJ s) s.due.length f-pf s f b:=by
    rw[sY];symm;have low:∀g∈ji (C3 s b) [],eC (dJ s) s.due.length f-pf s f b<=eC (dJ s) s.due.length (g.map (sub s b)):=fun g hg=>by have:=ahp F h7 (pf s f) (fun x=>oR s f f.length x) (fun x hx=>abJ F hx) (fun i b hi hb=>aeO F hi hb) (adB hg) Zx;rw[a7]at this;exact this
    refine sX ?_ fun y hy=>?_
    . obtain⟨r,w,e⟩:=(we F.x f.length).2 b hb;obtain⟨r',w',nd,h2⟩:=sr (cst:=dJ s) F.cyc r.length r b rfl w;have hc:=Dm (cst:=dJ s) F.x.1 r' b nd w';have G:Dbl (aO s) b (mv f r' b):=⟨F.mvX w',fun x=>by have a:=xh F.x.1 r' b x nd w';have c:=jc F.nd x;omega⟩;obtain⟨g,hg,hgs⟩:=aez hb G;unfold az;rw[EH,map_map,map_map];refine mem_map.mpr ⟨g,hg,?_⟩;show(priceWith s b (toF s.due g):Int)=_;rw[r6 (acU hg)];have l:=low g hg;rw[hgs]at l ⊢;rw[a7]at hc;have e':pf s f b=wsum (dJ s) f r b:=e;omega
    . unfold az at hy;rw[EH,map_map,map_map]at hy;obtain⟨g,hg,rfl⟩:=mem_map.mp hy;show _<=(priceWith s b (toF s.due g):Int);rw[r6 (acU hg)];exact low g hg
  have hn:0<=pf s f b:=oR s f f.length b;unfold priceOf;omega
theorem NU(W:Wf s)(F:nU (aO s) (dJ s) f):az (Vbreai.prices s)=cp s f f.length:=by
  refine ext_getElem? fun i=>?_;unfold az Vbreai.prices;rw[map_map,getElem?_map];by_cases hi:i<s.boats
  . rw[getElem?_range hi];have hl:i<(cp s f f.length).length:=by rw[eJ];exact hi
    rw[getElem?_eq_getElem hl];show some (priceOf s i:Int)=_;rw[Ru W F hi];unfold pf;rw[getD_eq_getElem?_getD,getElem?_eq_getElem hl];rfl
  . rw[getElem?_eq_none (by rw[length_range];omega),getElem?_eq_none (by rw[eJ];omega)];rfl
end
end My
namespace My
open PySem PySem.Spec PyProof.Rows L2 HT
theorem Kl{s:Vbreai.State}{f:List Nat}(h:f∈ji (aO s) []):∀c∈s.due,boatsFor s c≠ []:=fun c hc q=>by obtain⟨i,hi⟩:=getElem?_of_mem hc;have hl:=(List.getElem?_eq_some_iff.mp hi).1;have:=(Df h).2 i (by rw[a7];exact hl);rw[tq hl,getD_eq_getElem?_getD,hi]at this;have e:boatsFor s ((some c).getD 0)=[]:=q;rw[e]at this;cases this
theorem G9(s:Vbreai.State)(g:Nat->Nat)(l:List Nat):counted (fun(c:Nat)=>Vbreai.one (g c)) l=cnt (az (l.map g)):=by
  rw[<-fZ];unfold counted;rw[length_map];congr 1;induction l with
  | nil=>rfl
  | cons a l ih=>rw[flatMap_cons,map_cons,flatMap_cons,ih]
section
variable{P:Program}{w:World}{K:Frag}{mg:Str->Option Value}{base:Heap}
theorem Oj(s:Vbreai.State):Vbreai.step s .prices=orNone s (flights s).head? fun _=>counted Vbreai.one (Vbreai.prices s)++counted (fun(c:Nat)=>Vbreai.one ((fare s (Vbreai.prices s) c).getD 0)) s.due:=rfl
theorem Vq(T:Txt K mg):ay P w K mg base bo 5 T.kU.f T.kU.fd ["fleet","numbers"] (cQ T.ah (LU .prices)):=by
  have ug:ay P w K mg base bo 4 _ _ _ _:=Bq T;have G1:ay P w K mg base bo 3 _ _ _ _:=FX T;have qp:ay P w K mg base bo 4 _ _ _ _:=xw T;have dk:ay P w K mg base bo 1 _ _ _ _:=lV T;refine T.kU.F.ok AA (fun vs H Q E h=>?_) (fun bP A outer s H vs Q E hr h=>?_)
  . obtain⟨p,A,s,l,nums,c,rfl,_⟩:=h;rfl
  . obtain⟨p,A',st,l,nums,cl,rfl,F,W,hl,B5,kc,hn,k⟩:=h;have nR:cl=.prices:=(Option.some.inj kc).symm;subst nR;refine⟨_,(ag (aY (i:=2) (AA.nd) rfl (Or.inl rfl) (aH ug (hr.mono (by decide)) rfl T.dM.g T.dM.F.kp T.dM.b .nil aI (aa (pv 0) ab))) (ag (bW (jR (vF (pv 2))) (ai (aq (aS (aa (a0 T.mB) ab)))) aZ) (ag (aY (i:=3) (AA.nd) rfl (Or.inl rfl) (aH G1 (hr.mono (by decide)) rfl T.dY.g T.dY.F.kp T.dY.b .nil aI (aa (pv 0) (aa (a9 lA (pv 2) aE (fun _ _=>rfl)) ab)))) (ai (aq (bV pJ (aH dk (hr.mono (by decide)) rfl T.bh.g T.bh.F.kp T.bh.b .nil aI (aa (pv 3) ab)) (aH dk (hr.mono (by decide)) rfl T.bh.g T.bh.F.kp T.bh.b .nil aI (aa (aH qp (hr.mono (by decide)) rfl T.c5.g T.c5.F.kp T.c5.b .nil aI (aa (pv 0) (aa (pv 3) ab))) ab)))))))),?_⟩;have aG:=Oj st;rw[d5,eM,List.head?_map]at aG;obtain⟨m1,m2⟩:=Ia W;refine⟨_,rfl,p,A',st,rfl,F,W,fun e H1 s1=>?_,fun e he q H1 s1 hq=>?_⟩
    . rw[(m1 e).2]at aG;exact⟨_,rfl,_,rfl,cx (((k.ro F aG).mono s1).ret (by simp))⟩
    . obtain⟨b1,b2,b3⟩:=m2 e he;have C:=W4 b3;have adS:=eW b3.1;have II:e.2.length=st.due.length:=by rw[adS,a7]
      have eZ:=Kl b3.1;have hdl:=cR W;have Zx:=W.b7;have hp:=NU W C;have afZ:∃g,(ji (aO st) []).head? =some g:=by
        cases q:ji (aO st) []with
        | nil=>have:=b3.1;rw[q]at this;cases this
        | cons g _=>exact⟨g,rfl⟩
      obtain⟨g,hg⟩:=afZ;have Qh:Vbreai.step st .prices=(st,cnt (cp st e.2 e.2.length)++cnt (st.due.map fun c=>iJ (oh st (cp st e.2 e.2.length) c))):=by rw[aG,hg];show(st,counted Vbreai.one (Vbreai.prices st)++counted (fun(c:Nat)=>Vbreai.one ((fare st (Vbreai.prices st) c).getD 0)) st.due)=_;rw[fZ,G9 st,hp];congr 2;unfold az;rw[map_map];congr 1;refine map_congr_left fun c hc=>?_;show(((fare st (Vbreai.prices st) c).getD 0:Nat):Int)=_;rw[Xl st _ c (eZ c hc),hp]
      have k:=k.ro F Qh;obtain⟨x,_,hq1,Wl⟩:=hq;have F1:=F.same s1;have blt:∀b∈e.2,b<st.boats:=fun b hb=>by
        obtain⟨j,hj⟩:=getElem?_of_mem hb;have LP:=(List.getElem?_eq_some_iff.mp hj).1;have:=C.x.2 j (by rw[<-C.x.1];exact LP);have gj:e.2.getD j 0=b:=by rw[getD_eq_getElem?_getD,hj];rfl
        rw[gj]at this;exact K8 (by rw[<-C.x.1];exact LP) this
      refine⟨_,rfl,_,rfl,cU ⟨_,rfl,_,rfl,q,_,_,_,rfl,rfl,mT.of hq1,rfl,p,A',st,x,e.2,rfl,F1,W,Wl,II,blt,fun D2 H2 v4 s2 e2=>?_⟩⟩;have tx:=s1.trans s2;have ahC:=eJ st e.2 e.2.length;refine⟨_,rfl,D2,_,rfl,e2,by omega,fun D3 H3 S1 s3 e3=>?_⟩;have HI:=tx.trans s3;refine⟨_,rfl,_,rfl,p,A',st,D2,_,rfl,F.same HI,W,s3 _ _ e2,ahC,eZ,fun D4 H4 hD4 s4 e4=>?_⟩;refine⟨D4,_,rfl,e4,by rw[length_map];omega,fun D5 H5 hD5 s5 e5=>?_⟩;have s35:=s4.trans s5;refine⟨D3,D5,_,_,rfl,rfl,s35 _ _ e3,e5,sz (by rw[length_map,length_map,oX,oX,length_map];omega),fun u hu=>?_⟩;have Tx:=HI.trans s35;refine k u _ (Tx.free hu) (bv Tx (Tx.free hu)) ?_;rw[ae,map_append]
end
theorem Wf.same{s s':Vbreai.State}(W:Wf s)(h1:s'.crews=s.crews)(h2:s'.boats=s.boats)(h3:s'.due=s.due)(h4:s'.sailed=s.sailed)(h5:∀c b,costOf s' c b<=1000):Wf s':=by refine⟨by rw[h1];exact W.c7,by rw[h2];exact W.b7,by rw[h3];exact W.due,by rw[h1,h3];exact W.dlt,by rw[h4];exact W.sl,by rw[h1,h2,h4];exact W.fl,by rw[h4];exact W.fn,by rw[h4];exact W.fd,by rw[h4];exact W.dis,h5⟩
theorem Zk:Wf Vbreai.start:=⟨by decide,by decide,List.Pairwise.nil,(fun c hc=>by cases hc),by decide,(fun f hf=>by cases hf),(fun f hf=>by cases hf),(fun f hf=>by cases hf),List.Pairwise.nil,fun _ _=>by show(0:Nat)<=_;omega⟩
theorem tD{s:Vbreai.State}(W:Wf s){c b:Int}{k:Nat->Nat->Vbreai.State×Answer}(h:∀x y,Wf (k x y).1):Wf (onPair s c b k).1:=by
  unfold onPair;split
  . exact W
  . split
    . exact W
    . exact h _ _
theorem Wb{due bs:List Nat}(nd:due.Nodup)(hl:bs.length=due.length):(toF due bs).Nodup:=by
  have:((toF due bs).map (·.crew)).Nodup:=by
    unfold toF;rw[map_map];have e:(due.zip bs).map ((fun x:Pair=>x.crew)∘fun x=>(⟨x.1,x.2⟩:Pair))=due:=by show(due.zip bs).map Prod.fst=due;exact map_fst_zip (by omega)
    rw[e];exact nd
  unfold Nodup at*;rw[List.pairwise_map]at this;exact this.imp fun h q=>h (by rw[q])
theorem TN{s:Vbreai.State}(W:Wf s)(c:Call):Wf (Vbreai.step s c).1:=by
  cases c with
  | begin_ c b=>
    show Wf (if _ then _ else _:Vbreai.State×Answer).1;split
    . exact W
    . next h=>rw[not_eq_false,and_eq_true]at h;obtain⟨n,rfl,h1,h2⟩:=cM h.1 (by omega);obtain⟨m,rfl,h3,h4⟩:=cM h.2 (by omega);have h2:(n:Int)<=7:=h2;have h4:(m:Int)<=7:=h4;refine⟨by show(n:Int).toNat<=7;omega,by show(m:Int).toNat<=7;omega,pairwise_lt_range,fun c hc=>mem_range.mp hc,zero_le _,(fun f hf=>by cases hf),(fun f hf=>by cases hf),(fun f hf=>by cases hf),List.Pairwise.nil,fun _ _=>by show(0:Nat)<=_;omega⟩
  | refuse c b=>
    refine tD W fun x y=>?_;split
    . exact W
    . exact W.same rfl rfl rfl rfl W.co
  | let_ c b=>
    refine tD W fun x y=>?_;split
    . exact W
    . exact W.same rfl rfl rfl rfl W.co
  | cost c b n=>
    refine tD W fun x y=>?_;split
    . exact W
    . next h=>
      rw[not_eq_false]at h;obtain⟨m,rfl,h1,h2⟩:=cM h (by omega);refine W.same rfl rfl rfl rfl fun c' b'=>?_;rw[Eo];split
      . omega
      . exact W.co _ _
  | out b v=>
    rw[GN];split
    . exact W
    . split
      . exact W
      . exact W.same rfl rfl rfl rfl W.co
  | due l=>
    rw[GL];split
    . exact W
    . split
      . exact W
      . exact⟨W.c7,W.b7,List.Pairwise.filter _ pairwise_lt_range,fun c hc=>mem_range.mp (mem_filter.mp hc).1,W.sl,W.fl,W.fn,W.fd,W.dis,W.co⟩
  | may c b=>exact tD W fun x y=>W
  | size=>exact W
  | blocked=>exact W
  | first=>show Wf (orNone _ _ _).1;rw[d5];exact W
  | best=>show Wf (orNone _ _ _).1;rw[d5];exact W
  | prices=>show Wf (orNone _ _ _).1;rw[d5];exact W
  | check l=>
    rw[vY];split
    . exact W
    . split<;>exact W
  | rest k=>rw[AL];split<;>exact W
  | most=>exact W
  | safe k=>
    rw[AM];split
    . exact W
    . rw[d5];exact W
  | plan k=>
    rw[AK];split
    . exact W
    . split<;>exact W
  | sail l=>
    rw[AN];split
    . exact W
    . next hc=>
      split
      . exact W
      . next Xq=>
        have bj:vS s l=true:=by
          cases q:vS s l with
          | true=>rfl
          | false=>exact absurd ((tz s l).mpr q) hc
        obtain⟨b1,b2,b3,b4⟩:=xN bj;have af5:(flightOf s l).all (fun p=>mayHave s p.crew p.boat)=true:=by
          cases q:(flightOf s l).all fun p=>mayHave s p.crew p.boat with
          | true=>rfl
          | false=>exact absurd (.inr (.inr (.inr q))) hc
        rw[b4]at af5 ⊢;have hlen:(l.map Int.toNat).length=s.due.length:=by rw[length_map];exact b1
        have wW:∀g∈s.sailed,∀p∈toF s.due (l.map Int.toNat),p∉g:=fun g hg p hp m=>by have:=all_eq_true.mp af5 p hp;unfold mayHave at this;rw[and_eq_true,and_eq_true]at this;have:=all_eq_true.mp this.2.2 g hg;rw[contains_iff_mem.mpr (show(⟨p.crew,p.boat⟩:Pair)∈g from m)]at this;cases this
        unfold FLIGHTS at Xq;refine⟨W.c7,W.b7,W.due,W.dlt,?_,?_,?_,?_,?_,W.co⟩
        . show(toF s.due (l.map Int.toNat)::s.sailed).length<=20;rw[length_cons];omega
        . intro f hf;rcases mem_cons.mp hf with rfl | hf
          . exact Zf W b3
          . exact W.fl f hf
        . intro f hf;rcases mem_cons.mp hf with rfl | hf
          . rw[x5 hlen];exact cR W
          . exact W.fn f hf
        . intro f hf;rcases mem_cons.mp hf with rfl | hf
          . exact Wb (PY W) hlen
          . exact W.fd f hf
        . exact pairwise_cons.mpr ⟨fun g hg p hp=>wW g hg p hp,W.dis⟩
  | back=>
    rw[AJ];cases q:s.sailed with
    | nil=>exact W
    | cons f r=>have sl:=W.sl;have fl:=W.fl;have fn:=W.fn;have fd:=W.fd;have dis:=W.dis;rw[q]at sl fl fn fd dis;exact⟨W.c7,W.b7,W.due,W.dlt,by simp at sl;show r.length<=20;omega,fun g hg=>fl g (mem_cons_of_mem _ hg),fun g hg=>fn g (mem_cons_of_mem _ hg),fun g hg=>fd g (mem_cons_of_mem _ hg),(pairwise_cons.mp dis).2,W.co⟩
  | log=>exact W
  | repair l=>
    rw[sy];split
    . exact W
    . rw[d5];exact W
  | counts=>exact W
end My
namespace My
open PySem PySem.Spec PyProof.Rows L2 HT
def mks:List Mk:=[X8 .begin_,X8 .refuse,X8 .let_,mk3 .cost,X8 .out,mkR .due,X8 .may,LU .size,LU .blocked,LU .first,LU .best,LU .prices,mkR .check,mk1 .rest,LU .most,mk1 .safe,mk1 .plan,mkR .sail,LU .back,LU .log,mkR .repair,LU .counts]
section
variable{P:Program}{w:World}{K:Frag}{mg:Str->Option Value}{base:Heap}
def aiy(C:Addr):Sp:=fun vs H Q _=>∃(p:Addr) (A:FA) (s:Vbreai.State) (l:Addr) (nums:List Int) (c:Call) (n:Nat) (mk:Mk),vs=[.ref p,.int n,.ref l]/\mks[n]? =some mk/\aL C H p A s/\Wf s/\H l=some (.lst (nums.map V.int))/\l∉c8 A/\mk nums=some c/\nums.length<=1000/\Dv C p A s c H Q
def afy(P:Program)(w:World)(base:Heap)(T:Txt K mg)(n:Nat)(mk:Mk):Prop:=∃(f:Addr) (fd:FuncData) (lv:Nat) (ps:List Str),Sj [V.ref T.oZ.f,V.ref T.kW.f,V.ref T.Ez.f,V.ref T.uG.f,V.ref T.EC.f,V.ref T.Ey.f,V.ref T.EB.f,V.ref T.uM.f,V.ref T.ij.f,V.ref T.o4.f,V.ref T.uF.f,V.ref T.kU.f,V.ref T.o3.f,V.ref T.uJ.f,V.ref T.uH.f,V.ref T.uK.f,V.ref T.uI.f,V.ref T.uL.f,V.ref T.uE.f,V.ref T.EA.f,V.ref T.kX.f,V.ref T.kT.f] (n:Int)=some (.ref f)/\keepIn K (.ref f)=true/\ay P w K mg base bo lv f fd ps (cQ T.ah mk)/\Binds K fd ps []/\lv<=13
theorem aeY(T:Txt K mg):∀(n:Nat) (mk:Mk),mks[n]? =some mk->afy P w base T n mk
  | 0,_,h=>Option.some.inj h▸⟨_,_,_,_,rfl,T.oZ.F.kp,Yl T,T.oZ.b,by decide⟩
  | 1,_,h=>Option.some.inj h▸⟨_,_,_,_,rfl,T.kW.F.kp,Vs T,T.kW.b,by decide⟩
  | 2,_,h=>Option.some.inj h▸⟨_,_,_,_,rfl,T.Ez.F.kp,aeC T,T.Ez.b,by decide⟩
  | 3,_,h=>Option.some.inj h▸⟨_,_,_,_,rfl,T.uG.F.kp,abv T,T.uG.b,by decide⟩
  | 4,_,h=>Option.some.inj h▸⟨_,_,_,_,rfl,T.EC.F.kp,aeF T,T.EC.b,by decide⟩
  | 5,_,h=>Option.some.inj h▸⟨_,_,_,_,rfl,T.Ey.F.kp,aeB T,T.Ey.b,by decide⟩
  | 6,_,h=>Option.some.inj h▸⟨_,_,_,_,rfl,T.EB.F.kp,aeE T,T.EB.b,by decide⟩
  | 7,_,h=>Option.some.inj h▸⟨_,_,_,_,rfl,T.uM.F.kp,abD T,T.uM.b,by decide⟩
  | 8,_,h=>Option.some.inj h▸⟨_,_,_,_,rfl,T.ij.F.kp,Rc T,T.ij.b,by decide⟩
  | 9,_,h=>Option.some.inj h▸⟨_,_,_,_,rfl,T.o4.F.kp,Yn T,T.o4.b,by decide⟩
  | 10,_,h=>Option.some.inj h▸⟨_,_,_,_,rfl,T.uF.F.kp,abu T,T.uF.b,by decide⟩
  | 11,_,h=>Option.some.inj h▸⟨_,_,_,_,rfl,T.kU.F.kp,Vq T,T.kU.b,by decide⟩
  | 12,_,h=>Option.some.inj h▸⟨_,_,_,_,rfl,T.o3.F.kp,Ym T,T.o3.b,by decide⟩
  | 13,_,h=>Option.some.inj h▸⟨_,_,_,_,rfl,T.uJ.F.kp,abA T,T.uJ.b,by decide⟩
  | 14,_,h=>Option.some.inj h▸⟨_,_,_,_,rfl,T.uH.F.kp,aby T,T.uH.b,by decide⟩
  | 15,_,h=>Option.some.inj h▸⟨_,_,_,_,rfl,T.uK.F.kp,abB T,T.uK.b,by decide⟩
  | 16,_,h=>Option.some.inj h▸⟨_,_,_,_,rfl,T.uI.F.kp,abz T,T.uI.b,by decide⟩
  | 17,_,h=>Option.some.inj h▸⟨_,_,_,_,rfl,T.uL.F.kp,abC T,T.uL.b,by decide⟩
  | 18,_,h=>Option.some.inj h▸⟨_,_,_,_,rfl,T.uE.F.kp,abt T,T.uE.b,by decide⟩
  | 19,_,h=>Option.some.inj h▸⟨_,_,_,_,rfl,T.EA.F.kp,aeD T,T.EA.b,by decide⟩
  | 20,_,h=>Option.some.inj h▸⟨_,_,_,_,rfl,T.kX.F.kp,Vt T,T.kX.b,by decide⟩
  | 21,_,h=>Option.some.inj h▸⟨_,_,_,_,rfl,T.kT.F.kp,Vp T,T.kT.b,by decide⟩
  | n+22,_,h=>by simp[mks]at h
theorem FW(T:Txt K mg):ay P w K mg base bo 14 T.dX.f T.dX.fd ["fleet","number","numbers"] (aiy T.ah):=by
  refine T.dX.F.ok sj (fun vs H Q E h=>?_) (fun bP A outer s H vs Q E hr h=>?_)
  . obtain⟨p,A,s,l,nums,c,n,mk,rfl,_⟩:=h;rfl
  . obtain⟨p,A',st,l,nums,cl,n,mk,rfl,hn,F,W,hl,B5,kc,hnl,k⟩:=h;refine⟨_,(ag (aY (i:=3) (sj.nd) rfl (Or.inl rfl) (a9 lA (F7 T.JO) (pv 1) (fun _ _=>rfl))) (ai (aq (Ys 3 (aa (pv 0) (aa (pv 2) ab)))))),?_⟩;obtain⟨f,fd,lv,ps,at_,kp,G,b,hlv⟩:=aeY (P:=P) (w:=w) (base:=base) T n mk hn;exact⟨_,rfl,T.JO.a,_,_,_,rfl,rfl,T.JO.q H,at_,f,rfl,kp,_,rfl,_,rfl,lv,fd,ps,_,G,hr.mono (by omega),b,p,A',st,l,nums,cl,rfl,F,W,hl,B5,kc,hnl,k⟩
end
end My
namespace My
open PySem PySem.Spec PyProof.Rows L2 HT
theorem aho{l:List Int}(h:l.length<=7):(cnt l).length<=8:=by rw[oX];omega
theorem mH{α:Type}(g:α->List Int)(m:Nat):∀l:List α,(∀a∈l,(g a).length<=m)->(counted g l).length<=1+m*l.length:=by
  intro l h;unfold counted;rw[length_cons];have:(l.flatMap g).length<=m*l.length:=by
    induction l with
    | nil=>simp
    | cons a l ih=>rw[flatMap_cons,length_append,length_cons,Nat.mul_succ];have:=ih fun b hb=>h b (mem_cons_of_mem _ hb);have:=h a mem_cons_self;omega
  omega
theorem i7(f:Flight):(boatsIn f).length<=1+1*f.length:=mH _ 1 f fun _ _=>le_refl _
theorem o8{s:Vbreai.State}(W:Wf s){f:Flight}(h:f∈flights s):f.length<=7:=by rw[eM]at h;obtain⟨bs,hb,rfl⟩:=mem_map.mp h;rw[x5 (by rw[eW hb,a7])];exact cR W
theorem mI(s:Vbreai.State):∀(L:List Flight) (o:Option Flight) (g:Flight),L.foldl (cheaper s) o=some g->g∈L\/o=some g
  | [],o,g,h=>.inr h
  | x::L,o,g,h=>by
    rw[foldl_cons]at h;rcases mI s L _ g h with h | h
    . exact .inl (mem_cons_of_mem _ h)
    . cases o with
      | none=>left;have:x=g:=Option.some.inj h;rw[this];exact mem_cons_self
      | some y=>
        have h:(if price s x<price s y then some x else some y)=some g:=h;split at h
        . left;have:x=g:=Option.some.inj h;rw[this];exact mem_cons_self
        . exact .inr h
theorem om(f:Flight):∀(L:List Flight) (o:Option Flight) (g:Flight),L.foldl (nearer f) o=some g->g∈L\/o=some g
  | [],o,g,h=>.inr h
  | x::L,o,g,h=>by
    rw[foldl_cons]at h;rcases om f L _ g h with h | h
    . exact .inl (mem_cons_of_mem _ h)
    . cases o with
      | none=>left;have:x=g:=Option.some.inj h;rw[this];exact mem_cons_self
      | some y=>
        have h:(if Vbreai.moves f x<Vbreai.moves f y then some x else some y)=some g:=h;split at h
        . left;have:x=g:=Option.some.inj h;rw[this];exact mem_cons_self
        . exact .inr h
theorem lX{s:Vbreai.State}{o:Option Flight}{f:Flight->Answer}{m:Nat}(hm:1<=m)(h:∀g,o=some g->(f g).length<=m):(orNone s o f).2.length<=m:=by
  cases o with
  | none=>exact hm
  | some g=>exact h g rfl
theorem pH{s:Vbreai.State}{c b:Int}{k:Nat->Nat->Vbreai.State×Answer}(h:∀x y,(k x y).2.length<=1000):(onPair s c b k).2.length<=1000:=by
  unfold onPair;split
  . exact(by decide:(1:Nat)<=1000)
  . split
    . exact(by decide:(1:Nat)<=1000)
    . exact h _ _
theorem dH:(1:Nat)<=1000:=by decide
theorem Si{s:Vbreai.State}(W:Wf s)(c:Call):(Vbreai.step s c).2.length<=1000:=by
  have hd:=cR W;cases c with
  | begin_ c b=>show(if _ then _ else _:Vbreai.State×Answer).2.length<=1000;split<;>exact dH
  | refuse c b=>refine pH fun x y=>?_;split<;>exact dH
  | let_ c b=>refine pH fun x y=>?_;split<;>exact dH
  | cost c b n=>refine pH fun x y=>?_;split<;>exact dH
  | out b v=>
    rw[GN];split
    . exact dH
    . split<;>exact dH
  | due l=>
    rw[GL];split
    . exact dH
    . split<;>exact dH
  | may c b=>exact pH fun x y=>dH
  | size=>exact dH
  | blocked=>show(counted Vbreai.one (Vbreai.blocked s)++counted Vbreai.one (boatsOf s (Vbreai.blocked s))).length<=1000;rw[fZ,fZ,<-wd W,<-WM W.b7,length_append,oX,oX,dw,dw];have:=AW W;have:=WO s (gr s);omega
  | first=>refine lX dH fun g hg=>?_;have:=i7 g;have:=o8 W (mem_of_head? hg);omega
  | best=>refine lX dH fun g hg=>?_;have hm:=(mI s _ none g hg).resolve_right (fun q=>by cases q);have:=i7 g;have:=o8 W hm;rw[length_cons];omega
  | prices=>
    refine lX dH fun g hg=>?_;rw[length_append];have a:=mH Vbreai.one 1 (Vbreai.prices s) fun _ _=>le_refl _;have b:=mH (fun(c:Nat)=>Vbreai.one ((fare s (Vbreai.prices s) c).getD 0)) 1 s.due fun _ _=>le_refl _;have c:(Vbreai.prices s).length=s.boats:=by unfold Vbreai.prices;rw[length_map,length_range]
    have:=W.b7;omega
  | check l=>
    rw[vY];split
    . exact dH
    . split
      . exact dH
      . exact(by decide:(2:Nat)<=1000)
  | rest k=>rw[AL];split<;>exact dH
  | most=>exact dH
  | safe k=>
    rw[AM];split
    . exact dH
    . refine lX dH fun g hg=>?_;have:=i7 g;have:=o8 W (List.mem_of_find?_eq_some hg);omega
  | plan k=>
    rw[AK];split
    . exact dH
    . next h=>
      rw[not_eq_false]at h;obtain⟨n,rfl,h1,h2⟩:=cM h (by omega);rw[toNat_natCast,Ae n W.w0];split
      . exact dH
      . next l hl=>
        obtain⟨Tr,hp,rfl⟩:=Option.map_eq_some_iff.mp hl;obtain⟨p1,p2⟩:=Ad n (dP W) hp;have:=mH boatsIn 8 (Tr.map (toF s.due)) fun f hf=>by obtain⟨bs,hb,rfl⟩:=mem_map.mp hf;have:=i7 (toF s.due bs);have e:=x5 (due:=s.due) (bs:=bs) (by rw[p2 bs hb,a7]);rw[e]at this;omega
        rw[length_map,p1]at this;show(counted boatsIn (Tr.map (toF s.due))).length<=1000;omega
  | sail l=>
    rw[AN];split
    . exact dH
    . split<;>exact dH
  | back=>rw[AJ];split<;>exact dH
  | log=>rw[Oh,length_cons];have:=ET s.sailed.reverse fun f hf=>W.fn f (List.mem_reverse.mp hf);rw[length_reverse]at this;have:=W.sl;omega
  | repair l=>
    rw[sy];split
    . exact dH
    . refine lX dH fun g hg=>?_;have hm:=(om _ _ none g hg).resolve_right (fun q=>by cases q);have:=i7 g;have:=o8 W hm;rw[length_cons];omega
  | counts=>exact(by decide:(5:Nat)<=1000)
def WN:List V:=[.int 2,.int 2,.int 2,.int 3,.int 2,.int 0,.int 2,.int 0,.int 0,.int 0,.int 0,.int 0,.int 0,.int 1,.int 0,.int 1,.int 1,.int 0,.int 0,.int 0,.int 0,.int 0]
def WR:List V:=[.int 5,.int 12,.int 17,.int 20]
def ko(p:Int)(n k:Nat):Prop:=∃(q:Nat) (mk:Mk),p=q/\mks[q]? =some mk/\n<=3/\Sj WN p=some (.int n)/\((k=0/\inV (.int p) WR=false/\∀nums:List Int,nums.length=n->∃d,mk nums=some d/\VbreaiNeutral.callOf [p::nums]=some d/\PyVbreai.whole [p::nums]=[p::nums])\/(k=1/\n=0/\inV (.int p) WR=true/\∀nums:List Int,∃d,mk nums=some d/\VbreaiNeutral.callOf [[p],nums]=some d/\PyVbreai.whole [[p],nums]=[[p],nums]/\(VbreaiNeutral.asked1 [[p],nums]=true->nums.length<=1000)))
theorem Z6{a:Bool}{P:Prop}[Decidable P](h:(a&&decide P)=true):P:=of_decide_eq_true ((and_eq_true _ _).mp h).2
theorem aio:ko 0 2 0:=⟨0,_,rfl,rfl,by decide,rfl,.inl ⟨rfl,rfl,fun nums h=>by
  match nums,h with
  | [a,b],_=>exact⟨_,rfl,rfl,rfl⟩⟩⟩
theorem aip:ko 1 2 0:=⟨1,_,rfl,rfl,by decide,rfl,.inl ⟨rfl,rfl,fun nums h=>by
  match nums,h with
  | [a,b],_=>exact⟨_,rfl,rfl,rfl⟩⟩⟩
theorem aiq:ko 2 2 0:=⟨2,_,rfl,rfl,by decide,rfl,.inl ⟨rfl,rfl,fun nums h=>by
  match nums,h with
  | [a,b],_=>exact⟨_,rfl,rfl,rfl⟩⟩⟩
theorem air:ko 3 3 0:=⟨3,_,rfl,rfl,by decide,rfl,.inl ⟨rfl,rfl,fun nums h=>by
  match nums,h with
  | [a,b,c],_=>exact⟨_,rfl,rfl,rfl⟩⟩⟩
theorem ais:ko 4 2 0:=⟨4,_,rfl,rfl,by decide,rfl,.inl ⟨rfl,rfl,fun nums h=>by
  match nums,h with
  | [a,b],_=>exact⟨_,rfl,rfl,rfl⟩⟩⟩
theorem ait:ko 5 0 1:=⟨5,_,rfl,rfl,by decide,rfl,.inr ⟨rfl,rfl,rfl,fun nums=>⟨_,rfl,rfl,rfl,fun h=>Z6 h⟩⟩⟩
theorem aiu:ko 6 2 0:=⟨6,_,rfl,rfl,by decide,rfl,.inl ⟨rfl,rfl,fun nums h=>by
  match nums,h with
  | [a,b],_=>exact⟨_,rfl,rfl,rfl⟩⟩⟩
theorem aiv:ko 7 0 0:=⟨7,_,rfl,rfl,by decide,rfl,.inl ⟨rfl,rfl,fun nums h=>by
  match nums,h with
  | [],_=>exact⟨_,rfl,rfl,rfl⟩⟩⟩
theorem aiw:ko 8 0 0:=⟨8,_,rfl,rfl,by decide,rfl,.inl ⟨rfl,rfl,fun nums h=>by
  match nums,h with
  | [],_=>exact⟨_,rfl,rfl,rfl⟩⟩⟩
theorem aix:ko 9 0 0:=⟨9,_,rfl,rfl,by decide,rfl,.inl ⟨rfl,rfl,fun nums h=>by
  match nums,h with
  | [],_=>exact⟨_,rfl,rfl,rfl⟩⟩⟩
theorem agI:ko 10 0 0:=⟨10,_,rfl,rfl,by decide,rfl,.inl ⟨rfl,rfl,fun nums h=>by
  match nums,h with
  | [],_=>exact⟨_,rfl,rfl,rfl⟩⟩⟩
theorem agJ:ko 11 0 0:=⟨11,_,rfl,rfl,by decide,rfl,.inl ⟨rfl,rfl,fun nums h=>by
  match nums,h with
  | [],_=>exact⟨_,rfl,rfl,rfl⟩⟩⟩
theorem agK:ko 12 0 1:=⟨12,_,rfl,rfl,by decide,rfl,.inr ⟨rfl,rfl,rfl,fun nums=>⟨_,rfl,rfl,rfl,fun h=>Z6 h⟩⟩⟩
theorem agL:ko 13 1 0:=⟨13,_,rfl,rfl,by decide,rfl,.inl ⟨rfl,rfl,fun nums h=>by
  match nums,h with
  | [a],_=>exact⟨_,rfl,rfl,rfl⟩⟩⟩
theorem agM:ko 14 0 0:=⟨14,_,rfl,rfl,by decide,rfl,.inl ⟨rfl,rfl,fun nums h=>by
  match nums,h with
  | [],_=>exact⟨_,rfl,rfl,rfl⟩⟩⟩
theorem agN:ko 15 1 0:=⟨15,_,rfl,rfl,by decide,rfl,.inl ⟨rfl,rfl,fun nums h=>by
  match nums,h with
  | [a],_=>exact⟨_,rfl,rfl,rfl⟩⟩⟩
theorem agO:ko 16 1 0:=⟨16,_,rfl,rfl,by decide,rfl,.inl ⟨rfl,rfl,fun nums h=>by
  match nums,h with
  | [a],_=>exact⟨_,rfl,rfl,rfl⟩⟩⟩
theorem agP:ko 17 0 1:=⟨17,_,rfl,rfl,by decide,rfl,.inr ⟨rfl,rfl,rfl,fun nums=>⟨_,rfl,rfl,rfl,fun h=>Z6 h⟩⟩⟩
theorem agQ:ko 18 0 0:=⟨18,_,rfl,rfl,by decide,rfl,.inl ⟨rfl,rfl,fun nums h=>by
  match nums,h with
  | [],_=>exact⟨_,rfl,rfl,rfl⟩⟩⟩
theorem agR:ko 19 0 0:=⟨19,_,rfl,rfl,by decide,rfl,.inl ⟨rfl,rfl,fun nums h=>by
  match nums,h with
  | [],_=>exact⟨_,rfl,rfl,rfl⟩⟩⟩
theorem agS:ko 20 0 1:=⟨20,_,rfl,rfl,by decide,rfl,.inr ⟨rfl,rfl,rfl,fun nums=>⟨_,rfl,rfl,rfl,fun h=>Z6 h⟩⟩⟩
theorem agT:ko 21 0 0:=⟨21,_,rfl,rfl,by decide,rfl,.inl ⟨rfl,rfl,fun nums h=>by
  match nums,h with
  | [],_=>exact⟨_,rfl,rfl,rfl⟩⟩⟩
theorem N7{p:Int}{n k:Nat}(h:PyVbreai.shape p=some (n,k)):ko p n k:=by
  unfold PyVbreai.shape at h;by_cases h0:p=0
  . rw[if_pos h0]at h;injection h with h;injection h with a b;subst a b h0;exact aio
  rw[if_neg h0]at h;by_cases h1:p=1
  . rw[if_pos h1]at h;injection h with h;injection h with a b;subst a b h1;exact aip
  rw[if_neg h1]at h;by_cases h2:p=2
  . rw[if_pos h2]at h;injection h with h;injection h with a b;subst a b h2;exact aiq
  rw[if_neg h2]at h;by_cases h3:p=3
  . rw[if_pos h3]at h;injection h with h;injection h with a b;subst a b h3;exact air
  rw[if_neg h3]at h;by_cases h4:p=4
  . rw[if_pos h4]at h;injection h with h;injection h with a b;subst a b h4;exact ais
  rw[if_neg h4]at h;by_cases h5:p=5
  . rw[if_pos h5]at h;injection h with h;injection h with a b;subst a b h5;exact ait
  rw[if_neg h5]at h;by_cases h6:p=6
  . rw[if_pos h6]at h;injection h with h;injection h with a b;subst a b h6;exact aiu
  rw[if_neg h6]at h;by_cases h7:p=7
  . rw[if_pos h7]at h;injection h with h;injection h with a b;subst a b h7;exact aiv
  rw[if_neg h7]at h;by_cases h8:p=8
  . rw[if_pos h8]at h;injection h with h;injection h with a b;subst a b h8;exact aiw
  rw[if_neg h8]at h;by_cases h9:p=9
  . rw[if_pos h9]at h;injection h with h;injection h with a b;subst a b h9;exact aix
  rw[if_neg h9]at h;by_cases h10:p=10
  . rw[if_pos h10]at h;injection h with h;injection h with a b;subst a b h10;exact agI
  rw[if_neg h10]at h;by_cases h11:p=11
  . rw[if_pos h11]at h;injection h with h;injection h with a b;subst a b h11;exact agJ
  rw[if_neg h11]at h;by_cases h12:p=12
  . rw[if_pos h12]at h;injection h with h;injection h with a b;subst a b h12;exact agK
  rw[if_neg h12]at h;by_cases h13:p=13
  . rw[if_pos h13]at h;injection h with h;injection h with a b;subst a b h13;exact agL
  rw[if_neg h13]at h;by_cases h14:p=14
  . rw[if_pos h14]at h;injection h with h;injection h with a b;subst a b h14;exact agM
  rw[if_neg h14]at h;by_cases h15:p=15
  . rw[if_pos h15]at h;injection h with h;injection h with a b;subst a b h15;exact agN
  rw[if_neg h15]at h;by_cases h16:p=16
  . rw[if_pos h16]at h;injection h with h;injection h with a b;subst a b h16;exact agO
  rw[if_neg h16]at h;by_cases h17:p=17
  . rw[if_pos h17]at h;injection h with h;injection h with a b;subst a b h17;exact agP
  rw[if_neg h17]at h;by_cases h18:p=18
  . rw[if_pos h18]at h;injection h with h;injection h with a b;subst a b h18;exact agQ
  rw[if_neg h18]at h;by_cases h19:p=19
  . rw[if_pos h19]at h;injection h with h;injection h with a b;subst a b h19;exact agR
  rw[if_neg h19]at h;by_cases Xq:p=20
  . rw[if_pos Xq]at h;injection h with h;injection h with a b;subst a b Xq;exact agS
  rw[if_neg Xq]at h;by_cases h21:p=21
  . rw[if_pos h21]at h;injection h with h;injection h with a b;subst a b h21;exact agT
  rw[if_neg h21]at h;cases h
theorem Il{fuel:Nat}{rest:List Int}{cs:List (List (List Int))}{p:Int}{r:List Int}(hr:rest=p::r)(h:PyFlat.calls PyVbreai.shape fuel rest=some cs):∃(n k:Nat) (c:List (List Int)) (SD:List (List (List Int))) (t:List Int) (IG:Nat),PyVbreai.shape p=some (n,k)/\cs=c::SD/\PyFlat.calls PyVbreai.shape IG t=some SD/\n<=r.length/\((k=0->c=[p::r.take n]/\t=r.drop n)/\(k=1->∃(m:Nat) (r':List Int),r.drop n=(m:Int)::r'/\m<=r'.length/\c=[p::r.take n,r'.take m]/\t=r'.drop m)):=by
  subst hr;cases fuel with
  | zero=>cases h
  | succ fuel=>
    have h:(match PyFlat.call PyVbreai.shape (p::r)with
      | none=>none
      | some (c,t)=>match PyFlat.calls PyVbreai.shape fuel t with
        | none=>none
        | some cs=>some (c::cs))=some cs:=h
    cases q:PyFlat.call PyVbreai.shape (p::r)with
    | none=>rw[q]at h;cases h
    | some ct=>
      obtain⟨c,t⟩:=ct;rw[q]at h;cases q2:PyFlat.calls PyVbreai.shape fuel t with
      | none=>simp only[q2]at h;cases h
      | some SD=>
        simp only[q2]at h;have hcs:c::SD=cs:=Option.some.inj h;have q:(match PyVbreai.shape p with
          | none=>none
          | some (n,k)=>if r.length<n then none else match PyFlat.rows k (r.drop n)with
            | none=>none
            | some (xs,t)=>some ((p::r.take n)::xs,t))=some (c,t):=q
        cases q3:PyVbreai.shape p with
        | none=>rw[q3]at q;cases q
        | some nk=>
          obtain⟨n,k⟩:=nk;rw[q3]at q;dsimp only at q;by_cases hl:r.length<n
          . rw[if_pos hl]at q;cases q
          . rw[if_neg hl]at q;refine⟨n,k,c,SD,t,fuel,rfl,hcs.symm,q2,by omega,fun hk=>?_,fun hk=>?_⟩
            . subst hk;have q:some ((p::r.take n)::([]:List (List Int)),r.drop n)=some (c,t):=q;injection q with q;injection q with a b;exact⟨a.symm,b.symm⟩
            . subst hk;cases hd:r.drop n with
              | nil=>rw[hd]at q;cases q
              | cons m r'=>
                rw[hd]at q;have q:(match (match PyFlat.row (m::r')with
                  | none=>none
                  | some (x,s)=>match PyFlat.rows 0 s with
                    | none=>none
                    | some (xs,t)=>some (x::xs,t))with
                  | none=>none
                  | some (xs,t)=>some ((p::r.take n)::xs,t))=some (c,t):=q
                have e:PyFlat.row (m::r')=if 0<=m/\m.toNat<=r'.length then some (r'.take m.toNat,r'.drop m.toNat) else none:=rfl
                by_cases hm:0<=m/\m.toNat<=r'.length
                . rw[e,if_pos hm]at q;have q:some ((p::r.take n):: [r'.take m.toNat],r'.drop m.toNat)=some (c,t):=q;injection q with q;injection q with a b;exact⟨m.toNat,r',by congr 1;omega,hm.2,a.symm,b.symm⟩
                . rw[e,if_neg hm]at q;cases q
theorem Ug{fuel:Nat}{cs:List (List (List Int))}(h:PyFlat.calls PyVbreai.shape fuel []=some cs):cs=[]:=by
  cases fuel with
  | zero=>exact(Option.some.inj (show some []=some cs from h)).symm
  | succ f=>exact(Option.some.inj (show some []=some cs from h)).symm
theorem A0:∀(cs:List (List (List Int))) (fuel:Nat) (L:List Int),PyFlat.calls PyVbreai.shape fuel L=some cs->cs.map PyVbreai.whole=cs
  | [],_,_,_=>rfl
  | c::cs,fuel,[],h=>by cases fuel<;>cases h
  | c::cs,fuel,p::r,h=>by
    obtain⟨n,kk,c',SD,t,IG,hsh,e,aaA,hn,hk0,ZA⟩:=Il rfl h;injection e with e1 e2;subst e1 e2;rw[map_cons,A0 cs IG t aaA];congr 1;obtain⟨q,mk,rfl,_,_,_,⟨rfl,_,hd⟩ | ⟨rfl,rfl,_,hd⟩⟩:=N7 hsh
    . rw[(hk0 rfl).1];obtain⟨_,_,_,w⟩:=hd (r.take n) (by rw[length_take];omega);exact w
    . obtain⟨m,r',_,_,e,_⟩:=ZA rfl;rw[e,take_zero];obtain⟨_,_,_,w,_⟩:=hd (r'.take m);exact w
theorem WV{L:List Int}{cs:List (List (List Int))}(h:PyVbreai.calls L=some cs):PyFlat.calls PyVbreai.shape L.length L=some cs:=by
  unfold PyVbreai.calls at h;cases q:PyFlat.calls PyVbreai.shape L.length L with
  | none=>rw[q]at h;cases h
  | some ds=>rw[q]at h;have e:ds.map PyVbreai.whole=cs:=Option.some.inj h;rw[<-e,A0 _ _ _ q]
end My
namespace My
open PySem PySem.Spec PyProof.Rows L2 HT
theorem aL.xM{C p:Addr}{A:FA}{H:Hp}{s:Vbreai.State}(F:aL C H p A s){D:Addr}{xs:List V}{o:HO}(hD:H D=some (.lst xs))(hn:D∉c8 A):aL C (upd H D o) p A s:=by
  have own:∀{q:Addr} {u:HO},q∈c8 A->H q=some u->upd H D o q=some u:=fun hq e=>by rw[au (fun z=>hn (by rw[<-z];exact hq))];exact e
  have Wm:∀{q:Addr} {u:HO},(∀ys,u≠ .lst ys)->H q=some u->upd H D o q=some u:=fun hq e=>by rw[au (fun z=>by rw[z,hD]at e;exact hq xs (Option.some.inj e).symm)];exact e
  have sl:∀(i:Nat) (l:List Addr),(slots A)[i]? =some l->∀{q:Addr} {u:HO},q∈l->H q=some u->upd H D o q=some u:=fun i l hl q u hq e=>own (gQ.mpr ⟨i,l,hl,hq⟩) e;refine⟨Wm (fun _ z=>by cases z) F.ins,sl 0 _ rfl mem_cons_self F.r,F.rl,fun c a h=>sl 6 A.rr rfl (mem_of_getElem? h) (F.YH c a h),sl 1 _ rfl mem_cons_self F.k,F.kl,fun c a h=>sl 7 A.kr rfl (mem_of_getElem? h) (F.kw c a h),sl 5 _ rfl mem_cons_self F.t,F.tl,fun c a h=>sl 8 A.tr rfl (mem_of_getElem? h) (F.tw c a h),sl 2 _ rfl mem_cons_self F.o,sl 3 _ rfl mem_cons_self F.d,sl 4 _ rfl mem_cons_self F.sl,?_,F.nd⟩;have key:∀{sf:List Addr} {fs:List Flight},Paired (Jr H) sf fs->(∀a∈sf,a∈A.sf)->Paired (Jr (upd H D o)) sf fs:=by
    intro sf fs h;induction h with
    | nil=>intro _;exact .nil
    | @cons a f sf fs h t ih=>intro m;refine .cons ?_ (ih fun a ha=>m a (mem_cons_of_mem _ ha));obtain⟨ts,h1,h2⟩:=h;exact⟨ts,sl 9 A.sf rfl (m a mem_cons_self) h1,Paired.et h2 fun _ _ z=>Wm (fun _ q=>by cases q) z⟩
  exact key F.sf fun a ha=>ha
section
variable{P:Program}{w:World}{K:Frag}{mg:Str->Option Value}{base:Heap}
def YU(K:Frag):Sp:=fun vs H Q _=>∃(ca:Addr) (L:List Int),vs=[.ref ca]/\aN K H ca (L.map V.int)/\PyVbreai.answers_asked L=true/\∀D H',H' D=some (.lst ((PyVbreai.answers L).map V.int))->Q (.ref D) H'
theorem Rb(T:Txt K mg):ay P w K mg base bo 15 T.yP.f T.yP.fd ["calls"] (YU K):=by
  have Js:ay P w K mg base bo 2 _ _ _ _:=HC T;have G0:ay P w K mg base bo 14 _ _ _ _:=FW T;refine T.yP.F.ok cO (fun vs H Q E h=>?_) (fun bP A outer s H vs Q E hr h=>?_)
  . obtain⟨ca,L,rfl,_⟩:=h;rfl
  . obtain⟨ca,L,rfl,hca,Ko,k⟩:=h;refine⟨_,(ag (aY (i:=1) (cO.nd) rfl (Or.inl rfl) (Yt T.rP Js (hr.mono (by decide)) rfl T.W3 T.gz.b .nil aI)) (ag (aY (i:=2) (cO.nd) rfl (Or.inl rfl) (aS ab)) (ag (aY (i:=3) (cO.nd) rfl (Or.inl rfl) aE) (ag (NW PassesOwn.never (cT Yp (pv 3) (aJ aP rfl T.cC b9 (aa (pv 0) ab)) (ez _)) (ag (aY (i:=4) (cO.nd) rfl (Or.inl rfl) (a9 aW (pv 0) (pv 3) (fun _ _=>rfl))) (ag (aY (i:=5) (cO.nd) rfl (Or.inl rfl) (bV nL (pv 3) aE)) (ag (aY (i:=6) (cO.nd) rfl (Or.inl rfl) (a9 lA (F7 T.jr) (pv 4) (fun _ _=>rfl))) (ag (bW (cT zZ (pv 4) (F7 T.uv) (by with_unfolding_all rfl)) (ag (aY (i:=6) (cO.nd) rfl (Or.inl rfl) (a9 aW (pv 0) (pv 5) (fun _ _=>rfl))) (ai (aY (i:=5) (cO.nd) rfl (Or.inl rfl) (bV nL (pv 5) aE)))) aZ) (ag (aY (i:=3) (cO.nd) rfl (Or.inl rfl) (bV nL (pv 5) (pv 6))) (ag (aY (i:=7) (cO.nd) rfl (Or.inl rfl) (aH G0 (hr.mono (by decide)) rfl T.dX.g T.dX.F.kp T.dX.b .nil aI (aa (pv 1) (aa (pv 4) (aa (Yu acj (pv 0) (Tt (pv 5)) (Tt (pv 3))) ab))))) (ag (eE (xC PySem.F.plainAttrs_list PySem.F.slot_list_append PySem.F.type_list_append tm (pv 2) (aa (aJ aP rfl T.cC b9 (aa (pv 7) ab)) ab))) (ai (eE (xC PySem.F.plainAttrs_list PySem.F.slot_list_extend PySem.F.type_list_extend tp (pv 2) (aa (pv 7) ab)))))))))))) (ai (aq (pv 2))))))),?_⟩;unfold PyVbreai.answers_asked at Ko;unfold PyVbreai.answers at k;cases hc:PyVbreai.calls L with
    | none=>rw[hc]at Ko;cases Ko
    | some cs0=>
    rw[hc]at Ko k;dsimp only at Ko k;rw[and_eq_true]at Ko;have Xs:=Ko.2;unfold VbreaiNeutral.asked at Xs;rw[and_eq_true,and_eq_true,decide_eq_true_eq,decide_eq_true_eq]at Xs;have ahF:=WV hc;refine fun p dx np nd ne=>⟨p,dx,rfl,ae,fun A1 H1 x1 F1 n1=>⟨rfl,?_⟩⟩;have sH1:aA H H1:=aA.made np nd x1;have agx:∀q∈c8 A1,H q=none:=fun q hq=>mw (mw (n1 q hq).1);refine⟨sz (by simp),fun D hD=>?_⟩;have sH2:=sH1.trans (ak (o:=.lst []) hD);have EZ:=sH1.free hD;have hp0:=np;have hDp:D≠p:=fun e=>by rw[e,F1.ins]at hD;cases hD
    refine⟨fun m σ Hc=>∃(place:Nat) (st:Vbreai.State) (A1:FA) (cs:List (List (List Int))) (fuel:Nat) (Dg:List Int) (m4 m5 m6 m7:Option V),σ=[some (.ref ca),some (.ref p),some (.ref D),some (.int place),m4,m5,m6,m7]/\aA H Hc/\aL T.ah Hc p A1 st/\Wf st/\(∀q∈c8 A1,H q=none)/\D∉c8 A1/\Hc D=some (.lst (Dg.map V.int))/\place<=L.length/\PyFlat.calls PyVbreai.shape fuel (L.drop place)=some cs/\cs.all VbreaiNeutral.asked1=true/\Dg++PyFlat.told (PyFlat.played VbreaiNeutral.step st cs)=PyFlat.told (PyFlat.played VbreaiNeutral.step VbreaiNeutral.start cs0)/\Dg.length+1001*cs.length<=401000/\m=cs.length,
      ⟨cs0.length,0,Vbreai.start,A1,cs0,L.length,[],none,none,none,none,rfl,sH2,F1.same (ak hD),Zk,agx,F1.zK hD,ae,zero_le _,ahF,Xs.1,rfl,by rw[length_nil];omega,rfl⟩,?_⟩
    rintro m σ Hc ⟨place,st,A1,cs,fuel,Dg,m4,m5,m6,m7,rfl,sH,F,W,UP,hDA,hg,t6,hcs,acP,MX,hlen,rfl⟩;clear F1 x1 n1 agx sH1 sH2 hD;refine⟨_,rfl,_,rfl,ca,_,rfl,.inl (aA.seq sH hca),_,_,rfl,rfl,_,rfl,?_⟩;rw[length_map];by_cases dD:place<L.length
    . have e:decide ((place:Int)<(L.length:Int))=true:=decide_eq_true (by omega);refine Eq.mpr (congrArg (fun b=>if b=true then _ else _) e) (cx ?_);obtain⟨pn,hpn⟩:∃pn,L[place]? =some pn:=⟨L[place],getElem?_eq_getElem dD⟩;have M3:L.drop place=pn::L.drop (place+1):=by have:=drop_eq_getElem_cons dD;rw[this];congr 1;rw[getElem?_eq_getElem dD]at hpn;exact Option.some.inj hpn
      obtain⟨n,kk,c,SD,t,IG,hsh,rfl,aaA,ahP,hk0,ZA⟩:=Il M3 hcs;obtain⟨q,mk,rfl,kc,hn3,hwn,afV⟩:=N7 hsh;rw[all_cons,and_eq_true]at acP;obtain⟨S4,acO⟩:=acP;rw[length_drop]at ahP;refine⟨fun σ' H'=>∃(place:Nat) (st:Vbreai.State) (A1:FA) (cs:List (List (List Int))) (fuel:Nat) (Dg:List Int) (m4 m5 m6 m7:Option V),σ'=[some (.ref ca),some (.ref p),some (.ref D),some (.int place),m4,m5,m6,m7]/\aA H H'/\aL T.ah H' p A1 st/\Wf st/\(∀q∈c8 A1,H q=none)/\D∉c8 A1/\H' D=some (.lst (Dg.map V.int))/\place<=L.length/\PyFlat.calls PyVbreai.shape fuel (L.drop place)=some cs/\cs.all VbreaiNeutral.asked1=true/\Dg++PyFlat.told (PyFlat.played VbreaiNeutral.step st cs)=PyFlat.told (PyFlat.played VbreaiNeutral.step VbreaiNeutral.start cs0)/\Dg.length+1001*cs.length<=401000/\SD.length=cs.length,
        fun σ' H' ⟨place,st,A1,cs,fuel,Dg,m4,m5,m6,m7,e1,e2,e3,e4,e5,e6,e7,e8,e9,e10,e11,e12,e13⟩=>⟨cs.length,by rw[<-e13,length_cons];omega,place,st,A1,cs,fuel,Dg,m4,m5,m6,m7,e1,e2,e3,e4,e5,e6,e7,e8,e9,e10,e11,e12,rfl⟩,?_⟩
      refine⟨_,rfl,_,rfl,ca,_,_,_,rfl,rfl,aA.seq sH hca,JG hpn,?_⟩;refine⟨_,rfl,_,_,rfl,rfl,?_⟩;refine⟨_,rfl,T.jr.a,WN,_,_,rfl,rfl,T.jr.q Hc,hwn,?_⟩;refine⟨_,rfl,T.uv.a,WR,rfl,.inr (T.uv.q Hc),rfl,rfl,_,rfl,?_⟩;rcases afV with⟨rfl,ze,hd⟩ | ⟨rfl,rfl,ze,hd⟩
      . obtain⟨rfl,rfl⟩:=hk0 rfl;refine Eq.mpr (congrArg (fun b=>if b=true then _ else _) ze) (cU ?_);obtain⟨d,tZ,hd2,_⟩:=hd ((L.drop (place+1)).take n) (by rw[length_take,length_drop];omega);obtain⟨nums,MZ⟩:∃nums,(L.drop (place+1)).take n=nums:=⟨_,rfl⟩;rw[MZ]at tZ;have hnl:nums.length<=1000:=by rw[<-MZ,length_take];omega
        have MW:L.drop (place+1+n)=(L.drop (place+1)).drop n:=by rw[List.drop_drop]
        generalize [((q:Nat):Int)::(L.drop (place+1)).take n]=c at hd2 S4 MX hcs hlen;have adQ:BU (L.map V.int) (some (((place:Nat):Int)+1)) (some ((((place:Nat):Int)+1)+((n:Nat):Int)))=nums.map V.int:=by
          rw[show(((place:Nat):Int)+1)+((n:Nat):Int)=(((place+1)+n:Nat):Int) by omega,show(((place:Nat):Int)+1)=(((place+1):Nat):Int) by omega];unfold BU;rw[HT.Dq,HT.Dq,length_map,<-MZ,List.map_take,List.map_drop];congr 1
          . omega
          . congr 1;omega
        refine⟨_,rfl,_,rfl,_,_,rfl,rfl,?_⟩;have Xi:(((place+1)+n:Nat):Int)=(((place:Nat):Int)+1)+((n:Nat):Int):=by omega
        refine⟨_,rfl,_,rfl,_,rfl,_,rfl,_,rfl,_,rfl,_,rfl,ca,_,rfl,aA.seq sH hca,fun u hu=>?_⟩;have s2:=ak (o:=.lst (BU (L.map V.int) (some (((place:Nat):Int)+1)) (some ((((place:Nat):Int)+1)+((n:Nat):Int))))) hu;refine⟨p,A1,st,u,nums,d,q,mk,rfl,kc,F.same s2,W,(by rw[ae,adQ]),F.zK hu,tZ,hnl,fun D2 A2 H3 af v4 Zv eD2=>?_⟩;generalize upd Hc u (.lst (BU (L.map V.int) (some (((place:Nat):Int)+1)) (some ((((place:Nat):Int)+1)+((n:Nat):Int)))))=H2 at s2 af v4;have Zw:=Si W d;have P9:H2 D=some (.lst (Dg.map V.int)):=s2 _ _ hg;have S1:H3 D=some (.lst (Dg.map V.int)):=af.kp _ _ P9 hDp hDA;have eZ:D2≠D:=fun e=>by rw[e,P9]at v4;cases v4
        refine⟨_,rfl,.inl ⟨rfl,_,aN.of S1⟩,_,rfl,D2,_,rfl,.inl (aN.of eD2),D,_,_,rfl,rfl,S1,lt_of_lt_of_le (by rw[length_map];omega:(Dg.map V.int).length<16000000) (sz (le_refl _)),?_⟩;refine⟨_,rfl,.inl ⟨rfl,_,aN.of ae⟩,_,rfl,D,D2,_,_,rfl,rfl,ae,(by rw[au eZ];exact eD2),sz (by rw[length_append,length_map,length_map,length_singleton];omega),?_⟩;have Qa:D∉c8 A2:=fun m=>by
          rcases af.ow D m with h | h
          . exact hDA h
          . rw[P9]at h;cases h
        have s3:aA H H3:=fun b o e=>by have hb:=s2 _ _ (sH _ _ e);exact af.kp b o hb (fun z=>by rw[z,hp0]at e;cases e) fun m=>by rw[UP b m]at e;cases e
        have F5:=((af.ok.xM (o:=.lst (Dg.map V.int++ [.int ((((Vbreai.step st d).2.map V.int).length:Nat):Int)])) S1 Qa)).xM (o:=.lst (Dg.map V.int++ [.int ((((Vbreai.step st d).2.map V.int).length:Nat):Int)]++(Vbreai.step st d).2.map V.int)) ae Qa;refine⟨(place+1)+n,(Vbreai.step st d).1,A2,SD,IG,Dg++(((Vbreai.step st d).2.length:Int)::(Vbreai.step st d).2),_,_,_,_,(by rw[Xi];rfl),bv (bv s3 EZ) EZ,F5,TN W d,fun x hx=>?_,Qa,?_,by omega,?_,acO,?_,?_,rfl⟩
        . rcases af.ow x hx with h | h
          . exact UP x h
          . exact(sH.trans s2).free h
        . rw[ae,length_map];simp
        . rw[MW];exact aaA
        . rw[<-MX,append_assoc];congr 1;show _=PyFlat.told (PyFlat.played VbreaiNeutral.step st (c::SD));have e1:VbreaiNeutral.step st c=Vbreai.step st d:=by unfold VbreaiNeutral.step;rw[hd2]
          show _=(((VbreaiNeutral.step st c).2.length:Int)::(VbreaiNeutral.step st c).2)++PyFlat.told (PyFlat.played VbreaiNeutral.step (VbreaiNeutral.step st c).1 SD);rw[e1]
        . rw[length_append,length_cons];rw[length_cons]at hlen;omega
      . obtain⟨mm,r',hr',hmr,rfl,rfl⟩:=ZA rfl;rw[List.drop_zero]at hr';rw[take_zero]at S4 MX hcs hlen;refine Eq.mpr (congrArg (fun b=>if b=true then _ else _) ze) (cx ?_);have adY:place+1<L.length:=by have:=congrArg List.length hr';rw[length_drop,length_cons]at this;omega
        have hm0:L[place+1]? =some ((mm:Nat):Int):=by have:=drop_eq_getElem_cons adY;rw[hr']at this;rw[getElem?_eq_getElem adY];exact congrArg some (List.cons.inj this).1.symm
        have hr2:r'=L.drop (place+2):=by have:=drop_eq_getElem_cons adY;rw[hr']at this;exact(List.cons.inj this).2
        have ai0:mm<=L.length-(place+2):=by rw[hr2,length_drop]at hmr;exact hmr
        obtain⟨d,tZ,hd2,_,hrw⟩:=hd (r'.take mm);have XF:=hrw S4;clear hrw;obtain⟨nums,XB⟩:∃nums,r'.take mm=nums:=⟨_,rfl⟩;have MZ:(L.drop (place+2)).take mm=nums:=by rw[<-hr2];exact XB
        rw[XB]at tZ XF;have hnl:nums.length<=1000:=XF;have MW:L.drop (place+2+mm)=r'.drop mm:=by rw[hr2,List.drop_drop]
        generalize [[((q:Nat):Int)],r'.take mm]=c at hd2 S4 MX hcs hlen;refine⟨_,rfl,_,rfl,ca,_,_,_,rfl,rfl,aA.seq sH hca,(show Sj (L.map V.int) (((place:Nat):Int)+1)=some (.int mm) from JG (i:=place+1) hm0),?_⟩;refine⟨_,rfl,_,_,rfl,rfl,?_⟩;have adQ:BU (L.map V.int) (some (((place:Nat):Int)+1+1)) (some ((((place:Nat):Int)+1+1)+((mm:Nat):Int)))=nums.map V.int:=by
          rw[show(((place:Nat):Int)+1+1)+((mm:Nat):Int)=(((place+2)+mm:Nat):Int) by omega,show(((place:Nat):Int)+1+1)=(((place+2):Nat):Int) by omega];unfold BU;rw[HT.Dq,HT.Dq,length_map,<-MZ,List.map_take,List.map_drop];congr 1
          . omega
          . congr 1;omega
        refine⟨_,rfl,_,rfl,_,_,rfl,rfl,?_⟩;have Xi:(((place+2)+mm:Nat):Int)=(((place:Nat):Int)+1+1)+((mm:Nat):Int):=by omega
        refine⟨_,rfl,_,rfl,_,rfl,_,rfl,_,rfl,_,rfl,_,rfl,ca,_,rfl,aA.seq sH hca,fun u hu=>?_⟩;have s2:=ak (o:=.lst (BU (L.map V.int) (some (((place:Nat):Int)+1+1)) (some ((((place:Nat):Int)+1+1)+((mm:Nat):Int))))) hu;refine⟨p,A1,st,u,nums,d,q,mk,rfl,kc,F.same s2,W,(by rw[ae,adQ]),F.zK hu,tZ,hnl,fun D2 A2 H3 af v4 Zv eD2=>?_⟩;generalize upd Hc u (.lst (BU (L.map V.int) (some (((place:Nat):Int)+1+1)) (some ((((place:Nat):Int)+1+1)+((mm:Nat):Int)))))=H2 at s2 af v4;have Zw:=Si W d;have P9:H2 D=some (.lst (Dg.map V.int)):=s2 _ _ hg;have S1:H3 D=some (.lst (Dg.map V.int)):=af.kp _ _ P9 hDp hDA;have eZ:D2≠D:=fun e=>by rw[e,P9]at v4;cases v4
        refine⟨_,rfl,.inl ⟨rfl,_,aN.of S1⟩,_,rfl,D2,_,rfl,.inl (aN.of eD2),D,_,_,rfl,rfl,S1,lt_of_lt_of_le (by rw[length_map];omega:(Dg.map V.int).length<16000000) (sz (le_refl _)),?_⟩;refine⟨_,rfl,.inl ⟨rfl,_,aN.of ae⟩,_,rfl,D,D2,_,_,rfl,rfl,ae,(by rw[au eZ];exact eD2),sz (by rw[length_append,length_map,length_map,length_singleton];omega),?_⟩;have Qa:D∉c8 A2:=fun m=>by
          rcases af.ow D m with h | h
          . exact hDA h
          . rw[P9]at h;cases h
        have s3:aA H H3:=fun b o e=>by have hb:=s2 _ _ (sH _ _ e);exact af.kp b o hb (fun z=>by rw[z,hp0]at e;cases e) fun m=>by rw[UP b m]at e;cases e
        have F5:=((af.ok.xM (o:=.lst (Dg.map V.int++ [.int ((((Vbreai.step st d).2.map V.int).length:Nat):Int)])) S1 Qa)).xM (o:=.lst (Dg.map V.int++ [.int ((((Vbreai.step st d).2.map V.int).length:Nat):Int)]++(Vbreai.step st d).2.map V.int)) ae Qa;refine⟨(place+2)+mm,(Vbreai.step st d).1,A2,SD,IG,Dg++(((Vbreai.step st d).2.length:Int)::(Vbreai.step st d).2),_,_,_,_,(by rw[Xi];rfl),bv (bv s3 EZ) EZ,F5,TN W d,fun x hx=>?_,Qa,?_,by omega,?_,acO,?_,?_,rfl⟩
        . rcases af.ow x hx with h | h
          . exact UP x h
          . exact(sH.trans s2).free h
        . rw[ae,length_map];simp
        . rw[MW];exact aaA
        . rw[<-MX,append_assoc];congr 1;show _=PyFlat.told (PyFlat.played VbreaiNeutral.step st (c::SD));have e1:VbreaiNeutral.step st c=Vbreai.step st d:=by unfold VbreaiNeutral.step;rw[hd2]
          show _=(((VbreaiNeutral.step st c).2.length:Int)::(VbreaiNeutral.step st c).2)++PyFlat.told (PyFlat.played VbreaiNeutral.step (VbreaiNeutral.step st c).1 SD);rw[e1]
        . rw[length_append,length_cons];rw[length_cons]at hlen;omega
    . have e:decide ((place:Int)<(L.length:Int))=false:=decide_eq_false (by omega);refine Eq.mpr (congrArg (fun b=>if b=true then _ else _) e) (cU ⟨_,rfl,?_⟩);have:place=L.length:=by omega
      rw[drop_eq_nil_of_le (by omega)]at hcs;have:=Ug hcs;subst this;have MX:Dg=PyFlat.told (PyFlat.played VbreaiNeutral.step VbreaiNeutral.start cs0):=by rw[<-MX];show _=Dg++ [];rw[append_nil]
      exact k D Hc (by rw[hg,MX])
end
end My
set_option maxHeartbeats 4000000
namespace My
open PySem PySem.Spec PyProof.Rows L2 HT
section
variable{K:Frag}{h:Heap}{mg:Str->Option Value}
abbrev ZM(st:Stmt)(x qual:Str)(kV doc pm:Value)(an:Option Addr)(bP ct:Value):FuncData:=fnOf x qual (wD st) (sQ st) (am st) .none kV doc pm an bP ct
abbrev cI(K:Frag)(x:Str)(v:Option Value):Prop:=nsIn K mainGlobals x=some v
abbrev v3(K:Frag)(C:Addr)(x:Str)(v:Option Value):Prop:=findIn K (.ref C) x=some v
abbrev dF(K:Frag)(c:Value)(x:Str):Prop:=codeIn K c x=true
abbrev dB(K:Frag)(f:Addr):Prop:=keepIn K (.ref f)=true
abbrev LN(K:Frag)(f:Addr):Prop:=isFn K (.ref f)=true
abbrev dG(K:Frag)(st:Stmt)(x qual:Str)(f:Addr)(oc:Value)(od:Option Addr)(kV doc pm:Value)(an:Option Addr)(bP ct:Value)(LV:Array (Option Value)):Prop:=K.lookup f=some ⟨oc,od,.func (ZM st x qual kV doc pm an bP ct),LV⟩
variable{x qual:Str}{st:Stmt}{C f:Addr}{oc:Value}{od an:Option Addr}{LV:Array (Option Value)}{kV doc pm bP ct:Value}
def lS{p0:Str}(X:K.In h)(G:h.Ns mainGlobals mg)(a:cI K x (some (.ref f)))(l:dG K st x x f oc od kV doc pm an bP ct LV)(c:dF K bP x)(k:dB K f)(h:∀(kV doc pm:Value) (an:Option Addr) (bP ct u0:Value),bindArgs (ZM st x x kV doc pm an bP ct) ⟨[u0],[]⟩=pure (([p0]:List Str).zip [u0]):=by intros;rfl):Fn K mg x st [p0]:=⟨f,_,gH l c k,(gH l c k).binds (fun _ _ _ _ _ _ us hl=>match us,hl with | [_],_=>h _ _ _ _ _ _ _),mg_of X G a⟩
def Ya{p0:Str}(a:v3 K C x (some (.ref f)))(i:LN K f)(l:dG K st x qual f oc od kV doc pm an bP ct LV)(c:dF K bP qual)(k:dB K f)(h:∀(kV doc pm:Value) (an:Option Addr) (bP ct u0:Value),bindArgs (ZM st x qual kV doc pm an bP ct) ⟨[u0],[]⟩=pure (([p0]:List Str).zip [u0]):=by intros;rfl):Mt K C x qual st [p0]:=⟨f,_,gH l c k,(gH l c k).binds (fun _ _ _ _ _ _ us hl=>match us,hl with | [_],_=>h _ _ _ _ _ _ _),⟨a,i,k⟩⟩
def b0{p0 p1:Str}(X:K.In h)(G:h.Ns mainGlobals mg)(a:cI K x (some (.ref f)))(l:dG K st x x f oc od kV doc pm an bP ct LV)(c:dF K bP x)(k:dB K f)(h:∀(kV doc pm:Value) (an:Option Addr) (bP ct u0 u1:Value),bindArgs (ZM st x x kV doc pm an bP ct) ⟨[u0,u1],[]⟩=pure (([p0,p1]:List Str).zip [u0,u1]):=by intros;rfl):Fn K mg x st [p0,p1]:=⟨f,_,gH l c k,(gH l c k).binds (fun _ _ _ _ _ _ us hl=>match us,hl with | [_,_],_=>h _ _ _ _ _ _ _ _),mg_of X G a⟩
def Bm{p0 p1:Str}(a:v3 K C x (some (.ref f)))(i:LN K f)(l:dG K st x qual f oc od kV doc pm an bP ct LV)(c:dF K bP qual)(k:dB K f)(h:∀(kV doc pm:Value) (an:Option Addr) (bP ct u0 u1:Value),bindArgs (ZM st x qual kV doc pm an bP ct) ⟨[u0,u1],[]⟩=pure (([p0,p1]:List Str).zip [u0,u1]):=by intros;rfl):Mt K C x qual st [p0,p1]:=⟨f,_,gH l c k,(gH l c k).binds (fun _ _ _ _ _ _ us hl=>match us,hl with | [_,_],_=>h _ _ _ _ _ _ _ _),⟨a,i,k⟩⟩
def X9{p0 p1 p2:Str}(X:K.In h)(G:h.Ns mainGlobals mg)(a:cI K x (some (.ref f)))(l:dG K st x x f oc od kV doc pm an bP ct LV)(c:dF K bP x)(k:dB K f)(h:∀(kV doc pm:Value) (an:Option Addr) (bP ct u0 u1 u2:Value),bindArgs (ZM st x x kV doc pm an bP ct) ⟨[u0,u1,u2],[]⟩=pure (([p0,p1,p2]:List Str).zip [u0,u1,u2]):=by intros;rfl):Fn K mg x st [p0,p1,p2]:=⟨f,_,gH l c k,(gH l c k).binds (fun _ _ _ _ _ _ us hl=>match us,hl with | [_,_,_],_=>h _ _ _ _ _ _ _ _ _),mg_of X G a⟩
def Yb{p0 p1 p2:Str}(a:v3 K C x (some (.ref f)))(i:LN K f)(l:dG K st x qual f oc od kV doc pm an bP ct LV)(c:dF K bP qual)(k:dB K f)(h:∀(kV doc pm:Value) (an:Option Addr) (bP ct u0 u1 u2:Value),bindArgs (ZM st x qual kV doc pm an bP ct) ⟨[u0,u1,u2],[]⟩=pure (([p0,p1,p2]:List Str).zip [u0,u1,u2]):=by intros;rfl):Mt K C x qual st [p0,p1,p2]:=⟨f,_,gH l c k,(gH l c k).binds (fun _ _ _ _ _ _ us hl=>match us,hl with | [_,_,_],_=>h _ _ _ _ _ _ _ _ _),⟨a,i,k⟩⟩
def acZ{p0 p1 p2 p3:Str}(X:K.In h)(G:h.Ns mainGlobals mg)(a:cI K x (some (.ref f)))(l:dG K st x x f oc od kV doc pm an bP ct LV)(c:dF K bP x)(k:dB K f)(h:∀(kV doc pm:Value) (an:Option Addr) (bP ct u0 u1 u2 u3:Value),bindArgs (ZM st x x kV doc pm an bP ct) ⟨[u0,u1,u2,u3],[]⟩=pure (([p0,p1,p2,p3]:List Str).zip [u0,u1,u2,u3]):=by intros;rfl):Fn K mg x st [p0,p1,p2,p3]:=⟨f,_,gH l c k,(gH l c k).binds (fun _ _ _ _ _ _ us hl=>match us,hl with | [_,_,_,_],_=>h _ _ _ _ _ _ _ _ _ _),mg_of X G a⟩
def Yc{c:Str}{t:Addr}{o:Obj}{aX:Array Value}{n:Nat}{vs:List V}(X:K.In h)(G:h.Ns mainGlobals mg)(a:cI K c (some (.ref t)))(l:K.lookup t=some o)(e:o.cls=.type "tuple")(d:o.data=.seq aX n)(s:aX.size<=sizeLine)(v:Vals vs aX.toList):Ww K mg c vs:=⟨t,mg_of X G a,fun _=>.inr ⟨o,aX,n,l,e,d,s,v⟩⟩
end
theorem all_mk{P:Program}{w:World}{K:Frag}{h:Heap}{mg:Str->Option Value}{fa aK ah nj qX P2 EQ k5 P4 gE ir o6 jw uR gF uU yZ EO i3 gD di fG y4 jx k8 uS k6 y6 y8 fm qW uV Dc wH SV Kb SY SU SX Kh sR De Ka wG Dd Ke Kc Kf Kd Kg J9 SW wI wF k9 qZ qY uT lh k7 jy jz yY ni j4 i0 eS eR eT eD dN j5 gC cS yX TK ql GP:Addr}{FV DR K5 JB abi ZY Vl T8 Ct BD abj ZZ vA uq xr v9 HB G4 zR yo Ny Ma vB ur NB Md Q7 O9 Vj T6 FT DP Cs BC rS qy zQ yn Q8 Pa zS yp Cw BG Nz Mb Cu BE Q9 Pb Ra Pc rT qz K4 JA NC Me Yi WE Vm T9 aev adl abh ZX aey ado aeu adk aex adn abp Z5 Q5 O7 Yk WG abg ZW Vk T7 Yj WF abm Z2 abk Z0 abn Z3 abl Z1 abo Z4 abf ZV aew adm Vn Ua Vi T5 Cy BH K7 JD K6 JC NA Mc Cz BI Cv BF zT yq zU yr Q6 O8 FU DQ Hz G2 FS DN xp v7 xo v6 xq v8 vz uo tK tF HA G3 Cr BB pG oP Q4 O6:Option Addr}{GG Lz ach VQ CW aci vW xX HP AF N9 vX Oc RP VO GD CV su AE RQ AG C0 Oa CY RR RS sv Ly Od YR VR ae2 acg ae5 ae1 ae4 acp RN YT acf VP YS acm ack acn acl aco ace ae3 VS VN C1 LB LA Ob C2 CZ AH AI RO GF HM GC xV xU xW vV tN HN CU pT RM:Array (Option Value)}{FR Fc EG Gg qM Ew K1 Kx J1 Li wj JW aa7 aaL aaq abP Sr aae Vf U0 Uw VA Ir Um Ck Ca BX CJ p8 BN aa8 aaM aar abQ Ss aaf vx vc uO vI kR uC xn w6 wC xK mF wy Hy Ht Hg HH tT Hd zM zk yT Ag nX yK Nr M7 Mz NP A3 Mr vy vd uP vJ kS uD Nv Na MC NS A6 Mv Q0 Qo PR Rp Eh PH Vd UY Uu Vy Ip Uk FP E9 EE Gd qK Et Cj B9 BW CI p7 BM rQ rn qS rY i9 qP zL zj yS Af nW yJ Q1 Qp PU Rq Ei PJ zN zl yU Ah nY yL Co Cd B1 CM qb BQ Nt M8 MA NQ A4 Ms Cm Cb BZ CK p9 BO Q2 Qq PV Rr Ej PK Q3 Qr PX Rt Ek PL rR rp qT rZ ja qR K0 Kw J0 Lh wg JV Nw Nb MD NT A7 Mw Yf XQ Xc Yy Ml W9 Vg U1 Ux VB Iu Uo aeq aea adD aeQ WX adw aa6 aaK aap abO Sq aad aet aed adG aeT W1 adz aep ad9 adC aeP WW adv aes aec adF aeS WZ ady abe aaS aax abW Sz aal QY Qm PP Rn Ef PD Yh XS Xe YA Mn Xb aa5 aaJ aao abN So aac Ve UZ Uv Vz Iq Ul Yg XR Xd Yz Mm Xa abb aaP aau abT Sw aai aa9 aaN aas abR Su aag abc aaQ aav abU Sx aaj aba aaO aat abS Sv aah abd aaR aaw abV Sy aak aa4 aaI aan abM Sn aab aer aeb adE aeR WY adx Vh U3 Uy VC Iv Up Vc UX Ut Vx Io Uj Cp Ce B2 CN qc BR K3 Kz J3 Lk wl JY K2 Ky J2 Lj wk JX Nu M9 MB NR A5 Mu Cq Cf B3 CO qd BS Cn Cc B0 CL qa BP zO zm yV Ai nZ yM zP zo yW Aj n0 yN QZ Qn PQ Ro Eg PF FQ Fb EF Gf qL Eu Hw Hr He HF tR Ha FO E8 ED Gc qJ Es xl wZ wA xI mD ww xk wY wz xH mC wu xm w4 wB xJ mE wx vw va uN vH kQ uB tJ tI tH tM jZ tG Hx Hs Hf HG tS Hb Ci B8 BV CH p5 BL pF pq o5 pM gy oY QX Ql PN Rm Ee PB:Value}{KZ jP vv:Obj}{zi gJ pk:Array Value}{aa2 Cg QV:Nat}{XT IT rA Bf IR Fe t9 Be w8 rz rq qg w9 t8:Tok}(X:K.In h)(G:h.Ns mainGlobals mg)(hfa:mg "answers"=some (.ref fa))(yg:cI K "Places" (some (.ref aK)))(DF:cI K "Fleet" (some (.ref ah)))(mW:cI K "boat_prices" (some (.ref nj)))(nI:dG K nP "boat_prices" "boat_prices" nj FR FV Fc EG Gg DR qM Ew GG)(nh:dF K qM "boat_prices")(nE:dB K nj)(qv:cI K "due_fares" (some (.ref qX)))(rH:dG K se "due_fares" "due_fares" qX K1 K5 Kx J1 Li JB wj JW Lz)(qG:dF K wj "due_fares")(rC:dB K qX)(OY:cI K "fare" (some (.ref P2)))(QG:dG K Rz "fare" "fare" P2 aa7 abi aaL aaq abP ZY Sr aae ach)(Pk:dF K Sr "fare")(Qv:dB K P2)(DJ:cI K "proven" (some (.ref EQ)))(Fs:dG K Gu "proven" "proven" EQ Vf Vl U0 Uw VA T8 Ir Um VQ)(D7:dF K Ir "proven")(Fi:dB K EQ)(kx:cI K "first_flight" (some (.ref k5)))(lL:dG K mf "first_flight" "first_flight" k5 Ck Ct Ca BX CJ BD p8 BN CW)(kK:dF K p8 "first_flight")(lD:dB K k5)(OZ:cI K "free" (some (.ref P4)))(QH:dG K RA "free" "free" P4 aa8 abj aaM aar abQ ZZ Ss aaf aci)(Pl:dF K Ss "free")(Qw:dB K P4)(gp:cI K "cheapest_flight" (some (.ref gE)))(gO:dG K gW "cheapest_flight" "cheapest_flight" gE vx vA vc uO vI uq kR uC vW)(gw:dF K kR "cheapest_flight")(gL:dB K gE)(hZ:cI K "with_next_crew" (some (.ref ir)))(iI:dG K iU "with_next_crew" "with_next_crew" ir xn xr w6 wC xK v9 mF wy xX)(ig:dF K mF "with_next_crew")(iD:dB K ir)(oO:cI K "worst_lack" (some (.ref o6)))(pD:dG K pR "worst_lack" "worst_lack" o6 Hy HB Ht Hg HH G4 tT Hd HP)(oV:dF K tT "worst_lack")(pz:dB K o6)(jm:cI K "blocked_crews" (some (.ref jw)))(jL:dG K jT "blocked_crews" "blocked_crews" jw zM zR zk yT Ag yo nX yK AF)(js:dF K nX "blocked_crews")(jG:dB K jw)(ui:cI K "boats_of" (some (.ref uR)))(vm:dG K vN "boats_of" "boats_of" uR Nr Ny M7 Mz NP Ma A3 Mr N9)(uw:dF K A3 "boats_of")(ve:dB K uR)(gq:cI K "sets_with_boats" (some (.ref gF)))(gP:dG K gX "sets_with_boats" "sets_with_boats" gF vy vB vd uP vJ ur kS uD vX)(gx:dF K kS "sets_with_boats")(gM:dB K gF)(ul:cI K "in_every" (some (.ref uU)))(vp:dG K vQ "in_every" "in_every" uU Nv NB Na MC NS Md A6 Mv Oc)(uz:dF K A6 "in_every")(vh:dB K uU)(yj:cI K "lack_of" (some (.ref yZ)))(zD:dG K As "lack_of" "lack_of" yZ Q0 Q7 Qo PR Rp O9 Eh PH RP)(yA:dF K Eh "lack_of")(zt:dB K yZ)(DH:cI K "joined" (some (.ref EO)))(Fp:dG K Gr "joined" "joined" EO Vd Vj UY Uu Vy T6 Ip Uk VO)(DY:dF K Ip "joined")(Fg:dB K EO)(iY:v3 K aK "__init__" (some (.ref i3)))(i4:LN K i3)(nG:dG K nN "__init__" "Places.__init__" i3 FP FT E9 EE Gd DP qK Et GD)(m9:dF K qK "Places.__init__")(nA:dB K i3)(ku:v3 K aK "spare" (some (.ref gD)))(ly:LN K gD)(lK:dG K me "spare" "Places.spare" gD Cj Cs B9 BW CI BC p7 BM CV)(kJ:dF K p7 "Places.spare")(lC:dB K gD)(fh:v3 K aK "enough_for" (some (.ref di)))(fo:LN K di)(fu:dG K fw "enough_for" "Places.enough_for" di rQ rS rn qS rY qy i9 qP su)(fj:dF K i9 "Places.enough_for")(fq:dB K di)(jl:v3 K aK "scarce" (some (.ref fG)))(jE:LN K fG)(jK:dG K jS "scarce" "Places.scarce" fG zL zQ zj yS Af yn nW yJ AE)(jq:dF K nW "Places.scarce")(jF:dB K fG)(yk:cI K "offered" (some (.ref y4)))(zE:dG K Au "offered" "offered" y4 Q1 Q8 Qp PU Rq Pa Ei PJ RQ)(yB:dF K Ei "offered")(zu:dB K y4)(jn:cI K "counts_by_set" (some (.ref jx)))(jM:dG K jU "counts_by_set" "counts_by_set" jx zN zS zl yU Ah yp nY yL AG)(jt:dF K nY "counts_by_set")(jH:dB K jx)(kD:cI K "no_more_than" (some (.ref k8)))(lO:dG K mj "no_more_than" "no_more_than" k8 Co Cw Cd B1 CM BG qb BQ C0)(kN:dF K qb "no_more_than")(lG:dB K k8)(uj:cI K "can_sail" (some (.ref uS)))(vn:dG K vO "can_sail" "can_sail" uS Nt Nz M8 MA NQ Mb A4 Ms Oa)(ux:dF K A4 "can_sail")(vf:dB K uS)(kz:cI K "most_flights" (some (.ref k6)))(lM:dG K mh "most_flights" "most_flights" k6 Cm Cu Cb BZ CK BE p9 BO CY)(kL:dF K p9 "most_flights")(lE:dB K k6)(yl:cI K "plan_of" (some (.ref y6)))(zF:dG K Av "plan_of" "plan_of" y6 Q2 Q9 Qq PV Rr Pb Ej PK RR)(yC:dF K Ej "plan_of")(zv:dB K y6)(ym:cI K "without" (some (.ref y8)))(zG:dG K Aw "without" "without" y8 Q3 Ra Qr PX Rt Pc Ek PL RS)(yD:dF K Ek "without")(zw:dB K y8)(fi:cI K "first_safe_flight" (some (.ref fm)))(fv:dG K fz "first_safe_flight" "first_safe_flight" fm rR rT rp qT rZ qz ja qR sv)(fk:dF K ja "first_safe_flight")(ft:dB K fm)(qu:cI K "completed" (some (.ref qW)))(rG:dG K sd "completed" "completed" qW K0 K4 Kw J0 Lh JA wg JV Ly)(qF:dF K wg "completed")(rB:dB K qW)(um:cI K "one_less" (some (.ref uV)))(vq:dG K vR "one_less" "one_less" uV Nw NC Nb MD NT Me A7 Mw Od)(uA:dF K A7 "one_less")(vk:dB K uV)(Jx:cI K "begin" (some (.ref Dc)))(KH:dG K Lr "begin" "begin" Dc Yf Yi XQ Xc Yy WE Ml W9 YR)(JQ:dF K Ml "begin")(KA:dB K Dc)(DK:cI K "refuse" (some (.ref wH)))(Ft:dG K Gv "refuse" "refuse" wH Vg Vm U1 Ux VB T9 Iu Uo VR)(D8:dF K Iu "refuse")(Fj:dB K wH)(Wz:cI K "let" (some (.ref SV)))(X1:dG K YJ "let" "let" SV aeq aev aea adD aeQ adl WX adw ae2)(WQ:dF K WX "let")(XW:dB K SV)(OX:cI K "cost" (some (.ref Kb)))(QF:dG K Ry "cost" "cost" Kb aa6 abh aaK aap abO ZX Sq aad acg)(Pj:dF K Sq "cost")(Qu:dB K Kb)(WC:cI K "out" (some (.ref SY)))(l_out:dG K YM "out" "out" SY aet aey aed adG aeT ado W1 adz ae5)(WU:dF K W1 "out")(XZ:dB K SY)(Wy:cI K "due" (some (.ref SU)))(X0:dG K YI "due" "due" SU aep aeu ad9 adC aeP adk WW adv ae1)(WP:dF K WW "due")(XU:dB K SU)(WB:cI K "may" (some (.ref SX)))(X3:dG K YL "may" "may" SX aes aex aec adF aeS adn WZ ady ae4)(WT:dF K WZ "may")(XY:dB K SX)(O5:cI K "size" (some (.ref Kh)))(QN:dG K RG "size" "size" Kh abe abp aaS aax abW Z5 Sz aal acp)(Pu:dF K Sz "size")(k_size:dB K Kh)(yh:cI K "blocked" (some (.ref sR)))(zB:dG K Aq "blocked" "blocked" sR QY Q5 Qm PP Rn O7 Ef PD RN)(yy:dF K Ef "blocked")(zq:dB K sR)(Jz:cI K "first" (some (.ref De)))(KJ:dG K Lu "first" "first" De Yh Yk XS Xe YA WG Mn Xb YT)(JS:dF K Mn "first")(KD:dB K De)(OW:cI K "best" (some (.ref Ka)))(QE:dG K Rx "best" "best" Ka aa5 abg aaJ aao abN ZW So aac acf)(Ph:dF K So "best")(Qt:dB K Ka)(DI:cI K "prices" (some (.ref wG)))(Fq:dG K Gs "prices" "prices" wG Ve Vk UZ Uv Vz T7 Iq Ul VP)(DZ:dF K Iq "prices")(Fh:dB K wG)(Jy:cI K "check" (some (.ref Dd)))(KI:dG K Ls "check" "check" Dd Yg Yj XR Xd Yz WF Mm Xa YS)(JR:dF K Mm "check")(KC:dB K Dd)(O2:cI K "rest" (some (.ref Ke)))(QK:dG K RD "rest" "rest" Ke abb abm aaP aau abT Z2 Sw aai acm)(Pp:dF K Sw "rest")(Qz:dB K Ke)(O0:cI K "most" (some (.ref Kc)))(QI:dG K RB "most" "most" Kc aa9 abk aaN aas abR Z0 Su aag ack)(Pn:dF K Su "most")(Qx:dB K Kc)(O3:cI K "safe" (some (.ref Kf)))(QL:dG K RE "safe" "safe" Kf abc abn aaQ aav abU Z3 Sx aaj acn)(Pq:dF K Sx "safe")(QA:dB K Kf)(O1:cI K "plan" (some (.ref Kd)))(QJ:dG K RC "plan" "plan" Kd aba abl aaO aat abS Z1 Sv aah acl)(Po:dF K Sv "plan")(Qy:dB K Kd)(O4:cI K "sail" (some (.ref Kg)))(QM:dG K RF "sail" "sail" Kg abd abo aaR aaw abV Z4 Sy aak aco)(Pt:dF K Sy "sail")(QB:dB K Kg)(OV:cI K "back" (some (.ref J9)))(QD:dG K Rw "back" "back" J9 aa4 abf aaI aan abM ZV Sn aab ace)(Pg:dF K Sn "back")(Qs:dB K J9)(WA:cI K "log" (some (.ref SW)))(X2:dG K YK "log" "log" SW aer aew aeb adE aeR adm WY adx ae3)(WS:dF K WY "log")(XX:dB K SW)(DL:cI K "repair" (some (.ref wI)))(Fu:dG K Gw "repair" "repair" wI Vh Vn U3 Uy VC Ua Iv Up VS)(D9:dF K Iv "repair")(Fk:dB K wI)(DG:cI K "counts" (some (.ref wF)))(Fo:dG K Gq "counts" "counts" wF Vc Vi UX Ut Vx T5 Io Uj VN)(DX:dF K Io "counts")(Ff:dB K wF)(kE:cI K "pair_refusal" (some (.ref k9)))(lP:dG K ml "pair_refusal" "pair_refusal" k9 Cp Cy Ce B2 CN BH qc BR C1)(kO:dF K qc "pair_refusal")(lH:dB K k9)(qx:cI K "mark_pair" (some (.ref qZ)))(rK:dG K sh "mark_pair" "mark_pair" qZ K3 K7 Kz J3 Lk JD wl JY LB)(qI:dF K wl "mark_pair")(rE:dB K qZ)(qw:cI K "is_flight" (some (.ref qY)))(rJ:dG K sg "is_flight" "is_flight" qY K2 K6 Ky J2 Lj JC wk JX LA)(qH:dF K wk "is_flight")(rD:dB K qY)(uk:cI K "cheapest" (some (.ref uT)))(vo:dG K vP "cheapest" "cheapest" uT Nu NA M9 MB NR Mc A5 Mu Ob)(uy:dF K A5 "cheapest")(vg:dB K uT)(kF:cI K "priced_offer" (some (.ref lh)))(lQ:dG K mo "priced_offer" "priced_offer" lh Cq Cz Cf B3 CO BI qd BS C2)(kP:dF K qd "priced_offer")(lI:dB K lh)(kC:cI K "moving_offer" (some (.ref k7)))(lN:dG K mi "moving_offer" "moving_offer" k7 Cn Cv Cc B0 CL BF qa BP CZ)(kM:dF K qa "moving_offer")(lF:dB K k7)(jo:cI K "flight_answer" (some (.ref jy)))(jN:dG K jV "flight_answer" "flight_answer" jy zO zT zm yV Ai yq nZ yM AH)(ju:dF K nZ "flight_answer")(jI:dB K jy)(jp:cI K "priced_answer" (some (.ref jz)))(jO:dG K jW "priced_answer" "priced_answer" jz zP zU zo yW Aj yr n0 yN AI)(jv:dF K n0 "priced_answer")(jJ:dB K jz)(yi:cI K "counted" (some (.ref yY)))(zC:dG K Ar "counted" "counted" yY QZ Q6 Qn PQ Ro O8 Eg PF RO)(yz:dF K Eg "counted")(zr:dB K yY)(mV:cI K "answer_call" (some (.ref ni)))(nH:dG K nO "answer_call" "answer_call" ni FQ FU Fb EF Gf DQ qL Eu GF)(ng:dF K qL "answer_call")(nB:dB K ni)(j0:v3 K ah "__init__" (some (.ref j4)))(j6:LN K j4)(pB:dG K pP "__init__" "Fleet.__init__" j4 Hw Hz Hr He HF G2 tR Ha HM)(oS:dF K tR "Fleet.__init__")(pw:dB K j4)(mU:v3 K ah "begin" (some (.ref i0)))(nv:LN K i0)(nF:dG K nM "begin" "Fleet.begin" i0 FO FS E8 ED Gc DN qJ Es GC)(mZ:dF K qJ "Fleet.begin")(ny:dB K i0)(hW:v3 K ah "has_crew" (some (.ref eS)))(iy:LN K eS)(iG:dG K iR "has_crew" "Fleet.has_crew" eS xl xp wZ wA xI v7 mD ww xV)(ic:dF K mD "Fleet.has_crew")(iB:dB K eS)(hJ:v3 K ah "has_boat" (some (.ref eR)))(iw:LN K eR)(iE:dG K iQ "has_boat" "Fleet.has_boat" eR xk xo wY wz xH v6 mC wu xU)(ib:dF K mC "Fleet.has_boat")(iA:dB K eR)(hX:v3 K ah "may_have" (some (.ref eT)))(iz:LN K eT)(iH:dG K iT "may_have" "Fleet.may_have" eT xm xq w4 wB xJ v8 mE wx xW)(ie:dF K mE "Fleet.may_have")(iC:dB K eT)(gn:v3 K ah "boats_for" (some (.ref eD)))(gI:LN K eD)(gN:dG K gV "boats_for" "Fleet.boats_for" eD vw vz va uN vH uo kQ uB vV)(gv:dF K kQ "Fleet.boats_for")(gK:dB K eD)(fL:v3 K ah "due_offers" (some (.ref dN)))(fN:LN K dN)(fQ:dG K fV "due_offers" "Fleet.due_offers" dN tJ tK tI tH tM tF jZ tG tN)(fM:dF K jZ "Fleet.due_offers")(fP:dB K dN)(oN:v3 K ah "sail" (some (.ref j5)))(pd:LN K j5)(pC:dG K pQ "sail" "Fleet.sail" j5 Hx HA Hs Hf HG G3 tS Hb HN)(oT:dF K tS "Fleet.sail")(px:dB K j5)(kq:v3 K ah "unsail" (some (.ref gC)))(lx:LN K gC)(lJ:dG K md "unsail" "Fleet.unsail" gC Ci Cr B8 BV CH BB p5 BL CU)(kI:dF K p5 "Fleet.unsail")(lB:dB K gC)(d8:v3 K ah "mark_together" (some (.ref cS)))(ee:LN K cS)(en:dG K eA "mark_together" "Fleet.mark_together" cS pF pG pq o5 pM oP gy oY pT)(d9:dF K gy "Fleet.mark_together")(eh:dB K cS)(sN:cI K "answers" (some (.ref yX)))(zA:dG K Ap "answers" "answers" yX QX Q4 Ql PN Rm O6 Ee PB RM)(yx:dF K Ee "answers")(zp:dB K yX)(z9:plainGet K aK Str.empty=true)(zd:hasDictIn K aK=true)(Ak:plainOver K aK=true)(Ax:v3 K aK "__setattr__" (some (.builtin "object.__setattr__")))(iL:makesIn K aK=true)(zx:dB K aK)(dv:v3 K aK "sizes" none)(b8:v3 K aK "takers" none)(F8:plainGet K ah Str.empty=true)(E1:hasDictIn K ah=true)(Gh:plainOver K ah=true)(Gx:v3 K ah "__setattr__" (some (.builtin "object.__setattr__")))(rP:makesIn K ah=true)(Fl:dB K ah)(df:v3 K ah "crews" none)(bN:v3 K ah "boats" none)(b6:v3 K ah "refused" none)(bX:v3 K ah "costs" none)(bD:v3 K ah "boats_out" none)(aQ:v3 K ah "due_crews" none)(be:v3 K ah "sailed" none)(ci:v3 K ah "together" none)(qB:cI K "all" none)(mY:cI K "dict" none)(i6:cI K "enumerate" none)(cC:cI K "len" none)(ut:cI K "list" none)(AU:cI K "max" none)(AV:cI K "min" none)(fF:cI K "range" none)(qC:cI K "set" none)(kH:cI K "sorted" none)(HZ:cI K "sum" none)(tQ:cI K "zip" none)(P7:cI K "DONE" (some (.int (0) XT)))(zc:cI K "NO_CREW" (some (.int (-1) IT)))(lw:cI K "OUT_OF_RANGE" (some (.int (-2) rA)))(rh:cI K "WRONG_ROW" (some (.int (-3) Bf)))(zb:cI K "NO_BOAT" (some (.int (-4) IR)))(uZ:cI K "REPEATED" (some (.int (-5) Fe)))(nr:cI K "NONE_SAILED" (some (.int (-6) t9)))(rg:cI K "NO_FLIGHT" (some (.int (-7) Be)))(o9:cI K "ALL_SAILED" (some (.int (-8) w8)))(lu:cI K "MOST_OF_EACH" (some (.int (7) rz)))(lr:cI K "HIGHEST_COST" (some (.int (1000) rq)))(jC:cI K "HIGHEST_PRICE" (some (.int (1000000) qg)))(pb:cI K "MOST_ASKED" (some (.int (20) w9)))(nq:cI K "MOST_SAILED" (some (.int (20) t8)))(DS:cI K "CALLS" (some (.ref TK)))(FG:K.lookup TK=some KZ)(Er:KZ.cls=.type "tuple")(EI:KZ.data=.seq zi aa2)(GJ:zi.size<=sizeLine)(GQ:Vals [.ref Dc,.ref wH,.ref SV,.ref Kb,.ref SY,.ref SU,.ref SX,.ref Kh,.ref sR,.ref De,.ref Ka,.ref wG,.ref Dd,.ref Ke,.ref Kc,.ref Kf,.ref Kd,.ref Kg,.ref J9,.ref SW,.ref wI,.ref wF] zi.toList)(ia:cI K "WHOLE_NUMBERS" (some (.ref ql)))(iK:K.lookup ql=some jP)(ii:jP.cls=.type "tuple")(iq:jP.data=.seq gJ Cg)(iV:gJ.size<=sizeLine)(iW:Vals [.int 2,.int 2,.int 2,.int 3,.int 2,.int 0,.int 2,.int 0,.int 0,.int 0,.int 0,.int 0,.int 0,.int 1,.int 0,.int 1,.int 1,.int 0,.int 0,.int 0,.int 0,.int 0] gJ.toList)(qA:cI K "WITH_ROW" (some (.ref GP)))(rN:K.lookup GP=some vv)(qQ:vv.cls=.type "tuple")(qU:vv.data=.seq pk QV)(sx:pk.size<=sizeLine)(sI:Vals [.int 5,.int 12,.int 17,.int 20] pk.toList):∃fd:FuncData,(∀(s:Shared) (us:List Value),us.length=(["calls"]:List Str).length->BindsTo s fd ⟨us,[]⟩ ((["calls"]:List Str).zip us))/\∀base:Heap,K.In base->base.Ns mainGlobals mg->ay P w K mg base bo 20 fa fd ["calls"] (YU K):=by
  have e:=hfa.symm.trans (mg_of X G sN);cases e;let T:Txt K mg:=⟨
    aK,
    ⟨z9,zd,Ak,Ax⟩,
    mg_of X G yg,
    ah,
    ⟨F8,E1,Gh,Gx⟩,
    mg_of X G DF,
    b0 X G mW nI nh nE,
    b0 X G qv rH qG rC,
    X9 X G OY QG Pk Qv,
    b0 X G DJ Fs D7 Fi,
    lS X G kx lL kK lD,
    lS X G OZ QH Pl Qw,
    lS X G gp gO gw gL,
    b0 X G hZ iI ig iD,
    lS X G oO pD oV pz,
    lS X G jm jL js jG,
    b0 X G ui vm uw ve,
    lS X G gq gP gx gM,
    b0 X G ul vp uz vh,
    lS X G yj zD yA zt,
    b0 X G DH Fp DY Fg,
    Bm iY i4 nG m9 nA,
    Bm ku ly lK kJ lC,
    Bm fh fo fu fj fq,
    Bm jl jE jK jq jF,
    lS X G yk zE yB zu,
    lS X G jn jM jt jH,
    b0 X G kD lO kN lG,
    b0 X G uj vn ux vf,
    lS X G kz lM kL lE,
    b0 X G yl zF yC zv,
    b0 X G ym zG yD zw,
    b0 X G fi fv fk ft,
    acZ X G qu rG qF rB,
    b0 X G um vq uA vk,
    b0 X G Jx KH JQ KA,
    b0 X G DK Ft D8 Fj,
    b0 X G Wz X1 WQ XW,
    b0 X G OX QF Pj Qu,
    b0 X G WC l_out WU XZ,
    b0 X G Wy X0 WP XU,
    b0 X G WB X3 WT XY,
    b0 X G O5 QN Pu k_size,
    b0 X G yh zB yy zq,
    b0 X G Jz KJ JS KD,
    b0 X G OW QE Ph Qt,
    b0 X G DI Fq DZ Fh,
    b0 X G Jy KI JR KC,
    b0 X G O2 QK Pp Qz,
    b0 X G O0 QI Pn Qx,
    b0 X G O3 QL Pq QA,
    b0 X G O1 QJ Po Qy,
    b0 X G O4 QM Pt QB,
    b0 X G OV QD Pg Qs,
    b0 X G WA X2 WS XX,
    b0 X G DL Fu D9 Fk,
    b0 X G DG Fo DX Ff,
    X9 X G kE lP kO lH,
    acZ X G qx rK qI rE,
    b0 X G qw rJ qH rD,
    lS X G uk vo uy vg,
    b0 X G kF lQ kP lI,
    b0 X G kC lN kM lF,
    lS X G jo jN ju jI,
    lS X G jp jO jv jJ,
    lS X G yi zC yz zr,
    X9 X G mV nH ng nB,
    Ya j0 j6 pB oS pw,
    Yb mU nv nF mZ ny,
    Bm hW iy iG ic iB,
    Bm hJ iw iE ib iA,
    Yb hX iz iH ie iC,
    Bm gn gI gN gv gK,
    Ya fL fN fQ fM fP,
    Bm oN pd pC oT px,
    Ya kq lx lJ kI lB,
    Yb d8 ee en d9 eh,
    lS X G sN zA yx zp,
    ⟨iL,iY,i4,zx⟩,
    ⟨rP,j0,j6,Fl⟩,
    dv,
    b8,
    df,
    bN,
    b6,
    bX,
    bD,
    aQ,
    be,
    ci,
    mg_none_of X G qB,
    mg_none_of X G mY,
    mg_none_of X G i6,
    mg_none_of X G cC,
    mg_none_of X G ut,
    mg_none_of X G AU,
    mg_none_of X G AV,
    mg_none_of X G fF,
    mg_none_of X G qC,
    mg_none_of X G kH,
    mg_none_of X G HZ,
    mg_none_of X G tQ,
    ⟨XT,mg_of X G P7⟩,
    ⟨IT,mg_of X G zc⟩,
    ⟨rA,mg_of X G lw⟩,
    ⟨Bf,mg_of X G rh⟩,
    ⟨IR,mg_of X G zb⟩,
    ⟨Fe,mg_of X G uZ⟩,
    ⟨t9,mg_of X G nr⟩,
    ⟨Be,mg_of X G rg⟩,
    ⟨w8,mg_of X G o9⟩,
    ⟨rz,mg_of X G lu⟩,
    ⟨rq,mg_of X G lr⟩,
    ⟨qg,mg_of X G jC⟩,
    ⟨w9,mg_of X G pb⟩,
    ⟨t8,mg_of X G nq⟩,
    Yc X G DS FG Er EI GJ GQ,
    Yc X G ia iK ii iq iV iW,
    Yc X G qA rN qQ qU sx sI⟩
  exact⟨_,fun s us hu=>match us,hu with | [_],_=>.of_eq rfl,fun base _ _=>(Rb T).mono (by decide)⟩
end My
open PySem PySem.W PyProof.Rows
namespace PySem.W.Fast
def tw3466974953386185108:=0
def tw1228031239724569725:=0
def tw7771715727163485397:=0
def tw16454921524358015619:=0
def tw14726051076016029338:=0
def tw6096598257661341970:=0
def tw17762115610842487415:=0
def tw17046434336207062298:=0
def tw14303252786944807071:=0
def tw9635166766657870129:=0
def tw1771159408335792209:=0
def tw17025000585713737976:=0
def tw5954894578896753618:=0
def tw5298387517989361156:=0
def tw2389878261335997296:=0
def tw6868723312579828979:=0
def tw10870759707373493424:=0
def tw16996510173792169607:=0
def tw7001268790908270869:=0
def tw16243607823739659781:=0
def tw4257911203546112141:=0
def tw10472335847471059376:=0
def tw2156596388069346021:=0
def tw15242159663839900448:=0
def tw471390734601102470:=0
def tw11475015139586883566:=0
def tw3311199344563390171:=0
def tw12517282508826235898:=0
def tw16554760232800025545:=0
def tw5423455168420935679:=0
def tw2404809854598480205:=0
def tw4940303438980767569:=0
def tw15372801977417604259:=0
def tw9090023526089347280:=0
def tw10851833249779211850:=0
def tw9739632375090938325:=0
def tw6814838482223267370:=0
def tw14323373642937325273:=0
def tw1298125562904535116:=0
def tw8984343638962029991:=0
def tw15631826481882986774:=0
def tw12757966926603838313:=0
def tw9971242094055010559:=0
def tw11318695708382884692:=0
def tw13670507461444027871:=0
def tw7108545687073746914:=0
def tw776620915256276744:=0
def tw5408579170824282074:=0
def tw12007261146721441882:=0
def tw909869690696750363:=0
def tw12208340196373931227:=0
def tw4197964032616278057:=0
def tw8408934060284195960:=0
def tw11780666573686880776:=0
def tw7233841247459170740:=0
def tw11593798952621185735:=0
def tw11522612977381792100:=0
def tw8986825318201011088:=0
def tw6840531787400867210:=0
def tw12004173766200031063:=0
def tw15900457510385026440:=0
def tw7749175075731073798:=0
def tw7000863160705228176:=0
def tw16777224317010147428:=0
def tw4600771118546859519:=0
def tw6213103416228011620:=0
def tw10149644939222578884:=0
def tw3461371472776666457:=0
def tw9056149007986191389:=0
def tw11312288377984870803:=0
def tw13005450892201315350:=0
def tw9238427951608461407:=0
def tw8401393027725815783:=0
def tw15481752874597820690:=0
def tw5231265797038135948:=0
def tw8564978973616156389:=0
def tw12646209402902492512:=0
def tw9325819687470282652:=0
def tw379879570346289939:=0
def tw6059230956406265539:=0
def tw248466849474325567:=0
end PySem.W.Fast
set_option maxRecDepth 100000 in
set_option maxHeartbeats 0 in
theorem PySem.Challenge.cw_flightplans_s01_answers_holds : PySem.Challenge.rw_flightplans_s01_answers.Holds := by
  w_on;k_headS;(case hw=>exact⟨[.list [.int 7]],by decide +kernel,by decide +kernel⟩);k_fillS;refine L2.R9 (r:=PySem.Challenge.rw_flightplans_s01_answers) (k:=20) (CX:=L2.bo) (ps:=["calls"]) (sp:=My.YU) (by decide +kernel) rfl rfl ⟨rfl,by decide,by decide⟩ (fun w h Y=>PySem.W.kIn_of Y) ?F ?S (fun _ _ _ _ z=>z);case F=>
    intro w mg fa h Y KX G hmg;have Z:=@My.all_mk;dsimp only[My.cI,My.v3,My.dF,My.dB,My.LN,My.dG,My.ZM]at Z;refine' Z KX G hmg ?yg ?DF ?mW ?nI ?nh ?nE ?qv ?rH ?qG ?rC ?OY ?QG ?Pk ?Qv ?DJ ?Fs ?D7 ?Fi ?kx ?lL ?kK ?lD ?OZ ?QH ?Pl ?Qw ?gp ?gO ?gw ?gL ?hZ ?iI ?ig ?iD ?oO ?pD ?oV ?pz ?jm ?jL ?js ?jG ?ui ?vm ?uw ?ve ?gq ?gP ?gx ?gM ?ul ?vp ?uz ?vh ?yj ?zD ?yA ?zt ?DH ?Fp ?DY ?Fg ?iY ?i4 ?nG ?m9 ?nA ?ku ?ly ?lK ?kJ ?lC ?fh ?fo ?fu ?fj ?fq ?jl ?jE ?jK ?jq ?jF ?yk ?zE ?yB ?zu ?jn ?jM ?jt ?jH ?kD ?lO ?kN ?lG ?uj ?vn ?ux ?vf ?kz ?lM ?kL ?lE ?yl ?zF ?yC ?zv ?ym ?zG ?yD ?zw ?fi ?fv ?fk ?ft ?qu ?rG ?qF ?rB ?um ?vq ?uA ?vk ?Jx ?KH ?JQ ?KA ?DK ?Ft ?D8 ?Fj ?Wz ?X1 ?WQ ?XW ?OX ?QF ?Pj ?Qu ?WC ?l_out ?WU ?XZ ?Wy ?X0 ?WP ?XU ?WB ?X3 ?WT ?XY ?O5 ?QN ?Pu ?k_size ?yh ?zB ?yy ?zq ?Jz ?KJ ?JS ?KD ?OW ?QE ?Ph ?Qt ?DI ?Fq ?DZ ?Fh ?Jy ?KI ?JR ?KC ?O2 ?QK ?Pp ?Qz ?O0 ?QI ?Pn ?Qx ?O3 ?QL ?Pq ?QA ?O1 ?QJ ?Po ?Qy ?O4 ?QM ?Pt ?QB ?OV ?QD ?Pg ?Qs ?WA ?X2 ?WS ?XX ?DL ?Fu ?D9 ?Fk ?DG ?Fo ?DX ?Ff ?kE ?lP ?kO ?lH ?qx ?rK ?qI ?rE ?qw ?rJ ?qH ?rD ?uk ?vo ?uy ?vg ?kF ?lQ ?kP ?lI ?kC ?lN ?kM ?lF ?jo ?jN ?ju ?jI ?jp ?jO ?jv ?jJ ?yi ?zC ?yz ?zr ?mV ?nH ?ng ?nB ?j0 ?j6 ?pB ?oS ?pw ?mU ?nv ?nF ?mZ ?ny ?hW ?iy ?iG ?ic ?iB ?hJ ?iw ?iE ?ib ?iA ?hX ?iz ?iH ?ie ?iC ?gn ?gI ?gN ?gv ?gK ?fL ?fN ?fQ ?fM ?fP ?oN ?pd ?pC ?oT ?px ?kq ?lx ?lJ ?kI ?lB ?d8 ?ee ?en ?d9 ?eh ?sN ?zA ?yx ?zp ?z9 ?zd ?Ak ?Ax ?iL ?zx ?dv ?b8 ?F8 ?E1 ?Gh ?Gx ?rP ?Fl ?df ?bN ?b6 ?bX ?bD ?aQ ?be ?ci ?qB ?mY ?i6 ?cC ?ut ?AU ?AV ?fF ?qC ?kH ?HZ ?tQ ?P7 ?zc ?lw ?rh ?zb ?uZ ?nr ?rg ?o9 ?lu ?lr ?jC ?pb ?nq ?DS ?FG ?Er ?EI ?GJ ?GQ ?ia ?iK ?ii ?iq ?iV ?iW ?qA ?rN ?qQ ?qU ?sx ?sI
    (case yg=>k_is)
    (case DF=>k_is)
    (case mW=>k_is)
    (case nI=>k_is)
    (case nh=>k_is)
    (case nE=>k_is)
    (case qv=>k_is)
    (case rH=>k_is)
    (case qG=>k_is)
    (case rC=>k_is)
    (case OY=>k_is)
    (case QG=>k_is)
    (case Pk=>k_is)
    (case Qv=>k_is)
    (case DJ=>k_is)
    (case Fs=>k_is)
    (case D7=>k_is)
    (case Fi=>k_is)
    (case kx=>k_is)
    (case lL=>k_is)
    (case kK=>k_is)
    (case lD=>k_is)
    (case OZ=>k_is)
    (case QH=>k_is)
    (case Pl=>k_is)
    (case Qw=>k_is)
    (case gp=>k_is)
    (case gO=>k_is)
    (case gw=>k_is)
    (case gL=>k_is)
    (case hZ=>k_is)
    (case iI=>k_is)
    (case ig=>k_is)
    (case iD=>k_is)
    (case oO=>k_is)
    (case pD=>k_is)
    (case oV=>k_is)
    (case pz=>k_is)
    (case jm=>k_is)
    (case jL=>k_is)
    (case js=>k_is)
    (case jG=>k_is)
    (case ui=>k_is)
    (case vm=>k_is)
    (case uw=>k_is)
    (case ve=>k_is)
    (case gq=>k_is)
    (case gP=>k_is)
    (case gx=>k_is)
    (case gM=>k_is)
    (case ul=>k_is)
    (case vp=>k_is)
    (case uz=>k_is)
    (case vh=>k_is)
    (case yj=>k_is)
    (case zD=>k_is)
    (case yA=>k_is)
    (case zt=>k_is)
    (case DH=>k_is)
    (case Fp=>k_is)
    (case DY=>k_is)
    (case Fg=>k_is)
    (case iY=>k_is)
    (case i4=>k_is)
    (case nG=>k_is)
    (case m9=>k_is)
    (case nA=>k_is)
    (case ku=>k_is)
    (case ly=>k_is)
    (case lK=>k_is)
    (case kJ=>k_is)
    (case lC=>k_is)
    (case fh=>k_is)
    (case fo=>k_is)
    (case fu=>k_is)
    (case fj=>k_is)
    (case fq=>k_is)
    (case jl=>k_is)
    (case jE=>k_is)
    (case jK=>k_is)
    (case jq=>k_is)
    (case jF=>k_is)
    (case yk=>k_is)
    (case zE=>k_is)
    (case yB=>k_is)
    (case zu=>k_is)
    (case jn=>k_is)
    (case jM=>k_is)
    (case jt=>k_is)
    (case jH=>k_is)
    (case kD=>k_is)
    (case lO=>k_is)
    (case kN=>k_is)
    (case lG=>k_is)
    (case uj=>k_is)
    (case vn=>k_is)
    (case ux=>k_is)
    (case vf=>k_is)
    (case kz=>k_is)
    (case lM=>k_is)
    (case kL=>k_is)
    (case lE=>k_is)
    (case yl=>k_is)
    (case zF=>k_is)
    (case yC=>k_is)
    (case zv=>k_is)
    (case ym=>k_is)
    (case zG=>k_is)
    (case yD=>k_is)
    (case zw=>k_is)
    (case fi=>k_is)
    (case fv=>k_is)
    (case fk=>k_is)
    (case ft=>k_is)
    (case qu=>k_is)
    (case rG=>k_is)
    (case qF=>k_is)
    (case rB=>k_is)
    (case um=>k_is)
    (case vq=>k_is)
    (case uA=>k_is)
    (case vk=>k_is)
    (case Jx=>k_is)
    (case KH=>k_is)
    (case JQ=>k_is)
    (case KA=>k_is)
    (case DK=>k_is)
    (case Ft=>k_is)
    (case D8=>k_is)
    (case Fj=>k_is)
    (case Wz=>k_is)
    (case X1=>k_is)
    (case WQ=>k_is)
    (case XW=>k_is)
    (case OX=>k_is)
    (case QF=>k_is)
    (case Pj=>k_is)
    (case Qu=>k_is)
    (case WC=>k_is)
    (case l_out=>k_is)
    (case WU=>k_is)
    (case XZ=>k_is)
    (case Wy=>k_is)
    (case X0=>k_is)
    (case WP=>k_is)
    (case XU=>k_is)
    (case WB=>k_is)
    (case X3=>k_is)
    (case WT=>k_is)
    (case XY=>k_is)
    (case O5=>k_is)
    (case QN=>k_is)
    (case Pu=>k_is)
    (case k_size=>k_is)
    (case yh=>k_is)
    (case zB=>k_is)
    (case yy=>k_is)
    (case zq=>k_is)
    (case Jz=>k_is)
    (case KJ=>k_is)
    (case JS=>k_is)
    (case KD=>k_is)
    (case OW=>k_is)
    (case QE=>k_is)
    (case Ph=>k_is)
    (case Qt=>k_is)
    (case DI=>k_is)
    (case Fq=>k_is)
    (case DZ=>k_is)
    (case Fh=>k_is)
    (case Jy=>k_is)
    (case KI=>k_is)
    (case JR=>k_is)
    (case KC=>k_is)
    (case O2=>k_is)
    (case QK=>k_is)
    (case Pp=>k_is)
    (case Qz=>k_is)
    (case O0=>k_is)
    (case QI=>k_is)
    (case Pn=>k_is)
    (case Qx=>k_is)
    (case O3=>k_is)
    (case QL=>k_is)
    (case Pq=>k_is)
    (case QA=>k_is)
    (case O1=>k_is)
    (case QJ=>k_is)
    (case Po=>k_is)
    (case Qy=>k_is)
    (case O4=>k_is)
    (case QM=>k_is)
    (case Pt=>k_is)
    (case QB=>k_is)
    (case OV=>k_is)
    (case QD=>k_is)
    (case Pg=>k_is)
    (case Qs=>k_is)
    (case WA=>k_is)
    (case X2=>k_is)
    (case WS=>k_is)
    (case XX=>k_is)
    (case DL=>k_is)
    (case Fu=>k_is)
    (case D9=>k_is)
    (case Fk=>k_is)
    (case DG=>k_is)
    (case Fo=>k_is)
    (case DX=>k_is)
    (case Ff=>k_is)
    (case kE=>k_is)
    (case lP=>k_is)
    (case kO=>k_is)
    (case lH=>k_is)
    (case qx=>k_is)
    (case rK=>k_is)
    (case qI=>k_is)
    (case rE=>k_is)
    (case qw=>k_is)
    (case rJ=>k_is)
    (case qH=>k_is)
    (case rD=>k_is)
    (case uk=>k_is)
    (case vo=>k_is)
    (case uy=>k_is)
    (case vg=>k_is)
    (case kF=>k_is)
    (case lQ=>k_is)
    (case kP=>k_is)
    (case lI=>k_is)
    (case kC=>k_is)
    (case lN=>k_is)
    (case kM=>k_is)
    (case lF=>k_is)
    (case jo=>k_is)
    (case jN=>k_is)
    (case ju=>k_is)
    (case jI=>k_is)
    (case jp=>k_is)
    (case jO=>k_is)
    (case jv=>k_is)
    (case jJ=>k_is)
    (case yi=>k_is)
    (case zC=>k_is)
    (case yz=>k_is)
    (case zr=>k_is)
    (case mV=>k_is)
    (case nH=>k_is)
    (case ng=>k_is)
    (case nB=>k_is)
    (case j0=>k_is)
    (case j6=>k_is)
    (case pB=>k_is)
    (case oS=>k_is)
    (case pw=>k_is)
    (case mU=>k_is)
    (case nv=>k_is)
    (case nF=>k_is)
    (case mZ=>k_is)
    (case ny=>k_is)
    (case hW=>k_is)
    (case iy=>k_is)
    (case iG=>k_is)
    (case ic=>k_is)
    (case iB=>k_is)
    (case hJ=>k_is)
    (case iw=>k_is)
    (case iE=>k_is)
    (case ib=>k_is)
    (case iA=>k_is)
    (case hX=>k_is)
    (case iz=>k_is)
    (case iH=>k_is)
    (case ie=>k_is)
    (case iC=>k_is)
    (case gn=>k_is)
    (case gI=>k_is)
    (case gN=>k_is)
    (case gv=>k_is)
    (case gK=>k_is)
    (case fL=>k_is)
    (case fN=>k_is)
    (case fQ=>k_is)
    (case fM=>k_is)
    (case fP=>k_is)
    (case oN=>k_is)
    (case pd=>k_is)
    (case pC=>k_is)
    (case oT=>k_is)
    (case px=>k_is)
    (case kq=>k_is)
    (case lx=>k_is)
    (case lJ=>k_is)
    (case kI=>k_is)
    (case lB=>k_is)
    (case d8=>k_is)
    (case ee=>k_is)
    (case en=>k_is)
    (case d9=>k_is)
    (case eh=>k_is)
    (case sN=>k_is)
    (case zA=>k_is)
    (case yx=>k_is)
    (case zp=>k_is)
    (case z9=>k_is)
    (case zd=>k_is)
    (case Ak=>k_is)
    (case Ax=>k_is)
    (case iL=>k_is)
    (case zx=>k_is)
    (case dv=>k_is)
    (case b8=>k_is)
    (case F8=>k_is)
    (case E1=>k_is)
    (case Gh=>k_is)
    (case Gx=>k_is)
    (case rP=>k_is)
    (case Fl=>k_is)
    (case df=>k_is)
    (case bN=>k_is)
    (case b6=>k_is)
    (case bX=>k_is)
    (case bD=>k_is)
    (case aQ=>k_is)
    (case be=>k_is)
    (case ci=>k_is)
    (case qB=>exact rfl)
    (case mY=>exact rfl)
    (case i6=>exact rfl)
    (case cC=>exact rfl)
    (case ut=>exact rfl)
    (case AU=>exact rfl)
    (case AV=>exact rfl)
    (case fF=>exact rfl)
    (case qC=>exact rfl)
    (case kH=>exact rfl)
    (case HZ=>exact rfl)
    (case tQ=>exact rfl)
    (case P7=>exact rfl)
    (case zc=>exact rfl)
    (case lw=>exact rfl)
    (case rh=>exact rfl)
    (case zb=>exact rfl)
    (case uZ=>exact rfl)
    (case nr=>exact rfl)
    (case rg=>exact rfl)
    (case o9=>exact rfl)
    (case lu=>exact rfl)
    (case lr=>exact rfl)
    (case jC=>exact rfl)
    (case pb=>exact rfl)
    (case nq=>exact rfl)
    (case DS=>exact rfl)
    (case FG=>exact rfl)
    (case Er=>exact rfl)
    (case EI=>exact rfl)
    (case GJ=>decide)
    (case GQ=>exact(.cons rfl (.cons rfl (.cons rfl (.cons rfl (.cons rfl (.cons rfl (.cons rfl (.cons rfl (.cons rfl (.cons rfl (.cons rfl (.cons rfl (.cons rfl (.cons rfl (.cons rfl (.cons rfl (.cons rfl (.cons rfl (.cons rfl (.cons rfl (.cons rfl (.cons rfl .nil)))))))))))))))))))))))
    (case ia=>exact rfl)
    (case iK=>exact rfl)
    (case ii=>exact rfl)
    (case iq=>exact rfl)
    (case iV=>decide)
    (case iW=>exact(.cons ⟨_,rfl⟩ (.cons ⟨_,rfl⟩ (.cons ⟨_,rfl⟩ (.cons ⟨_,rfl⟩ (.cons ⟨_,rfl⟩ (.cons ⟨_,rfl⟩ (.cons ⟨_,rfl⟩ (.cons ⟨_,rfl⟩ (.cons ⟨_,rfl⟩ (.cons ⟨_,rfl⟩ (.cons ⟨_,rfl⟩ (.cons ⟨_,rfl⟩ (.cons ⟨_,rfl⟩ (.cons ⟨_,rfl⟩ (.cons ⟨_,rfl⟩ (.cons ⟨_,rfl⟩ (.cons ⟨_,rfl⟩ (.cons ⟨_,rfl⟩ (.cons ⟨_,rfl⟩ (.cons ⟨_,rfl⟩ (.cons ⟨_,rfl⟩ (.cons ⟨_,rfl⟩ .nil)))))))))))))))))))))))
    (case qA=>exact rfl)
    (case rN=>exact rfl)
    (case qQ=>exact rfl)
    (case qU=>exact rfl)
    (case sx=>decide)
    (case sI=>exact(.cons ⟨_,rfl⟩ (.cons ⟨_,rfl⟩ (.cons ⟨_,rfl⟩ (.cons ⟨_,rfl⟩ .nil)))))
  case S=>
    intro K H xs a hO hwi Ko hx;cases hx with
    | cons h1 h2=>
      cases h2;cases h1 with
      | lst hs ha=>have e:=L2.Tb a.1 _ ha;subst e;exact⟨_,a.1,rfl,hs,Ko,fun D H' hp=>.lst (L2.aN.of hp) (L2.SK _)⟩
