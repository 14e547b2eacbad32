import PyProof.Rows.All
import Wide.All
import OpenK.AllK
import Wide.FinOn
import Lean
import PyProof.EqAt
import PyProof.EqKinds
import PyProof.TupleCall
import PyProof.StationsW
import OpenK.KRaise
import KE.KTryMore
import PyProof.ExcClass3
import PyProof.RulesAs
import PyProof.PassesOwn
import PyProof.P3In
import PyProof.NeData
import KE.LcSums
import PyProof.IsiSeqPairs
import PyProof.IsiNone
import PyProof.ListRange
import PyProof.CompFree
import KE.KSortTup
import PyProof.TupleOfSeq
import PyProof.Rows.SetFrom
import PyProof.Rows.SeqMore2
import PyProof.Rows.EnumRows
import PyProof.ExcArgsOwn
import PyProof.ExcAttrAll.ValueError
import PyProof.ExcBaseAll.ValueError
import KE.KIsAll
import PyProof.NsDelKeeps
import PyProof.ZipIter
import PyProof.Draws
import PyProof.TupleIter
import PyProof.Rows.FactsT2
import PyProof.Rows.FStr
import PyProof.StrCalls2
import PyProof.StrWalks
import PyProof.SumWalkG
import PyProof.Rows.SumGenD
import PyProof.WalksMore
import KE.KDictSum
import KE.KDictLaws
import PyProof.Rows.SortRuns
import PySem.Challenge.RW_matesquare_k13_whole_made_mates
set_option compiler.extract_closed false
set_option Elab.async false
set_option linter.all false
set_option maxRecDepth 100000
namespace L2
open PySem PySem.Spec PyProof.Rows
abbrev Key:=Sum Int Str
def Vd:Key->Value->Bool
 | .inl k,v=>Value.isInt k v
 | .inr x,v=>Value.isStrOf x v
def keyH(w:World):Key->Int
 | .inl k=>hashInt k
 | .inr x=>hashStr w x
theorem ZV:∀{k:Key} {v:Value},Vd k v=true->(∃i t,k=Sum.inl i/\v=Value.int i t)\/(∃x t,k=Sum.inr x/\v=Value.str x t)
 | .inl i,v,h=>by
  obtain⟨t,e⟩:=Value.isInt_shape (k:=i) (v:=v) h
  exact .inl ⟨i,t,rfl,e⟩
 | .inr x,v,h=>by
  obtain⟨t,e⟩:=Value.isStrOf_shape (x:=x) (v:=v) h
  exact .inr ⟨x,t,rfl,e⟩
theorem Z3j(i:Int)(t:Tok):Vd (.inl i) (.int i t)=true:=by simp[Vd,Value.isInt]
theorem Z3k(x:Str)(t:Tok):Vd (.inr x) (.str x t)=true:=by simp[Vd,Value.isStrOf]
theorem Zb6(a b:Int):decide ((Sum.inl a:Key)=Sum.inl b)=(a == b):=by
 by_cases e:a=b
 ·subst e;simp
 ·have h:¬(Sum.inl a:Key)=Sum.inl b:=fun q=>e (Sum.inl.inj q)
  rw[decide_eq_false h]
  exact(beq_eq_false_iff_ne.mpr e).symm
theorem Zb7(a b:Str):decide ((Sum.inr a:Key)=Sum.inr b)=decide (a=b):=by
 by_cases e:a=b
 ·subst e;simp
 ·have h:¬(Sum.inr a:Key)=Sum.inr b:=fun q=>e (Sum.inr.inj q)
  rw[decide_eq_false h,decide_eq_false e]
theorem Zb8(a:Int)(b:Str):decide ((Sum.inl a:Key)=Sum.inr b)=false:=decide_eq_false (fun q=>nomatch q)
theorem Zb9(a:Str)(b:Int):decide ((Sum.inr a:Key)=Sum.inl b)=false:=decide_eq_false (fun q=>nomatch q)
def Yh(prog:Program)(w:World):PySem.KeyKind prog w Key where
 is:=Vd
 hash:=keyH w
 inj:=fun v a b ha hb=>by
  rcases ZV ha with⟨i,t,rfl,rfl⟩|⟨x,t,rfl,rfl⟩
  ·rcases ZV hb with⟨j,u,rfl,e⟩|⟨y,u,rfl,e⟩
   ·injection e with e1 _;rw[e1]
   ·exact nomatch e
  ·rcases ZV hb with⟨j,u,rfl,e⟩|⟨y,u,rfl,e⟩
   ·exact nomatch e
   ·injection e with e1 _;rw[e1]
 byValue:=fun k v h=>by
  rcases ZV h with⟨i,t,rfl,rfl⟩|⟨x,t,rfl,rfl⟩<;>rfl
 pyHash:=fun hv h=>by
  rcases ZV hv with⟨i,t,rfl,rfl⟩|⟨x,t,rfl,rfl⟩
  ·exact wpAny_pyHash_int h
  ·exact wpAny_pyHash_str h
 eqBool:=fun hu hv h=>by
  rcases ZV hu with⟨i,t,rfl,rfl⟩|⟨x,t,rfl,rfl⟩
  ·rcases ZV hv with⟨j,u,rfl,rfl⟩|⟨y,u,rfl,rfl⟩
   ·rw[Zb6]at h;exact wpAny_eqBool_int h
   ·rw[Zb8]at h;exact SeqAt.EqAt.int_str i t y u _ _ _ _ h
  ·rcases ZV hv with⟨j,u,rfl,rfl⟩|⟨y,u,rfl,rfl⟩
   ·rw[Zb9]at h;exact SeqAt.EqAt.str_int x t j u _ _ _ _ h
   ·rw[Zb7]at h;exact wpAny_eqBool_str h
 «strs» :=fun k x t v h=>by
  rcases ZV h with⟨i,u,rfl,e⟩|⟨y,u,rfl,e⟩
  ·exact nomatch e
  ·injection e with e1 _
   subst e1
   cases v<;>rfl
theorem Uj(prog:Program)(w:World)(i:Int)(t:Tok):(Yh prog w).is (.inl i) (.int i t)=true:=Z3j i t
theorem Uk(prog:Program)(w:World)(x:Str)(t:Tok):(Yh prog w).is (.inr x) (.str x t)=true:=Z3k x t
end L2
namespace L2
open PySem PySem.Spec PyProof.Rows
inductive V where
 |non|bl (b:Bool)|int (i:Int)|str (x:Str)|byt (b:Array UInt8)|flt (b:UInt64)|ref (a:Addr)|ty (n:String)
 deriving DecidableEq
def RelV:V->Value->Prop
 | .non,u=>u=Value.none
 | .bl b,u=>u=Value.bool b
 | .int i,u=>∃t,u=Value.int i t
 | .str x,u=>∃t,u=Value.str x t
 | .byt b,u=>∃t,u=Value.bytes b t
 | .flt b,u=>∃t,u=Value.float b t
 | .ref a,u=>u=Value.ref a
 | .ty n,u=>u=Value.type n
abbrev Vals:List V->List Value->Prop:=Paired RelV
theorem Vals.length{xs:List V}{us:List Value}(r:Vals xs us):xs.length=us.length:=Paired.length r
theorem Vals.get:∀{xs:List V} {us:List Value} {i:Nat} {x:V},Vals xs us->xs[i]? =some x->∃u,us[i]? =some u/\RelV x u
 |_,_,_,_, .nil,e=>by simp at e
 |_,_,0,_, .cons r _,e=>by simp at e;subst e;exact⟨_,rfl,r⟩
 |_,_,i+1,x, .cons _ t,e=>by
  obtain⟨u,h1,h2⟩:=Vals.get (i:=i) (x:=x) t (by simpa using e)
  exact⟨u,by simpa using h1,h2⟩
theorem Vals.set{x:V}{u:Value}(r:RelV x u):∀{xs:List V} {us:List Value} (i:Nat),Vals xs us->Vals (xs.set i x) (us.set i u)
 |_,_,_, .nil=>.nil
 |_,_,0, .cons _ t=>.cons r t
 |_,_,i+1, .cons q t=>.cons q (Vals.set r i t)
theorem Vals.append:∀{xs ys:List V} {us ws:List Value},Vals xs us->Vals ys ws->Vals (xs++ys) (us++ws)
 |_,_,_,_, .nil,s=>s
 |_,_,_,_, .cons r t,s=>.cons r (Vals.append t s)
theorem Vals.take:∀{xs:List V} {us:List Value} (n:Nat),Vals xs us->Vals (xs.take n) (us.take n)
 |_,_,0,_=>.nil
 |_,_,_+1, .nil=>.nil
 |_,_,n+1, .cons r t=>.cons r (Vals.take n t)
theorem Vals.drop:∀{xs:List V} {us:List Value} (n:Nat),Vals xs us->Vals (xs.drop n) (us.drop n)
 |_,_,0,r=>r
 |_,_,_+1, .nil=>.nil
 |_,_,n+1, .cons _ t=>Vals.drop n t
def RelO:Option V->Option Value->Prop
 |some v,some u=>RelV v u
 |none,none=>True
 |_,_=>False
def KV{κ:Type}:List (κ×V)->List (κ×Value)->Prop:=Paired fun(p:κ×V) (q:κ×Value)=>p.1=q.1/\RelV p.2 q.2
def kV:Key->V
 | .inl i=>.int i
 | .inr x=>.str x
inductive HO where
 |lst (xs:List V)
 |tup (xs:List V)
 |dK (kvs:List (Key×V))|dT (kvs:List (List Key×V))
 |set (S:Int->Bool) (n:Nat)
 |ins (C dx:Addr) (fs:List (Str×V))
 |own (x:Addr)
 |xd (fs:List (Str×V))
 |met (f x:Addr)
 |rng (lo hi:Int)
 |frz (o:Obj) (u:HO)
 |tbl (ps:Array Value)
 |ext (φ:Heap->Prop)
abbrev Hp:=Addr->Option HO
def upd(H:Hp)(a:Addr)(o:HO):Hp:=fun b=>if b=a then some o else H b
theorem Zi{H:Hp}{a:Addr}{o:HO}:upd H a o a=some o:=by unfold upd;rw[if_pos rfl]
theorem Zm{H:Hp}{a b:Addr}{o:HO}(h:b≠a):upd H a o b=H b:=by unfold upd;rw[if_neg h]
theorem Zdo{H:Hp}{a b:Addr}{o u:HO}(h:H a=some o)(h':H b=some u)(d:o≠u):a≠b:=by
 intro e;subst e;rw[h]at h';exact d (Option.some.inj h')
theorem Yi{H:Hp}{a b:Addr}{o:HO}(h:H a=some o)(h':H b=none):a≠b:=by
 intro e;subst e;rw[h]at h';cases h'
def TupN(h:Heap)(a:Addr)(its:Array Value):Prop:=IsTup h a its/\∀o,h.get? a=some o->o.dict=none
theorem TupN.new(h:Heap)(its:Array Value):TupN (h.push {cls:=.type "tuple",data:=.seq its}) h.objs.size its:=⟨IsTup.new h its,fun o e=>by rw[Heap.get?_push_size _ rfl]at e;cases e;rfl⟩
section
variable(P:Program)(w:World)
def ObjOk(H:Hp)(h:Heap)(a:Addr):HO->Prop
 | .lst xs=>xs.length<=sizeLine/\∃(its:List Value) (n:Nat),Vals xs its/\h.get? a=some {cls:=.type "list",data:=.seq its.toArray n}
 | .tup xs=>xs.length<=sizeLine/\∃its:List Value,Vals xs its/\TupN h a its.toArray
 | .dK kvs=>kvs.length<=sizeLine/\(a == sysModules)=false/\∃vs,KV kvs vs/\h.DictOf (Yh P w) a vs
 | .dT kvs=>kvs.length<=sizeLine/\(a == sysModules)=false/\∃xs:List (List Key×Addr×Value),
   Paired (fun(p:List Key×V) (q:List Key×Addr×Value)=>p.1=q.1/\H q.2.1=some (.tup (p.1.map kV))/\RelV p.2 q.2.2) kvs xs/\
   ∃o es ep,h.get? a=some o/\o.ExactDict/\o.data=.dict es ep/\es.toList=xs.map (entryOfKey (tupleKind (Yh P w)))/\(xs.map (·.1)).Nodup
 | .set S n=>h.SetOf (intKind P w) a S n
 | .ins C dx fs=>H dx=some (.own a)/\fs.length<=1000/\dx≠a/\h.get? a=some (PySem.W.instObj C dx)/\
   ∃mA,h.Ns1 dx mA/\(∀f,RelO (fs.lookup f) (mA f))/\PySem.Within mA (fs.map (·.1))
 | .own _=>∃o,h.get? a=some o
 | .xd fs=>∃mA,h.Ns1 a mA/\∀f,RelO (fs.lookup f) (mA f)
 | .rng lo hi=>∃t u v,h.get? a=some {cls:=.type "range",data:=.fields #[.int lo t, .int hi u, .int 1 v]}
 | .frz o u=>h.get? a=some o/\ObjOk H h a u
 | .tbl ps=>h.get? a=some {cls:=.none,data:=.fields ps}
 | .met f x=>h.get? a=some (PySem.W.methodObj (.ref f) (.ref x))
 | .ext φ=>φ h/\(∃o,h.get? a=some o)/\∀h1 h2:Heap,φ h1->(∀o,h1.get? a=some o->h2.get? a=some o)->φ h2
def HOk(H:Hp)(h:Heap):Prop:=∀a o,H a=some o->ObjOk P w H h a o
end
section
variable{P:Program}{w:World}{H H':Hp}{h h':Heap}{a:Addr}{o:HO}
theorem ObjOk.lt(x:ObjOk P w H h a o):a<h.objs.size:=by
 cases o with
 |lst xs=>obtain⟨_,_,_,_,e⟩:=x;exact Heap.lt_size e
 |tup xs=>obtain⟨_,_,_,p,_⟩:=x;exact p.lt
 |dK kvs=>obtain⟨_,_,_,_,o,_,_,e,_⟩:=x;exact Heap.lt_size e
 |dT kvs=>obtain⟨_,_,_,_,o,_,_,e,_⟩:=x;exact Heap.lt_size e
 |set S n=>obtain⟨o,_,_,_,e,_⟩:=x;exact Heap.lt_size e
 |ins C dx fs=>obtain⟨_,_,_,e,_⟩:=x;exact Heap.lt_size e
 |own y=>obtain⟨_,e⟩:=x;exact Heap.lt_size e
 |xd fs=>obtain⟨_,⟨_,_,_,e,_⟩,_⟩:=x;exact Heap.lt_size e
 |rng lo hi=>obtain⟨_,_,_,e⟩:=x;exact Heap.lt_size e
 |frz ob u=>obtain⟨e,_⟩:=x;exact Heap.lt_size e
 |tbl ps=>exact Heap.lt_size (show h.get? a=some _ from x)
 |met f y=>exact Heap.lt_size (show h.get? a=some _ from x)
 |ext φ=>obtain⟨_,⟨_,e⟩,_⟩:=x;exact Heap.lt_size e
theorem Paired.mapP{α β:Type}{F G:α->β->Prop}:∀{l₁:List α} {l₂:List β},Paired F l₁ l₂->(∀a b,F a b->G a b)->Paired G l₁ l₂
 |_,_, .nil,_=>.nil
 |_,_, .cons r t,f=>.cons (f _ _ r) (Paired.mapP t f)
theorem Paired.imp'{α β:Type}{F G:α->β->Prop}(f:∀a b,F a b->G a b){l₁:List α}{l₂:List β}(r:Paired F l₁ l₂):Paired G l₁ l₂:=Paired.mapP r f
theorem ObjOk.stay(x:ObjOk P w H h a o)(k:∀b u,(b=a\/H b=some (.own a))->h.get? b=some u->h'.get? b=some u)
  (ho:∀b,H b=some (.own a)->H' b=some (.own a)) (ht:∀b xs,H b=some (.tup xs)->H' b=some (.tup xs)):ObjOk P w H' h' a o:=by
 induction o with
 |lst xs=>obtain⟨z,its,n,r,e⟩:=x;exact⟨z,its,n,r,k _ _ (.inl rfl) e⟩
 |tup xs=>obtain⟨z,its,r,⟨ob,e,c⟩,d⟩:=x;exact⟨z,its,r,⟨ob,k _ _ (.inl rfl) e,c⟩,fun o z=>by rw[k _ _ (.inl rfl) e]at z;cases z;exact d _ e⟩
 |dK kvs=>obtain⟨z,y,vs,r,ob,es,ep,e,c⟩:=x;exact⟨z,y,vs,r,ob,es,ep,k _ _ (.inl rfl) e,c⟩
 |dT kvs=>
  obtain⟨z,y,xs,r,ob,es,ep,e,c⟩:=x
  exact⟨z,y,xs,Paired.mapP r fun p q z=>⟨z.1,ht _ _ z.2.1,z.2.2⟩,ob,es,ep,k _ _ (.inl rfl) e,c⟩
 |set S n=>obtain⟨ob,es,ep,t,e,c⟩:=x;exact⟨ob,es,ep,t,k _ _ (.inl rfl) e,c⟩
 |ins C dx fs=>
  obtain⟨d,z,ne,e,mA,⟨od,es,ep,e2,c⟩,r⟩:=x
  exact⟨ho _ d,z,ne,k _ _ (.inl rfl) e,mA,⟨od,es,ep,k _ _ (.inr d) e2,c⟩,r⟩
 |own y=>obtain⟨ob,e⟩:=x;exact⟨ob,k _ _ (.inl rfl) e⟩
 |xd fs=>obtain⟨mA,⟨od,es,ep,e,c⟩,r⟩:=x;exact⟨mA,⟨od,es,ep,k _ _ (.inl rfl) e,c⟩,r⟩
 |rng lo hi=>obtain⟨t,u,v,e⟩:=x;exact⟨t,u,v,k _ _ (.inl rfl) e⟩
 |frz ob u ih=>obtain⟨e,q⟩:=x;exact⟨k _ _ (.inl rfl) e,ih q⟩
 |tbl ps=>
  have e:h.get? a=some {cls:=.none,data:=.fields ps}:=x
  show h'.get? a=some {cls:=.none,data:=.fields ps}
  exact k a _ (.inl rfl) e
 |met f y=>
  have e:h.get? a=some (PySem.W.methodObj (.ref f) (.ref y)):=x
  show h'.get? a=some (PySem.W.methodObj (.ref f) (.ref y))
  exact k a _ (.inl rfl) e
 |ext φ=>obtain⟨p,⟨o,e⟩,st⟩:=x;exact⟨st _ _ p fun o q=>k _ _ (.inl rfl) q,⟨o,k _ _ (.inl rfl) e⟩,st⟩
theorem HOk.lt(x:HOk P w H h)(e:H a=some o):a<h.objs.size:=(x a o e).lt
theorem HOk.fresh(x:HOk P w H h)(e:h.objs.size<=a):H a=none:=by
 cases q:H a with
 |none=>rfl
 |some u=>exact absurd (Nat.lt_of_lt_of_le (x.lt q) e) (Nat.lt_irrefl _)
theorem HOk.kept(x:HOk P w H h)(k:∀b u,h.get? b=some u->h'.get? b=some u):HOk P w H h':=fun a o e=>
 (x a o e).stay (fun b u _ q=>k b u q) (fun _ q=>q) fun _ _ q=>q
theorem HOk.laid(x:HOk P w H h)(k:∀b u,h.get? b=some u->h'.get? b=some u)(hp:h.objs.size<=a)(new:ObjOk P w (upd H a o) h' a o):HOk P w (upd H a o) h':=fun b u e=>by
 have hn:=x.fresh hp
 by_cases hb:b=a
 ·subst hb;rw[Zi]at e;cases e;exact new
 ·rw[Zm hb]at e
  exact(x b u e).stay (fun c v _ q=>k c v q) (fun c q=>by rw[Zm (Yi q hn)];exact q) fun c xs q=>by rw[Zm (Yi q hn)];exact q
end
def Rd(H:Hp)(a:Addr)(u:HO):Prop:=H a=some u\/∃o,H a=some (.frz o u)
theorem Rd.ok{P:Program}{w:World}{H:Hp}{h:Heap}{a:Addr}{u:HO}(r:Rd H a u)(x:HOk P w H h):ObjOk P w H h a u:=by
 rcases r with r|⟨o,r⟩
 ·exact x a u r
 ·obtain⟨_,q⟩:=x a _ r
  exact q
def Mut:Option HO->Prop
 |some (.lst _)=>True
 |some (.dK _)=>True
 |some (.dT _)=>True
 |some (.set _ _)=>True
 |some (.ins _ _ _)=>True
 |some (.ext _)=>True
 |_=>False
section
variable{P:Program}{w:World}{H:Hp}{h h':Heap}{x e:Addr}{o':HO}
theorem HOk.write(ok:HOk P w H h)(mu:Mut (H x))(he:e=x\/H e=some (.own x))(k:∀b u,b≠e->h.get? b=some u->h'.get? b=some u)(heo:∃u,h'.get? e=some u)
  (new:ObjOk P w (upd H x o') h' x o'):HOk P w (upd H x o') h':=fun b u q=>by
 have nown:∀c y,H c=some (.own y)->c≠x:=fun c y r z=>by subst z;rw[r]at mu;exact mu
 have ntup:∀c xs,H c=some (.tup xs)->c≠x:=fun c xs r z=>by subst z;rw[r]at mu;exact mu
 by_cases hb:b=x
 ·subst hb;rw[Zi]at q;cases q;exact new
 ·rw[Zm hb]at q
  by_cases hbe:b=e
  ·have q':H b=some (.own x):=by
    rcases he with z|z
    ·exact absurd (hbe.trans z) hb
    ·rw[hbe];exact z
   rw[q]at q';cases q'
   obtain⟨v,hv⟩:=heo
   exact⟨v,by rw[hbe];exact hv⟩
  ·refine(ok b u q).stay (fun c v hc r=>k c v ?_ r) (fun c r=>by rw[Zm (nown c b r)];exact r) fun c xs r=>by rw[Zm (ntup c xs r)];exact r
   rcases hc with rfl|hc
   ·exact hbe
   ·rintro rfl
    rcases he with z|z
    ·exact nown c b hc z
    ·rw[hc]at z;cases z;exact hb rfl
end
structure Un(fs ex:List Addr)(H H':Hp)(h h':Heap):Prop where
 keep:∀b o,h.get? b=some o->H b=none->b∉fs->b∉ex->h'.get? b=some o
 slot:∀b o,h.get? b=some o->H b=none->b∈fs->b∉ex->∃sl,h'.get? b=some {o with slots:=sl}
 free:∀b o,h.get? b=some o->H b=none->b∉ex->H' b=none
 there:∀b o,h.get? b=some o->b∉ex->∃o',h'.get? b=some o'
 tups:∀b xs,H b=some (.tup xs)->H' b=some (.tup xs)
 frzs:∀b o u,H b=some (.frz o u)->H' b=some (.frz o u)
 tbls:∀b ps,H b=some (.tbl ps)->∃more,H' b=some (.tbl (ps++more))
section
variable{fs fs' ex ex':List Addr}{H H1 H2:Hp}{h h1 h2 h':Heap}{a x e:Addr}{o:HO}
theorem Un.any(u:Un fs ex H H1 h h1){b:Addr}{ob:Obj}(q:h.get? b=some ob)(n:H b=none)(hx:b∉ex):∃sl,h1.get? b=some {ob with slots:=sl}:=by
 by_cases hb:b∈fs
 ·exact u.slot b ob q n hb hx
 ·exact⟨ob.slots,u.keep b ob q n hb hx⟩
theorem Un.kept(k:∀b u,h.get? b=some u->h'.get? b=some u):Un fs ex H H h h':=
 ⟨fun b ob q _ _ _=>k b ob q,fun b ob q _ _ _=>⟨ob.slots,k b ob q⟩,fun _ _ _ n _=>n,fun b ob q _=>⟨ob,k b ob q⟩,fun _ _ q=>q,fun _ _ _ q=>q,fun _ ps q=>⟨#[],by rw[q];simp⟩⟩
theorem Un.refl:Un fs ex H H h h:=Un.kept fun _ _ q=>q
theorem Un.laid(k:∀b u,h.get? b=some u->h'.get? b=some u)(hp:h.objs.size<=a)(hn:H a=none):Un fs ex H (upd H a o) h h' where
 keep:=fun b u q _ _ _=>k b u q
 slot:=fun b u q _ _ _=>⟨u.slots,k b u q⟩
 free:=fun b u q n _=>by rw[Zm (Nat.ne_of_lt (Nat.lt_of_lt_of_le (Heap.lt_size q) hp))];exact n
 there:=fun b u q _=>⟨u,k b u q⟩
 tups:=fun b xs q=>by rw[Zm (Yi q hn)];exact q
 frzs:=fun b u xs q=>by rw[Zm (Yi q hn)];exact q
 tbls:=fun b ps q=>⟨#[],by rw[Zm (Yi q hn),q];simp⟩
theorem Un.write(mu:Mut (H x))(he:e=x\/H e=some (.own x))(k:∀b u,b≠e->h.get? b=some u->h'.get? b=some u)(heo:∃u,h'.get? e=some u):Un fs ex H (upd H x o) h h':=by
 have hx:∀b,H b=none->b≠x:=fun b n z=>by subst z;rw[n]at mu;exact mu
 have hb:∀b,H b=none->b≠e:=fun b n z=>by
  subst z
  rcases he with r|r
  ·exact hx b n r
  ·rw[n]at r;cases r
 have hm:∀b u,H b=some u->¬Mut (some u)->b≠x:=fun b u q nm z=>by subst z;rw[q]at mu;exact nm mu
 refine⟨fun b u q n _ _=>k b u (hb b n) q,fun b u q n _ _=>⟨u.slots,k b u (hb b n) q⟩,fun b u q n _=>by rw[Zm (hx b n)];exact n,fun b u q _=> ?_,
  fun b xs q=>by rw[Zm (hm b _ q fun z=>z)];exact q,fun b u xs q=>by rw[Zm (hm b _ q fun z=>z)];exact q,fun b ps q=>⟨#[],by rw[Zm (hm b _ q fun z=>z),q];simp⟩⟩
 by_cases hbe:b=e
 ·subst hbe;exact heo
 ·exact⟨u,k b u hbe q⟩
end
def trk(h:Heap)(H:Hp):List Addr:=(List.range h.objs.size).filter fun a=>(H a).isSome
def VO(h:Heap)(H:Hp):Heap:=PySem.W.hideAll h (trk h H)
theorem Z3l(h:Heap)(H:Hp):(VO h H).objs.size=h.objs.size:=PySem.W.hideAll_size _ _
theorem Z57{h:Heap}{H:Hp}{b:Addr}{o:Obj}(e:h.get? b=some o)(n:H b=none):(VO h H).get? b=some o:=
 PySem.W.hideAll_get _ e fun hm=>by
  have q:(H b).isSome=true:=(List.mem_filter.mp hm).2
  rw[n]at q;simp at q
theorem Z8i{h:Heap}{H:Hp}{b:Addr}{o:Obj}(e:(VO h H).get? b=some o):h.get? b=some o/\H b=none:=by
 have e':h.get? b=some o:=PySem.W.of_hideAll (trk h H) e
 refine⟨e',?_⟩
 cases q:H b with
 |none=>rfl
 |some x=>
  have hm:b∈trk h H:=List.mem_filter.mpr ⟨List.mem_range.mpr (Heap.lt_size e'),by simp[q]⟩
  have z:(VO h H).get? b=none:=PySem.W.hideAll_none (trk h H) hm
  rw[z]at e;cases e
def Z8j(g h:Heap)(L:Addr):List (Addr×Obj):=(List.range h.objs.size).filterMap fun a=>if a=L\/(g.get? a).isSome=true then none else(h.get? a).map fun o=>(a,o)
def Y4(g h:Heap)(L d:Addr):List (Addr×Obj):=(Z8j g h L).filter fun p=>decide (p.1≠d)
end L2
namespace L2
open PySem PySem.Spec PyProof.Rows
structure Mod(K:PySem.W.Frag)(mg:Str->Option Value)(base:Heap):Prop where
 kin:K.In base
 glob:base.Ns mainGlobals mg
 blt:∃mb,base.Ns builtinsNs mb/\∀x:Str,x≠"__name__"->mb x=bootBuiltins x
 nolimit:base.NoLimit
structure Cx where
 prog:Program
 w:World
 K:PySem.W.Frag
 mg:Str->Option Value
 base:Heap
 A:Around
 N:List Str
 s₀:Shared
 H₀:Hp
 env:Env
 outer:List Env
 stack:List Env
 ex:List Addr
 fn:Str->Bool
 calm:Bool
 pn:List (Addr×Obj)
 xe:Value->Shared->Prop
def frs(l:List Env):List Addr:=l.filterMap (·.frame)
abbrev Cx.fs(X:Cx):List Addr:=frs X.outer
def Vis(sc:Scope)(x:Str):Prop:=sc.names.lookup x=some .local\/sc.names.lookup x=some .cell\/sc.names.lookup x=some .free
def Loc(sc:Scope)(x:Str):Prop:=sc.names.lookup x=some .local\/sc.names.lookup x=some .cell
def Look(env:Env)(h:Heap)(m:Str->Option Value)(x:Str)(u:Value):Prop:=
 (env.kindOf x=some .local/\m x=some u)\/((env.kindOf x=some .cell\/env.kindOf x=some .free)/\∃c,env.cells.lookup x=some c/\h.IsCell c (some u))
structure Cx.Ok(X:Cx):Prop where
 mod:Mod X.K X.mg X.base
 kind:X.env.scope.kind=.function
 glob:X.env.globals=mainGlobals
 blt:X.env.builtins=builtinsNs
 above:X.s₀.heap.objs.size<=X.env.locals
 inj:∀x y c,X.env.cells.lookup x=some c->X.env.cells.lookup y=some c->x=y
 has:∀x,(X.env.kindOf x=some .cell\/X.env.kindOf x=some .free)->∃c,X.env.cells.lookup x=some c
 cab:∀x c,X.fn x=true->X.env.cells.lookup x=some c->X.s₀.heap.objs.size<=c
 hd:X.calm=true->X.A.handled=none
 frames:X.A.frames=some X.stack
 stk:X.stack=X.outer\/(X.stack=X.env::X.outer/\X.env.frame=some X.env.locals)
 exf:∀b∈X.ex,b≠X.env.locals/\∀x c,X.env.cells.lookup x=some c->c≠b
 bs:∀b o,X.base.get? b=some o->X.s₀.heap.get? b=some o/\X.H₀ b=none
 bsz:X.base.objs.size<=X.s₀.heap.objs.size
 noex:∀b o,X.base.get? b=some o->b∉X.ex
 exfs:∀b∈X.ex,b∉X.fs
 funs:X.s₀.heap.FunFrames X.base X.outer
 frf:∀b∈X.fs,X.H₀ b=none
structure Inv(X:Cx)(pins:List (Addr×Obj))(σ:List (Option V))(H:Hp)(s:Shared):Prop where
 ok:X.Ok
 os:s.os=X.s₀.os
 bare:AllBare s.gens
 base:Un X.fs X.ex X.H₀ H X.s₀.heap s.heap
 loc:∃m,s.heap.Ns X.env.locals m/\∀(i:Nat) (x:Str) (v:V),X.N[i]? =some x->σ[i]? =some (some v)->Vis X.env.scope x->∃u,RelV v u/\Look X.env s.heap m x u
 cell:∀x c,X.env.cells.lookup x=some c->∃v,s.heap.IsCell c v
 free:H X.env.locals=none
 freeC:∀x c,X.env.cells.lookup x=some c->H c=none
 pin:∀p∈X.pn++pins,s.heap.get? p.1=some p.2/\H p.1=none/\p.1≠X.env.locals/\p.1∉X.fs/\∀v,p.2.data≠ .cell v
 hok:HOk X.prog X.w H s.heap
 len:σ.length=X.N.length
section
variable{X:Cx}{pins:List (Addr×Obj)}{σ:List (Option V)}{H H':Hp}{s:Shared}{h':Heap}
theorem Cx.Ok.nofr(ok:X.Ok){b:Addr}{o:Obj}(e:X.base.get? b=some o):b∉X.fs:=fun hb=>by
 have:=(ok.funs.mem hb).1
 rw[e]at this;cases this
theorem Inv.bs(I:Inv X pins σ H s):∀b o,X.base.get? b=some o->s.heap.get? b=some o/\H b=none:=fun b o e=>
 ⟨I.base.keep b o (I.ok.bs b o e).1 (I.ok.bs b o e).2 (I.ok.nofr e) (I.ok.noex b o e),I.base.free b o (I.ok.bs b o e).1 (I.ok.bs b o e).2 (I.ok.noex b o e)⟩
theorem Inv.bk(I:Inv X pins σ H s):∀b o,X.base.get? b=some o->s.heap.get? b=some o:=fun b o e=>(I.bs b o e).1
theorem Inv.mod(I:Inv X pins σ H s):Mod X.K X.mg X.base:=I.ok.mod
theorem Inv.kIn(I:Inv X pins σ H s):X.K.In s.heap:=I.ok.mod.kin.keeps I.bk
theorem Inv.nolimit(I:Inv X pins σ H s):s.heap.NoLimit:=I.ok.mod.nolimit.keeps I.bk
theorem Inv.fr(I:Inv X pins σ H s):∃m,Fr X.base X.env.locals s.heap m:=
 let⟨m,hn,_⟩:=I.loc
 ⟨m,hn,I.bk,Nat.le_trans I.ok.bsz I.ok.above⟩
theorem Inv.lt(I:Inv X pins σ H s):X.env.locals<s.heap.objs.size:=let⟨_,hn,_⟩:=I.loc;hn.lt
theorem Inv.sz(I:Inv X pins σ H s):X.s₀.heap.objs.size<=s.heap.objs.size:=Nat.le_trans I.ok.above (Nat.le_of_lt I.lt)
theorem Inv.nofs(I:Inv X pins σ H s){a:Addr}(h:s.heap.objs.size<=a):a∉X.fs:=fun hb=>by
 obtain⟨_,o,ho,_⟩:=I.ok.funs.mem hb
 exact absurd (Nat.lt_of_lt_of_le (Heap.lt_size ho) (Nat.le_trans I.sz h)) (Nat.lt_irrefl _)
theorem Inv.cne(I:Inv X pins σ H s):∀x c,X.env.cells.lookup x=some c->c≠X.env.locals:=fun x c e z=>by
 obtain⟨v,o,ho,hd⟩:=I.cell x c e
 obtain⟨m,⟨o',es,ep,ho',hd',_⟩,_⟩:=I.loc
 rw[z,ho']at ho;cases ho;rw[hd']at hd;cases hd
theorem Inv.funs(I:Inv X pins σ H s):s.heap.FunFrames X.base X.outer:=by
 have all:∀(l:List Env),(∀b∈frs l,b∈X.fs)->X.s₀.heap.FunFrames X.base l->s.heap.FunFrames X.base l:=by
  intro l
  induction l with
  |nil=>intro _ _;trivial
  |cons env r ih=>
   intro hs hl
   obtain⟨hk,⟨L,o,hf,hn,ho,hd⟩,hr⟩:=hl
   have hL:L∈X.fs:=hs L (by unfold frs;rw[List.filterMap_cons,hf];exact List.mem_cons_self)
   obtain⟨sl,e⟩:=I.base.slot L o ho (I.ok.frf L hL) hL fun z=>I.ok.exfs L z hL
   exact⟨hk,⟨L,_,hf,hn,e,hd⟩,ih (fun b hb=>hs b (by unfold frs;rw[List.filterMap_cons,hf];exact List.mem_cons_of_mem _ hb)) hr⟩
 exact all X.outer (fun _ hb=>hb) I.ok.funs
theorem Inv.stack(I:Inv X pins σ H s):s.heap.FunFrames X.base X.stack:=by
 rcases I.ok.stk with e|⟨e,hf⟩
 ·rw[e];exact I.funs
 ·rw[e]
  obtain⟨m,hn,_⟩:=I.loc
  refine .cons (by rw[I.ok.kind];decide) hf hn ?_ I.funs
  exact Heap.get?_none_of_le (Nat.le_trans I.ok.bsz I.ok.above)
theorem Inv.stkSub(I:Inv X pins σ H s):∀b∈frs X.stack,b∈X.env.locals::X.fs:=fun b hb=>by
 rcases I.ok.stk with e|⟨e,hf⟩
 ·rw[e]at hb;exact List.mem_cons_of_mem _ hb
 ·rw[e]at hb
  unfold frs at hb
  rw[List.filterMap_cons,hf]at hb
  exact hb
theorem Inv.stkFree(I:Inv X pins σ H s):∀b∈frs X.stack,H b=none:=fun b hb=>by
 rcases List.mem_cons.mp (I.stkSub b hb)with e|hb
 ·rw[e];exact I.free
 ·obtain⟨_,o,ho,_⟩:=I.ok.funs.mem hb
  exact I.base.free b o ho (I.ok.frf b hb) fun z=>I.ok.exfs b z hb
theorem Inv.step{g':Array GenState}{t':Nat}{d':Drawn}{ch:List Addr}(I:Inv X pins σ H s)
  (hch:∀b∈ch,(b∈X.ex\/X.s₀.heap.objs.size<=b)/\b≠X.env.locals/\(∀x c,X.env.cells.lookup x=some c->c≠b)/\∀p∈X.pn++pins,p.1≠b)
  (keep:∀b o,b≠X.env.locals->b∉X.fs->b∉ch->s.heap.get? b=some o->H b=none->h'.get? b=some o)
  (slot:∀b o,b≠X.env.locals->b∈X.fs->b∉ch->s.heap.get? b=some o->H b=none->∃sl,h'.get? b=some {o with slots:=sl}) (free:∀b o,b∉ch->s.heap.get? b=some o->H b=none->H' b=none)
  (there:∀b o,b∉ch->s.heap.get? b=some o->∃o',h'.get? b=some o')
  (tups:∀b xs,H b=some (.tup xs)->H' b=some (.tup xs)) (frzs:∀b o u,H b=some (.frz o u)->H' b=some (.frz o u)) (tbls:∀b ps,H b=some (.tbl ps)->∃more,H' b=some (.tbl (ps++more)))
  (ns:∀m,s.heap.Ns X.env.locals m->h'.Ns X.env.locals m) (hok:HOk X.prog X.w H' h') (hg:AllBare g'):
  Inv X pins σ H' {s with heap:=h',gens:=g',drawn:=d',toks:=t'}:=by
 have neL:∀b o,X.s₀.heap.get? b=some o->b≠X.env.locals:=fun b o e=>Nat.ne_of_lt (Nat.lt_of_lt_of_le (Heap.lt_size e) I.ok.above)
 have neC:∀b o,X.s₀.heap.get? b=some o->b∉X.ex->b∉ch:=fun b o e hx hb=>by
  rcases(hch b hb).1 with z|z
  ·exact hx z
  ·exact absurd (Nat.lt_of_lt_of_le (Heap.lt_size e) z) (Nat.lt_irrefl _)
 have cellK:∀x c,X.env.cells.lookup x=some c->∀v,s.heap.IsCell c v->h'.IsCell c v:=fun x c e v ⟨o,ho,hd⟩=>by
  have nch:c∉ch:=fun z=>(hch c z).2.2.1 x c e rfl
  by_cases hc:c∈X.fs
  ·obtain⟨sl,q⟩:=slot c o (I.cne x c e) hc nch ho (I.freeC x c e)
   exact⟨_,q,hd⟩
  ·exact⟨o,keep c o (I.cne x c e) hc nch ho (I.freeC x c e),hd⟩
 refine⟨I.ok,I.os,hg,⟨fun b o e n hb hx=> ?_,fun b o e n hb hx=> ?_,fun b o e n hx=> ?_,fun b o e hx=> ?_,fun b xs e=>tups b xs (I.base.tups b xs e),fun b o xs e=>frzs b o xs (I.base.frzs b o xs e),fun b ps e=> ?_⟩,?_,fun x c e=> ?_,?_,fun x c e=> ?_,fun p hp=> ?_,hok,I.len⟩
 ·exact keep b o (neL b o e) hb (neC b o e hx) (I.base.keep b o e n hb hx) (I.base.free b o e n hx)
 ·obtain⟨sl,e1⟩:=I.base.slot b o e n hb hx
  obtain⟨sl',e2⟩:=slot b _ (neL b o e) hb (neC b o e hx) e1 (I.base.free b o e n hx)
  exact⟨sl',e2⟩
 ·obtain⟨o',e1⟩:=I.base.there b o e hx
  exact free b o' (neC b o e hx) e1 (I.base.free b o e n hx)
 ·obtain⟨o',e1⟩:=I.base.there b o e hx
  exact there b o' (neC b o e hx) e1
 ·obtain⟨m1,e1⟩:=I.base.tbls b ps e
  obtain⟨m2,e2⟩:=tbls b _ e1
  exact⟨m1++m2,by rw[e2,Array.append_assoc]⟩
 ·obtain⟨m,hn,hl⟩:=I.loc
  refine⟨m,ns m hn,fun i x v e1 e2 e3=> ?_⟩
  obtain⟨u,r,l⟩:=hl i x v e1 e2 e3
  refine⟨u,r,?_⟩
  rcases l with l|⟨k,c,e,z⟩
  ·exact .inl l
  ·exact .inr ⟨k,c,e,cellK x c e _ z⟩
 ·obtain⟨v,z⟩:=I.cell x c e
  exact⟨v,cellK x c e v z⟩
 ·obtain⟨m,⟨o,_,_,ho,_⟩,_⟩:=I.loc
  exact free _ o (fun z=>(hch _ z).2.1 rfl) ho I.free
 ·obtain⟨v,o,ho,hd⟩:=I.cell x c e
  exact free c o (fun z=>(hch c z).2.2.1 x c e rfl) ho (I.freeC x c e)
 ·obtain⟨e,n,ne,nf,d⟩:=I.pin p hp
  have nch:p.1∉ch:=fun z=>(hch p.1 z).2.2.2 p hp rfl
  exact⟨keep p.1 p.2 ne nf nch e n,free p.1 p.2 nch e n,ne,nf,d⟩
theorem Inv.un{t':Nat}(I:Inv X pins σ H s)(u:Un X.fs [] H H' s.heap h')(hok:HOk X.prog X.w H' h'):Inv X pins σ H' {s with heap:=h',toks:=t'}:=by
 obtain⟨m,⟨o,es,ep,ho,r⟩,_⟩:=id I.loc
 obtain⟨sl,hL⟩:=u.any ho I.free (by simp)
 exact I.step (g':=s.gens) (d':=s.drawn) (ch:=[]) (fun _ z=>nomatch z) (fun b o _ hb _ e n=>u.keep b o e n hb (by simp)) (fun b o _ hb _ e n=>u.slot b o e n hb (by simp)) (fun b o _ e n=>u.free b o e n (by simp)) (fun b o _ e=>u.there b o e (by simp)) u.tups u.frzs u.tbls (fun m' hm=>by
  obtain⟨o',es',ep',ho',r'⟩:=hm
  rw[ho]at ho';cases ho'
  exact⟨_,es',ep',hL,r'⟩) hok I.bare
theorem Inv.call{g':Array GenState}{t':Nat}{d':Drawn}{ch:List Addr}(I:Inv X pins σ H s)(u:Un (frs X.stack) ch H H' s.heap h')(hok:HOk X.prog X.w H' h')(hg:AllBare g')
  (hch:∀b∈ch,(b∈X.ex\/X.s₀.heap.objs.size<=b)/\b≠X.env.locals/\(∀x c,X.env.cells.lookup x=some c->c≠b)/\∀p∈X.pn++pins,p.1≠b):
  Inv X pins σ H' {s with heap:=h',gens:=g',drawn:=d',toks:=t'}:=by
 obtain⟨m,⟨o,es,ep,ho,r⟩,_⟩:=id I.loc
 obtain⟨sl,hL⟩:=u.any ho I.free fun z=>(hch _ z).2.1 rfl
 exact I.step (ch:=ch) hch (fun b o hL hb hc e n=>u.keep b o e n (fun z=>(List.mem_cons.mp (I.stkSub b z)).elim hL hb) hc) (fun b o _ _ hc e n=>u.any e n hc) (fun b o hc e n=>u.free b o e n hc) (fun b o hc e=>u.there b o e hc) u.tups u.frzs u.tbls (fun m' hm=>by
  obtain⟨o',es',ep',ho',r'⟩:=hm
  rw[ho]at ho';cases ho'
  exact⟨_,es',ep',hL,r'⟩) hok hg
theorem Inv.turned{t':Nat}{it:Addr}(I:Inv X pins σ H s)(k:∀b o,b≠it->s.heap.get? b=some o->h'.get? b=some o)(hn:H it=none)(hL:it≠X.env.locals)
  (h1:it∈X.ex\/X.s₀.heap.objs.size<=it) (h2:∀x c,X.env.cells.lookup x=some c->c≠it) (h3:∀p∈X.pn++pins,p.1≠it):Inv X pins σ H {s with heap:=h',toks:=t'}:=by
 have nit:∀b u,H b=some u->b≠it:=fun b u e z=>by rw[z,hn]at e;cases e
 refine I.step (g':=s.gens) (d':=s.drawn) (ch:=[it]) (fun b hb=> ?_) (fun b o _ _ hc e _=>k b o (fun z=>hc (by simp[z])) e) (fun b o _ _ hc e _=>⟨o.slots,k b o (fun z=>hc (by simp[z])) e⟩) (fun _ _ _ _ n=>n)
  (fun b o hc e=>⟨o,k b o (fun z=>hc (by simp[z])) e⟩) (fun _ _ e=>e) (fun _ _ _ e=>e) (fun b ps e=>⟨#[],by rw[e];simp⟩) (fun m hm=> ?_) (fun b u e=> ?_) I.bare
 ·have e:b=it:=by simpa using hb
  subst e
  exact⟨h1,hL,h2,h3⟩
 ·obtain⟨o,es,ep,ho,r⟩:=hm
  exact⟨o,es,ep,k _ o (Ne.symm hL) ho,r⟩
 ·refine(I.hok b u e).stay (fun c v hc q=>k c v ?_ q) (fun _ q=>q) fun _ _ q=>q
  rcases hc with z|z
  ·rw[z];exact nit b u e
  ·exact nit c _ z
theorem Inv.tok(I:Inv X pins σ H s)(t:Nat):Inv X pins σ H {s with toks:=t}:=I.un (h':=s.heap) (t':=t) Un.refl I.hok
theorem Inv.kept{t':Nat}(I:Inv X pins σ H s)(k:∀b u,s.heap.get? b=some u->h'.get? b=some u):Inv X pins σ H {s with heap:=h',toks:=t'}:=I.un (Un.kept k) (I.hok.kept k)
theorem Inv.laid{a:Addr}{o:HO}{t':Nat}(I:Inv X pins σ H s)(k:∀b u,s.heap.get? b=some u->h'.get? b=some u)(hp:s.heap.objs.size<=a)(new:ObjOk X.prog X.w (upd H a o) h' a o):
  Inv X pins σ (upd H a o) {s with heap:=h',toks:=t'}:=I.un (Un.laid k hp (I.hok.fresh hp)) (I.hok.laid k hp new)
theorem Inv.write{x e:Addr}{o:HO}{t':Nat}(I:Inv X pins σ H s)(mu:Mut (H x))(he:e=x\/H e=some (.own x))(k:∀b u,b≠e->s.heap.get? b=some u->h'.get? b=some u)(heo:∃u,h'.get? e=some u)
  (new:ObjOk X.prog X.w (upd H x o) h' x o):Inv X pins σ (upd H x o) {s with heap:=h',toks:=t'}:=I.un (Un.write mu he k heo) (I.hok.write mu he k heo new)
theorem Inv.weak{σ':List (Option V)}(I:Inv X pins σ H s)(hl:σ'.length=σ.length)(w:∀(i:Nat) v,σ'[i]? =some (some v)->σ[i]? =some (some v)):Inv X pins σ' H s:=
 ⟨I.ok,I.os,I.bare,I.base,let⟨m,hn,hl'⟩:=I.loc;⟨m,hn,fun i x v e1 e2 e3=>hl' i x v e1 (w i v e2) e3⟩,I.cell,I.free,I.freeC,I.pin,I.hok,hl.trans I.len⟩
theorem Inv.pins_of{pins':List (Addr×Obj)}(I:Inv X pins σ H s)(h:∀p∈pins',s.heap.get? p.1=some p.2/\H p.1=none/\p.1≠X.env.locals/\p.1∉X.fs/\∀v,p.2.data≠ .cell v):Inv X pins' σ H s:=
 ⟨I.ok,I.os,I.bare,I.base,I.loc,I.cell,I.free,I.freeC,fun p hp=>(List.mem_append.mp hp).elim (fun z=>I.pin p (List.mem_append_left _ z)) (h p),I.hok,I.len⟩
theorem Ul{N:List Str}(hN:N.Nodup){i j:Nat}{x:Str}(a:N[i]? =some x)(b:N[j]? =some x):i=j:=by
 obtain⟨h1,e1⟩:=List.getElem?_eq_some_iff.mp a
 obtain⟨h2,e2⟩:=List.getElem?_eq_some_iff.mp b
 exact(List.getElem_inj hN).mp (e1.trans e2.symm)
theorem Z3m{M:Model}{A:Around}{E:Value->Shared->Prop}{i:Nat}{x:Str}{v:V}{u:Value}{Q:Unit->Shared->Prop}(I:Inv X pins σ H s)(hN:X.N.Nodup)(hi:X.N[i]? =some x)(hx:Loc X.env.scope x)(r:RelV v u)
  (h:∀s',Inv X pins (σ.set i (some v)) H s'->(∃a,Heap.SameBut a s.heap s'.heap/\(a=X.env.locals\/X.env.cells.lookup x=some a))->Q () s') (hf:X.fn x=true\/X.env.scope.names.lookup x=some .local:=by first|exact .inl rfl|exact .inr rfl|assumption):wpAny M A (storeName X.env x u) Q E s:=by
 obtain⟨m,hn,hl⟩:=id I.loc
 have hcls:(X.env.scope.kind == .class || (X.env.scope.kind == .module&&X.env.locals != X.env.globals))=false:=by rw[I.ok.kind];rfl
 have hiσ:i<σ.length:=by rw[I.len];exact(List.getElem?_eq_some_iff.mp hi).1
 have cne:=I.cne
 have tracked:∀{a:Addr} {h':Heap},(∃o,s.heap.get? a=some o/\H a=none)->Heap.SameBut a s.heap h'->HOk X.prog X.w H h':=fun{a h'} ha hs b ob e=>by
  obtain⟨_,_,hfree⟩:=ha
  refine(I.hok b ob e).stay (fun c w' hc q=>(hs.2 c ?_).trans q) (fun _ q=>q) fun _ _ q=>q
  rintro rfl
  rcases hc with rfl|hc
  ·rw[hfree]at e;cases e
  ·rw[hfree]at hc;cases hc
 rcases hx with hk|hk
 ·refine wpAny_storeName_local hk hn (fun h' hn' hs=> ?_) hcls
  obtain⟨oL,_,_,hoL,_⟩:=id hn
  refine h _ ⟨I.ok,I.os,I.bare,⟨fun b o e n hb hx=> ?_,fun b o e n hb hx=> ?_,I.base.free,fun b o e hx=> ?_,I.base.tups,I.base.frzs,I.base.tbls⟩,⟨_,hn',fun j y v' e1 e2 e3=> ?_⟩,fun y c e=> ?_,I.free,I.freeC,fun p hp=> ?_,tracked ⟨oL,hoL,I.free⟩ hs,by simpa using I.len⟩ ⟨_,hs, .inl rfl⟩
  ·exact(hs.2 b (Nat.ne_of_lt (Nat.lt_of_lt_of_le (Heap.lt_size e) I.ok.above))).trans (I.base.keep b o e n hb hx)
  ·obtain⟨sl,e1⟩:=I.base.slot b o e n hb hx
   exact⟨sl,(hs.2 b (Nat.ne_of_lt (Nat.lt_of_lt_of_le (Heap.lt_size e) I.ok.above))).trans e1⟩
  ·obtain⟨o',e1⟩:=I.base.there b o e hx
   exact⟨o',(hs.2 b (Nat.ne_of_lt (Nat.lt_of_lt_of_le (Heap.lt_size e) I.ok.above))).trans e1⟩
  ·by_cases hj:j=i
   ·subst hj
    rw[hi]at e1;cases e1
    rw[List.getElem?_set_self hiσ]at e2
    cases e2
    exact⟨u,r, .inl ⟨hk,by simp⟩⟩
   ·rw[List.getElem?_set_ne (Ne.symm hj)]at e2
    obtain⟨u',r',q⟩:=hl j y v' e1 e2 e3
    refine⟨u',r',?_⟩
    rcases q with⟨k,e⟩|⟨k,c,e,z⟩
    ·refine .inl ⟨k,?_⟩
     have:y≠x:=fun e=>hj (Ul hN e1 (e▸hi))
     simp[this,e]
    ·exact .inr ⟨k,c,e,z.sameBut hs (cne y c e)⟩
  ·obtain⟨w',z⟩:=I.cell y c e
   exact⟨w',z.sameBut hs (cne y c e)⟩
  ·obtain⟨e,n,ne,nf,d⟩:=I.pin p hp
   exact⟨(hs.2 p.1 ne).trans e,n,ne,nf,d⟩
 ·have hfn:X.fn x=true:=by
   rcases hf with z|z
   ·exact z
   ·rw[z]at hk;cases hk
  obtain⟨c,hc⟩:=I.ok.has x (.inl hk)
  obtain⟨w',z⟩:=I.cell x c hc
  refine wpAny_storeName_cell I.ok.kind hk hc z (fun h' hc' hs=> ?_)
  obtain⟨oc,hoc,hocd⟩:=id z
  refine h {s with heap:=h'} ⟨I.ok,I.os,I.bare,⟨fun b o e n hb hx=> ?_,fun b o e n hb hx=> ?_,I.base.free,fun b o e hx=> ?_,I.base.tups,I.base.frzs,I.base.tbls⟩,⟨m,hn.sameBut hs (Ne.symm (cne x c hc)),fun j y v' e1 e2 e3=> ?_⟩,fun y c' e=> ?_,I.free,I.freeC,fun p hp=> ?_,tracked ⟨oc,hoc,I.freeC x c hc⟩ hs,by simpa using I.len⟩ ⟨c,hs, .inr hc⟩
  ·exact(hs.2 b (Nat.ne_of_lt (Nat.lt_of_lt_of_le (Heap.lt_size e) (I.ok.cab x c hfn hc)))).trans (I.base.keep b o e n hb hx)
  ·obtain⟨sl,e1⟩:=I.base.slot b o e n hb hx
   exact⟨sl,(hs.2 b (Nat.ne_of_lt (Nat.lt_of_lt_of_le (Heap.lt_size e) (I.ok.cab x c hfn hc)))).trans e1⟩
  ·obtain⟨o',e1⟩:=I.base.there b o e hx
   exact⟨o',(hs.2 b (Nat.ne_of_lt (Nat.lt_of_lt_of_le (Heap.lt_size e) (I.ok.cab x c hfn hc)))).trans e1⟩
  ·by_cases hj:j=i
   ·subst hj
    rw[hi]at e1;cases e1
    rw[List.getElem?_set_self hiσ]at e2
    cases e2
    exact⟨u,r, .inr ⟨.inl hk,c,hc,hc'⟩⟩
   ·rw[List.getElem?_set_ne (Ne.symm hj)]at e2
    obtain⟨u',r',q⟩:=hl j y v' e1 e2 e3
    refine⟨u',r',?_⟩
    rcases q with q|⟨k,c',e,z'⟩
    ·exact .inl q
    ·refine .inr ⟨k,c',e,z'.sameBut hs ?_⟩
     rintro rfl
     exact hj (Ul hN e1 (I.ok.inj _ _ _ e hc▸hi))
  ·by_cases hcc:c'=c
   ·subst hcc;exact⟨_,hc'⟩
   ·obtain⟨w2,z2⟩:=I.cell y c' e
    exact⟨w2,z2.sameBut hs hcc⟩
  ·obtain⟨e,n,ne,nf,d⟩:=I.pin p hp
   refine⟨(hs.2 p.1 ?_).trans e,n,ne,nf,d⟩
   intro q
   rw[q,hoc]at e
   have q':oc=p.2:=Option.some.inj e
   exact d w' (by rw[←q'];exact hocd)
theorem Xl{M:Model}{A:Around}{E:Value->Shared->Prop}{i:Nat}{x:Str}{v:V}{u:Value}{Q:Unit->Shared->Prop}(I:Inv X pins σ H s)(hN:X.N.Nodup)(hi:X.N[i]? =some x)(hx:Loc X.env.scope x)(r:RelV v u)
  (h:∀s',Inv X pins (σ.set i (some v)) H s'->Q () s') (hf:X.fn x=true\/X.env.scope.names.lookup x=some .local:=by first|exact .inl rfl|exact .inr rfl|assumption):wpAny M A (storeName X.env x u) Q E s:=
 Z3m I hN hi hx r (fun s' I' _=>h s' I') hf
theorem Inv.call'{s':Shared}{ch:List Addr}(I:Inv X pins σ H s)(ho:s'.os=s.os)(u:Un (frs X.stack) ch H H' s.heap s'.heap)(hok:HOk X.prog X.w H' s'.heap)(hg:AllBare s'.gens)
  (hch:∀b∈ch,(b∈X.ex\/X.s₀.heap.objs.size<=b)/\b≠X.env.locals/\(∀x c,X.env.cells.lookup x=some c->c≠b)/\∀p∈X.pn++pins,p.1≠b):Inv X pins σ H' s':=by
 obtain⟨h',g',d',t',o'⟩:=s'
 have e:o'=s.os:=ho
 subst e
 exact I.call (g':=g') (t':=t') (d':=d') u hok hg hch
end
abbrev XK:=Value->Option Addr->Hp->Prop
abbrev St:=List (Option V)
abbrev VK:=V->Hp->Prop
abbrev TE:=St->Hp->VK->Prop
abbrev TT:=St->Hp->(Bool->Hp->Prop)->Prop
abbrev TA:=St->Hp->(List V->Hp->Prop)->Prop
structure Ends where
 nx:St->Hp->Prop
 rt:VK
 bk:St->Hp->Prop:=fun _ _=>False
 ct:St->Hp->Prop:=fun _ _=>False
abbrev TS:=Ends->St->Hp->Prop
def EP(X:Cx)(pins:List (Addr×Obj))(σ:St)(Q:VK)(u:Value)(s':Shared):Prop:=∃v H',Inv X pins σ H' s'/\RelV v u/\Q v H'
def TP(X:Cx)(pins:List (Addr×Obj))(σ:St)(Q:Bool->Hp->Prop)(b:Bool)(s':Shared):Prop:=∃H',Inv X pins σ H' s'/\Q b H'
def AP(X:Cx)(pins:List (Addr×Obj))(σ:St)(Q:List V->Hp->Prop)(us:List Value)(s':Shared):Prop:=∃vs H',Inv X pins σ H' s'/\Vals vs us/\Q vs H'
def SP(X:Cx)(pins:List (Addr×Obj))(D:Ends)(f:Flow)(s':Shared):Prop:=
 match f with
 | .next=>∃σ' H',Inv X pins σ' H' s'/\D.nx σ' H'
 | .brk=>∃σ' H',Inv X pins σ' H' s'/\D.bk σ' H'
 | .cont=>∃σ' H',Inv X pins σ' H' s'/\D.ct σ' H'
 | .ret u=>∃v σ' H',Inv X pins σ' H' s'/\RelV v u/\D.rt v H'
def PE(X:Cx)(e:Expr)(t:TE):Prop:=
 ∀(pins:List (Addr×Obj)) (s:Shared) (σ:St) (H:Hp) (Q:VK),Inv X pins σ H s->t σ H Q->wpAny (model X.prog X.w) X.A (eval e X.env) (EP X pins σ Q) X.xe s
def PT(X:Cx)(e:Expr)(t:TT):Prop:=
 ∀(pins:List (Addr×Obj)) (s:Shared) (σ:St) (H:Hp) (Q:Bool->Hp->Prop),Inv X pins σ H s->t σ H Q->wpAny (model X.prog X.w) X.A (isTrue e X.env (eval e X.env)) (TP X pins σ Q) X.xe s
def PW(X:Cx)(e:Expr)(t:TT):Prop:=
 ∀(whole:Sem Value) (pins:List (Addr×Obj)) (s:Shared) (σ:St) (H:Hp) (Q:Bool->Hp->Prop),Inv X pins σ H s->t σ H Q->wpAny (model X.prog X.w) X.A (isTrue e X.env whole) (TP X pins σ Q) X.xe s
theorem PW.pt{X:Cx}{e:Expr}{t:TT}(h:PW X e t):PT X e t:=h _
def PA(X:Cx)(es:List Expr)(t:TA):Prop:=
 ∀(pos:Pos) (pins:List (Addr×Obj)) (s:Shared) (σ:St) (H:Hp) (Q:List V->Hp->Prop),Inv X pins σ H s->t σ H Q->wpAny (model X.prog X.w) X.A (spliced (backTo pos (starEach es X.env))) (AP X pins σ Q) X.xe s
def PS(X:Cx)(st:Stmt)(t:TS):Prop:=
 ∀(pins:List (Addr×Obj)) (s:Shared) (σ:St) (H:Hp) (D:Ends),Inv X pins σ H s->t D σ H->wpAny (model X.prog X.w) X.A (exec st X.env) (SP X pins D) X.xe s
def PSs(X:Cx)(st:List Stmt)(t:TS):Prop:=
 ∀(pins:List (Addr×Obj)) (s:Shared) (σ:St) (H:Hp) (D:Ends),Inv X pins σ H s->t D σ H->wpAny (model X.prog X.w) X.A (execs st X.env) (SP X pins D) X.xe s
theorem thn{α:Type}{t:Sem α}{Q Q':α->Shared->Prop}{M:Model}{A:Around}{E:Value->Shared->Prop}{s:Shared}(h:wpAny M A t Q E s)(hQ:∀a s,Q a s->Q' a s):wpAny M A t Q' E s:=wpAny_mono h hQ fun _ _ x=>x
end L2
namespace L2
open PySem PySem.Spec PyProof.Rows
section
variable{X:Cx}
def tVar(i:Nat):TE:=fun σ H Q=>∃v,σ[i]? =some (some v)/\Q v H
def tC(v:V):TE:=fun _ H Q=>Q v H
theorem Xm{i:Nat}{x:Str}{pos:Pos}(hN:X.N[i]? =some x)(hv:Vis X.env.scope x)(hd:(x == ("__debug__":Str))=false:=by decide)(hcd:(x == ("__classdict__":Str))=false:=by decide):PE X (.Name x pos) (tVar i):=by
 intro pins s σ H Q I h
 obtain⟨v,e,h⟩:=h
 obtain⟨m,hn,hl⟩:=I.loc
 obtain⟨u,r,l⟩:=hl i x v hN e hv
 have fin:EP X pins σ Q u s:=⟨v,H,I,r,h⟩
 rcases l with⟨hk,hm⟩|⟨hk,c,hc,hcell⟩
 ·exact wpAny_Name (wpAny_loadName_local I.ok.kind hk hn hm fin) hd
 ·rcases hk with hk|hk
  ·exact wpAny_Name (wpAny_loadName_cell I.ok.kind hk hc hcell fin) hd
  ·exact wpAny_Name (wpAny_loadName_free I.ok.kind hk hc hcell fin hcd) hd
theorem pe_int{i j pos}:PE X (.Constant (.int i) j pos) (tC (.int i)):=fun _ _ _ H _ I h=>wpAny_Constant_int ⟨.int i,H,I.tok _,⟨_,rfl⟩,h⟩
theorem pe_bl{b j pos}:PE X (.Constant (.bool b) j pos) (tC (.bl b)):=fun _ _ _ H _ I h=>Constant_bool ⟨.bl b,H,I,rfl,h⟩
theorem pe_non{j pos}:PE X (.Constant .none j pos) (tC .non):=fun _ _ _ H _ I h=>Constant_none ⟨.non,H,I,rfl,h⟩
theorem pe_str{x j pos}:PE X (.Constant (.str x) j pos) (tC (.str x)):=fun _ _ _ H _ I h=>Calls.Constant_str ⟨.str x,H,I.tok _,⟨_,rfl⟩,h⟩
def Gl(X:Cx)(x:Str):Prop:=X.env.kindOf x=some .globalImplicit
theorem VP{E:Value->Shared->Prop}{pins:List (Addr×Obj)}{s:Shared}{σ:St}{H:Hp}{x:Str}{u:Value}{pos:Pos}{Q:Value->Shared->Prop}(I:Inv X pins σ H s)(hg:Gl X x)(hm:X.mg x=some u)(h:Q u s)
  (hd:(x == ("__debug__":Str))=false:=by decide):wpAny (model X.prog X.w) X.A (eval (.Name x pos) X.env) Q E s:=
 Calls.Name_function_global I.ok.kind hg (Calls.loadGlobal_global (by rw[I.ok.glob];exact I.mod.glob.keeps I.bk) hm h) hd
theorem X8{E:Value->Shared->Prop}{pins:List (Addr×Obj)}{s:Shared}{σ:St}{H:Hp}{x:Str}{u:Value}{pos:Pos}{Q:Value->Shared->Prop}(I:Inv X pins σ H s)(hg:Gl X x)(hm:X.mg x=none)(hv:bootBuiltins x=some u)(h:Q u s)
  (hn:x≠"__name__":=by decide) (hd:(x == ("__debug__":Str))=false:=by decide):wpAny (model X.prog X.w) X.A (eval (.Name x pos) X.env) Q E s:=by
 obtain⟨mb,h1,h2⟩:=I.mod.blt
 exact Calls.Name_function_global I.ok.kind hg (Calls.loadGlobal_builtin (by rw[I.ok.glob];exact I.mod.glob.keeps I.bk) hm (by rw[I.ok.blt];exact h1.keeps I.bk) ((h2 x hn).trans hv) h) hd
theorem Z8k{x:Str}{v:V}{u:Value}{pos:Pos}(hg:Gl X x)(hm:X.mg x=some u)(r:RelV v u)(hd:(x == ("__debug__":Str))=false:=by decide):PE X (.Name x pos) (tC v):=
 fun _ _ _ H _ I h=>VP I hg hm ⟨v,H,I,r,h⟩ hd
theorem Z8l{x:Str}{v:V}{u:Value}{pos:Pos}(hg:Gl X x)(hm:X.mg x=none)(hv:bootBuiltins x=some u)(r:RelV v u)(hn:x≠"__name__":=by decide)(hd:(x == ("__debug__":Str))=false:=by decide):PE X (.Name x pos) (tC v):=
 fun _ _ _ H _ I h=>X8 I hg hm hv ⟨v,H,I,r,h⟩ hn hd
variable{a b:Expr}{ta tb:TE}{pos:Pos}
def PC(X:Cx)(op:CmpOp)(a b:Expr)(t:TE):Prop:=
 ∀(pins:List (Addr×Obj)) (s:Shared) (σ:St) (H:Hp) (Q:VK),Inv X pins σ H s->t σ H Q->
  wpAny (model X.prog X.w) X.A (eval a X.env) (fun v s₁=>wpAny (model X.prog X.w) X.A (eval b X.env) (fun u s₂=>wpAny (model X.prog X.w) X.A (compareOp op v u) (EP X pins σ Q) X.xe s₂) X.xe s₁) X.xe s
theorem Um(b:Expr){op:CmpOp}(h:op≠ .In)(h2:op≠ .NotIn):behindInMarks op b=false:=by
 have e1:(op == CmpOp.In)=false:=by cases op<;>first|rfl|exact absurd rfl h
 have e2:(op == CmpOp.NotIn)=false:=by cases op<;>first|rfl|exact absurd rfl h2
 cases b<;>simp[behindInMarks,e1,e2]
def tIsN(ta:TE):TE:=fun σ H Q=>ta σ H fun x H1=>Q (.bl (decide (x=.non))) H1
def Zdp(ta:TE):TE:=fun σ H Q=>ta σ H fun x H1=>Q (.bl (!decide (x=.non))) H1
theorem RelV.none_iff{x:V}{v:Value}(r:RelV x v):(v == Value.none)=decide (x=.non):=by
 cases x with
 |non=>cases r;rfl
 |bl _=>cases r;rfl
 |int _=>obtain⟨t,rfl⟩:=r;rfl
 |str _=>obtain⟨t,rfl⟩:=r;rfl
 |byt _=>obtain⟨t,rfl⟩:=r;rfl
 |flt _=>obtain⟨t,rfl⟩:=r;rfl
 |ref _=>cases r;rfl
 |ty _=>cases r;rfl
theorem Z58{j pos'}(ha:PE X a ta):PC X .Is a (.Constant .none j pos') (tIsN ta):=by
 intro pins s σ H Q I h
 refine thn (ha pins s σ H _ I h) fun v s1 ⟨x,H1,I1,r1,q1⟩=> ?_
 exact Constant_none (is_none_gen ⟨.bl _,H1,I1,by rw[r1.none_iff];rfl,q1⟩)
theorem Z8m{j pos'}(ha:PE X a ta):PC X .IsNot a (.Constant .none j pos') (Zdp ta):=by
 intro pins s σ H Q I h
 refine thn (ha pins s σ H _ I h) fun v s1 ⟨x,H1,I1,r1,q1⟩=> ?_
 exact Constant_none (isnot_none_gen ⟨.bl _,H1,I1,by rw[r1.none_iff];rfl,q1⟩)
def tB(t:TE):TT:=fun σ H Q=>t σ H fun x H1=>∃c,x=.bl c/\Q c H1
theorem Zba{op:CmpOp}{t:TE}(h:PC X op a b t)(h1:behindInMarks op b=false:=by first|exact Um _ (by decide) (by decide)|rfl):PE X (.Compare a [op] [b] pos) t:=fun pins s σ H Q I hw=>wpAny_Compare1 (h pins s σ H Q I hw) h1
theorem Z59{op:CmpOp}{t:TE}(h:PC X op a b t)(h1:behindInMarks op b=false:=by first|exact Um _ (by decide) (by decide)|rfl):PT X (.Compare a [op] [b] pos) (tB t):=by
 intro pins s σ H Q I hw
 refine wpAny_isTrue_Compare1 (thn (h pins s σ H _ I hw) fun v s1 h1=>thn h1 fun u s2 h2=>thn h2 fun c s3 ⟨x,H1,I1,r1,q1⟩=> ?_) h1
 obtain⟨d,rfl,q⟩:=q1
 cases r1
 exact wpAny_truthy_bool ⟨H1,I1,q⟩
variable{tA tB':TT}{Y4:List Expr}
def tAnd(t u:TT):TT:=fun σ H Q=>t σ H fun c H1=>if c=true then u σ H1 Q else Q false H1
def tOr(t u:TT):TT:=fun σ H Q=>t σ H fun c H1=>if c=true then Q true H1 else u σ H1 Q
def tNot(t:TT):TT:=fun σ H Q=>t σ H fun c H1=>Q (!c) H1
theorem Z8n(ha:PT X a tA):PW X (.BoolOp .And [a] pos) tA:=by
 intro wh pins s σ H Q I h
 refine isTrue_and (thn (ha pins s σ H Q I h) fun c s1 e=> ?_)
 cases c with
 |true=>exact isTrue_and_nil e
 |false=>exact e
theorem Zbb(ha:PT X a tA):PW X (.BoolOp .Or [a] pos) tA:=by
 intro wh pins s σ H Q I h
 refine isTrue_or (thn (ha pins s σ H Q I h) fun c s1 e=> ?_)
 cases c with
 |false=>exact isTrue_or_nil e
 |true=>exact e
theorem Zbc(ha:PT X a tA)(hb:PW X (.BoolOp .And (b::Y4) pos) tB'):PW X (.BoolOp .And (a::b::Y4) pos) (tAnd tA tB'):=by
 intro wh pins s σ H Q I h
 refine isTrue_and (thn (ha pins s σ H _ I h) fun c s1 ⟨H1,I1,q1⟩=> ?_)
 cases c with
 |true=>exact hb wh pins s1 σ H1 Q I1 q1
 |false=>exact⟨H1,I1,q1⟩
theorem Zdq(ha:PT X a tA)(hb:PW X (.BoolOp .Or (b::Y4) pos) tB'):PW X (.BoolOp .Or (a::b::Y4) pos) (tOr tA tB'):=by
 intro wh pins s σ H Q I h
 refine isTrue_or (thn (ha pins s σ H _ I h) fun c s1 ⟨H1,I1,q1⟩=> ?_)
 cases c with
 |true=>exact⟨H1,I1,q1⟩
 |false=>exact hb wh pins s1 σ H1 Q I1 q1
theorem Zbd(ha:PT X a tA):PT X (.UnaryOp .Not a pos) (tNot tA):=by
 intro pins s σ H Q I h
 exact isTrue_not (ha pins s σ H (fun c H1=>Q (!c) H1) I h)
def Zdr(ta tb:TE):TE:=fun σ H Q=>ta σ H fun x H1=>∃c,x=.bl c/\if c=true then tb σ H1 Q else Q (.bl false) H1
def tOrV(ta tb:TE):TE:=fun σ H Q=>ta σ H fun x H1=>∃c,x=.bl c/\if c=true then Q (.bl true) H1 else tb σ H1 Q
theorem Zbe{op}{t:TE}(h:PE X a t):PE X (.BoolOp op [a] pos) t:=fun pins s σ H Q I hw=>BoolOp_one (h pins s σ H Q I hw)
theorem Zbf(ha:PE X a ta)(hb:PE X (.BoolOp .And (b::Y4) pos) tb):PE X (.BoolOp .And (a::b::Y4) pos) (Zdr ta tb):=by
 intro pins s σ H Q I h
 refine BoolOp_and (thn (ha pins s σ H _ I h) fun v s1 ⟨x,H1,I1,r1,q1⟩=> ?_)
 obtain⟨c,rfl,q1⟩:=q1
 cases r1
 refine wpAny_truthy_bool ?_
 cases c with
 |true=>exact hb pins s1 σ H1 Q I1 q1
 |false=>exact⟨.bl false,H1,I1,rfl,q1⟩
theorem Zds(ha:PE X a ta)(hb:PE X (.BoolOp .Or (b::Y4) pos) tb):PE X (.BoolOp .Or (a::b::Y4) pos) (tOrV ta tb):=by
 intro pins s σ H Q I h
 refine BoolOp_or (thn (ha pins s σ H _ I h) fun v s1 ⟨x,H1,I1,r1,q1⟩=> ?_)
 obtain⟨c,rfl,q1⟩:=q1
 cases r1
 refine wpAny_truthy_bool ?_
 cases c with
 |false=>exact hb pins s1 σ H1 Q I1 q1
 |true=>exact⟨.bl true,H1,I1,rfl,q1⟩
def tIf(t:TT)(ta tb:TE):TE:=fun σ H Q=>t σ H fun c H1=>if c=true then ta σ H1 Q else tb σ H1 Q
theorem Z5a{c:Expr}(hc:PT X c tA)(ha:PE X a ta)(hb:PE X b tb):PE X (.IfExp c a b pos) (tIf tA ta tb):=by
 intro pins s σ H Q I h
 refine wpAny_IfExp (thn (hc pins s σ H _ I h) fun d s1 ⟨H1,I1,q1⟩=> ?_)
 cases d with
 |true=>exact ha pins s1 σ H1 Q I1 q1
 |false=>exact hb pins s1 σ H1 Q I1 q1
end
end L2
namespace L2
open PySem PySem.Spec PyProof.Rows
def SqL(K:PySem.W.Frag)(H:Hp)(a:Addr)(xs:List V):Prop:=
 Rd H a (.lst xs)\/
  ∃(o:Obj) (its:Array Value) (n:Nat),K.lookup a=some o/\o.cls=.type "list"/\o.dict=none/\o.data=.seq its n/\its.size<=sizeLine/\Vals xs its.toList
def SqT(K:PySem.W.Frag)(H:Hp)(a:Addr)(xs:List V):Prop:=
 Rd H a (.tup xs)\/
  ∃(o:Obj) (its:Array Value) (n:Nat),K.lookup a=some o/\o.cls=.type "tuple"/\o.dict=none/\o.data=.seq its n/\its.size<=sizeLine/\Vals xs its.toList
def absV:Value->Option V
 | .none=>some .non
 | .bool b=>some (.bl b)
 | .int i _=>some (.int i)
 | .str x _=>some (.str x)
 | .bytes b _=>some (.byt b)
 | .float b _=>some (.flt b)
 | .ref a=>some (.ref a)
 | .type n=>some (.ty n)
 |_=>none
theorem RelV.abs{x:V}{u:Value}(r:RelV x u):absV u=some x:=by
 cases x with
 |non=>cases r;rfl
 |bl _=>cases r;rfl
 |int _=>obtain⟨t,rfl⟩:=r;rfl
 |str _=>obtain⟨t,rfl⟩:=r;rfl
 |byt _=>obtain⟨t,rfl⟩:=r;rfl
 |flt _=>obtain⟨t,rfl⟩:=r;rfl
 |ref _=>cases r;rfl
 |ty _=>cases r;rfl
theorem RelV.inj{x y:V}{u:Value}(r:RelV x u)(q:RelV y u):x=y:=Option.some.inj (r.abs.symm.trans q.abs)
theorem Vals.inj:∀{xs ys:List V} {us:List Value},Vals xs us->Vals ys us->xs=ys
 |_,_,_, .nil, .nil=>rfl
 |_,_,_, .cons r t, .cons r' t'=>by rw[r.inj r',Vals.inj t t']
section
variable{X:Cx}{pins:List (Addr×Obj)}{σ:St}{H:Hp}{s:Shared}{a:Addr}{xs ys:List V}
theorem SqL.of{K:PySem.W.Frag}(h:H a=some (.lst xs)):SqL K H a xs:=.inl (.inl h)
theorem SqT.of{K:PySem.W.Frag}(h:H a=some (.tup xs)):SqT K H a xs:=.inl (.inl h)
theorem Inv.list(I:Inv X pins σ H s)(h:SqL X.K H a xs):∃its:List Value,Vals xs its/\PlainL s.heap a its.toArray/\xs.length<=sizeLine:=by
 rcases h with h|⟨o,its,n,hk,hc,hd,hs,hz,r⟩
 ·obtain⟨z,its,n,r,e⟩:=h.ok I.hok
  exact⟨its,r,⟨_,n,e,rfl,rfl,rfl⟩,z⟩
 ·refine⟨its.toList,r,⟨o,n,I.kIn a o hk,hc,hd,by simpa using hs⟩,?_⟩
  have e:=r.length
  simp only[Array.length_toList]at e
  omega
theorem Inv.tuple(I:Inv X pins σ H s)(h:SqT X.K H a xs):∃its:List Value,Vals xs its/\IsTup s.heap a its.toArray/\xs.length<=sizeLine:=by
 rcases h with h|⟨o,its,n,hk,hc,_,hs,hz,r⟩
 ·obtain⟨z,its,r,p,_⟩:=h.ok I.hok
  exact⟨its,r,p,z⟩
 ·refine⟨its.toList,r,⟨o,I.kIn a o hk,hc,n,by simpa using hs⟩,?_⟩
  have e:=r.length
  simp only[Array.length_toList]at e
  omega
theorem Inv.tupleD(I:Inv X pins σ H s)(h:SqT X.K H a xs):∃o,s.heap.get? a=some o/\o.dict=none:=by
 rcases h with h|⟨o,its,n,hk,hc,hd,_⟩
 ·obtain⟨z,its,r,⟨o,e,_⟩,d⟩:=h.ok I.hok
  exact⟨o,e,d o e⟩
 ·exact⟨o,I.kIn a o hk,hd⟩
theorem Inv.list_inj(I:Inv X pins σ H s)(h:SqL X.K H a xs)(h':SqL X.K H a ys):xs=ys:=by
 obtain⟨its,r,⟨o,n,e,_,_,d⟩,_⟩:=I.list h
 obtain⟨its',r',⟨o',n',e',_,_,d'⟩,_⟩:=I.list h'
 rw[e]at e';cases e'
 rw[d]at d'
 injection d' with d1 _
 have:its=its':=by simpa using congrArg Array.toList d1
 subst this
 exact r.inj r'
theorem Inv.tuple_inj(I:Inv X pins σ H s)(h:SqT X.K H a xs)(h':SqT X.K H a ys):xs=ys:=by
 obtain⟨its,r,⟨o,e,_,n,d⟩,_⟩:=I.tuple h
 obtain⟨its',r',⟨o',e',_,n',d'⟩,_⟩:=I.tuple h'
 rw[e]at e';cases e'
 rw[d]at d'
 injection d' with d1 _
 have:its=its':=by simpa using congrArg Array.toList d1
 subst this
 exact r.inj r'
end
abbrev Cx.wish(X:Cx)(E:Value->Shared->Prop):Cx:={X with xe:=E}
theorem Cx.Ok.wish{X:Cx}(ok:X.Ok)(E:Value->Shared->Prop):(X.wish E).Ok:=
 ⟨ok.mod,ok.kind,ok.glob,ok.blt,ok.above,ok.inj,ok.has,ok.cab,ok.hd,ok.frames,ok.stk,ok.exf,ok.bs,ok.bsz,ok.noex,ok.exfs,ok.funs,ok.frf⟩
theorem Cx.Ok.unwish{X:Cx}{E:Value->Shared->Prop}(ok:(X.wish E).Ok):X.Ok:=
 ⟨ok.mod,ok.kind,ok.glob,ok.blt,ok.above,ok.inj,ok.has,ok.cab,ok.hd,ok.frames,ok.stk,ok.exf,ok.bs,ok.bsz,ok.noex,ok.exfs,ok.funs,ok.frf⟩
section
variable{X:Cx}{pins:List (Addr×Obj)}{σ:St}{H:Hp}{s:Shared}{E:Value->Shared->Prop}
theorem Inv.wish(I:Inv X pins σ H s)(E:Value->Shared->Prop):Inv (X.wish E) pins σ H s:=⟨I.ok.wish E,I.os,I.bare,I.base,I.loc,I.cell,I.free,I.freeC,I.pin,I.hok,I.len⟩
theorem Inv.unwish(I:Inv (X.wish E) pins σ H s):Inv X pins σ H s:=⟨I.ok.unwish,I.os,I.bare,I.base,I.loc,I.cell,I.free,I.freeC,I.pin,I.hok,I.len⟩
end
section
variable{X:Cx}{st:Stmt}{Y4:List Stmt}{t u:TS}{e:Expr}{te:TE}{pos:Pos}
def Zdt:TS:=fun D σ H=>D.nx σ H
def tSeq(t u:TS):TS:=fun D σ H=>t {D with nx:=u D} σ H
theorem pss_nil:PSs X [] Zdt:=fun _ _ σ H _ I h=>wpAny_execs_nil ⟨σ,H,I,h⟩
theorem Z5b(h1:PS X st t)(h2:PSs X Y4 u):PSs X (st::Y4) (tSeq t u):=by
 intro pins s σ H D I h
 refine wpAny_execs_cons (thn (h1 pins s σ H {D with nx:=u D} I h) fun f s1 q=> ?_)
 cases f with
 |next=>
  obtain⟨σ',H',I',q⟩:=q
  exact h2 pins s1 σ' H' D I' q
 |ret v=>exact q
 |brk=>exact q
 |cont=>exact q
theorem Z8o(h1:PS X st t):PSs X [st] t:=by
 intro pins s σ H D I h
 refine wpAny_execs_cons (thn (h1 pins s σ H D I h) fun f s1 q=> ?_)
 cases f with
 |next=>exact wpAny_execs_nil q
 |ret v=>exact q
 |brk=>exact q
 |cont=>exact q
theorem Inv.quiet{pins:List (Addr×Obj)}{σ:St}{H:Hp}{s:Shared}(I:Inv X pins σ H s):interactive X.env=false:=by simp[interactive,I.ok.kind]
def Zdu(te:TE):TS:=fun D σ H=>te σ H fun _ H1=>D.nx σ H1
theorem Q0(he:PE X e te)(hs:swapsWith e none pos.line X.env=pure false:=by rfl):PS X (.Expr e pos) (Zdu te):=by
 intro pins s σ H D I h
 exact wpAny_Expr_any (thn (he pins s σ H _ I h) fun v s1 ⟨x,H1,I1,r1,q1⟩=>⟨σ,H1,I1,q1⟩) I.quiet hs
def tRet(te:TE):TS:=fun D σ H=>te σ H D.rt
theorem Zbg(he:PE X e te):PS X (.Return (some e) pos) (tRet te):=by
 intro pins s σ H D I h
 exact wpAny_Return_some (thn (he pins s σ H _ I h) fun v s1 ⟨x,H1,I1,r1,q1⟩=>⟨x,σ,H1,I1,r1,q1⟩)
def tIfS(c:TT)(t u:TS):TS:=fun D σ H=>c σ H fun b H1=>if b=true then t D σ H1 else u D σ H1
theorem Zdv{c:Expr}{a b:List Stmt}{tc:TT}(hc:PT X c tc)(ha:PSs X a t)(hb:PSs X b u):PS X (.If c a b pos) (tIfS tc t u):=by
 intro pins s σ H D I h
 refine wpAny_If (thn (hc pins s σ H _ I h) fun d s1 ⟨H1,I1,q1⟩=> ?_)
 cases d with
 |true=>exact ha pins s1 σ H1 D I1 q1
 |false=>exact hb pins s1 σ H1 D I1 q1
end
abbrev TG:=V->St->Hp->(St->Hp->Prop)->Prop
abbrev TGs:=List V->St->Hp->(St->Hp->Prop)->Prop
def PG(X:Cx)(target:Expr)(t:TG):Prop:=
 ∀(pins:List (Addr×Obj)) (s:Shared) (σ:St) (H:Hp) (v:V) (u:Value) (Q:St->Hp->Prop),Inv X pins σ H s->RelV v u->t v σ H Q->
  wpAny (model X.prog X.w) X.A (assign target X.env u) (fun _ s'=>∃σ' H',Inv X pins σ' H' s'/\Q σ' H') X.xe s
def PGs(X:Cx)(ts:List Expr)(t:TGs):Prop:=
 ∀(pins:List (Addr×Obj)) (s:Shared) (σ:St) (H:Hp) (vs:List V) (us:List Value) (Q:St->Hp->Prop),Inv X pins σ H s->Vals vs us->t vs σ H Q->
  wpAny (model X.prog X.w) X.A (assignInOrder ((assignEach ts X.env).map (·.2)) us) (fun _ s'=>∃σ' H',Inv X pins σ' H' s'/\Q σ' H') X.xe s
abbrev Zbh:=V->V->V->Hp->(Hp->Prop)->Prop
def PSet(X:Cx)(t:Zbh):Prop:=
 ∀(pins:List (Addr×Obj)) (s:Shared) (σ:St) (H:Hp) (o i v:V) (ov iv u:Value) (Q:Hp->Prop),Inv X pins σ H s->RelV o ov->RelV i iv->RelV v u->t o i v H Q->
  wpAny (model X.prog X.w) X.A (setItem ov iv u) (fun _ s'=>∃H',Inv X pins σ H' s'/\Q H') X.xe s
section
variable{X:Cx}{pos:Pos}
def Uo(i:Nat):TG:=fun v σ H Q=>Q (σ.set i (some v)) H
theorem Z24{i:Nat}{x:Str}(hN:X.N.Nodup)(hi:X.N[i]? =some x)(hx:Loc X.env.scope x)(hf:X.fn x=true\/X.env.scope.names.lookup x=some .local:=by first|exact .inl rfl|exact .inr rfl|assumption):PG X (.Name x pos) (Uo i):=by
 intro pins s σ H v u Q I r h
 exact wpAny_assign_Name (Xl I hN hi hx r (fun s' I'=>⟨_,H,I',h⟩) hf)
def gNil:TGs:=fun vs σ H Q=>vs=[]/\Q σ H
def Zap(t:TG)(u:TGs):TGs:=fun vs σ H Q=>∃v r,vs=v::r/\t v σ H fun σ' H'=>u r σ' H' Q
theorem Z8p:PGs X [] gNil:=by
 intro pins s σ H vs us Q I r h
 obtain⟨e,h⟩:=h
 subst e
 cases r
 exact assignInOrder_nil ⟨σ,H,I,h⟩
theorem Z5c{e:Expr}{es:List Expr}{t:TG}{u:TGs}(h1:PG X e t)(h2:PGs X es u)
  (hs:(assignEach (e::es) X.env).map (·.2)=assign e X.env::(assignEach es X.env).map (·.2):=by rfl):PGs X (e::es) (Zap t u):=by
 intro pins s σ H vs us Q I r h
 obtain⟨v,vr,e1,h⟩:=h
 subst e1
 cases r with
 |cons r rr=>
  rw[hs]
  refine assignInOrder_cons (thn (h1 pins s σ H _ _ _ I r h) fun _ s1 ⟨σ1,H1,I1,q1⟩=> ?_)
  exact h2 pins s1 σ1 H1 _ _ Q I1 rr q1
def gTup(K:PySem.W.Frag)(n:Nat)(t:TGs):TG:=fun v σ H Q=>∃a xs,v=.ref a/\SqT K H a xs/\xs.length=n/\t xs σ H Q
theorem Zbi{es:List Expr}{k:Nat}{t:TGs}{n:Nat}(hc:X.calm=true)(h:PGs X es t)
  (hn:(assignEach es X.env).length=n:=by rfl) (hst:(assignEach es X.env).findIdx? (·.1)=none:=by rfl):PG X (.Tuple es k pos) (gTup X.K n t):=by
 intro pins s σ H v u Q I r hw
 obtain⟨a,xs,e1,hq,hl,hw⟩:=hw
 subst e1
 cases r
 obtain⟨its,rv,ht,hz⟩:=I.tuple hq
 refine assign_Tuple_tuple (I.ok.hd hc) ht (by simp[hn,←hl,rv.length]) hst fun h' hx=> ?_
 have I1:Inv X pins σ H {s with heap:=h'}:=I.kept (t':=s.toks) fun b o e=>hx b o (Nat.ne_of_lt (Heap.lt_size e)) e
 exact h pins _ σ H xs _ Q I1 (by simpa using rv) hw
def gSub(to ti:TE)(t:Zbh):TG:=fun v σ H Q=>to σ H fun o H1=>ti σ H1 fun i H2=>t o i v H2 fun H3=>Q σ H3
theorem Zbj{o i:Expr}{to ti:TE}{t:Zbh}(ho:PE X o to)(hi:PE X i ti)(hs:PSet X t)
  (ha:∀v,assign (.Subscript o i pos) X.env v=(do
   let ov←holding [v] (eval o X.env)
   let iv←holding [v,ov] (eval i X.env)
   standAt pos
   holding [v,ov,iv] (setItem ov iv v)
   release [v,ov,iv] []):=by intro _;rfl):PG X (.Subscript o i pos) (gSub to ti t):=by
 intro pins s σ H v u Q I r h
 rw[ha]
 refine wpAny_bind (wpAny_holding (thn (ho pins s σ H _ I h) fun ov s1 ⟨x,H1,I1,r1,q1⟩=> ?_))
 refine wpAny_bind (wpAny_holding (thn (hi pins s1 σ H1 _ I1 q1) fun iv s2 ⟨y,H2,I2,r2,q2⟩=> ?_))
 refine wpAny_bind (wpAny_standAt (wpAny_bind (wpAny_holding (thn (hs pins s2 σ H2 x y v ov iv u _ I2 r1 r2 r q2) fun _ s3 ⟨H3,I3,q3⟩=> ?_))))
 exact wpAny_release ⟨σ,H3,I3,q3⟩
def Zbk(te:TE)(g:TG):TS:=fun D σ H=>te σ H fun x H1=>g x σ H1 D.nx
theorem Zbl{tg e:Expr}{te:TE}{g:TG}(he:PE X e te)(hg:PG X tg g)(hs:swapsWithSole [tg] e pos.line X.env=pure false:=by rfl)(hw:swappedStores [tg] e X.env=pure none:=by rfl)
  (h1:(assignEach [tg] X.env).map (·.2)=[assign tg X.env]:=by rfl):PS X (.Assign [tg] e pos) (Zbk te g):=by
 intro pins s σ H D I h
 refine wpAny_Assign_stores (thn (he pins s σ H _ I h) fun v s1 ⟨x,H1,I1,r1,q1⟩=> ?_) hs hw
 rw[h1]
 exact thn (hg pins s1 σ H1 x v _ I1 r1 q1) fun _ s2 q=>q
theorem Wc{i:Nat}{x:Str}{e:Expr}{te:TE}{pos':Pos}(hN:X.N.Nodup)(hi:X.N[i]? =some x)(hx:Loc X.env.scope x)(he:PE X e te)(hs:swapsWith e (some (.Name x pos')) pos.line X.env=pure false:=by rfl)(hf:X.fn x=true\/X.env.scope.names.lookup x=some .local:=by first|exact .inl rfl|exact .inr rfl|assumption):
  PS X (.Assign [.Name x pos'] e pos) (Zbk te (Uo i)):=by
 intro pins s σ H D I h
 refine wpAny_Assign_Name (thn (he pins s σ H _ I h) fun v s1 ⟨y,H1,I1,r1,q1⟩=> ?_) hs
 exact Xl I1 hN hi hx r1 (fun s2 I2=>⟨_,H1,I2,q1⟩) hf
def tPar(i j:Nat)(ta:TA):TS:=fun D σ H=>ta σ H fun vs H1=>∃v w,vs=[v,w]/\D.nx ((σ.set i (some v)).set j (some w)) H1
theorem Zbm{i j:Nat}{x y:Str}{a b:Expr}{ta:TA}{px py pt:Pos}{kt k2 pt2}(hc:X.calm=true)(hN:X.N.Nodup)(hi:X.N[i]? =some x)(hj:X.N[j]? =some y)(hij:i≠j)
  (hx:X.env.scope.names.lookup x=some .local) (hy:X.env.scope.names.lookup y=some .local) (ha:PA X [a,b] ta)
  (hw:swappedStores [.Tuple [.Name x px, .Name y py] kt pt] (.Tuple [a,b] k2 pt2) X.env=pure (some [x,y]))
  (hs:swapsWithSole [.Tuple [.Name x px, .Name y py] kt pt] (.Tuple [a,b] k2 pt2) pos.line X.env=pure false:=by rfl):
  PS X (.Assign [.Tuple [.Name x px, .Name y py] kt pt] (.Tuple [a,b] k2 pt2) pos) (tPar i j ta):=by
 intro pins s σ H D I h
 rw[exec_Assign_arm]
 refine wpAny_bind (wpAny_standAt ?_)
 rw[hs]
 refine wpAny_bind (wpAny_pure ?_)
 rw[if_neg (by decide)]
 refine wpAny_bind (Tuple_ (thn (ha _ pins s σ H _ I h) fun us s1 ⟨vs,H1,I1,r1,q1⟩=> ?_))
 obtain⟨v,w,e1,q1⟩:=q1
 subst e1
 obtain⟨u1,u2,rfl,rv,rw'⟩:∃u1 u2,us=[u1,u2]/\RelV v u1/\RelV w u2:=by
  cases r1 with
  |cons p q=>
   cases q with
   |cons p' q'=>
    cases q'
    exact⟨_,_,rfl,p,p'⟩
 refine wpAny_newObj_type ?_ (by show 2<=sizeLine;decide)
 have I2:Inv X pins σ H1 {s1 with heap:=s1.heap.push {cls:=.type "tuple",data:=.seq [u1,u2].toArray}}:=I1.kept (t':=s1.toks) fun b o e=>Heap.get?_push_of_some _ e
 rw[hw]
 refine wpAny_bind (wpAny_pure ?_)
 show wpAny (model X.prog X.w) X.A (do rule "assign.swapped-stores";let items←unpackItems (.ref s1.heap.objs.size) 2 none;assignInOrder [fun v=>bindName X.env y v,fun v=>bindName X.env x v] items.reverse;pure Flow.next) _ _ _
 refine wpAny_bind (wpAny_rule (wpAny_bind (unpackItems_tuple (items:= #[u1,u2]) (I.ok.hd hc) (IsTup.new s1.heap _) fun h' hx'=> ?_)))
 have I3:=I2.kept (h':=h') (t':=s1.toks) fun b o e=>hx' b o (Nat.ne_of_lt (Heap.lt_size e)) e
 show wpAny _ _ (assignInOrder [fun v=>bindName X.env y v,fun v=>bindName X.env x v] [u2,u1]>>=fun _=>pure Flow.next) _ _ _
 refine wpAny_bind (assignInOrder_cons (wpAny_bindName (Xl I3 hN hj (.inl hy) rw' (fun s2 I4=> ?_) (.inr hy))))
 refine assignInOrder_cons (wpAny_bindName (Xl I4 hN hi (.inl hx) rv (fun s3 I5=>assignInOrder_nil (wpAny_pure ?_)) (.inr hx)))
 rw[List.set_comm _ _ (Ne.symm hij)]at I5
 exact⟨_,H1,I5,q1⟩
end
section
variable{X:Cx}{pos:Pos}
def Zbn(c:TT)(tb:TS):TS:=fun D σ H=>∃W:Nat->St->Hp->Prop,(∃m,W m σ H)/\∀m σ H,W m σ H->
 c σ H fun b H1=>if b=true then∃N:St->Hp->Prop,(∀σ' H',N σ' H'->∃m',m'<m/\W m' σ' H')/\tb {D with nx:=N,ct:=N,bk:=D.nx} σ H1 else D.nx σ H1
theorem Z5d{c:Expr}{body:List Stmt}{tc:TT}{tb:TS}(hp:PassesOwn (model X.prog X.w) X.A X.env X.xe)(hc:PT X c tc)(hb:PSs X body tb):PS X (.While c body [] pos) (Zbn tc tb):=by
 intro pins s σ H D I h
 obtain⟨W,⟨m0,w0⟩,ZT⟩:=h
 refine wpAny_While (codeAny_whileLoop (fun n s'=>∃σ' H',Inv X pins σ' H' s'/\W n σ' H') ?_ m0 ⟨σ,H,I,w0⟩)
 rintro n s1 ⟨σ1,H1,I1,w1⟩
 refine wpAny_passesOwn hp (thn (hc pins s1 σ1 H1 _ I1 (ZT n σ1 H1 w1)) fun b s2 ⟨H2,I2,q2⟩=> ?_)
 cases b with
 |true=>
  obtain⟨N,hN,q2⟩:=q2
  rw[if_pos rfl]
  refine wpAny_passesOwn hp (thn (hb pins s2 σ1 H2 _ I2 q2) fun f s3 q3=> ?_)
  cases f with
  |next=>
   obtain⟨σ3,H3,I3,n3⟩:=q3
   obtain⟨m',hm,w3⟩:=hN σ3 H3 n3
   exact⟨m',hm,σ3,H3,I3,w3⟩
  |cont=>
   obtain⟨σ3,H3,I3,n3⟩:=q3
   obtain⟨m',hm,w3⟩:=hN σ3 H3 n3
   exact⟨m',hm,σ3,H3,I3,w3⟩
  |brk=>exact q3
  |ret v=>exact q3
 |false=>
  rw[if_neg Bool.false_ne_true]
  exact wpAny_execs_nil ⟨σ1,H2,I2,q2⟩
end
structure It where
 go:Nat->Hp->Prop
 yld:Nat->Hp->V->Hp->Prop
 stop:Nat->Hp->Prop
def X9(X:Cx)(pins:List (Addr×Obj))(H:Hp)(b:Addr):Prop:=
 H b=none/\b≠X.env.locals/\b∉X.fs/\(b∈X.ex\/X.s₀.heap.objs.size<=b)/\(∀x c,X.env.cells.lookup x=some c->c≠b)/\∀p∈X.pn++pins,p.1≠b
theorem Inv.fpOk{X:Cx}{pins:List (Addr×Obj)}{σ:St}{H H':Hp}{s:Shared}{b:Addr}(I:Inv X pins σ H s)(hb:s.heap.objs.size<=b)(hn:H' b=none):X9 X pins H' b:=by
 refine⟨hn,Nat.ne_of_gt (Nat.lt_of_lt_of_le I.lt hb),I.nofs hb, .inr (Nat.le_trans I.sz hb),fun x c e z=> ?_,fun p hp z=> ?_⟩
 ·obtain⟨v,q⟩:=I.cell x c e
  exact absurd (Nat.lt_of_lt_of_le q.lt (by rw[z];exact hb)) (Nat.lt_irrefl _)
 ·exact absurd (Nat.lt_of_lt_of_le (Heap.lt_size (I.pin p hp).1) (by rw[z];exact hb)) (Nat.lt_irrefl _)
structure Turn(P:Program)(w:World)(K:PySem.W.Frag)(tg:Expr)(J:It)(fp:List Addr)(it:Addr)(tn:Nat->Heap->Prop):Prop where
 mem:it∈fp
 obj:∀i h,tn i h->∀b∈fp,∃o,h.get? b=some o/\∀v,o.data≠ .cell v
 keep:∀i h h',tn i h->(∀b∈fp,∀o,h.get? b=some o->h'.get? b=some o)->tn i h'
 item:∀(X:Cx),X.prog=P->X.w=w->X.K=K->X.calm=true->∀(i:Nat) (pins:List (Addr×Obj)) (s:Shared) (σ:St) (H:Hp) (E:Value->Shared->Prop),Inv X pins σ H s->(∀b∈fp,X9 X pins H b)->tn i s.heap->J.go i H->
  wpAny (model P w) X.A (pyNext (.ref it)) (fun r s1=>∃u,r=some u/\
   wpAny (model P w) X.A (letOwnedTupleGo tg (.ref it) u) (fun _ s2=>∃x H',Inv X pins σ H' s2/\RelV x u/\J.yld i H x H'/\tn (i+1) s2.heap/\∀b∈fp,H' b=none) E s1) E s
 done:∀(X:Cx),X.prog=P->X.w=w->X.K=K->X.calm=true->∀(i:Nat) (pins:List (Addr×Obj)) (s:Shared) (σ:St) (H:Hp) (E:Value->Shared->Prop),Inv X pins σ H s->(∀b∈fp,X9 X pins H b)->tn i s.heap->J.stop i H->
  wpAny (model P w) X.A (pyNext (.ref it)) (fun r s1=>r=none/\Inv X pins σ H s1) E s
 self:∀(A:Around) (i:Nat) (s:Shared) (Q:Value->Shared->Prop) (E:Value->Shared->Prop),tn i s.heap->Q (.ref it) s->wpAny (model P w) A (pyIter (.ref it)) Q E s
abbrev TI:=St->Hp->(It->Hp->Prop)->Prop
def PIE(X:Cx)(pins:List (Addr×Obj))(σ:St)(tg:Expr)(R:It->Hp->Prop)(itv:Value)(s2:Shared):Prop:=
 ∃(it:Addr) (fp:List Addr) (tn:Nat->Heap->Prop) (J:It) (H':Hp),itv=.ref it/\Inv X pins σ H' s2/\Turn X.prog X.w X.K tg J fp it tn/\tn 0 s2.heap/\(∀b∈fp,X9 X pins H' b)/\R J H'
def PI(X:Cx)(tg iter:Expr)(wi:TI):Prop:=
 ∀(pins:List (Addr×Obj)) (s:Shared) (σ:St) (H:Hp) (R:It->Hp->Prop),Inv X pins σ H s->wi σ H R->
  wpAny (model X.prog X.w) X.A (eval iter X.env) (fun v s1=>wpAny (model X.prog X.w) X.A (pyIter v) (PIE X pins σ tg R) X.xe s1) X.xe s
theorem Z5e {M : Model} {A : Around} {E : Value -> Shared -> Prop} {s : Shared} {tg : Expr} {it : Addr} {u : Value} {o : Obj} {n : String} {vs : Array Value} {Q : Unit -> Shared -> Prop} (ho : s.heap.get? it = some o) (hc : o.cls = .type n) (hd : o.data = .fields vs)
    (hn : ["enumerate", "zip", "dict_itemiterator", "dict_reverseitemiterator", "odict_iterator", "itertools.zip_longest", "itertools.pairwise"].contains n = false) (hQ : Q () s) : wpAny M A (letOwnedTupleGo tg (.ref it) u) Q E s := by
  unfold letOwnedTupleGo
  cases tg <;> first
    | exact wpAny_pure hQ
    | (cases u <;> first
        | exact wpAny_pure hQ
        | (refine wpAny_bind (wpAny_load ho ?_)
           rw [hc, hd]
           show wpAny M A (if (["enumerate", "zip", "dict_itemiterator", "dict_reverseitemiterator", "odict_iterator", "itertools.zip_longest", "itertools.pairwise"].contains n && vs[0]? == some (rawInt _)) = true then _ else _) Q E s
           rw [if_neg (by intro h; rw [hn, Bool.false_and] at h; cases h)]
           exact wpAny_pure hQ))
def Itl(K:PySem.W.Frag)(a:Addr):It:=
 ⟨fun i H=>∃xs x,SqL K H a xs/\xs[i]? =some x,fun i H x H'=>H'=H/\∀xs,SqL K H a xs->xs[i]? =some x,fun i H=>∃xs,SqL K H a xs/\xs.length<=i⟩
def Itt(K:PySem.W.Frag)(a:Addr):It:=
 ⟨fun i H=>∃xs x,SqT K H a xs/\xs[i]? =some x,fun i H x H'=>H'=H/\∀xs,SqT K H a xs->xs[i]? =some x,fun i H=>∃xs,SqT K H a xs/\xs.length<=i⟩
def Itr(lo:Int)(n:Nat):It:=⟨fun i _=>i<n,fun i H x H'=>H'=H/\x=.int (lo+i),fun i _=>n<=i⟩
theorem Z3n{P:Program}{w:World}{K:PySem.W.Frag}{tg:Expr}(a it:Addr):Turn P w K tg (Itl K a) [it] it (fun i h=>h.IsListIter it a i) where
 mem:=by simp
 obj:=fun i h st b hb=>by
  have e:b=it:=by simpa using hb
  subst e
  obtain⟨o,e,c,d⟩:=st
  exact⟨o,e,fun v z=>by rw[d]at z;cases z⟩
 keep:=fun i h h' st k=>st.at fun o e=>k it (by simp) o e
 item:=by
  intro X hP hw hK hc i pins s σ H E I hf st hg
  subst hP hw hK
  obtain⟨xs,x,hq,hx⟩:=hg
  obtain⟨its,rv,p,hz⟩:=I.list hq
  obtain⟨u,hu,ru⟩:=rv.get hx
  obtain⟨f0,f1,f2,f3,f4,f5⟩:=hf it (by simp)
  refine wpAny_pyNext_list_item st p.isList (x:=u) (by simpa using hu) fun h' st' sb=> ?_
  have I1:Inv X pins σ H {s with heap:=h'}:=I.turned (t':=s.toks) (fun b o hb e=>(sb.2 b hb).trans e) f0 f1 f3 f4 f5
  obtain⟨o,e,c,d⟩:=id st'
  exact⟨u,rfl,Z5e (s:={s with heap:=h'}) e c d (by decide) ⟨x,H,I1,ru,⟨rfl,fun ys hy=>by rw[I.list_inj hy hq];exact hx⟩,st',fun b hb=>(hf b hb).1⟩⟩
 done:=by
  intro X hP hw hK hc i pins s σ H E I hf st hg
  subst hP hw hK
  obtain⟨xs,hq,hx⟩:=hg
  obtain⟨its,rv,p,hz⟩:=I.list hq
  obtain⟨f0,f1,f2,f3,f4,f5⟩:=hf it (by simp)
  have hl:=rv.length
  exact wpAny_pyNext_list_end (I.ok.hd hc) st p.isList (by simp;omega) fun h' eb=>⟨rfl,I.turned (t':=s.toks) (fun b o hb e=>eb b o hb e) f0 f1 f3 f4 f5⟩
 self:=fun _ _ _ _ _ st h=>wpAny_pyIter_listiter st h
theorem Jy{P:Program}{w:World}{K:PySem.W.Frag}{tg:Expr}(a it:Addr):Turn P w K tg (Itt K a) [it] it (fun i h=>h.IsTupleIter it a i) where
 mem:=by simp
 obj:=fun i h st b hb=>by
  have e:b=it:=by simpa using hb
  subst e
  obtain⟨o,e,c,d⟩:=st
  exact⟨o,e,fun v z=>by rw[d]at z;cases z⟩
 keep:=fun i h h' st k=>st.at fun o e=>k it (by simp) o e
 item:=by
  intro X hP hw hK hc i pins s σ H E I hf st hg
  subst hP hw hK
  obtain⟨xs,x,hq,hx⟩:=hg
  obtain⟨its,rv,p,hz⟩:=I.tuple hq
  obtain⟨u,hu,ru⟩:=rv.get hx
  obtain⟨f0,f1,f2,f3,f4,f5⟩:=hf it (by simp)
  refine wpAny_pyNext_tuple_item st (show s.heap.IsTuple a its.toArray from p) (x:=u) (by simpa using hu) fun h' st' sb=> ?_
  have I1:Inv X pins σ H {s with heap:=h'}:=I.turned (t':=s.toks) (fun b o hb e=>(sb.2 b hb).trans e) f0 f1 f3 f4 f5
  obtain⟨o,e,c,d⟩:=id st'
  exact⟨u,rfl,Z5e (s:={s with heap:=h'}) e c d (by decide) ⟨x,H,I1,ru,⟨rfl,fun ys hy=>by rw[I.tuple_inj hy hq];exact hx⟩,st',fun b hb=>(hf b hb).1⟩⟩
 done:=by
  intro X hP hw hK hc i pins s σ H E I hf st hg
  subst hP hw hK
  obtain⟨xs,hq,hx⟩:=hg
  obtain⟨its,rv,p,hz⟩:=I.tuple hq
  obtain⟨f0,f1,f2,f3,f4,f5⟩:=hf it (by simp)
  have hl:=rv.length
  exact wpAny_pyNext_tuple_end (I.ok.hd hc) st (show s.heap.IsTuple a its.toArray from p) (by simp;omega) fun h' eb=>⟨rfl,I.turned (t':=s.toks) (fun b o hb e=>eb b o hb e) f0 f1 f3 f4 f5⟩
 self:=fun _ _ _ _ _ st h=>wpAny_pyIter_tupleiter st h
theorem Jz{P:Program}{w:World}{K:PySem.W.Frag}{tg:Expr}(it:Addr)(lo:Int)(n:Nat):Turn P w K tg (Itr lo n) [it] it (fun i h=>IsRangeIter h it (lo+(i:Nat) * 1) ((n:Int) - (i:Nat)) 1) where
 mem:=by simp
 obj:=fun i h st b hb=>by
  have e:b=it:=by simpa using hb
  subst e
  exact⟨_,st,fun v z=>by
   have z':Data.fields _=Data.cell v:=z
   cases z'⟩
 keep:=fun i h h' st k=>k it (by simp) _ st
 item:=by
  intro X hP hw hK hc i pins s σ H E I hf st hg
  subst hP hw hK
  obtain⟨f0,f1,f2,f3,f4,f5⟩:=hf it (by simp)
  have W:=Walks.range (prog:=X.prog) (w:=X.w) (I.ok.hd hc) it lo 1 n
  refine W.item i s _ _ hg st fun v h' tk hv st' kk=> ?_
  obtain⟨t,rfl⟩:=hv
  have I1:Inv X pins σ H {s with heap:=h',toks:=tk}:=I.turned (fun b o hb e=>kk b o (by simpa using hb) e) f0 f1 f3 f4 f5
  refine⟨_,rfl,Z5e (s:={s with heap:=h',toks:=tk}) (n:="range_iterator") st' rfl rfl (by decide) ⟨.int (lo+i),H,I1,⟨t,?_⟩,⟨rfl,rfl⟩,st',fun b hb=>(hf b hb).1⟩⟩
  rw[Int.mul_one]
 done:=by
  intro X hP hw hK hc i pins s σ H E I hf st hg
  subst hP hw hK
  obtain⟨f0,f1,f2,f3,f4,f5⟩:=hf it (by simp)
  exact wpAny_pyNext_range_end (I.ok.hd hc) st (by have:n<=i:=hg;omega) fun h' eb=>⟨rfl,I.turned (t':=s.toks) (fun b o hb e=>eb b o hb e) f0 f1 f3 f4 f5⟩
 self:=fun _ _ _ _ _ st h=>wpAny_pyIter_rangeiter st h
end L2
namespace L2
open PySem PySem.Spec PyProof.Rows
section
variable{X:Cx}{tg:Expr}
theorem Up{pins:List (Addr×Obj)}{σ:St}{H:Hp}{s:Shared}{R:It->Hp->Prop}{E:Value->Shared->Prop}{lo hi:Int}{t u v:Tok}{tk:Nat}(I:Inv X pins σ H s)(h1: -(2 ^ 62)<=lo)(h2:lo<2 ^ 62)(h3: -(2 ^ 62)<=hi)(h4:hi<2 ^ 62)
  (q:R (Itr lo (hi - lo).toNat) H):wpAny (model X.prog X.w) X.A (pyIter (.ref s.heap.objs.size)) (PIE X pins σ tg R) E {s with heap:=s.heap.push {cls:=.type "range",data:=.fields #[.int lo t, .int hi u, .int 1 v]},toks:=tk}:=by
 refine wpAny_pyIter_range (IsRange.new ..) (small_one h1 h2 h3 h4) ?_
 have I1:Inv X pins σ H {s with heap:=s.heap.push {cls:=.type "range",data:=.fields #[.int lo t, .int hi u, .int 1 v]},toks:=tk}:=I.kept fun b o e=>Heap.get?_push_of_some _ e
 refine⟨(s.heap.push {cls:=.type "range",data:=.fields #[.int lo t, .int hi u, .int 1 v]}).objs.size,[(s.heap.push {cls:=.type "range",data:=.fields #[.int lo t, .int hi u, .int 1 v]}).objs.size],_,_,H,rfl,
  I1.kept (t':=tk) fun b o e=>Heap.get?_push_of_some _ e,Jz _ lo (hi - lo).toNat,?_,fun b hb=> ?_,q⟩
 ·have e1:lo+((0:Nat):Int) * 1=lo:=by simp
  have e2:(((hi - lo).toNat:Nat):Int) - ((0:Nat):Int)=Builtin.Range.rangeSize lo hi 1:=by rw[rangeSize_one];split<;>omega
  show IsRangeIter _ _ (lo+((0:Nat):Int) * 1) ((((hi - lo).toNat:Nat):Int) - ((0:Nat):Int)) 1
  rw[e1,e2]
  exact Heap.get?_push_size _ rfl
 ·have e:b=(s.heap.push {cls:=.type "range",data:=.fields #[.int lo t, .int hi u, .int 1 v]}).objs.size:=by simpa using hb
  subst e
  exact I1.fpOk (Nat.le_refl _) (I1.hok.fresh (Nat.le_refl _))
def Zdw(ta:TA):TI:=fun σ H R=>ta σ H fun vs H1=>∃j:Int,vs=[.int j]/\ -(2 ^ 62)<=j/\j<2 ^ 62/\R (Itr 0 j.toNat) H1
def Zdx(ta:TA):TI:=fun σ H R=>ta σ H fun vs H1=>∃i j:Int,vs=[.int i, .int j]/\(-(2 ^ 62)<=i/\i<2 ^ 62/\ -(2 ^ 62)<=j/\j<2 ^ 62)/\R (Itr i (j - i).toNat) H1
theorem Z3o{a:Expr}{ta:TA}{p pos:Pos}(hg:Gl X "range")(hm:X.mg "range"=none)(ha:PA X [a] ta)(hs:starEach [a] X.env=[(false,eval a X.env)]:=by rfl):PI X tg (.Call (.Name "range" p) [a] [] pos) (Zdw ta):=by
 intro pins s σ H R I h
 refine Call_ (X8 I hg hm boot_range (PyProof.Rows.callWith_type1 (thn (ha pos pins s σ H _ I h) fun us s1 ⟨vs,H1,I1,r1,q1⟩=> ?_) hs rfl))
 obtain⟨j,e,q1,q2,q⟩:=q1
 subst e
 cases r1 with
 |cons r rr=>
  cases rr
  obtain⟨t,rfl⟩:=r
  exact call_range_1 (Up I1 (by omega) (by omega) q1 q2 (by simpa using q))
theorem Z3p{a b:Expr}{ta:TA}{p pos:Pos}(hg:Gl X "range")(hm:X.mg "range"=none)(ha:PA X [a,b] ta)(hs:starEach [a,b] X.env=[(false,eval a X.env),(false,eval b X.env)]:=by rfl)(hs2:starEach [b] X.env=[(false,eval b X.env)]:=by rfl):
  PI X tg (.Call (.Name "range" p) [a,b] [] pos) (Zdx ta):=by
 intro pins s σ H R I h
 refine Call_ (X8 I hg hm boot_range (PyProof.Rows.callWith_type1 (thn (ha pos pins s σ H _ I h) fun us s1 ⟨vs,H1,I1,r1,q1⟩=> ?_) (by rw[hs,hs2]) (by rw[hs2];rfl)))
 obtain⟨i,j,e,⟨q1,q2,q3,q4⟩,q⟩:=q1
 subst e
 cases r1 with
 |cons r rr=>
  cases rr with
  |cons r' rr=>
   cases rr
   obtain⟨t,rfl⟩:=r
   obtain⟨t',rfl⟩:=r'
   exact call_range_2 (Up I1 q1 q2 q3 q4 q)
def tFor(wi:TI)(g:TG)(tb:TS):TS:=fun D σ H=>wi σ H fun J H1=>∃W:Nat->Nat->St->Hp->Prop,(∃m,W 0 m σ H1)/\∀i m σ H,W i m σ H->
 (J.stop i H/\D.nx σ H)\/(J.go i H/\∃N:St->Hp->Prop,(∀σ' H',N σ' H'->∃m',m'<m/\W (i+1) m' σ' H')/\∀x H',J.yld i H x H'->g x σ H' fun σ2 H2=>tb {D with nx:=N,ct:=N,bk:=D.nx} σ2 H2)
def Wd(fp:List Addr)(h:Heap):List (Addr×Obj):=fp.filterMap fun b=>(h.get? b).map fun o=>(b,o)
theorem XN{fp:List Addr}{h:Heap}{b:Addr}{o:Obj}(hb:b∈fp)(e:h.get? b=some o):(b,o)∈Wd fp h:=List.mem_filterMap.mpr ⟨b,hb,by rw[e];rfl⟩
theorem Z3q{fp:List Addr}{h:Heap}{p:Addr×Obj}(hp:p∈Wd fp h):p.1∈fp/\h.get? p.1=some p.2:=by
 obtain⟨b,hb,e⟩:=List.mem_filterMap.mp hp
 cases q:h.get? b with
 |none=>rw[q]at e;cases e
 |some o=>
  rw[q]at e
  have e':(b,o)=p:=Option.some.inj e
  subst e'
  exact⟨hb,q⟩
theorem Inv.pinned{pins:List (Addr×Obj)}{σ:St}{H:Hp}{s:Shared}{fp:List Addr}(I:Inv X pins σ H s)(hf:∀b∈fp,X9 X pins H b)(ho:∀b∈fp,∃o,s.heap.get? b=some o/\∀v,o.data≠ .cell v):Inv X (pins++Wd fp s.heap) σ H s:=
 I.pins_of fun p hp=>(List.mem_append.mp hp).elim (fun z=>I.pin p (List.mem_append_right _ z)) fun z=>by
  obtain⟨hb,e⟩:=Z3q z
  obtain⟨f0,f1,f2,_⟩:=hf p.1 hb
  obtain⟨o,e',d⟩:=ho p.1 hb
  rw[e]at e';cases e'
  exact⟨e,f0,f1,f2,d⟩
theorem Inv.unpinned{pins pl:List (Addr×Obj)}{σ:St}{H:Hp}{s:Shared}(I:Inv X (pins++pl) σ H s):Inv X pins σ H s:=I.pins_of fun p hp=>I.pin p (List.mem_append_right _ (List.mem_append_left _ hp))
theorem Z5f{iter:Expr}{body:List Stmt}{wi:TI}{g:TG}{tb:TS}{pos:Pos}(hp:PassesOwn (model X.prog X.w) X.A X.env X.xe)(hc:X.calm=true)(hi:PI X tg iter wi)(hg:PG X tg g)(hb:PSs X body tb)
  (hs:∀x,foldedSetIterable iter X.env x=pure x:=by intro _;rfl):PS X (.For tg iter body [] pos) (tFor wi g tb):=by
 intro pins s σ H D I h
 refine wpAny_For (thn (hi pins s σ H _ I h) fun v s1 h1=>thn h1 fun itv s2 h2=> ?_) hs
 obtain⟨it,fp,tn,J,H2,e,I2,T,st2,f2,W,⟨m0,w0⟩,ZT⟩:=h2
 subst e
 have stat:∀{H':Hp},(∀b∈fp,H' b=none)->∀b∈fp,X9 X pins H' b:=fun hn b hb=>⟨hn b hb,(f2 b hb).2⟩
 refine codeAny_forLoop_any (fun n s'=>∃i σ' H',Inv X pins σ' H' s'/\tn i s'.heap/\(∀b∈fp,H' b=none)/\W i n σ' H') ?_ m0 ⟨0,σ,H2,I2,st2,fun b hb=>(f2 b hb).1,w0⟩
 rintro n s3 ⟨i,σ3,H3,I3,st3,fr3,w3⟩
 rcases ZT i n σ3 H3 w3 with⟨stop,qn⟩|⟨go,N,hN,step⟩
 ·refine wpAny_passesOwn hp (thn (T.done X rfl rfl rfl hc i pins s3 σ3 H3 X.xe I3 (stat fr3) st3 stop) fun r s4 ⟨hr,I4⟩=> ?_)
  subst hr
  exact wpAny_execs_nil ⟨σ3,H3,I4,qn⟩
 ·refine wpAny_passesOwn hp (thn (T.item X rfl rfl rfl hc i pins s3 σ3 H3 X.xe I3 (stat fr3) st3 go) fun r s4 ⟨u,hr,h4⟩=> ?_)
  subst hr
  refine wpAny_passesOwn hp (thn h4 fun _ s5 ⟨x,H5,I5,r5,y5,st5,fr5⟩=> ?_)
  have I5':=I5.pinned (stat fr5) (T.obj _ _ st5)
  refine wpAny_passesOwn hp (thn (hg _ s5 σ3 H5 x u _ I5' r5 (step x H5 y5)) fun _ s6 ⟨σ6,H6,I6,q6⟩=> ?_)
  refine wpAny_passesOwn hp (thn (hb _ s6 σ6 H6 _ I6 q6) fun f s7 q7=> ?_)
  have again:∀{σ7:St} {H7:Hp},Inv X (pins++Wd fp s5.heap) σ7 H7 s7->N σ7 H7->∃m,m<n/\∃i σ' H',Inv X pins σ' H' s7/\tn i s7.heap/\(∀b∈fp,H' b=none)/\W i m σ' H':=fun{σ7 H7} I7 n7=>by
   obtain⟨m',hm,w7⟩:=hN σ7 H7 n7
   refine⟨m',hm,i+1,σ7,H7,I7.unpinned,T.keep _ _ _ st5 fun b hb o e=>(I7.pin (b,o) (List.mem_append_right _ (List.mem_append_right _ (XN hb e)))).1,fun b hb=> ?_,w7⟩
   obtain⟨o,e,d⟩:=T.obj _ _ st5 b hb
   exact(I7.pin (b,o) (List.mem_append_right _ (List.mem_append_right _ (XN hb e)))).2.1
  cases f with
  |next=>obtain⟨σ7,H7,I7,n7⟩:=q7;exact again I7 n7
  |cont=>obtain⟨σ7,H7,I7,n7⟩:=q7;exact again I7 n7
  |brk=>obtain⟨σ7,H7,I7,q7⟩:=q7;exact⟨σ7,H7,I7.unpinned,q7⟩
  |ret v=>obtain⟨x7,σ7,H7,I7,r7,q7⟩:=q7;exact⟨x7,σ7,H7,I7.unpinned,r7,q7⟩
end
end L2
namespace L2
open PySem PySem.Spec PyProof.Rows
abbrev R2:=V->V->Hp->VK->Prop
def OpR(X:Cx)(f:Value->Value->Sem Value)(r:R2):Prop:=
 ∀(pins:List (Addr×Obj)) (s:Shared) (σ:St) (H:Hp) (x y:V) (v u:Value) (Q:VK),Inv X pins σ H s->RelV x v->RelV y u->r x y H Q->
  wpAny (model X.prog X.w) X.A (f v u) (EP X pins σ Q) X.xe s
def X2(X:Cx)(f:Value)(r:List V->Hp->VK->Prop):Prop:=
 ∀(pins:List (Addr×Obj)) (s:Shared) (σ:St) (H:Hp) (xs:List V) (us:List Value) (Q:VK),Inv X pins σ H s->Vals xs us->r xs H Q->
  wpAny (model X.prog X.w) X.A (call f us) (EP X pins σ Q) X.xe s
def TruR(X:Cx)(r:V->Hp->(Bool->Hp->Prop)->Prop):Prop:=
 ∀(pins:List (Addr×Obj)) (s:Shared) (σ:St) (H:Hp) (x:V) (v:Value) (Q:Bool->Hp->Prop),Inv X pins σ H s->RelV x v->r x H Q->
  wpAny (model X.prog X.w) X.A (truthy v) (TP X pins σ Q) X.xe s
def tOp(r:R2)(ta tb:TE):TE:=fun σ H Q=>ta σ H fun x H1=>tb σ H1 fun y H2=>r x y H2 Q
def rI(C:Int->Int->Prop)(g:Int->Int->V):R2:=fun x y H Q=>∃i j,x=.int i/\y=.int j/\C i j/\Q (g i j) H
def rI0(g:Int->Int->V):R2:=fun x y H Q=>∃i j,x=.int i/\y=.int j/\Q (g i j) H
section
variable{X:Cx}{a b c:Expr}{ta tb tc:TE}{pos:Pos}
theorem Zbo(ha:PE X a ta)(hb:PE X b tb){pins:List (Addr×Obj)}{s:Shared}{σ:St}{H:Hp}{R:V->V->Hp->Prop}(I:Inv X pins σ H s)
  (h:ta σ H fun x H1=>tb σ H1 fun y H2=>R x y H2) {Q:Value->Shared->Prop} {f:Value->Value->Sem Value}
  (hf:∀v u s2 x y H2,Inv X pins σ H2 s2->RelV x v->RelV y u->R x y H2->wpAny (model X.prog X.w) X.A (f v u) Q X.xe s2):
  wpAny (model X.prog X.w) X.A (eval a X.env) (fun v s₁=>wpAny (model X.prog X.w) X.A (eval b X.env) (fun u s₂=>wpAny (model X.prog X.w) X.A (f v u) Q X.xe s₂) X.xe s₁) X.xe s:=by
 refine thn (ha pins s σ H _ I h) fun v s1 ⟨x,H1,I1,r1,q1⟩=> ?_
 refine thn (hb pins s1 σ H1 _ I1 q1) fun u s2 ⟨y,H2,I2,r2,q2⟩=> ?_
 exact hf v u s2 x y H2 I2 r1 r2 q2
theorem Zdy{op:Operator}{r:R2}(ho:OpR X (binaryOp op) r)(ha:PE X a ta)(hb:PE X b tb):PE X (.BinOp a op b pos) (tOp r ta tb):=by
 intro pins s σ H Q I h
 exact wpAny_BinOp (Zbo ha hb I h fun v u s2 x y H2 I2 rx ry q=>ho pins s2 σ H2 x y v u Q I2 rx ry q)
theorem opI{f:Value->Value->Sem Value}{C:Int->Int->Prop}{g:Int->Int->Int}
  (rule:∀(i j:Int) (t u:Tok) (s:Shared) (Q:Value->Shared->Prop) (E:Value->Shared->Prop),C i j->Q (.int (g i j) s.toks) {s with toks:=s.toks+1}->wpAny (model X.prog X.w) X.A (f (.int i t) (.int j u)) Q E s):
  OpR X f (rI C fun i j=>.int (g i j)):=by
 intro pins s σ H x y v u Q I rx ry h
 obtain⟨i,j,rfl,rfl,hc,q⟩:=h
 obtain⟨t,rfl⟩:=rx
 obtain⟨t',rfl⟩:=ry
 exact rule i j t t' s _ _ hc ⟨.int (g i j),H,I.tok _,⟨_,rfl⟩,q⟩
theorem opI0{f:Value->Value->Sem Value}{g:Int->Int->Int}
  (rule:∀(i j:Int) (t u:Tok) (s:Shared) (Q:Value->Shared->Prop) (E:Value->Shared->Prop),Q (.int (g i j) s.toks) {s with toks:=s.toks+1}->wpAny (model X.prog X.w) X.A (f (.int i t) (.int j u)) Q E s):
  OpR X f (rI0 fun i j=>.int (g i j)):=by
 intro pins s σ H x y v u Q I rx ry h
 obtain⟨i,j,rfl,rfl,q⟩:=h
 obtain⟨t,rfl⟩:=rx
 obtain⟨t',rfl⟩:=ry
 exact rule i j t t' s _ _ ⟨.int (g i j),H,I.tok _,⟨_,rfl⟩,q⟩
theorem Zbp{f:Value->Value->Sem Value}{g:Int->Int->Bool}
  (rule:∀(i j:Int) (t u:Tok) (s:Shared) (Q:Value->Shared->Prop) (E:Value->Shared->Prop),Q (.bool (g i j)) s->wpAny (model X.prog X.w) X.A (f (.int i t) (.int j u)) Q E s):
  OpR X f (rI0 fun i j=>.bl (g i j)):=by
 intro pins s σ H x y v u Q I rx ry h
 obtain⟨i,j,rfl,rfl,q⟩:=h
 obtain⟨t,rfl⟩:=rx
 obtain⟨t',rfl⟩:=ry
 exact rule i j t t' s _ _ ⟨.bl (g i j),H,I,rfl,q⟩
def CDiv(i j:Int):Prop:=0<j/\j<1073741824
def CMul(i j:Int):Prop:=(-(2 ^ 64)<i/\i<2 ^ 64)\/(-(2 ^ 64)<j/\j<2 ^ 64)
theorem CMul.ok{i j:Int}(h:CMul i j):IntMulOk i j:=by
 rcases h with⟨h1,h2⟩|⟨h1,h2⟩
 ·exact .of_left (intBits_le_64 h1 h2)
 ·exact .of_right (intBits_le_64 h1 h2)
theorem Zbq:OpR X (binaryOp .Add) (rI0 fun i j=>.int (i+j)):=opI0 fun _ _ _ _ _ _ _ q=>add_int q
theorem Zbr:OpR X (binaryOp .Sub) (rI0 fun i j=>.int (i - j)):=opI0 fun _ _ _ _ _ _ _ q=>sub_int q
theorem Zbs:OpR X (binaryOp .Mult) (rI CMul fun i j=>.int (i * j)):=opI fun _ _ _ _ _ _ _ hc q=>mul_int q hc.ok
theorem Z8q:OpR X (binaryOp .FloorDiv) (rI CDiv fun i j=>.int (i / j)):=opI fun i j _ _ _ _ _ hc q=>by
 have h1:(0:Int)<j:=hc.1
 have h2:j<1073741824:=hc.2
 exact floordiv_int (by omega) (by rw[Int.fdiv_eq_ediv_of_nonneg i (by omega)];exact q) (.inl (PyProof.noPylong_small (by omega)))
theorem Zbt:OpR X (binaryOp .Mod) (rI (fun _ j=>0<j) fun i j=>.int (i%j)):=opI fun i j _ _ _ _ _ hc q=>by
 have h1:(0:Int)<j:=hc
 exact mod_int' (by omega) (by rw[Int.fmod_eq_emod_of_nonneg i (by omega)];exact q)
end
section
variable{X:Cx}{a b c:Expr}{ta tb tc:TE}{pos:Pos}
theorem Zdz:OpR X (compareOp .Lt) (rI0 fun i j=>.bl (decide (i<j))):=Zbp fun _ _ _ _ _ _ _ q=>lt_int q
theorem Ze0:OpR X (compareOp .LtE) (rI0 fun i j=>.bl (decide (i<=j))):=Zbp fun _ _ _ _ _ _ _ q=>le_int q
theorem Ze1:OpR X (compareOp .Gt) (rI0 fun i j=>.bl (decide (j<i))):=Zbp fun _ _ _ _ _ _ _ q=>gt_int q
theorem Z5g(b:Expr){op:CmpOp}(h:op≠ .In:=by decide)(h2:op≠ .NotIn:=by decide):behindInMarks op b=false:=by
 have e1:(op == CmpOp.In)=false:=by cases op<;>first|rfl|exact absurd rfl h
 have e2:(op == CmpOp.NotIn)=false:=by cases op<;>first|rfl|exact absurd rfl h2
 cases b<;>simp[behindInMarks,e1,e2]
theorem Z8r{op:CmpOp}{r:R2}(ho:OpR X (compareOp op) r)(ha:PE X a ta)(hb:PE X b tb)(hm:behindInMarks op b=false):PE X (.Compare a [op] [b] pos) (tOp r ta tb):=by
 intro pins s σ H Q I h
 exact wpAny_Compare1 (Zbo ha hb I h fun v u s2 x y H2 I2 rx ry q=>ho pins s2 σ H2 x y v u Q I2 rx ry q) hm
def Zaq(t:TE):TT:=fun σ H Q=>t σ H fun x H'=>∃k,x=.bl k/\Q k H'
theorem Z8s{op:CmpOp}{r:R2}(ho:OpR X (compareOp op) r)(ha:PE X a ta)(hb:PE X b tb)(hm:behindInMarks op b=false):PT X (.Compare a [op] [b] pos) (Zaq (tOp r ta tb)):=by
 intro pins s σ H Q I h
 refine wpAny_isTrue_Compare1 (thn (ha pins s σ H _ I h) fun v s1 ⟨x,H1,I1,r1,q1⟩=>thn (hb pins s1 σ H1 _ I1 q1) fun u s2 ⟨y,H2,I2,r2,q2⟩=>
  thn (ho pins s2 σ H2 x y v u _ I2 r1 r2 q2) fun c s3 ⟨z,H3,I3,r3,k,e,q3⟩=> ?_) hm
 subst e
 cases r3
 exact wpAny_truthy_bool ⟨H3,I3,q3⟩
def JA(r r':R2)(ta tb tc:TE):TE:=fun σ H Q=>ta σ H fun x H1=>tb σ H1 fun y H2=>r x y H2 fun z H3=>∃k,z=.bl k/\
 (if k=true then tc σ H3 fun w' H4=>r' y w' H4 Q else Q (.bl false) H3)
theorem Z5h{op op':CmpOp}{r r':R2}(ho:OpR X (compareOp op) r)(ho':OpR X (compareOp op') r')(ha:PE X a ta)(hb:PE X b tb)(hc:PE X c tc)
  (hm:lastMarks [op,op'] [b,c]=false:=by with_unfolding_all rfl):PE X (.Compare a [op,op'] [b,c] pos) (JA r r' ta tb tc):=by
 intro pins s σ H Q I h
 refine Compare_chain (thn (ha pins s σ H _ I h) fun v s1 ⟨x,H1,I1,r1,q1⟩=>chain_link (thn (hb pins s1 σ H1 _ I1 q1) fun u s2 ⟨y,H2,I2,r2,q2⟩=>
  thn (ho pins s2 σ H2 x y v u _ I2 r1 r2 q2) fun d s3 ⟨z,H3,I3,r3,k,e,q3⟩=> ?_)) hm
 subst e
 cases r3
 refine wpAny_truthy_bool ?_
 cases k with
 |false=>exact ite_ff ⟨.bl false,H3,I3,rfl,q3⟩
 |true=>exact ite_tt (chain_last (thn (hc pins s3 σ H3 _ I3 q3) fun w' s4 ⟨z',H4,I4,r4,q4⟩=>ho' pins s4 σ H4 y z' u w' Q I4 r2 r4 q4))
theorem Z5i{op op':CmpOp}{r r':R2}(ho:OpR X (compareOp op) r)(ho':OpR X (compareOp op') r')(ha:PE X a ta)(hb:PE X b tb)(hc:PE X c tc)
  (hm:lastMarks [op,op'] [b,c]=false:=by with_unfolding_all rfl):PT X (.Compare a [op,op'] [b,c] pos) (Zaq (JA r r' ta tb tc)):=by
 intro pins s σ H Q I h
 refine isTrue_chain (thn (ha pins s σ H _ I h) fun v s1 ⟨x,H1,I1,r1,q1⟩=>test_link (thn (hb pins s1 σ H1 _ I1 q1) fun u s2 ⟨y,H2,I2,r2,q2⟩=>
  thn (ho pins s2 σ H2 x y v u _ I2 r1 r2 q2) fun d s3 ⟨z,H3,I3,r3,k,e,q3⟩=> ?_)) hm
 subst e
 cases r3
 refine wpAny_truthy_bool ?_
 cases k with
 |false=>
  obtain⟨k',e',q'⟩:=q3
  cases e'
  exact ite_ff ⟨H3,I3,q'⟩
 |true=>
  refine ite_tt (test_last (thn (hc pins s3 σ H3 _ I3 q3) fun w' s4 ⟨z',H4,I4,r4,q4⟩=>thn (ho' pins s4 σ H4 y z' u w' _ I4 r2 r4 q4) fun d' s5 ⟨z2,H5,I5,r5,k2,e2,q5⟩=> ?_))
  subst e2
  cases r5
  exact wpAny_truthy_bool ⟨H5,I5,q5⟩
def Zbu(K:PySem.W.Frag)(x:V)(H:Hp)(k:Bool):Prop:=
 match x with
 | .non=>k=false
 | .bl b=>k=b
 | .int i=>k=(i != 0)
 | .str y=>y.length<=sizeLine/\k=((y.length:Int) != 0)
 | .byt y=>y.size<=sizeLine/\k=((y.size:Int) != 0)
 | .ref p=>(∃xs,SqL K H p xs/\k= !xs.isEmpty)\/(∃xs,SqT K H p xs/\k= !xs.isEmpty)\/∃kvs,H p=some (.dK kvs)/\k= !kvs.isEmpty
 |_=>False
theorem JB{κ:Type}{kvs:List (κ×V)}{vs:List (κ×Value)}(r:KV kvs vs):(!vs.isEmpty)= !kvs.isEmpty:=by
 cases r<;>rfl
theorem We{xs:List V}{its:List Value}(r:Vals xs its):(!its.toArray.isEmpty)= !xs.isEmpty:=by
 cases r<;>simp
theorem Qo:(sizeLine:Nat)<2 ^ 63:=by rw[sizeLine_eq];decide
theorem Z5j:TruR X (fun x H Q=>∃k,Zbu X.K x H k/\Q k H):=by
 intro pins s σ H x v Q I rx h
 obtain⟨k,e,q⟩:=h
 have hl:=Qo
 have hs:sizeLine=16777216:=sizeLine_eq
 cases x with
 |non=>
  cases rx
  have e':k=false:=e
  subst e'
  exact truthy_none ⟨H,I,q⟩
 |bl b=>
  cases rx
  have e':k=b:=e
  subst e'
  exact wpAny_truthy_bool ⟨H,I,q⟩
 |int i=>
  obtain⟨t,rfl⟩:=rx
  have e':k=(i != 0):=e
  subst e'
  exact PySem.P.truthy_int ⟨H,I,q⟩
 |str y=>
  obtain⟨t,rfl⟩:=rx
  obtain⟨hy,e'⟩:y.length<=sizeLine/\k=((y.length:Int) != 0):=e
  subst e'
  exact PySem.P.truthy_str (by omega) ⟨H,I.tok _,q⟩
 |byt y=>
  obtain⟨t,rfl⟩:=rx
  obtain⟨hy,e'⟩:y.size<=sizeLine/\k=((y.size:Int) != 0):=e
  subst e'
  exact PySem.W.truthy_bytes (by omega) ⟨H,I.tok _,q⟩
 |ref p=>
  cases rx
  have e':(∃xs,SqL X.K H p xs/\k= !xs.isEmpty)\/(∃xs,SqT X.K H p xs/\k= !xs.isEmpty)\/∃kvs,H p=some (.dK kvs)/\k= !kvs.isEmpty:=e
  rcases e' with⟨xs,hx,e'⟩|⟨xs,hx,e'⟩|⟨kvs,hx,e'⟩
  ·subst e'
   obtain⟨its,r,pl,hz⟩:=I.list hx
   have hlen:=r.length
   exact wpAny_truthy_list pl.isList (by simp only[List.size_toArray];omega) ⟨H,I.tok _,by rw[We r];exact q⟩
  ·subst e'
   obtain⟨its,r,pl,hz⟩:=I.tuple hx
   have hlen:=r.length
   exact truthy_tuple pl (by simp only[List.size_toArray];omega) ⟨H,I.tok _,by rw[We r];exact q⟩
  ·subst e'
   obtain⟨hz,hS,vs,r,m⟩:kvs.length<=sizeLine/\(p == sysModules)=false/\∃vs,KV kvs vs/\s.heap.DictOf (Yh X.prog X.w) p vs:=I.hok p _ hx
   have hlen:kvs.length=vs.length:=Paired.length r
   exact wpAny_truthy_dict hS m (by omega) ⟨H,I.tok _,by rw[JB r];exact q⟩
 |_=>exact(show False from e).elim
theorem Z5k(ha:PE X a ta)(he:∀whole,isTrue a X.env whole=(do let v←whole;standAt a.pos;holding [v] (truthy v))):
  PT X a (fun σ H Q=>ta σ H fun x H'=>∃k,Zbu X.K x H' k/\Q k H'):=by
 intro pins s σ H Q I h
 exact isTrue_plain (thn (ha pins s σ H _ I h) fun v s1 ⟨x,H1,I1,r1,q1⟩=>Z5j pins s1 σ H1 x v Q I1 r1 q1) (he _)
theorem YE{x:V}{us:List Value}(r:Vals [x] us):∃u,us=[u]/\RelV x u:=by
 cases r with
 |cons r1 r2=>cases r2;exact⟨_,rfl,r1⟩
theorem Z25{x y:V}{us:List Value}(r:Vals [x,y] us):∃u w',us=[u,w']/\RelV x u/\RelV y w':=by
 cases r with
 |cons r1 r2=>
  cases r2 with
  |cons r3 r4=>cases r4;exact⟨_,_,rfl,r1,r3⟩
theorem Z5l:X2 X (.builtin "abs") (fun xs H Q=>∃i,xs=[.int i]/\Q (.int (if i<0 then -i else i)) H):=by
 intro pins s σ H xs us Q I r h
 obtain⟨i,rfl,q⟩:=h
 obtain⟨u,rfl,t,rfl⟩:=YE r
 exact call_abs_int fun u tk=>⟨.int (if i<0 then -i else i),H,I.tok _,⟨_,rfl⟩,q⟩
end
end L2
namespace L2
open PySem PySem.Spec PyProof.Rows
structure ObjM(h:Heap)(x dx C:Addr)(mA:Str->Option Value):Prop where
 obj:h.get? x=some (PySem.W.instObj C dx)
 ns:h.Ns1 dx mA
 ne:dx≠x
section
variable{prog:Program}{w:World}{A:Around}{E:Value->Shared->Prop}{s:Shared}{K:PySem.W.Frag}{x dx C f:Addr}{mA:Str->Option Value}{name:Str}{v:Value}
end
theorem RelO.some_of{v:V}{o:Option Value}(r:RelO (some v) o):∃u,o=some u/\RelV v u:=by
 cases o with
 |none=>exact(show False from r).elim
 |some u=>exact⟨u,rfl,r⟩
section
variable{P:Program}{w:World}{H H':Hp}{h h':Heap}{a C dx:Addr}{fs fs':List (Str×V)}
end
structure Cls(K:PySem.W.Frag)(C:Addr):Prop where
 pg:PySem.W.plainGet K C Str.empty=true
 hd:PySem.W.hasDictIn K C=true
 po:PySem.W.plainOver K C=true
 sa:PySem.W.findIn K (.ref C) "__setattr__"=some (some (.builtin "object.__setattr__"))
structure Con(K:PySem.W.Frag)(C:Addr)(f:Str)(v:V)(u:Value):Prop where
 at_:PySem.W.findIn K (.ref C) f=some (some u)
 rel:RelV v u
 get:PySem.W.specialIn K u "__get__"=some none
 cp:PySem.W.copiedNames.contains f=false
structure Meth(K:PySem.W.Frag)(C:Addr)(m:Str)(f:Addr):Prop where
 at_:PySem.W.findIn K (.ref C) m=some (some (.ref f))
 fn:PySem.W.isFn K (.ref f)=true
 kp:PySem.W.keepIn K (.ref f)=true
section
variable{X:Cx}{pins:List (Addr×Obj)}{σ:St}{H:Hp}{s:Shared}{a C dx:Addr}{fs:List (Str×V)}{f:Str}{v:V}{A:Around}{E:Value->Shared->Prop}
theorem Inv.made(I:Inv X pins σ H s):Inv X pins σ (upd (upd H s.heap.objs.size (.own (s.heap.objs.size+1))) (s.heap.objs.size+1) (.ins C s.heap.objs.size []))
  {s with heap:=(s.heap.push PySem.W.emptyDict).push (PySem.W.instObj C s.heap.objs.size)}:=by
 have e1:(s.heap.push PySem.W.emptyDict).get? s.heap.objs.size=some PySem.W.emptyDict:=Heap.get?_push_size s.heap rfl
 have e2:((s.heap.push PySem.W.emptyDict).push (PySem.W.instObj C s.heap.objs.size)).get? (s.heap.objs.size+1)=some (PySem.W.instObj C s.heap.objs.size):=by
  have:=Heap.get?_push_size (s.heap.push PySem.W.emptyDict) (o:=PySem.W.instObj C s.heap.objs.size) rfl
  rwa [Heap.size_push]at this
 have e3:(s.heap.push PySem.W.emptyDict).Ns s.heap.objs.size (fun _=>none):=⟨PySem.W.emptyDict,#[],_,e1,rfl,(fun e he=>absurd he (by simp)),fun _=>rfl⟩
 have I1:=I.laid (a:=s.heap.objs.size) (o:=.own (s.heap.objs.size+1)) (h':=s.heap.push PySem.W.emptyDict) (t':=s.toks) (fun b u q=>Heap.get?_push_of_some _ q) (Nat.le_refl _) ⟨_,e1⟩
 refine I1.laid (a:=s.heap.objs.size+1) (o:=.ins C s.heap.objs.size []) (t':=s.toks) (fun b u q=>Heap.get?_push_of_some _ q) (Nat.le_of_eq (Heap.size_push _ _)) ?_
 have ne:s.heap.objs.size≠s.heap.objs.size+1:=Nat.ne_of_lt (Nat.lt_succ_self _)
 refine⟨by rw[Zm ne,Zi],Nat.zero_le _,ne,e2,fun _=>none,(Heap.Ns1.of_empty e3).at fun o q=>Heap.get?_push_of_some _ q,fun _=>True.intro,fun y hy=>absurd rfl hy⟩
end
section
variable{X:Cx}{o e value:Expr}{f:Str}{pos pos' tpos:Pos}{ta tv:TE}
end
section
variable{X:Cx}{pins:List (Addr×Obj)}{σ:St}{H:Hp}{s:Shared}{A:Around}{E:Value->Shared->Prop}{Q:Value->Shared->Prop}{c:Value}{b:Bool}
inductive TyOf(K:PySem.W.Frag)(H:Hp):V->Value->Prop where
 |non:TyOf K H .non (.type "NoneType")
 |bl (x:Bool):TyOf K H (.bl x) (.type "bool")
 |int (i:Int):TyOf K H (.int i) (.type "int")
 |str (x:Str):TyOf K H (.str x) (.type "str")
 |flt (x:UInt64):TyOf K H (.flt x) (.type "float")
 |lst {a:Addr} {xs:List V} (e:H a=some (.lst xs)):TyOf K H (.ref a) (.type "list")
 |frz {a:Addr} {o:Obj} {xs:List V} (e:H a=some (.frz o (.lst xs))):TyOf K H (.ref a) (.type "list")
 |tup {a:Addr} {xs:List V} (e:H a=some (.tup xs)):TyOf K H (.ref a) (.type "tuple")
 |dK {a:Addr} {kvs:List (Key×V)} (e:H a=some (.dK kvs)):TyOf K H (.ref a) (.type "dict")
 |dT {a:Addr} {kvs:List (List Key×V)} (e:H a=some (.dT kvs)):TyOf K H (.ref a) (.type "dict")
 |ins {a C dx:Addr} {fs:List (Str×V)} (e:H a=some (.ins C dx fs)) (cl:Cls K C) (ha:PySem.W.findIn K (.ref C) "__class__"=some (some (.builtin "object.__class__")))
   (hn:PySem.W.specialIn K (.builtin "object.__class__") "__get__"=some (some (.builtin "getset_descriptor.__get__"))) (htk:PySem.W.takesIn K (.builtin "object.__class__")=some true)
   (hm:PySem.W.mroIn K C (.type "object")=some true):TyOf K H (.ref a) (.ref C)
end
end L2
namespace L2
open PySem PySem.Spec PyProof.Rows
structure Room(k:Nat)(A:Around):Prop where
 hd:A.handled=none
 dp:A.depth+3 * k+5<recursionLimit
 un:A.units+16 * k+200<cLine
theorem Room.mono{j k:Nat}{A:Around}(r:Room k A)(h:j<=k):Room j A:=⟨r.hd,by have:=r.dp;omega,by have:=r.un;omega⟩
theorem Room.deeper{k:Nat}{A:Around}(r:Room (k+1) A)(env:Env):Room k (A.deeper env):=
 ⟨r.hd,by have:=r.dp;show A.depth+1+3 * k+5<_;omega,by have:=r.un;show A.units+3+16 * k+200<_;omega⟩
theorem Room.in1{k:Nat}{A:Around}(r:Room (k+1) A):Room k A.in1:=
 ⟨r.hd,by have:=r.dp;show A.depth+3 * k+5<_;omega,by have:=r.un;show A.units+1+16 * k+200<_;omega⟩
theorem Room.depth{k:Nat}{A:Around}(r:Room k A):A.depth<recursionLimit:=by have:=r.dp;omega
theorem Room.units{k:Nat}{A:Around}(r:Room k A):A.units+64<cLine:=by have:=r.un;omega
def tNil:TA:=fun _ H Q=>Q [] H
def Ze2(ta:TE)(tr:TA):TA:=fun σ H Q=>ta σ H fun x H1=>tr σ H1 fun xs H2=>Q (x::xs) H2
section
variable{X:Cx}{e:Expr}{es:List Expr}{te:TE}{t:TA}{pos:Pos}
theorem pa_nil:PA X [] tNil:=fun _ _ _ _ H Q I h=>Calls.spliced_nil ⟨[],H,I, .nil,h⟩
theorem Yo(ha:PE X e te)(hr:PA X es t)(hs:starEach (e::es) X.env=(false,eval e X.env)::starEach es X.env:=by rfl):PA X (e::es) (Ze2 te t):=by
 intro pos pins s σ H Q I h
 rw[hs]
 show wpAny _ _ (spliced ((false,eval e X.env)::backTo pos (starEach es X.env))) _ _ s
 refine Calls.spliced_cons (thn (ha pins s σ H _ I h) fun u s1 ⟨x,H1,I1,r1,q1⟩=> ?_)
 exact thn (hr pos pins s1 σ H1 _ I1 q1) fun us s2 ⟨xs,H2,I2,r2,q2⟩=>⟨x::xs,H2,I2, .cons r1 r2,q2⟩
def tTup(t:TA):TE:=fun σ H Q=>t σ H fun xs H1=>xs.length<=sizeLine/\∀p,H1 p=none->Q (.ref p) (upd H1 p (.tup xs))
def tLst(t:TA):TE:=fun σ H Q=>t σ H fun xs H1=>xs.length<=sizeLine/\∀p,H1 p=none->Q (.ref p) (upd H1 p (.lst xs))
theorem Z5m{x1}(h:PA X es t):PE X (.Tuple es x1 pos) (tTup t):=by
 intro pins s σ H Q I hq
 refine wpAny_Tuple_spliced (thn (h pos pins s σ H _ I hq) fun us s1 ⟨xs,H1,I1,r,z,q⟩=>⟨by rw[←r.length];exact z,?_⟩)
 have hf:H1 s1.heap.objs.size=none:=I1.hok.fresh (Nat.le_refl _)
 refine⟨.ref s1.heap.objs.size,upd H1 s1.heap.objs.size (.tup xs),I1.laid (t':=s1.toks) (fun b u e=>Heap.get?_push_of_some _ e) (Nat.le_refl _) ?_,rfl,q _ hf⟩
 exact⟨z,us,r,TupN.new _ _⟩
theorem Z5n(h:PA X es t):PE X (.List es pos) (tLst t):=by
 intro pins s σ H Q I hq
 refine wpAny_List_spliced (thn (h pos pins s σ H _ I hq) fun us s1 ⟨xs,H1,I1,r,z,q⟩=>⟨by rw[←r.length];exact z,?_⟩)
 have hf:H1 s1.heap.objs.size=none:=I1.hok.fresh (Nat.le_refl _)
 refine⟨.ref s1.heap.objs.size,upd H1 s1.heap.objs.size (.lst xs),I1.laid (t':=s1.toks) (fun b u e=>Heap.get?_push_of_some _ e) (Nat.le_refl _) ?_,rfl,q _ hf⟩
 exact⟨z,us,0,r,Heap.get?_push_size _ rfl⟩
end
abbrev Sp:=List V->Hp->VK->XK->Prop
abbrev CXT:=List Env->Hp->Shared->XK->Value->Shared->Prop
structure Env0(P:Program)(w:World)(K:PySem.W.Frag)(mg:Str->Option Value)(base:Heap)(A:Around)(outer:List Env)(s:Shared)(H:Hp):Prop where
 frames:A.frames=some outer
 mod:Mod K mg base
 bs:∀b o,base.get? b=some o->s.heap.get? b=some o/\H b=none
 bsz:base.objs.size<=s.heap.objs.size
 funs:s.heap.FunFrames base outer
 frf:∀b∈frs outer,H b=none
 hok:HOk P w H s.heap
 bare:AllBare s.gens
def CE(outer:List Env)(P:Program)(w:World)(H:Hp)(s:Shared)(Q:VK)(u:Value)(s':Shared):Prop:=
 ∃v H',s'.os=s.os/\AllBare s'.gens/\Un (frs outer) [] H H' s.heap s'.heap/\HOk P w H' s'.heap/\RelV v u/\Q v H'
def CR(CX:CXT)(outer:List Env)(P:Program)(w:World)(H:Hp)(s:Shared)(Q:VK)(E:XK)(r:Result)(s':Shared):Prop:=
 match r with
 | .ok (.ret u)=>CE outer P w H s Q u s'
 | .ok _=>False
 | .error e=>CX outer H s E e s'
structure FnOk(P:Program)(w:World)(K:PySem.W.Frag)(mg:Str->Option Value)(base:Heap)(CX:CXT)(k:Nat)(f:Addr)(fd:FuncData)(ps:List Str)(sp:Sp):Prop where
 len:∀vs H Q E,sp vs H Q E->vs.length=ps.length
 run:∀(A:Around) (outer:List Env) (s:Shared) (H:Hp) (args:Args) (us:List Value) (vs:List V) (Q:VK) (E:XK),Room k A->Env0 P w K mg base A outer s H->BindsTo s fd args (ps.zip us)->Vals vs us->sp vs H Q E->
  codeAny (model P w) A (.call (.ref f) args) (CR CX outer P w H s Q E) s
theorem FnOk.imp{P:Program}{w:World}{K:PySem.W.Frag}{mg:Str->Option Value}{base:Heap}{CX:CXT}{k:Nat}{f:Addr}{fd:FuncData}{ps:List Str}{sp sp':Sp}(F:FnOk P w K mg base CX k f fd ps sp)
  (h:∀vs H Q E,sp' vs H Q E->sp vs H Q E):FnOk P w K mg base CX k f fd ps sp':=
 ⟨fun vs H Q E q=>F.len vs H Q E (h _ _ _ _ q),fun A outer s H args us vs Q E hr he hb hv hs=>F.run A outer s H args us vs Q E hr he hb hv (h _ _ _ _ hs)⟩
section
variable{X:Cx}{pins:List (Addr×Obj)}{σ:St}{H:Hp}{s s':Shared}
theorem Inv.env0(I:Inv X pins σ H s):Env0 X.prog X.w X.K X.mg X.base X.A X.stack s H:=
 ⟨I.ok.frames,I.ok.mod,I.bs,Nat.le_trans I.ok.bsz I.sz,I.stack,I.stkFree,I.hok,I.bare⟩
theorem Inv.after{Q:VK}{u:Value}(I:Inv X pins σ H s)(h:CE X.stack X.prog X.w H s Q u s'):EP X pins σ Q u s':=by
 obtain⟨v,H',os,bare,un,hok,r,q⟩:=h
 obtain⟨hh,g,d,t,os'⟩:=s'
 obtain rfl:os'=s.os:=os
 exact⟨v,H',I.call (h':=hh) (g':=g) (d':=d) (t':=t) (ch:=[]) un hok bare (fun b z=>absurd z (by simp)),r,q⟩
end
def Binds(K:PySem.W.Frag)(fd:FuncData)(ps:List Str)(ds:List Value):Prop:=
 ∀(s:Shared) (us:List Value),K.In s.heap->(us++ds).length=ps.length->BindsTo s fd ⟨us,[]⟩ (ps.zip (us++ds))
theorem Binds.all{K:PySem.W.Frag}{fd:FuncData}{ps:List Str}(h:∀us:List Value,us.length=ps.length->bindArgs fd ⟨us,[]⟩=pure (ps.zip us)):Binds K fd ps []:=fun s us _ hl=>by
 rw[List.append_nil]at hl ⊢
 exact .of_eq (h us hl)
section
variable{X:Cx}{CX:CXT}{k:Nat}{f C:Addr}{fd:FuncData}{ps:List Str}{sp:Sp}{dvs:List V}{ds:List Value}{E:XK}{x m:Str}{p pos apos:Pos}{e o:Expr}{es:List Expr}{ta:TE}{t:TA}
structure Mk(K:PySem.W.Frag)(C f:Addr):Prop where
 makes:PySem.W.makesIn K C=true
 init:PySem.W.findIn K (.ref C) "__init__"=some (some (.ref f))
 fn:PySem.W.isFn K (.ref f)=true
 kp:PySem.W.keepIn K (.ref C)=true
end
section
variable{X:Cx}{CX:CXT}{k:Nat}{f C:Addr}{fd:FuncData}{ps ks:List Str}{sp:Sp}{E:XK}{x m:Str}{p pos apos kpos:Pos}{e o:Expr}{es:List Expr}{kws:List Keyword}{te ta:TE}{t tk:TA}{nm:Option Str}
structure KBinds(K:PySem.W.Frag)(fd:FuncData)(ps ks:List Str)(g:List Value->List Value->List Value)(gV:List V->List V->List V):Prop where
 to:∀(s:Shared) (us ws:List Value),K.In s.heap->(g us ws).length=ps.length->BindsTo s fd ⟨us,ks.zip ws⟩ (ps.zip (g us ws))
 rel:∀{vs:List V} {us:List Value} {zs:List V} {ws:List Value},Vals vs us->Vals zs ws->Vals (gV vs zs) (g us ws)
variable{g:List Value->List Value->List Value}{gV:List V->List V->List V}
end
structure FnScope(N P:List Str)(sc:Scope):Prop where
 kind:sc.kind=.function
 co:sc.isCoroutine=false
 gen:sc.isGenerator=false
 nd:N.Nodup
 pre:N.take P.length=P
 par:∀x∈P,sc.names.lookup x=some .local\/sc.names.lookup x=some .cell
 nofree:∀y∈sc.names,y.2≠ .free
theorem Ve{kindOf:Str->Option NameKind}{x:Str}:∀{binds:List (Str×Value)} {m:Str->Option Value},(∀v,(x,v)∉binds)->bindL kindOf binds m x=m x
 | [],_,_=>rfl
 |(n,v)::r,m,h=>by
  unfold bindL
  rw[Ve fun w hw=>h w (List.mem_cons_of_mem _ hw)]
  split
  ·have:x≠n:=by rintro rfl;exact h v List.mem_cons_self
   simp[this]
  ·rfl
theorem Vf{kindOf:Str->Option NameKind}{x:Str}:∀{binds:List (Str×Value)} {m:Str->Option Value},(∀v,(x,v)∉binds)->bindC kindOf binds m x=m x
 | [],_,_=>rfl
 |(n,v)::r,m,h=>by
  unfold bindC
  rw[Vf fun w hw=>h w (List.mem_cons_of_mem _ hw)]
  split
  ·rfl
  ·have:x≠n:=by rintro rfl;exact h v List.mem_cons_self
   simp[this]
theorem Vg{kindOf:Str->Option NameKind}{x:Str}{v:Value}:∀{P:List Str} {vs:List Value} {i:Nat} {m:Str->Option Value},P.Nodup->P[i]? =some x->vs[i]? =some v->kindOf x=some .local->
  bindL kindOf (P.zip vs) m x=some v
 | [],_,_,_,_,h,_,_=>by simp at h
 |_::_,[],_,_,_,_,h,_=>by simp at h
 |p::P,w::vs,0,m,nd,h1,h2,hk=>by
  simp at h1 h2;subst h1;subst h2
  show bindL kindOf ((p,w)::P.zip vs) m p=_
  unfold bindL
  rw[Ve fun v hv=>(List.nodup_cons.mp nd).1 (List.of_mem_zip hv).1,if_pos hk]
  simp
 |p::P,w::vs,i+1,m,nd,h1,h2,hk=>by
  show bindL kindOf ((p,w)::P.zip vs) m x=_
  unfold bindL
  exact Vg (i:=i) (List.nodup_cons.mp nd).2 (by simpa using h1) (by simpa using h2) hk
theorem Vh{kindOf:Str->Option NameKind}{x:Str}{v:Value}:∀{P:List Str} {vs:List Value} {i:Nat} {m:Str->Option Value},P.Nodup->P[i]? =some x->vs[i]? =some v->kindOf x≠some .local->
  bindC kindOf (P.zip vs) m x=some v
 | [],_,_,_,_,h,_,_=>by simp at h
 |_::_,[],_,_,_,_,h,_=>by simp at h
 |p::P,w::vs,0,m,nd,h1,h2,hk=>by
  simp at h1 h2;subst h1;subst h2
  show bindC kindOf ((p,w)::P.zip vs) m p=_
  unfold bindC
  rw[Vf fun v hv=>(List.nodup_cons.mp nd).1 (List.of_mem_zip hv).1,if_neg hk]
  simp
 |p::P,w::vs,i+1,m,nd,h1,h2,hk=>by
  show bindC kindOf ((p,w)::P.zip vs) m x=_
  unfold bindC
  exact Vh (i:=i) (List.nodup_cons.mp nd).2 (by simpa using h1) (by simpa using h2) hk
def QP(N:List Str)(vs:List V):St:=vs.map some++List.replicate (N.length - vs.length) none
def VQ(CX:CXT)(P:Program)(w:World)(K:PySem.W.Frag)(mg:Str->Option Value)(base:Heap)(N:List Str)(qual:Str)(scope:Scope)(f:Addr)(cd:Value)(A:Around)(outer:List Env)(s:Shared)(H:Hp)(E:XK):Cx where
 prog:=P
 w:=w
 K:=K
 mg:=mg
 base:=base
 A:=A.deeper (envOfC qual scope s.heap.objs.size f cd)
 N:=N
 s₀:=s
 H₀:=H
 env:=envOfC qual scope s.heap.objs.size f cd
 outer:=outer
 stack:=envOfC qual scope s.heap.objs.size f cd::outer
 ex:=[]
 calm:=true
 fn:=fun _=>true
 pn:=[]
 xe:=fun e s'=>wpAny (model P w) (A.deeper (envOfC qual scope s.heap.objs.size f cd)) (leaving (envOfC qual scope s.heap.objs.size f cd) e) (fun _ s''=>CX outer H s E e s'') (fun e' s''=>CX outer H s E e' s'') s'
theorem Uq{sc:Scope}{n:Nat}{x:Str}(h:sc.names.lookup x=some .cell):∃c,(cellsFrom n sc.names []).lookup x=some c:=by
 have q:=PySem.W.cellsFrom_some sc.names n [] (.inl h)
 exact Option.isSome_iff_exists.mp q
theorem Z3r{CX:CXT}{P:Program}{w:World}{K:PySem.W.Frag}{mg:Str->Option Value}{base:Heap}{N ps:List Str}{qual:Str}{scope:Scope}{f:Addr}{cd:Value}{A:Around}{outer:List Env}{s s1:Shared}{H:Hp}{E:XK}{us:List Value}{vs:List V}
  (S:FnScope N ps scope) (hd:A.handled=none) (e0:Env0 P w K mg base A outer s H) (hl:vs.length=ps.length) (r:Vals vs us)
  (x:InCallC s s.heap.objs.size (bindL (envOfC qual scope s.heap.objs.size f cd).kindOf (ps.zip us) fun _=>none) (cellsFrom (s.heap.objs.size+1) scope.names []) (bindC (envOfC qual scope s.heap.objs.size f cd).kindOf (ps.zip us) fun _=>none) s1):
  Inv (VQ CX P w K mg base N qual scope f cd A outer s H E) [] (QP N vs) H s1:=by
 have hpl:ps.length<=N.length:=by have:=congrArg List.length S.pre;rw[List.length_take]at this;omega
 obtain⟨h1,tk,rfl,hk⟩:=x.done
 have noA:∀b:Addr,b∉(VQ CX P w K mg base N qual scope f cd A outer s H E).ex:=fun b z=>absurd (show b∈([]:List Addr)from z) (by simp)
 refine⟨⟨e0.mod,S.kind,rfl,rfl,Nat.le_refl _,fun y z c h1 h2=> ?_,fun y hy=> ?_,fun y c _ h=> ?_,fun _=>hd,Around.frames_deeper e0.frames, .inr ⟨rfl,rfl⟩,fun b z=>absurd z (noA b),e0.bs,e0.bsz,fun b _ _=>noA b,fun b z=>absurd z (noA b),e0.funs,e0.frf⟩,
  rfl,e0.bare,Un.kept hk,⟨_,x.toInCall.ns,fun i y v h1 h2 h3=> ?_⟩,fun y c h=>⟨_,x.cell y c h⟩,e0.hok.fresh (Nat.le_refl _),fun y c h=> ?_,fun p hp=>absurd (show p∈([]:List (Addr×Obj))from hp) (by simp),e0.hok.kept hk,?_⟩
 ·exact name_of_addr x.apart (PySem.mem_of_lookup h1) (PySem.mem_of_lookup h2)
 ·have hy:scope.names.lookup y=some .cell\/scope.names.lookup y=some .free:=hy
  rcases hy with hy|hy
  ·exact Uq hy
  ·exact absurd rfl (S.nofree _ (PySem.mem_of_lookup hy))
 ·exact Nat.le_of_lt (x.above y c (PySem.mem_of_lookup h))
 ·have hi:i<vs.length:=by
   unfold QP at h2
   by_cases hi:i<vs.length
   ·exact hi
   ·rw[List.getElem?_append_right (by simpa using hi)]at h2
    rw[List.getElem?_replicate]at h2
    split at h2<;>cases h2
  have ha:vs[i]? =some v:=by
   unfold QP at h2
   rw[List.getElem?_append_left (by simpa using hi),List.getElem?_map]at h2
   cases e:vs[i]? with
   |none=>rw[e]at h2;cases h2
   |some a=>rw[e]at h2;cases h2;rfl
  obtain⟨u,hu,rv⟩:=r.get ha
  have hp:ps[i]? =some y:=by
   rw[←S.pre,List.getElem?_take_of_lt (by omega)];exact h1
  have ndP:ps.Nodup:=by rw[←S.pre];exact S.nd.sublist (List.take_sublist _ _)
  refine⟨u,rv,?_⟩
  rcases S.par y (List.mem_of_getElem? hp)with k|k
  ·exact .inl ⟨k,Vg ndP hp hu k⟩
  ·obtain⟨c,e⟩:=Uq (n:=s.heap.objs.size+1) k
   refine .inr ⟨.inl k,c,e,?_⟩
   have q:=x.cell y c e
   rw[Vh ndP hp hu (by show scope.names.lookup y≠_;rw[k];decide)]at q
   exact q
 ·exact e0.hok.fresh (Nat.le_of_lt (x.above y c (PySem.mem_of_lookup h)))
 ·unfold QP
  show _=N.length
  rw[List.length_append,List.length_map,List.length_replicate]
  omega
theorem Ze3{CX:CXT}{P:Program}{w:World}{K:PySem.W.Frag}{mg:Str->Option Value}{base:Heap}{k:Nat}{f:Addr}{name qual:Str}{params:Arguments}{body:List Stmt}{scope:Scope}{dV kV doc pm cdv ct oc:Value}{an od:Option Addr}
  {osl:Array (Option Value)} {N ps:List Str} {sp:Sp} (lk:K.lookup f=some ⟨oc,od, .func (PySem.W.fnOf name qual params body scope dV kV doc pm an cdv ct),osl⟩) (hcd:PySem.W.codeIn K cdv qual=true) (S:FnScope N ps scope)
  (len:∀vs H Q E,sp vs H Q E->vs.length=ps.length)
  (hbody:∀(A:Around) (outer:List Env) (s:Shared) (H:Hp) (vs:List V) (Q:VK) (E:XK),Room k (A.deeper (envOfC qual scope s.heap.objs.size f cdv))->sp vs H Q E->
   ∃t,PSs (VQ CX P w K mg base N qual scope f cdv A outer s H E) body t/\t {nx:=fun _ H'=>Q .non H',rt:=Q} (QP N vs) H):
  FnOk P w K mg base CX (k+1) f (PySem.W.fnOf name qual params body scope dV kV doc pm an cdv ct) ps sp:=by
 refine⟨len,fun A outer s H args us vs Q E hr e0 hb r hsp=> ?_⟩
 have hl:=len _ _ _ _ hsp
 have KX:K.In s.heap:=e0.mod.kin.keeps fun b o e=>(e0.bs b o e).1
 have lim:s.heap.NoLimit:=e0.mod.nolimit.keeps fun b o e=>(e0.bs b o e).1
 have hkind:∀y∈ps.zip us,scope.names.lookup y.1=some .local\/(scope.names.lookup y.1=some .cell/\((cellsFrom (s.heap.objs.size+1) scope.names []).lookup y.1).isSome=true):=fun⟨n,v⟩ hy=>by
  rcases S.par n (List.of_mem_zip hy).1 with q|q
  ·exact .inl q
  ·exact .inr ⟨q,PySem.W.cellsFrom_some _ _ _ (.inl q)⟩
 refine codeAny_call_function hr.depth (KX _ _ lk) rfl S.co S.gen rfl (PySem.W.codeRec_of KX hcd) (hb _ _ _ _ ?_)
 refine wpAny_newFunctionEnv_cells S.kind hkind fun env he s1 x=> ?_
 subst he
 refine⟨lim.keeps x.toInCall.keep,codeAny_func ?_⟩
 obtain⟨t,ht,hq⟩:=hbody A outer s H vs Q E (hr.deeper _) hsp
 have I:Inv (VQ CX P w K mg base N qual scope f cdv A outer s H E) [] (QP N vs) H s1:=Z3r S hr.hd e0 hl r x
 refine wpAny_mono (ht [] s1 (QP N vs) H _ I hq) (fun fl s' hs=> ?_) fun e s' hs=>hs
 have fin:∀{σ':St} {H':Hp} {v:V} {u:Value},Inv (VQ CX P w K mg base N qual scope f cdv A outer s H E) [] σ' H' s'->RelV v u->Q v H'->CE outer P w H s Q u s':=
  fun{σ' H' v u} J rv q=>⟨v,H',J.os,J.bare,J.base,J.hok,rv,q⟩
 cases fl with
 |ret u=>
  obtain⟨v,σ',H',J,rv,q⟩:=hs
  exact fin J rv q
 |next=>
  obtain⟨σ',H',J,q⟩:=hs
  exact fin (v:=V.non) (u:=Value.none) J rfl q
 |brk=>
  obtain⟨_,_,_,q⟩:=hs
  exact False.elim q
 |cont=>
  obtain⟨_,_,_,q⟩:=hs
  exact False.elim q
end L2
namespace L2
open PySem PySem.Spec PyProof.Rows
section
variable{X:Cx}{x:Str}{p pos:Pos}{e:Expr}{es:List Expr}{t:TA}{id T:String}{r:List V->Hp->VK->Prop}
def tCB(r:List V->Hp->VK->Prop)(t:TA):TE:=fun σ H Q=>t σ H fun vs H1=>r vs H1 Q
theorem Xn(hc:X2 X (.builtin id) r)(hg:Gl X x)(hm:X.mg x=none)(hv:bootBuiltins x=some (.builtin id))(ha:PA X (e::es) t)(hn:x≠"__name__":=by decide)(hdb:(x == ("__debug__":Str))=false:=by decide)
  (he:starEach (e::es) X.env=(false,eval e X.env)::starEach es X.env:=by rfl) (hpl:(backTo pos (starEach es X.env)).any (·.1)=false:=by rfl):PE X (.Call (.Name x p) (e::es) [] pos) (tCB r t):=by
 intro pins s σ H Q I h
 refine wpAny_Call_Name_kw (X8 I hg hm hv ?_ hn hdb)
 exact PyProof.Rows.callWith_builtin1 (thn (ha pos pins s σ H _ I h) fun us s1 ⟨vs,H1,I1,r1,q1⟩=>hc pins s1 σ H1 vs us Q I1 r1 q1) he hpl
theorem Qp(hc:X2 X (.type T) r)(hg:Gl X x)(hm:X.mg x=none)(hv:bootBuiltins x=some (.type T))(ha:PA X (e::es) t)(hn:x≠"__name__":=by decide)(hdb:(x == ("__debug__":Str))=false:=by decide)
  (he:starEach (e::es) X.env=(false,eval e X.env)::starEach es X.env:=by rfl) (hpl:(backTo pos (starEach es X.env)).any (·.1)=false:=by rfl):PE X (.Call (.Name x p) (e::es) [] pos) (tCB r t):=by
 intro pins s σ H Q I h
 refine wpAny_Call_Name_kw (X8 I hg hm hv ?_ hn hdb)
 exact PyProof.Rows.callWith_type1 (thn (ha pos pins s σ H _ I h) fun us s1 ⟨vs,H1,I1,r1,q1⟩=>hc pins s1 σ H1 vs us Q I1 r1 q1) he hpl
end
end L2
namespace HT
open PySem PyProof.Rows
def lexLt:List Int->List Int->Bool
 | [],[]=>false
 | [],_::_=>true
 |_::_,[]=>false
 |x::xs,y::ys=>if x=y then lexLt xs ys else decide (x<y)
theorem lexLt_cons(x y:Int)(xs ys:List Int):lexLt (x::xs) (y::ys)=if x=y then lexLt xs ys else decide (x<y):=rfl
theorem rcLt_int(A:Around)(s:Shared)(a:Int)(t:Tok)(c:Int)(u:Tok)(prog:Program)(w:World)(E:Value->Shared->Prop)(Q:Value->Shared->Prop)(h:Q (.bool (decide (a<c))) s):
  wpAny (model prog w) A (richCompare .Lt (.int a t) (.int c u)) Q E s:=
 (PyProof.Rows.lt_int h:wpAny (model prog w) A (compareOp .Lt (.int a t) (.int c u)) Q E s)
section
open PySem.SeqAt
open PySem.AutoSeq1 (wpAny_loadPart')
open PySem.MeetsSeq PySem.MeetsSeq2 PySem.MeetsSeq3
end
section
variable{prog:Program}{w:World}{A:Around}{E:Value->Shared->Prop}{s:Shared}
theorem cat_tup{t b:Addr}{vs ws:List Value}{Q:Value->Shared->Prop}(ht:IsTup s.heap t vs.toArray)(hb:IsTup s.heap b ws.toArray)(hv:vs≠[])
  (h1:ws=[]->Q (.ref t) s) (h2:ws≠[]->Q (.ref s.heap.objs.size) {s with heap:=s.heap.push {cls:=.type "tuple",data:=.seq (vs++ws).toArray}})
  (hsz:vs.length+ws.length<=sizeLine):wpAny (model prog w) A (binaryOp .Add (.ref t) (.ref b)) Q E s:=by
 obtain⟨⟨cls,dd,data,sl⟩,ho,hc,n,hd⟩:=id ht
 obtain⟨⟨cls2,dd2,data2,sl2⟩,ho2,hc2,n2,hd2⟩:=id hb
 simp only at hc hd hc2 hd2
 subst hc hd hc2 hd2
 have e:vs.toArray++ws.toArray=(vs++ws).toArray:=by simp
 by_cases hw:ws=[]
 ·exact concat_meets ⟨_,ho,rfl⟩ ⟨_,ho2,rfl⟩ noFill_tuple_add seq_tuple_add PySem.F.slot_tuple_add PySem.F.entry_tuple_add (PySem.F.args_tuple_add_2 _ _)
   (tuple_addW1 t b vs.toArray ws.toArray n n2 dd dd2 sl sl2 (by simpa using hv) (by simp[hw])) ⟨ho,ho2,h1 hw⟩
 ·refine concat_meets ⟨_,ho,rfl⟩ ⟨_,ho2,rfl⟩ noFill_tuple_add seq_tuple_add PySem.F.slot_tuple_add PySem.F.entry_tuple_add (PySem.F.args_tuple_add_2 _ _)
   (tuple_addW2 t b vs.toArray ws.toArray n n2 dd dd2 sl sl2 (by simpa using hv) (by simpa using hw) (by rw[List.size_toArray,List.size_toArray];exact hsz)) ⟨ho,ho2,?_⟩
  rw[e]
  exact h2 hw
def sIx(n d:Nat):Option Int->Nat
 |none=>d
 |some v=>if v<0 then(v+(n:Int)).toNat else min v.toNat n
theorem Zbv(n d:Nat)(hd:d<=n)(o:Option Int):sIx n d o<=n:=by
 cases o with
 |none=>exact hd
 |some v=>
  show(if v<0 then(v+(n:Int)).toNat else min v.toNat n)<=n
  by_cases hv:v<0
  ·rw[if_pos hv];omega
  ·rw[if_neg hv];exact Nat.min_le_right _ _
theorem Z26(v:Int)(n d:Nat):(if v<0 then max (v+(n:Int)) 0 else min v (n:Int))=((sIx n d (some v):Nat):Int):=by
 show(if v<0 then max (v+(n:Int)) 0 else min v (n:Int))=(((if v<0 then(v+(n:Int)).toNat else min v.toNat n):Nat):Int)
 by_cases hv:v<0
 ·simp only[if_pos hv];omega
 ·simp only[if_neg hv];omega
theorem JC(lo hi:Option Int)(n:Nat):Builtin.Slice.sliceAdjust lo hi 1 (n:Int)=(((sIx n 0 lo:Nat):Int),((sIx n n hi:Nat):Int)):=by
 have h1:¬((1:Int)<0):=by omega
 unfold Builtin.Slice.sliceAdjust
 simp only[h1,if_false]
 refine Prod.ext ?_ ?_
 ·cases lo with
  |none=>rfl
  |some v=>exact Z26 v n 0
 ·cases hi with
  |none=>rfl
  |some v=>exact Z26 v n n
theorem JD(i j:Nat):Builtin.Slice.slicePlaces (i:Int) (j:Int) 1=j - i:=by
 unfold Builtin.Slice.slicePlaces
 have h1:(1:Int)>0:=by omega
 simp only[h1,if_true,Int.ediv_one]
 split<;>omega
theorem Wf{v:Value}{o:Option Int}{Q:Option Int->Shared->Prop}(p:IsPart v o)(h:Q o s):wpAny (model prog w) A (Builtin.Slice.slicePartIndex v) Q E s:=by
 cases p with
 |none=>exact slicePart_none h
 |int i t=>exact slicePart_int h
theorem Qq{sl:Addr}{vl vu:Value}{lo hi:Option Int}{n:Nat}{Q:Int×Int×Nat->Shared->Prop}(hs:s.heap.IsSliceOf sl vl vu .none)(pl:IsPart vl lo)(pu:IsPart vu hi)
  (h:Q (((sIx n 0 lo:Nat):Int),1,sIx n n hi - sIx n 0 lo) s):wpAny (model prog w) A (Builtin.Slice.sliceApplied (.ref sl) (pure (n:Int))) Q E s:=by
 obtain⟨os,hos,hcs,hds⟩:=id hs
 unfold Builtin.Slice.sliceApplied Builtin.Slice.sliceFields
 refine wpAny_bind (wpAny_bind (wpAny_field hos hds (x:=vl) rfl (wpAny_bind (wpAny_field hos hds (x:=vu) rfl (wpAny_bind (wpAny_field hos hds (x:=.none) rfl (wpAny_pure ?_)))))))
 refine wpAny_bind (slicePart_none ?_)
 show wpAny _ _ (if((1:Int) == 0)=true then _ else _) _ _ s
 rw[if_neg (by decide)]
 refine wpAny_bind (Wf pl (wpAny_bind (Wf pu (wpAny_bind (wpAny_pure ?_)))))
 show wpAny _ _ (match Builtin.Slice.sliceAdjust lo hi 1 (n:Int)with|(lo,hi)=>pure (lo,(1:Int),Builtin.Slice.slicePlaces lo hi 1)) _ _ s
 rw[JC lo hi n]
 show wpAny _ _ (pure (((sIx n 0 lo:Nat):Int),(1:Int),Builtin.Slice.slicePlaces ((sIx n 0 lo:Nat):Int) ((sIx n n hi:Nat):Int) 1)) _ _ s
 rw[JD]
 exact wpAny_pure h
theorem Z5o(xs:Array Value)(i k:Nat):((List.range k).filterMap fun(m:Nat)=>xs[((i:Int)+(m:Int) * 1).toNat]?).toArray=((xs.toList.drop i).take k).toArray:=by
 have e:(fun(m:Nat)=>xs[((i:Int)+(m:Int) * 1).toNat]?)=fun m=>xs[i+m]? :=by
  funext m
  have:((i:Int)+(m:Int) * 1).toNat=i+m:=by omega
  rw[this]
 rw[e]
 have:=pick_run xs i k
 rw[List.filterMap_map]at this
 have e2:((fun x=>xs[x]?)∘fun x=>i+x)=fun m=>xs[i+m]? :=rfl
 rw[e2]at this
 rw[this]
theorem getItem_tuple_cut{t sl:Addr}{items:Array Value}{vl vu:Value}{lo hi:Option Int}{Q:Value->Shared->Prop}(ht:IsTup s.heap t items)(hs:s.heap.IsSliceOf sl vl vu .none)(pl:IsPart vl lo)(pu:IsPart vu hi)
  (hw:¬(sIx items.size 0 lo=0/\sIx items.size items.size hi=items.size))
  (h:Q (.ref s.heap.objs.size) {s with heap:=s.heap.push {cls:=.type "tuple",data:=.seq ((items.toList.drop (sIx items.size 0 lo)).take (sIx items.size items.size hi - sIx items.size 0 lo)).toArray}})
  (hsz:items.size<=sizeLine):wpAny (model prog w) A (getItem (.ref t) (.ref sl)) Q E s:=by
 have htake:sizeOk (.seq ((items.toList.drop (sIx items.size 0 lo)).take (sIx items.size items.size hi - sIx items.size 0 lo)).toArray):=by
  show((items.toList.drop (sIx items.size 0 lo)).take (sIx items.size items.size hi - sIx items.size 0 lo)).toArray.size<=sizeLine
  rw[List.size_toArray,List.length_take,List.length_drop,Array.length_toList]
  omega
 have hj:sIx items.size items.size hi<=items.size:=Zbv _ _ (Nat.le_refl _) hi
 obtain⟨os,hos,hcs,hds⟩:=id hs
 have hTs:s.TypeIs (.ref sl) "slice":=⟨os,hos,hcs⟩
 unfold getItem
 try with_reducible refine wpAny_holding ?_
 first|refine wpAny_bind (wpAny_pure ?_)|skip
 refine wpAny_bind (wpAny_sequenceKey ht.typeIs (by decide) ?_)
 refine wpAny_bind (wpAny_callSpecial?_slot (name:=Str.ofString "__getitem__") ht.typeIs PyProof.Rows.slot_tuple_getitem
  (wpAny_call_entry PyProof.Rows.slot_tuple_getitem ht.typeIs entry_tuple_getitem ?_ (args_tuple_getitem _ _)))
 show wpAny _ _ (Builtin.Tuple.tupleItemsOf (.ref t)>>=_) _ _ s
 refine wpAny_bind (tupleItemsOf_ ht ?_)
 refine wpAny_bind (wpAny_typeOf hTs ?_)
 rw[if_pos (by decide)]
 refine wpAny_bind (Qq hs pl pu ?_)
 have hno:¬((((sIx items.size 0 lo:Nat):Int) == 0&&(1:Int) == 1&&(sIx items.size items.size hi - sIx items.size 0 lo) == items.size)=true):=by
  intro q
  rw[Bool.and_eq_true,Bool.and_eq_true]at q
  have q1:((sIx items.size 0 lo:Nat):Int)=0:=eq_of_beq q.1.1
  have q2:sIx items.size items.size hi - sIx items.size 0 lo=items.size:=eq_of_beq q.2
  exact hw ⟨by omega,by omega⟩
 show wpAny _ _ (if(((sIx items.size 0 lo:Nat):Int) == 0&&(1:Int) == 1&&(sIx items.size items.size hi - sIx items.size 0 lo) == items.size)=true then _ else _) _ _ s
 rw[if_neg hno,Z5o]
 first
  |exact wpAny_bind (m:=Builtin.Tuple.tupleExact _) (wpAny_newObj_type (wpAny_pure ⟨_,rfl,wpAny_pure h⟩) htake)
  |exact wpAny_bind (m:=Builtin.Tuple.tupleExact _) (wpAny_newObj_type (wpAny_bind (wpAny_pure (wpAny_pure ⟨_,rfl,wpAny_pure h⟩))) htake)
  |exact wpAny_bind (wpAny_bind (m:=Builtin.Tuple.tupleExact _) (wpAny_newObj_type (wpAny_pure (wpAny_pure ⟨_,rfl,wpAny_pure h⟩)) htake))
  |exact wpAny_bind (wpAny_bind (m:=Builtin.Tuple.tupleExact _) (wpAny_newObj_type (wpAny_pure ⟨_,rfl,wpAny_pure h⟩) htake))
end
end HT
namespace L2
open PySem PySem.Spec PyProof.Rows
abbrev TO:=St->Hp->(Option Int->Hp->Prop)->Prop
def PO(X:Cx)(e:Option Expr)(t:TO):Prop:=
 ∀(pins:List (Addr×Obj)) (s:Shared) (σ:St) (H:Hp) (Q:Option Int->Hp->Prop),Inv X pins σ H s->t σ H Q->
  wpAny (model X.prog X.w) X.A (evalPart e X.env) (fun u s'=>∃o H',Inv X pins σ H' s'/\IsPart u o/\Q o H') X.xe s
def Z8t:TO:=fun _ H Q=>Q none H
def Ze4(t:TE):TO:=fun σ H Q=>t σ H fun x H1=>∃i,x=.int i/\Q (some i) H1
theorem Yw{ns:List Int}:∀{us:List Value},Vals (ns.map V.int) us->IntsAre us ns:=by
 induction ns with
 |nil=>intro us r;rw[List.map_nil]at r;cases r;exact .nil
 |cons n ns ih=>
  intro us r
  rw[List.map_cons]at r
  cases r with
  |cons r1 r2=>
   obtain⟨t,e⟩:=r1
   subst e
   exact .cons n t (ih r2)
section
variable{X:Cx}{e:Expr}{te:TE}{lo hi:Option Expr}{tl th:TO}{pos p2:Pos}
theorem po_none:PO X none Z8t:=by
 intro pins s σ H Q I h
 rw[evalPart_none]
 exact wpAny_pure ⟨none,H,I, .none,h⟩
theorem Z8u(h:PE X e te):PO X (some e) (Ze4 te):=by
 intro pins s σ H Q I hw
 rw[evalPart_some]
 refine thn (h pins s σ H _ I hw) fun u s1 ⟨x,H1,I1,r1,q1⟩=> ?_
 obtain⟨i,rfl,q⟩:=q1
 obtain⟨t,rfl⟩:=r1
 exact⟨some i,H1,I1, .int i t,q⟩
def SlR(X:Cx)(r:V->Option Int->Option Int->Hp->VK->Prop):Prop:=
 ∀(pins:List (Addr×Obj)) (s:Shared) (σ:St) (H:Hp) (x:V) (v vl vu:Value) (lo hi:Option Int) (sl:Addr) (Q:VK),Inv X pins σ H s->RelV x v->s.heap.IsSliceOf sl vl vu .none->IsPart vl lo->IsPart vu hi->r x lo hi H Q->
  ∃T id,typeLookup (.type T) "__getitem__"=pure (some (.builtin id))/\s.TypeIs v T/\wpAny (model X.prog X.w) X.A (getItem v (.ref sl)) (EP X pins σ Q) X.xe s
theorem SlR.or{r r':V->Option Int->Option Int->Hp->VK->Prop}(h:SlR X r)(h':SlR X r'):SlR X (fun x lo hi H Q=>r x lo hi H Q\/r' x lo hi H Q):=by
 intro pins s σ H x v vl vu lo hi sl Q I rx hs pl pu q
 rcases q with q|q
 ·exact h pins s σ H x v vl vu lo hi sl Q I rx hs pl pu q
 ·exact h' pins s σ H x v vl vu lo hi sl Q I rx hs pl pu q
def tSl(r:V->Option Int->Option Int->Hp->VK->Prop)(te:TE)(tl th:TO):TE:=fun σ H Q=>te σ H fun x H1=>tl σ H1 fun l H2=>th σ H2 fun u H3=>r x l u H3 Q
theorem Z5p{r:V->Option Int->Option Int->Hp->VK->Prop}(hr:SlR X r)(he:PE X e te)(hl:PO X lo tl)(hu:PO X hi th):PE X (.Subscript e (.Slice lo hi none p2) pos) (tSl r te tl th):=by
 intro pins s σ H Q I h
 refine Subscript_ (thn (he pins s σ H _ I h) fun v s1 ⟨x,H1,I1,r1,q1⟩=> ?_)
 refine wpAny_Slice (thn (hl pins s1 σ H1 _ I1 q1) fun vl s2 ⟨l,H2,I2,pl,q2⟩=>thn (hu pins s2 σ H2 _ I2 q2) fun vu s3 ⟨u,H3,I3,pu,q3⟩=> ?_)
 rw[evalPart_none]
 refine wpAny_pure ?_
 have I4:Inv X pins σ H3 {s3 with heap:=s3.heap.push {cls:=.type "slice",data:=.fields #[vl,vu, .none]}}:=I3.kept (t':=s3.toks) fun b ob q=>Heap.get?_push_of_some _ q
 obtain⟨T,id,hT,ht,hg⟩:=hr pins {s3 with heap:=s3.heap.push {cls:=.type "slice",data:=.fields #[vl,vu, .none]}} σ H3 x v vl vu l u s3.heap.objs.size Q I4 r1 (Heap.IsSliceOf.new ..) pl pu q3
 show wpAny (model X.prog X.w) X.A (subscriptTail e (.Slice lo hi none p2) v (.ref s3.heap.objs.size)) (EP X pins σ Q) X.xe {s3 with heap:=s3.heap.push {cls:=.type "slice",data:=.fields #[vl,vu, .none]}}
 exact tail_any (ops:=[.ref s3.heap.objs.size,v]) ht hT hg (by with_unfolding_all rfl)
def V6(xs:List V)(lo hi:Option Int):List V:=(xs.drop (HT.sIx xs.length 0 lo)).take (HT.sIx xs.length xs.length hi - HT.sIx xs.length 0 lo)
theorem QQ(xs:List V)(lo hi:Option Int):(V6 xs lo hi).length<=xs.length:=by
 unfold V6
 rw[List.length_take,List.length_drop]
 omega
def rSlT(K:PySem.W.Frag):V->Option Int->Option Int->Hp->VK->Prop:=fun x lo hi H Q=>∃a xs,x=.ref a/\SqT K H a xs/\
 ¬(HT.sIx xs.length 0 lo=0/\HT.sIx xs.length xs.length hi=xs.length)/\∀p,H p=none->Q (.ref p) (upd H p (.tup (V6 xs lo hi)))
theorem sl_tup:SlR X (rSlT X.K):=by
 intro pins s σ H x v vl vu lo hi sl Q I rx hs pl pu h
 obtain⟨a,xs,rfl,hx,hw,q⟩:=h
 cases rx
 obtain⟨its,r,ht,hz⟩:=I.tuple hx
 have hlen:its.toArray.size=xs.length:=by rw[List.size_toArray];exact r.length.symm
 refine⟨"tuple",_,PyProof.Rows.slot_tuple_getitem.lookup,ht.typeIs,?_⟩
 refine HT.getItem_tuple_cut ht hs pl pu (by rw[hlen];exact hw) ?_ (by rw[hlen];exact hz)
 rw[hlen]
 refine⟨.ref s.heap.objs.size,_,I.laid (t':=s.toks) (o:=.tup (V6 xs lo hi)) (fun b ob q=>Heap.get?_push_of_some _ q) (Nat.le_refl _) ?_,rfl,q _ (I.hok.fresh (Nat.le_refl _))⟩
 exact⟨Nat.le_trans (QQ xs lo hi) hz,_,(r.drop (HT.sIx xs.length 0 lo)).take (HT.sIx xs.length xs.length hi - HT.sIx xs.length 0 lo),TupN.new _ _⟩
def Ze5(K:PySem.W.Frag):R2:=fun x y H Q=>∃a b xs ys,x=.ref a/\y=.ref b/\SqT K H a xs/\SqT K H b ys/\xs≠[]/\xs.length+ys.length<=sizeLine/\
 (ys=[]->Q (.ref a) H)/\(ys≠[]->∀p,H p=none->Q (.ref p) (upd H p (.tup (xs++ys))))
theorem Vals.nil_iff{xs:List V}{us:List Value}(r:Vals xs us):us=[]↔xs=[]:=by
 cases r with
 |nil=>simp
 |cons _ _=>simp
theorem Z8v:OpR X (binaryOp .Add) (Ze5 X.K):=by
 intro pins s σ H x y v u Q I rx ry h
 obtain⟨a,b,xs,ys,rfl,rfl,ha,hb,hx,hz,q1,q2⟩:=h
 cases rx
 cases ry
 obtain⟨its,r1,p1,_⟩:=I.tuple ha
 obtain⟨its2,r2,p2,_⟩:=I.tuple hb
 refine HT.cat_tup p1 p2 (fun z=>hx (r1.nil_iff.mp z)) (fun z=>⟨.ref a,H,I,rfl,q1 (r2.nil_iff.mp z)⟩) (fun z=> ?_) (by rw[←r1.length,←r2.length];exact hz)
 refine⟨.ref s.heap.objs.size,_,I.laid (t':=s.toks) (o:=.tup (xs++ys)) (fun b ob q=>Heap.get?_push_of_some _ q) (Nat.le_refl _) ?_,rfl,q2 (fun w=>z (r2.nil_iff.mpr w)) _ (I.hok.fresh (Nat.le_refl _))⟩
 exact⟨by rw[List.length_append];exact hz,_,r1.append r2,TupN.new _ _⟩
end
end L2
namespace L2
open PySem PySem.Spec PyProof.Rows
def ixN(n:Nat)(i:Int):Option Nat:=if 0<=i then(if i<n then some i.toNat else none)else if -(n:Int)<=i then some (i+n).toNat else none
def atI{α:Type}(xs:List α)(i:Int):Option α:=(ixN xs.length i).bind fun j=>xs[j]?
theorem Z27{n:Nat}{i:Int}{j:Nat}(h:ixN n i=some j):seqIndex? i n=some j/\j<n/\ -(n:Int)<=i/\i<n:=by
 unfold ixN at h
 by_cases h0:0<=i
 ·rw[if_pos h0]at h
  by_cases h1:i<n
  ·rw[if_pos h1]at h
   have e:i.toNat=j:=Option.some.inj h
   exact⟨by rw[seqIndex_of h0 h1,e],by omega,by omega,h1⟩
  ·rw[if_neg h1]at h;cases h
 ·rw[if_neg h0]at h
  by_cases h1: -(n:Int)<=i
  ·rw[if_pos h1]at h
   have e:(i+n).toNat=j:=Option.some.inj h
   exact⟨by rw[seqIndex_neg (by omega) h1,e],by omega,h1,by omega⟩
  ·rw[if_neg h1]at h;cases h
theorem Z28{α:Type}{xs:List α}{i:Int}{v:α}(h:atI xs i=some v):∃j,seqIndex? i xs.length=some j/\xs[j]? =some v/\j<xs.length/\ -(xs.length:Int)<=i/\i<xs.length:=by
 unfold atI at h
 cases e:ixN xs.length i with
 |none=>rw[e]at h;cases h
 |some j=>
  rw[e]at h
  obtain⟨h1,h2,h3,h4⟩:=Z27 e
  exact⟨j,h1,h,h2,h3,h4⟩
def W3(b:Expr):Prop:=∀o i,subscripted b false o i=operate [o,i] (getItem o i)
def IxR(X:Cx)(r:R2):Prop:=
 ∀(value slice:Expr) (pins:List (Addr×Obj)) (s:Shared) (σ:St) (H:Hp) (x y:V) (v u:Value) (Q:VK),Inv X pins σ H s->RelV x v->RelV y u->r x y H Q->
  subscripted slice false v u=operate [v,u] (getItem v u)->wpAny (model X.prog X.w) X.A (subscriptTail value slice v u) (EP X pins σ Q) X.xe s
def MtR(X:Cx)(id:String)(r:V->List V->Hp->VK->Prop):Prop:=
 ∀(pins:List (Addr×Obj)) (s:Shared) (σ:St) (H:Hp) (x:V) (xs:List V) (v:Value) (us:List Value) (Q:VK),Inv X pins σ H s->RelV x v->Vals xs us->r x xs H Q->
  wpAny (model X.prog X.w) X.A (call (.builtin id) (v::us)) (EP X pins σ Q) X.xe s
section
variable{X:Cx}{a b:Expr}{ta tb:TE}{pos:Pos}
theorem Z5q{r:R2}(hr:IxR X r)(ha:PE X a ta)(hb:PE X b tb)(hs:W3 b):PE X (.Subscript a b pos) (tOp r ta tb):=by
 intro pins s σ H Q I h
 exact Subscript_ (Zbo ha hb I h fun v u s2 x y H2 I2 rx ry q=>hr a b pins s2 σ H2 x y v u Q I2 rx ry q (hs _ _))
def rIxL(K:PySem.W.Frag):R2:=fun x y H Q=>∃p xs i v,x=.ref p/\y=.int i/\SqL K H p xs/\atI xs i=some v/\Q v H
def rIxT(K:PySem.W.Frag):R2:=fun x y H Q=>∃p xs i v,x=.ref p/\y=.int i/\SqT K H p xs/\atI xs i=some v/\Q v H
theorem Z29:IxR X (rIxL X.K):=by
 intro value slice pins s σ H x y v u Q I rx ry h hs
 obtain⟨p,xs,i,z,rfl,rfl,hq,he,q⟩:=h
 cases rx
 obtain⟨t,rfl⟩:=ry
 obtain⟨its,r,pl,hz⟩:=I.list hq
 obtain⟨j,h1,h2,h3,h4,h5⟩:=Z28 he
 obtain⟨w,ew,rw'⟩:=r.get h2
 have hl:=r.length
 have hn:=Qo
 have fin:EP X pins σ Q w s:=⟨z,H,I,rw',q⟩
 by_cases h0:0<=i
 ·have hj:i.toNat=j:=by
   rw[seqIndex_of h0 h5]at h1
   exact Option.some.inj h1
  exact item_listR pl.isList h0 (by omega) (by rw[hj];simpa using ew) fin hs
 ·have hj:(i+(its.toArray.size:Int)).toNat=j:=by
   rw[seqIndex_neg (by omega) h4]at h1
   rw[List.size_toArray,←hl]
   exact Option.some.inj h1
  exact subscriptTail_builtinR (x:=w) pl.isList.typeIs slot_list_getitem.lookup
   (wpAny_getItem_list_neg (Q:=fun r s'=>r=w/\EP X pins σ Q r s') pl.isList (by omega) (by rw[List.size_toArray]<;>omega) (by omega) (by rw[hj];simpa using ew) ⟨rfl,fin⟩) hs
theorem ix_tup:IxR X (rIxT X.K):=by
 intro value slice pins s σ H x y v u Q I rx ry h hs
 obtain⟨p,xs,i,z,rfl,rfl,hq,he,q⟩:=h
 cases rx
 obtain⟨t,rfl⟩:=ry
 obtain⟨its,r,pl,hz⟩:=I.tuple hq
 obtain⟨j,h1,h2,h3,h4,h5⟩:=Z28 he
 obtain⟨w,ew,rw'⟩:=r.get h2
 have hl:=r.length
 have hn:=Qo
 have fin:EP X pins σ Q w s:=⟨z,H,I,rw',q⟩
 exact subscriptTail_builtinR (x:=w) pl.typeIs slot_tuple_getitem.lookup
  (getItem_tuple (j:=j) (Q:=fun r s'=>r=w/\EP X pins σ Q r s') pl (by omega) (by omega) (by rw[List.size_toArray,←hl];exact h1) (by simpa using ew) ⟨rfl,fin⟩) hs
theorem JE(its:List Value)(n j:Nat)(u:Value):Obj.mapSeq (·.setIfInBounds j u) {cls:=.type "list",data:=.seq its.toArray n}={cls:=.type "list",data:=.seq (its.set j u).toArray n}:=by
 simp[Obj.mapSeq]
theorem Inv.lst{pins:List (Addr×Obj)}{σ:St}{H:Hp}{s:Shared}{p:Addr}{xs:List V}(I:Inv X pins σ H s)(h:H p=some (.lst xs)):
  ∃(its:List Value) (n:Nat),Vals xs its/\s.heap.get? p=some {cls:=.type "list",data:=.seq its.toArray n}/\xs.length<=sizeLine:=by
 obtain⟨z,its,n,r,e⟩:=I.hok p _ h
 exact⟨its,n,r,e,z⟩
theorem Inv.lstUpd{pins:List (Addr×Obj)}{σ:St}{H:Hp}{s:Shared}{p:Addr}{xs ys:List V}{its its':List Value}{n n':Nat}{f:Obj->Obj}(I:Inv X pins σ H s)(h:H p=some (.lst xs))
  (ho:s.heap.get? p=some {cls:=.type "list",data:=.seq its.toArray n}) (hf:f {cls:=.type "list",data:=.seq its.toArray n}={cls:=.type "list",data:=.seq its'.toArray n'}) (r:Vals ys its') (hz:ys.length<=sizeLine) (t:Nat):
  Inv X pins σ (upd H p (.lst ys)) {s with heap:=s.heap.update p f,toks:=t}:=by
 have e:(s.heap.update p f).get? p=some {cls:=.type "list",data:=.seq its'.toArray n'}:=by
  rw[Heap.get?_update_self f ho (by rw[hf]<;>rfl),hf]
 refine I.write (x:=p) (e:=p) (by rw[h];trivial) (.inl rfl) (fun b u hb q=>(Heap.get?_update_other _ _ (Ne.symm hb)).trans q) ⟨_,e⟩ ?_
 exact⟨hz,its',n',r,e⟩
def Ze6:V->V->V->Hp->(Hp->Prop)->Prop:=fun o i v H Q=>∃p xs k j,o=.ref p/\i=.int k/\H p=some (.lst xs)/\ixN xs.length k=some j/\Q (upd H p (.lst (xs.set j v)))
theorem Z5r:PSet X Ze6:=by
 intro pins s σ H o i v ov iv u Q I ro ri rv h
 obtain⟨p,xs,k,j,rfl,rfl,hp,hj,q⟩:=h
 cases ro
 obtain⟨t,rfl⟩:=ri
 obtain⟨its,n,r,ho,hz⟩:=I.lst hp
 obtain⟨h1,h2,h3,h4⟩:=Z27 hj
 have hl:=r.length
 have hn:=Qo
 have I':Inv X pins σ (upd H p (.lst (xs.set j v))) {s with heap:=s.heap.update p (Obj.mapSeq (·.setIfInBounds j u))}:=
  I.lstUpd hp ho (JE its n j u) (r.set rv j) (by rw[List.length_set];exact hz) s.toks
 by_cases h0:0<=k
 ·have hk:k.toNat=j:=by
   rw[seqIndex_of h0 h4]at h1
   exact Option.some.inj h1
  exact PySem.W.ki_setAt ho h0 (by omega) (by rw[List.size_toArray,←hl];exact h4) (by rw[hk];exact⟨_,I',q⟩)
 ·have hk:(k+(its.toArray.size:Int)).toNat=j:=by
   rw[seqIndex_neg (by omega) h3]at h1
   rw[List.size_toArray,←hl]
   exact Option.some.inj h1
  exact PySem.W.ki_setBack ho (by omega) (by rw[List.size_toArray,←hl];exact h3) (by omega) (by rw[hk];exact⟨_,I',q⟩)
theorem VR(lo hi:Option Int)(n:Nat):(sliceBounds lo hi none n).1=((HT.sIx n 0 lo:Nat):Int)/\(sliceBounds lo hi none n).2.1=((HT.sIx n n hi:Nat):Int)/\(sliceBounds lo hi none n).2.2=1:=by
 refine⟨?_,?_,rfl⟩
 ·cases lo with
  |none=>simp[sliceBounds,HT.sIx]
  |some i=>
   simp only[sliceBounds,HT.sIx,Option.getD_none,show(1:Int)>0 by decide,if_true]
   by_cases h:i<0
   ·simp only[h,if_true]<;>omega
   ·simp only[h,if_false]<;>omega
 ·cases hi with
  |none=>simp[sliceBounds,HT.sIx]
  |some i=>
   simp only[sliceBounds,HT.sIx,Option.getD_none,show(1:Int)>0 by decide,if_true]
   by_cases h:i<0
   ·simp only[h,if_true]<;>omega
   ·simp only[h,if_false]<;>omega
theorem V7(its:List Value)(lo hi:Option Int):slicePick its.toArray lo hi none=((its.drop (HT.sIx its.length 0 lo)).take (HT.sIx its.length its.length hi - HT.sIx its.length 0 lo)).toArray:=by
 obtain⟨h1,h2,h3⟩:=VR lo hi its.toArray.size
 unfold slicePick
 rw[h1,h2,h3]
 simp only[sliceRange_one,pick_run,List.size_toArray]<;>rfl
def rSlL(K:PySem.W.Frag):V->Option Int->Option Int->Hp->VK->Prop:=fun x lo hi H Q=>∃a xs,x=.ref a/\SqL K H a xs/\∀p,H p=none->Q (.ref p) (upd H p (.lst (V6 xs lo hi)))
theorem Z8w:SlR X (rSlL X.K):=by
 intro pins s σ H x v vl vu lo hi sl Q I rx hs pl pu h
 obtain⟨a,xs,rfl,hx,q⟩:=h
 cases rx
 obtain⟨its,r,ht,hz⟩:=I.list hx
 have hlen:=r.length
 refine⟨"list",_,slot_list_getitem.lookup,ht.isList.typeIs,?_⟩
 refine wpAny_getItem_list_slice ht.isList hs pl pu .none (by simp) ?_ (by rw[List.size_toArray]<;>omega)
 rw[V7,←hlen]
 refine⟨.ref s.heap.objs.size,_,I.laid (t':=s.toks) (o:=.lst (V6 xs lo hi)) (fun b ob q=>Heap.get?_push_of_some _ q) (Nat.le_refl _) ?_,rfl,q _ (I.hok.fresh (Nat.le_refl _))⟩
 exact⟨Nat.le_trans (QQ xs lo hi) hz,_,0,(r.drop (HT.sIx xs.length 0 lo)).take (HT.sIx xs.length xs.length hi - HT.sIx xs.length 0 lo),Heap.get?_push_size _ rfl⟩
theorem Q1:X2 X (.builtin "len") (fun xs H Q=>∃p ys,xs=[.ref p]/\(SqL X.K H p ys\/SqT X.K H p ys)/\Q (.int ys.length) H):=by
 intro pins s σ H xs us Q I r h
 obtain⟨p,ys,rfl,hq,q⟩:=h
 obtain⟨u,rfl,rx⟩:=YE r
 cases rx
 have hn:=Qo
 rcases hq with hq|hq
 ·obtain⟨its,r',pl,hz⟩:=I.list hq
  have hlen:=r'.length
  exact Calls.call_len_list pl.isList (by simp only[List.size_toArray]<;>omega) ⟨.int ys.length,H,I.tok _,⟨s.toks+1,by rw[List.size_toArray,hlen]⟩,q⟩
 ·obtain⟨its,r',pl,hz⟩:=I.tuple hq
  have hlen:=r'.length
  exact len_tuple pl (by simp only[List.size_toArray]<;>omega) ⟨.int ys.length,H,I.tok _,⟨s.toks+1,by rw[List.size_toArray,hlen]⟩,q⟩
theorem VS:X2 X (.builtin "len") (fun xs H Q=>∃z,xs=[.str z]/\z.length<=sizeLine/\Q (.int z.length) H):=by
 intro pins s σ H xs us Q I r h
 obtain⟨z,rfl,hz,q⟩:=h
 obtain⟨u,rfl,t,rfl⟩:=YE r
 have hn:=Qo
 exact len_str (by omega) ⟨.int z.length,H,I.tok _,⟨_,rfl⟩,q⟩
theorem Q2:X2 X (.type "list") (fun xs H Q=>∃p ys,xs=[.ref p]/\(SqL X.K H p ys\/SqT X.K H p ys)/\∀l,H l=none->Q (.ref l) (upd H l (.lst ys))):=by
 intro pins s σ H xs us Q I r h
 obtain⟨p,ys,rfl,hq,q⟩:=h
 obtain⟨u,rfl,rx⟩:=YE r
 cases rx
 have fin:∀(its:List Value),Vals ys its->ys.length<=sizeLine->∀(h':Heap) (c':Nat),(∀b o',s.heap.get? b=some o'->h'.get? b=some o')->
   h'.get? s.heap.objs.size=some {cls:=.type "list",dict:=none,data:=.seq its.toArray c',slots:= #[]}->EP X pins σ Q (.ref s.heap.objs.size) {s with heap:=h'}:=fun its r' hz h' c' kp e=>
  ⟨.ref s.heap.objs.size,_,I.laid (t':=s.toks) kp (Nat.le_refl _) (show ObjOk X.prog X.w _ h' _ (.lst ys)from⟨hz,its,c',r',e⟩),rfl,q _ (I.hok.fresh (Nat.le_refl _))⟩
 rcases hq with hq|hq
 ·obtain⟨its,r',pl,hz⟩:=I.list hq
  have hlen:=r'.length
  obtain⟨o,ho,hc,n,hd⟩:=pl.isList
  exact call_list_seq p (.inl rfl) ho hc hd (fun h' c' kp e=>fin its r' hz h' c' kp e) (by simp only[List.size_toArray]<;>omega)
 ·obtain⟨its,r',pl,hz⟩:=I.tuple hq
  have hlen:=r'.length
  obtain⟨o,ho,hc,n,hd⟩:=pl
  exact call_list_seq p (.inr rfl) ho hc hd (fun h' c' kp e=>fin its r' hz h' c' kp e) (by simp only[List.size_toArray]<;>omega)
theorem XH:X2 X (.type "tuple") (fun xs H Q=>∃p ys,xs=[.ref p]/\((SqL X.K H p ys/\∀l,H l=none->Q (.ref l) (upd H l (.tup ys)))\/(SqT X.K H p ys/\Q (.ref p) H))):=by
 intro pins s σ H xs us Q I r h
 obtain⟨p,ys,rfl,h⟩:=h
 obtain⟨u,rfl,rx⟩:=YE r
 cases rx
 rcases h with⟨hq,q⟩|⟨hq,q⟩
 ·obtain⟨its,r',pl,hz⟩:=I.list hq
  have hlen:=r'.length
  refine call_tuple_list pl.isList (fun h' kp=> ?_) (by simp only[List.size_toArray]<;>omega)
  have I1:Inv X pins σ H {s with heap:=h'}:=I.kept (t':=s.toks) kp
  have I2:Inv X pins σ (upd H h'.objs.size (.tup ys)) {s with heap:=h'.push {cls:=.type "tuple",data:=.seq its.toArray}}:=
   I1.laid (t':=s.toks) (fun b o e=>Heap.get?_push_of_some _ e) (Nat.le_refl _) (show ObjOk X.prog X.w _ _ _ (.tup ys)from⟨hz,its,r',TupN.new _ _⟩)
  exact⟨.ref h'.objs.size,_,I2,rfl,q _ (I1.hok.fresh (Nat.le_refl _))⟩
 ·obtain⟨its,r',pl,hz⟩:=I.tuple hq
  exact call_tuple_same pl ⟨.ref p,H,I,rfl,q⟩
def tyV(K:PySem.W.Frag)(T:String)(x:V)(H:Hp):Prop:=match x with
 | .str _=>T="str"
 | .int _=>T="int"
 | .ref p=>(T="list"/\∃xs,SqL K H p xs)\/(T="tuple"/\∃o,K.lookup p=some o/\o.cls=.type "tuple"/\o.dict=none)\/
   (T="dict"/\((∃kvs,H p=some (.dK kvs))\/∃kvs,H p=some (.dT kvs)))\/(T="set"/\∃S n,H p=some (.set S n))
 |_=>False
theorem Zbw{pins:List (Addr×Obj)}{σ:St}{H:Hp}{s:Shared}{T:String}{x:V}{v:Value}(I:Inv X pins σ H s)(r:RelV x v)(ty:tyV X.K T x H):
  s.TypeIs v T/\∀a,v=.ref a->∃ob,s.heap.get? a=some ob/\ob.dict=none:=by
 cases x with
 |str z=>
  obtain⟨t,rfl⟩:=r
  cases (show T="str" from ty)
  exact⟨typeIs_str s z t,fun _ e=>nomatch e⟩
 |int i=>
  obtain⟨t,rfl⟩:=r
  cases (show T="int" from ty)
  exact⟨typeIs_int s i t,fun _ e=>nomatch e⟩
 |ref p=>
  cases r
  rcases ty with⟨rfl,xs,hq⟩|⟨rfl,o,hk,hc,hd⟩|⟨rfl,hk⟩|⟨rfl,S,n,hk⟩
  ·obtain⟨its,_,pl,_⟩:=I.list hq
   refine⟨pl.isList.typeIs,fun a e=> ?_⟩
   cases e
   obtain⟨o,n,e,c,hd,_⟩:=pl
   exact⟨o,e,hd⟩
  ·refine⟨⟨o,I.kIn p o hk,hc⟩,fun a e=> ?_⟩
   cases e
   exact⟨o,I.kIn _ o hk,hd⟩
  ·have z:∃o,s.heap.get? p=some o/\o.ExactDict:=by
    rcases hk with⟨kvs,hk⟩|⟨kvs,hk⟩
    ·obtain⟨_,_,_,_,o,_,_,e,ex,_⟩:=I.hok p _ hk
     exact⟨o,e,ex⟩
    ·obtain⟨_,_,_,_,o,_,_,e,ex,_⟩:=I.hok p _ hk
     exact⟨o,e,ex⟩
   obtain⟨o,e,ex⟩:=z
   refine⟨⟨o,e,ex.1⟩,fun a e2=> ?_⟩
   cases e2
   exact⟨o,e,ex.2.1⟩
  ·obtain⟨o,_,_,_,e,ex,_⟩:=I.hok p _ hk
   refine⟨⟨o,e,ex.1⟩,fun a e2=> ?_⟩
   cases e2
   exact⟨o,e,ex.2.1⟩
 |_=>exact False.elim ty
def tBM(K:PySem.W.Frag)(T:String)(r:V->List V->Hp->VK->Prop)(to:TE)(t:TA):TE:=fun σ H Q=>to σ H fun x H1=>tyV K T x H1/\t σ H1 fun xs H2=>r x xs H2 Q
variable{o e:Expr}{es:List Expr}{to:TE}{t:TA}{name:Str}{apos cpos:Pos}{T id:String}{r:V->List V->Hp->VK->Prop}
theorem Ur(pa:PlainAttrs T)(slot:Slot T name id)(hty:typeOf (.builtin id)=pure (.type "method_descriptor"))(hm:MtR X id r)(ho:PE X o to)(ha:PA X (e::es) t)
  (hbase:attributeBase o name X.env (eval o X.env)=eval o X.env:=by rfl)
  (hfew:((backTo cpos (starEach (e::es) X.env)).all (fun x=> !x.1)&&(backToKw cpos (keywordEach [] X.env)).all (fun x=>x.1.isSome)
   &&decide ((e::es).length+([]:List Keyword).length+(if([]:List Keyword).isEmpty then 0 else 1)<30))=true:=by rfl)
  (hline:(apos.endLine == cpos.line)=true:=by rfl) (hs:starEach (e::es) X.env=(false,eval e X.env)::starEach es X.env:=by rfl) (hplain:(backTo cpos (starEach es X.env)).any (·.1)=false:=by rfl):
  PE X (.Call (.Attribute o name apos) (e::es) [] cpos) (tBM X.K T r to t):=by
 intro pins s σ H Q I h
 refine wpAny_Call_method_late hbase hfew hline rfl (thn (ho pins s σ H _ I h) fun v s1 ⟨x,H1,I1,r1,ty,q1⟩=> ?_)
 obtain⟨h1,h2⟩:=Zbw I1 r1 ty
 refine⟨T,id,pa,slot,hty,h1,h2,?_⟩
 have hA:=ha cpos pins s1 σ H1 _ I1 q1
 rw[hs]at hA ⊢
 refine Calls.callWith_builtin (by show(false || (backTo cpos (starEach es X.env)).any (·.1))=false;rw[hplain]<;>rfl) (Calls.evalArgs_plain ?_)
 exact thn hA fun us s2 ⟨vs,H2,I2,r2,q2⟩=>hm pins s2 σ H2 x vs v us Q I2 r1 r2 q2
end
end L2
namespace L2
open PySem PySem.Spec PyProof.Rows
def MtM(X:Cx)(id:String)(r:V->List V->Hp->VK->Prop):Prop:=
 ∀(pins:List (Addr×Obj)) (s:Shared) (σ:St) (H:Hp) (x:V) (xs:List V) (v:Value) (us:List Value) (Q:VK),Inv X pins σ H s->RelV x v->Vals xs us->r x xs H Q->
  wpAny (model X.prog X.w) X.A (call (.builtin id) (v::us)) (EP X pins σ Q) X.xe s
theorem Vals.one:∀{x:V} {us:List Value},Vals [x] us->∃u,us=[u]/\RelV x u
 |_,_, .cons r .nil=>⟨_,rfl,r⟩
theorem Vals.two:∀{x y:V} {us:List Value},Vals [x,y] us->∃u v,us=[u,v]/\RelV x u/\RelV y v
 |_,_,_, .cons r (.cons q .nil)=>⟨_,_,rfl,r,q⟩
theorem Vals.zero:∀{us:List Value},Vals [] us->us=[]
 |_, .nil=>rfl
theorem Vals.reverse{xs:List V}{us:List Value}(h:Vals xs us):Vals xs.reverse us.reverse:=by
 induction h with
 |nil=>exact .nil
 |cons r t ih=>rw[List.reverse_cons,List.reverse_cons];exact Vals.append ih (.cons r .nil)
section
variable{X:Cx}{pins:List (Addr×Obj)}{σ:St}{H:Hp}{s:Shared}{l b:Addr}{xs ys zs:List V}
theorem Inv.lset{its its':List Value}{n:Nat}{f:Array Value->Array Value}{t':Nat}(I:Inv X pins σ H s)(hH:H l=some (.lst xs))
  (e:s.heap.get? l=some {cls:=.type "list",data:=.seq its.toArray n}) (hf:f its.toArray=its'.toArray) (hv:Vals ys its') (hz:ys.length<=sizeLine):
  Inv X pins σ (upd H l (.lst ys)) {s with heap:=s.heap.update l (Obj.mapSeq f),toks:=t'}:=by
 have q:=PySem.IsL.update e f
 rw[hf]at q
 refine I.write (x:=l) (e:=l) (by rw[hH];exact trivial) (.inl rfl) (fun b' u hb hu=>(Heap.get?_update_other s.heap (Obj.mapSeq f) (Ne.symm hb)).trans hu) ⟨_,q⟩ ?_
 exact⟨hz,its',_,hv,q⟩
theorem Inv.lnew{its:List Value}{t':Nat}(I:Inv X pins σ H s)(hv:Vals ys its)(hz:ys.length<=sizeLine):
  Inv X pins σ (upd H s.heap.objs.size (.lst ys)) {s with heap:=s.heap.push {cls:=.type "list",data:=.seq its.toArray},toks:=t'}:=
 I.laid (fun _ _ q=>Heap.get?_push_of_some _ q) (Nat.le_refl _) ⟨hz,its,0,hv,Heap.get?_push_size _ rfl⟩
theorem Inv.fresh(I:Inv X pins σ H s):H s.heap.objs.size=none:=I.hok.fresh (Nat.le_refl _)
theorem Inv.lstM(I:Inv X pins σ H s)(hH:H l=some (.lst xs)):xs.length<=sizeLine/\∃(its:List Value) (n:Nat),Vals xs its/\xs.length=its.length/\s.heap.get? l=some {cls:=.type "list",data:=.seq its.toArray n}:=by
 obtain⟨z,its,n,r,e⟩:=I.hok l _ hH
 exact⟨z,its,n,r,r.length,e⟩
theorem Us{n:Nat}(h:n<=sizeLine):Builtin.List.listTooLong n=false:=by
 unfold Builtin.List.listTooLong
 exact decide_eq_false (by omega)
end
section
variable{X:Cx}
def Z2a:V->List V->Hp->VK->Prop:=fun x vs H Q=>∃l xs y,x=.ref l/\vs=[y]/\H l=some (.lst xs)/\xs.length<sizeLine/\Q .non (upd H l (.lst (xs++[y])))
theorem Qr:MtM X "list.append" Z2a:=by
 intro pins s σ H x vs v us Q I rx rv h
 obtain⟨l,xs,y,rfl,rfl,hH,hz,q⟩:=h
 cases rx
 obtain⟨u,rfl,ru⟩:=rv.one
 obtain⟨z,its,n,r,hl,e⟩:=I.lstM hH
 refine call_meets F.slot_list_append ⟨_,e,rfl⟩ F.entry_list_append (F.args_list_append_2 _ _) (PySem.list_append l its.toArray n u (by rw[List.size_toArray];omega)) ⟨e,?_⟩
 refine⟨.non,_,I.lset (its':=its++[u]) hH e (by simp) (r.append (.cons ru .nil)) ?_,rfl,q⟩
 rw[List.length_append,List.length_singleton]
 omega
def Z8x:V->List V->Hp->VK->Prop:=fun x vs H Q=>∃l b xs zs,x=.ref l/\vs=[.ref b]/\H l=some (.lst xs)/\H b=some (.lst zs)/\xs.length+zs.length<=sizeLine/\Q .non (upd H l (.lst (xs++zs)))
theorem Z3s:MtM X "list.extend" Z8x:=by
 intro pins s σ H x vs v us Q I rx rv h
 obtain⟨l,b,xs,zs,rfl,rfl,hH,hB,hz,q⟩:=h
 cases rx
 obtain⟨u,rfl,ru⟩:=rv.one
 cases ru
 obtain⟨z,its,n,r,hl,e⟩:=I.lstM hH
 obtain⟨z2,its2,n2,r2,hl2,e2⟩:=I.lstM hB
 have hsz:its.toArray.size+its2.toArray.size<=sizeLine:=by rw[List.size_toArray,List.size_toArray];omega
 have hlong:¬(!its.toArray.isEmpty&&Builtin.List.listTooLong (its.toArray.size+its2.toArray.size))=true:=by
  rw[Us hsz,Bool.and_false]
  exact Bool.false_ne_true
 refine call_meets F.slot_list_extend ⟨_,e,rfl⟩ F.entry_list_extend (F.args_list_extend_2 _ _)
  (AutoSeq1.list_extend_list_list_0 l its.toArray n b its2.toArray n2 hlong (by rw[List.size_toArray];omega) (by omega)) ⟨e,e2,?_⟩
 refine⟨.non,_,I.lset (its':=its++its2) hH e (by simp) (r.append r2) ?_,rfl,q⟩
 rw[List.length_append]
 omega
end
section
variable{prog:Program}{w:World}{A:Around}{E:Value->Shared->Prop}{s:Shared}
set_option maxRecDepth 100000 in
end
section
variable{X:Cx}
end
end L2
namespace Att
open PySem PySem.W PySem.Calls PyProof.Rows
theorem QY{P:Params}{h:Heap}:∀(ns:List Int) (vs:List Value),WellAll P h vs (ns.map WData.int)->IntsAre vs ns:=by
 intro ns
 induction ns with
 |nil=>
  intro vs w
  rw[List.map_nil]at w
  cases w
  exact .nil
 |cons n ns ih=>
  intro vs w
  rw[List.map_cons]at w
  cases w with
  |cons a b=>
   cases a
   exact .cons _ _ (ih _ b)
theorem Z3t{l:OpenLaw}{n:Nat}(hn:l.most=some n){P:Params}{h:Heap}{args:List WData}{vals:List Value}
  (hpre:l.row.toRowW.claim.pre args=true) (hwl:WellAll P h vals args):
  ∃a vs ns,vals=[Value.ref a]/\args=[WData.list (ns.map WData.int)]/\h.get? a=some {cls:=.type "list",data:=.seq vs.toArray}/\IntsAre vs ns/\ns.length<=n:=by
 have hsh:WShape.hasAll [] args [.list .int]=true:=(pre_splitW hpre).1
 have hc:l.pre.holds [] {args:=args}=true:=(pre_splitW hpre).2
 obtain⟨d,r,rfl,h1,h2⟩:=hasAllW_cons hsh
 obtain rfl:=hasAllW_nil h2
 obtain⟨xs,rfl,h3⟩:=hasW_list h1
 obtain⟨ns,rfl⟩:=items_int h3
 have hlen:ns.length<=n:=by
  unfold OpenLaw.pre at hc
  have h4:(WTm.not (.lt (.lit (.int (n:Int))) (.len (.arg 0)))).holds [] {args:=[.list (ns.map .int)]}=true:=by
   have h4:=(holds_andW hc).1
   rw[hn]at h4
   exact h4
  have h5:=condW_of h4 (w_not (w_lt w_lit (w_len_list (w_arg rfl))))
  rw[List.length_map]at h5
  refine Nat.le_of_not_lt fun q=> ?_
  have q':(n:Int)<((ns.length:Nat):Int):=by omega
  first
   |(rw[decide_eq_true q']at h5;exact absurd h5 (by decide))
   |(simp at h5;omega)
 cases hwl with
 |cons w1 w2=>
  cases w2
  cases w1 with
  |list ho hall=>exact⟨_,_,ns,rfl,rfl,ho,QY ns _ hall,hlen⟩
theorem Z3u(l:OpenLaw)(args:List WData):l.row.toRowW.claim.post args (.bool true) args=true:=
 postW_of (r:=l.row.toRowW) (X:=(true == true))
  (show WShape.has [] (.bool true) .bool=true by first|rfl|decide|simp[WShape.has,WShape.arms,WShape.armsAll])
  (show(WTm.eq .res (.lit (.bool true))).value [] {args:=args,res:=some (.bool true),after:=args}=some (.bool (true == true))from w_eq_bool (w_res rfl) w_lit) rfl
theorem attach_call{l:OpenLaw}{n:Nat}{q:Program}{loose:List Str}{XP:(Str->Option Value)->Heap->Prop}{YP:World->Heap->Prop}{d:DefRec}
  (hn:l.most=some n) (hdf:d.params.defaults=[])
  (call:∀(w:World) (s₀ s₁:Shared) (mg mb:Str->Option Value) (fa:Addr) (o:Obj) (pm cd doc:Value) (a:Addr) (vs:List Value) (ns:List Int),
   Ground q loose [] XP w s₀ mg mb s₁.heap->YP w s₁.heap->
   s₁.heap.get? fa=some o->o.data=.func (docDef d.name d.params d.body d.scope pm cd doc)->s₁.heap.CodeRec cd d.name->mg d.name=some (.ref fa)->
   s₁.heap.get? a=some {cls:=.type "list",data:=.seq vs.toArray}->IntsAre vs ns->ns.length<=n->s₁.gens= #[]->
   codeAny (model l.prog w) callerA (.call (.ref fa) ⟨[.ref a],[]⟩) (fun r s'=>r=.ok (.ret (.bool true))/\OldK s₁.heap s'.heap/\s'.os=s₁.os/\AllBare s'.gens) s₁):
  WalkO q loose XP YP l.row.toRowW d [] (fun f vs=>PySem.call f vs):=by
 intro w s₀ s₁ mg mb G Y fa o pm cd doc dV kV ho hd hcd hD hmg hg args vals as hpre hlay hrd hwl hlo
 obtain rfl:dV=.none:=Dflts.none hD hdf
 obtain rfl:kV=.none:=Dflts.noKw hD
 obtain⟨a,vs,ns,rfl,rfl,hobj,hints,hlen⟩:=Z3t hn hpre hwl
 refine enter_call (codeAny_mono (call w s₀ s₁ mg mb fa o pm cd doc a vs ns G Y ho (fd_plain hd) hcd hmg hobj hints hlen hg) fun r s' hq=> ?_)
 obtain⟨rfl,h2,h3,h4⟩:=hq
 exact⟨.inl ⟨.bool true, .bool true,[],rfl,fun _=>rfl, .bool true,Z3u l _,fun _=>⟨List.Pairwise.nil,fun _ hm=>(nomatch hm)⟩⟩,h2,h3,h4⟩
section
variable{prog:Program}{w:World}{A:Around}{E:Value->Shared->Prop}{s:Shared}{K:Frag}
def ledger(h:Heap)(L d:Addr):List (Addr×Obj):=(List.range h.objs.size).filterMap fun a=>if a=L\/a=d then none else(h.get? a).map fun o=>(a,o)
end
end Att
namespace L2
open PySem PySem.Spec PyProof.Rows
theorem Qs:∀{vs:List Value} {ns:List Int},IntsAre vs ns->Vals (ns.map V.int) vs
 |_,_, .nil=>.nil
 |_,_, .cons n t h=>.cons ⟨t,rfl⟩ (Qs h)
def Zbx(H:Hp):Prop:=∀b,H b=none\/∃o xs,H b=some (.frz o (.lst xs))
theorem Z5s{P:Program}{w:World}{K:PySem.W.Frag}{mg mb:Str->Option Value}{CX:CXT}{k:Nat}{fa a:Addr}{fd:FuncData}{x:Str}{sp:Sp}{s₁:Shared}{vs:List Value}{ns:List Int}
  (KX:K.In s₁.heap) (hns:s₁.heap.Ns mainGlobals mg) (hb:s₁.heap.Ns builtinsNs mb) (hbb:∀x:Str,x≠"__name__"->mb x=bootBuiltins x) (hlim:s₁.heap.NoLimit) (hg:s₁.gens= #[])
  (ha:s₁.heap.get? a=some {cls:=.type "list",data:=.seq vs.toArray}) (hi:IntsAre vs ns) (hl:ns.length<=sizeLine) (hr:Room k callerA)
  (F:∀base:Heap,K.In base->base.Ns mainGlobals mg->FnOk P w K mg base CX k fa fd [x] sp) (hbind:∀(s:Shared) (u:Value),BindsTo s fd ⟨[u],[]⟩ [(x,u)])
  (hsp:∀H:Hp,Zbx H->SqL K H a (ns.map V.int)->sp [.ref a] H (fun v _=>v=.bl true) fun _ _ _=>False)
  (hCX:∀H e s',CX [] H s₁ (fun _ _ _=>False) e s'->False):
  codeAny (model P w) callerA (.call (.ref fa) ⟨[.ref a],[]⟩) (fun r s'=>r=.ok (.ret (.bool true))/\OldK s₁.heap s'.heap/\s'.os=s₁.os/\AllBare s'.gens) s₁:=by
 have rv:=Qs hi
 have lenV:=hi.length
 have core:∀H:Hp,Zbx H->SqL K H a (ns.map V.int)->HOk P w H s₁.heap->(∀b,H b≠none->b=a)->(H a≠none->K.lookup a=none)->
   codeAny (model P w) callerA (.call (.ref fa) ⟨[.ref a],[]⟩) (fun r s'=>r=.ok (.ret (.bool true))/\OldK s₁.heap s'.heap/\s'.os=s₁.os/\AllBare s'.gens) s₁:=by
  intro H hO hS hok hA hK
  have base_of:∀{b:Addr} {o:Obj},s₁.heap.get? b=some o->H b=none->(VO s₁.heap H).get? b=some o:=fun e n=>Z57 e n
  have noA:∀{b:Addr} {o:Obj} {es:Array DictEntry} {ep:Nat},s₁.heap.get? b=some o->o.data=.dict es ep->H b=none:=fun{b o es ep} e d=>by
   cases q:H b with
   |none=>rfl
   |some u=>
    have e':b=a:=hA b (by rw[q];simp)
    subst e'
    rw[ha]at e;cases e
    have d':Data.seq vs.toArray _=Data.dict es ep:=d
    cases d'
  have nsK:∀{b:Addr} {m:Str->Option Value},s₁.heap.Ns b m->(VO s₁.heap H).Ns b m:=fun{b m} ⟨o,es,ep,e,d,r⟩=>⟨o,es,ep,base_of e (noA e d),d,r⟩
  have hKb:K.In (VO s₁.heap H):=fun b o e=>base_of (KX b o e) (by
   cases q:H b with
   |none=>rfl
   |some u=>
    have e':b=a:=hA b (by rw[q];simp)
    subst e'
    rw[hK (by rw[q];simp)]at e;cases e)
  have hM:Mod K mg (VO s₁.heap H):=⟨hKb,nsK hns,⟨mb,nsK hb,hbb⟩,let⟨mc,h1,h2⟩:=hlim;⟨mc,nsK h1,h2⟩⟩
  have e0:Env0 P w K mg (VO s₁.heap H) callerA [] s₁ H:=⟨rfl,hM,fun b o e=>Z8i e,Nat.le_of_eq (Z3l _ _),trivial,fun b hb=>absurd (show b∈([]:List Addr)from hb) (by simp),hok, .of_eq hg⟩
  refine codeAny_mono ((F _ hKb (nsK hns)).run callerA [] s₁ H ⟨[.ref a],[]⟩ [.ref a] [.ref a] _ _ hr e0 (hbind s₁ (.ref a)) (.cons rfl .nil) (hsp H hO hS)) fun r s' h=> ?_
  cases r with
  |error e=>exact(hCX H e s' h).elim
  |ok fl=>
   cases fl with
   |next=>exact False.elim h
   |brk=>exact False.elim h
   |cont=>exact False.elim h
   |ret u=>
    obtain⟨v,H',os,bare,un,hok',r',q⟩:=h
    have q':v=.bl true:=q
    subst q'
    obtain rfl:u=Value.bool true:=r'
    refine⟨rfl,OldK.of_keep fun b o e=> ?_,os,bare⟩
    cases q:H b with
    |none=>exact un.keep b o e q (by intro z;exact absurd (show b∈([]:List Addr)from z) (by simp)) (by simp)
    |some u=>
     rcases hO b with z|⟨ob,xs,z⟩
     ·rw[q]at z;cases z
     ·have z2:=un.frzs b ob _ z
      obtain⟨e1,_⟩:=hok b _ z
      obtain⟨e2,_⟩:=hok' b _ z2
      rw[e]at e1;cases e1
      exact e2
 cases hk:K.lookup a with
 |some o=>
  have e:=KX a o hk
  rw[ha]at e
  cases e
  refine core (fun _=>none) (fun _=>.inl rfl) (.inr ⟨_,vs.toArray,_,hk,rfl,rfl,rfl,by rw[List.size_toArray,lenV];exact hl,by simpa using rv⟩) (fun b u z=>by have z':(none:Option HO)=some u:=z;cases z') (fun b z=>absurd rfl z) fun z=>absurd rfl z
 |none=>
  refine core (fun b=>if b=a then some (.frz {cls:=.type "list",data:=.seq vs.toArray} (.lst (ns.map V.int)))else none) (fun b=> ?_) (.inl (.inr ⟨{cls:=.type "list",data:=.seq vs.toArray},if_pos rfl⟩)) (fun b u z=> ?_) (fun b z=> ?_) fun _=>hk
  ·by_cases hb:b=a
   ·exact .inr ⟨_,_,if_pos hb⟩
   ·exact .inl (if_neg hb)
  ·by_cases hb:b=a
   ·have z':=(if_pos hb).symm.trans z
    cases z'
    subst hb
    exact⟨ha,by rw[List.length_map];exact hl,vs,_,rv,ha⟩
   ·have z':=(if_neg hb).symm.trans z
    cases z'
  ·by_cases hb:b=a
   ·exact hb
   ·exact absurd (if_neg hb) z
end L2
namespace L2
open PySem PySem.Spec PyProof.Rows
abbrev KOf{K:PySem.W.Frag}{h:Heap}(_:K.In h):PySem.W.Frag:=K
theorem Z8y{l:PySem.W.OpenLaw}{n k:Nat}{q:Program}{loose:List Str}{XP:(Str->Option Value)->Heap->Prop}{YP:World->Heap->Prop}{d:DefRec}{K:Params->PySem.W.Frag}{CX:World->CXT}{sp:World->Sp}{x:Str}
  (hn:l.most=some n) (hn2:n<=sizeLine) (hdf:d.params.defaults=[]) (hr:Room k callerA)
  (hY:∀(w:World) (h:Heap),YP w h->(K w.params).In h)
  (F:∀(w:World) (mg:Str->Option Value) (fa:Addr) (h:Heap),(K w.params).In h->h.Ns mainGlobals mg->mg d.name=some (.ref fa)->
   ∃fd:FuncData,(∀(s:Shared) (u:Value),BindsTo s fd ⟨[u],[]⟩ [(x,u)])/\
    ∀base:Heap,(K w.params).In base->base.Ns mainGlobals mg->FnOk l.prog w (K w.params) mg base (CX w) k fa fd [x] (sp w))
  (hsp:∀(w:World) (H:Hp) (a:Addr) (ns:List Int),ns.length<=n->Zbx H->SqL (K w.params) H a (ns.map V.int)->sp w [.ref a] H (fun v _=>v=.bl true) fun _ _ _=>False)
  (hCX:∀(w:World) (H:Hp) (s:Shared) (e:Value) (s':Shared),CX w [] H s (fun _ _ _=>False) e s'->False):
  PySem.W.WalkO q loose XP YP l.row.toRowW d [] (fun f vs=>PySem.call f vs):=by
 refine Att.attach_call hn hdf fun w s₀ s₁ mg mb fa o pm cd doc a vs ns G Y ho hd hcd hmg hobj hints hlen hg=> ?_
 have KX:=hY w _ Y
 obtain⟨fd,hb,hF⟩:=F w mg fa _ KX G.T.g hmg
 exact Z5s KX G.T.g G.T.b G.T.builtins G.T.nolimit hg hobj hints (Nat.le_trans hlen hn2) hr hF hb (fun H hO hS=>hsp w H a ns hlen hO hS) fun H e s'=>hCX w H s₁ e s'
end L2
namespace L2
open PySem PySem.Spec PyProof.Rows
def Za(s:Stmt):Arguments:=match s with
 | .FunctionDef _ a _ _ _ _ _ _ _ _=>a
 |_=>{posonlyargs:=[],args:=[],vararg:=none,kwonlyargs:=[],kw_defaults:=[],kwarg:=none,defaults:=[]}
def Z9(s:Stmt):List Stmt:=match s with
 | .FunctionDef _ _ b _ _ _ _ _ _ _=>b
 |_=>[]
def Z3(s:Stmt):Scope:=match s with
 | .FunctionDef _ _ _ _ _ _ sc _ _ _=>sc
 |_=>{kind:=.function,names:=[],isGenerator:=false,isCoroutine:=false}
structure Fun(K:PySem.W.Frag)(x qual:Str)(st:Stmt)(f:Addr)(fd:FuncData):Prop where
 ex:∃(oc:Value) (od:Option Addr) (kV doc pm:Value) (an:Option Addr) (cdv ct:Value) (osl:Array (Option Value)),
  fd=PySem.W.fnOf x qual (Za st) (Z9 st) (Z3 st) .none kV doc pm an cdv ct/\K.lookup f=some ⟨oc,od, .func fd,osl⟩/\PySem.W.codeIn K cdv qual=true
 kp:PySem.W.keepIn K (.ref f)=true
section
variable{P:Program}{w:World}{K:PySem.W.Frag}{mg:Str->Option Value}{base:Heap}
theorem Fun.binds{x qual:Str}{st:Stmt}{f:Addr}{fd:FuncData}{ps:List Str}(F:Fun K x qual st f fd)
  (h:∀(kV doc pm:Value) (an:Option Addr) (cdv ct:Value) (us:List Value),us.length=ps.length->bindArgs (PySem.W.fnOf x qual (Za st) (Z9 st) (Z3 st) .none kV doc pm an cdv ct) ⟨us,[]⟩=pure (ps.zip us)):Binds K fd ps []:=by
 obtain⟨oc,od,kV,doc,pm,an,cdv,ct,osl,rfl,lk,hcd⟩:=F.ex
 exact .all (h kV doc pm an cdv ct)
theorem Zj{x qual:Str}{st:Stmt}{f:Addr}{oc:Value}{od an:Option Addr}{osl:Array (Option Value)}{kV doc pm cdv ct:Value}(l:K.lookup f=some ⟨oc,od, .func (PySem.W.fnOf x qual (Za st) (Z9 st) (Z3 st) .none kV doc pm an cdv ct),osl⟩)
  (c:PySem.W.codeIn K cdv qual=true) (k:PySem.W.keepIn K (.ref f)=true):Fun K x qual st f (PySem.W.fnOf x qual (Za st) (Z9 st) (Z3 st) .none kV doc pm an cdv ct):=⟨⟨oc,od,kV,doc,pm,an,cdv,ct,osl,rfl,l,c⟩,k⟩
end
section
variable{X:Cx}
theorem pv(i:Nat){x:Str}{pos:Pos}(hN:X.N[i]? =some x:=by rfl)(hv:Vis X.env.scope x:=by first|exact Or.inl rfl|exact Or.inr (Or.inl rfl)|exact Or.inr (Or.inr rfl))(hd:(x == ("__debug__":Str))=false:=by decide)
  (hcd:(x == ("__classdict__":Str))=false:=by decide):PE X (.Name x pos) (tVar i):=Xm hN hv hd hcd
end
def Same(H H':Hp):Prop:=∀b o,H b=some o->H' b=some o
theorem Same.refl(H:Hp):Same H H:=fun _ _ h=>h
theorem Same.trans{H H1 H2:Hp}(a:Same H H1)(b:Same H1 H2):Same H H2:=fun c o h=>b c o (a c o h)
theorem Same.free{H H':Hp}(e:Same H H'){l:Addr}(h:H' l=Option.none):H l=Option.none:=by
 cases q:H l with
 |none=>rfl
 |some o=>
  rw[e l o q]at h
  cases h
theorem Same.seq{K:PySem.W.Frag}{H H':Hp}{a:Addr}{xs:List V}(e:Same H H')(h:SqL K H a xs):SqL K H' a xs:=by
 rcases h with(h|⟨o,h⟩)|h
 ·exact .inl (.inl (e _ _ h))
 ·exact .inl (.inr ⟨o,e _ _ h⟩)
 ·exact .inr h
end L2
set_option maxHeartbeats 8000000
namespace L2
open PySem PySem.Spec PyProof.Rows
section
variable{κ:Type}[DecidableEq κ]
def YJ(kvs:List (κ×V))(k:κ):Option V:=(kvs.find? fun kv=>decide (kv.1=k)).map (·.2)
def Wg(kvs:List (κ×V))(k:κ)(v:V):List (κ×V):=
 if(kvs.any fun kv=>decide (kv.1=k))=true then kvs.map (fun kv=>if kv.1=k then(kv.1,v)else kv)else kvs++[(k,v)]
theorem Yp{p:κ×V}{r:List (κ×V)}{k:κ}(e:p.1=k):YJ (p::r) k=some p.2:=by simp[YJ,List.find?_cons,e]
theorem Yq{p:κ×V}{r:List (κ×V)}{k:κ}(e:¬p.1=k):YJ (p::r) k=YJ r k:=by simp[YJ,List.find?_cons,e]
theorem Wh(k:κ):∀kvs:List (κ×V),(kvs.any fun kv=>decide (kv.1=k))=(YJ kvs k).isSome
 | []=>rfl
 |p::r=>by
  rw[List.any_cons]
  by_cases e:p.1=k
  ·simp only[Yp e,decide_eq_true e,Bool.true_or,Option.isSome_some]
  ·rw[Yq e,decide_eq_false e,Bool.false_or];exact Wh k r
theorem Vi(k j:κ)(y:V):∀kvs:List (κ×V),YJ kvs k=none->YJ (kvs++[(k,y)]) j=if j=k then some y else YJ kvs j
 | [],_=>by
  by_cases e:k=j
  ·rw[if_pos e.symm];exact Yp (p:=(k,y)) e
  ·rw[if_neg (fun z=>e z.symm)];exact Yq (p:=(k,y)) e
 |p::r,hn=>by
  rw[List.cons_append]
  have hk:¬p.1=k:=fun z=>by rw[Yp z]at hn;cases hn
  rw[Yq hk]at hn
  have ih:=Vi k j y r hn
  by_cases e:p.1=j
  ·rw[Yp e,Yp e,if_neg (fun z=>hk (e.trans z))]
  ·rw[Yq e,Yq e,ih]
theorem Ut(kvs:List (κ×V))(k:κ)(v:V):(Wg kvs k v).length<=kvs.length+1:=by
 unfold Wg
 split
 ·rw[List.length_map];omega
 ·rw[List.length_append,List.length_cons,List.length_nil];omega
theorem Z5t{kvs:List (κ×V)}{k:κ}(v:V)(h:YJ kvs k=none):Wg kvs k v=kvs++[(k,v)]:=by
 unfold Wg
 rw[Wh,h]
 exact if_neg (by decide)
theorem RelO.isSome_eq{o:Option V}{u:Option Value}(r:RelO o u):o.isSome=u.isSome:=by
 cases o with
 |none=>cases u with
  |none=>rfl
  |some _=>exact(show False from r).elim
 |some _=>cases u with
  |none=>exact(show False from r).elim
  |some _=>rfl
theorem KV.any{kvs:List (κ×V)}{vs:List (κ×Value)}(r:KV kvs vs)(k:κ):(kvs.any fun kv=>decide (kv.1=k))=vs.any fun kv=>decide (kv.1=k):=by
 unfold KV at r
 induction r with
 |nil=>rfl
 |cons h t ih=>rw[List.any_cons,List.any_cons,ih,h.1]
theorem KV.repl{kvs:List (κ×V)}{vs:List (κ×Value)}(r:KV kvs vs)(k:κ){y:V}{u:Value}(ry:RelV y u):
  KV (kvs.map fun kv=>if kv.1=k then(kv.1,y)else kv) (vs.map fun kv=>if kv.1=k then(kv.1,u)else kv):=by
 unfold KV at r ⊢
 induction r with
 |nil=>exact .nil
 | @cons p q ps qs h t ih=>
  rw[List.map_cons,List.map_cons]
  refine .cons ?_ ih
  obtain⟨h1,h2⟩:=h
  by_cases e:p.1=k
  ·rw[if_pos e,if_pos (h1.symm.trans e)];exact⟨h1,ry⟩
  ·rw[if_neg e,if_neg (fun z=>e (h1.trans z))];exact⟨h1,h2⟩
theorem KV.put{kvs:List (κ×V)}{vs:List (κ×Value)}(r:KV kvs vs)(k:κ){y:V}{u:Value}(ry:RelV y u):KV (Wg kvs k y) (stored vs k u):=by
 unfold Wg stored
 rw[r.any k]
 by_cases e:(vs.any fun kv=>decide (kv.1=k))=true
 ·rw[if_pos e,if_pos e];exact r.repl k ry
 ·rw[if_neg e,if_neg e];exact Paired.snoc r ⟨rfl,ry⟩
theorem KV.keys{kvs:List (κ×V)}{vs:List (κ×Value)}(r:KV kvs vs):kvs.map (·.1)=vs.map (·.1):=by
 unfold KV at r
 induction r with
 |nil=>rfl
 |cons h t ih=>rw[List.map_cons,List.map_cons,ih,h.1]
end
theorem Ze7{P:Program}{w:World}{k:Key}{u:Value}(r:RelV (kV k) u):(Yh P w).is k u=true:=by
 cases k with
 |inl i=>obtain⟨t,e⟩:=(show∃t,u=Value.int i t from r);subst e;exact Uj P w i t
 |inr x=>obtain⟨t,e⟩:=(show∃t,u=Value.str x t from r);subst e;exact Uk P w x t
theorem Qt{P:Program}{w:World}:∀{ks:List Key} {us:List Value},Vals (ks.map kV) us->ItemsAre (Yh P w) ks us
 | [],_,r=>by rw[List.map_nil]at r;cases r;exact .nil
 |k::ks,_,r=>by
  rw[List.map_cons]at r
  cases r with
  |cons h t=>exact .cons (Ze7 h) (Qt t)
abbrev KT(H:Hp):List (List Key×V)->List (List Key×Addr×Value)->Prop:=Paired fun p q=>p.1=q.1/\H q.2.1=some (.tup (p.1.map kV))/\RelV p.2 q.2.2
theorem KT.val{H:Hp}{kvs:List (List Key×V)}{xs:List (List Key×Addr×Value)}(r:KT H kvs xs)(k:List Key):RelO (YJ kvs k) ((atKey xs k).map (·.2)):=by
 induction r with
 |nil=>exact True.intro
 | @cons p q ps qs h t ih=>
  obtain⟨h1,_,h2⟩:=h
  by_cases e:p.1=k
  ·have e':q.1=k:=h1.symm.trans e
   have b:atKey (q::qs) k=some q.2:=by simp[atKey,List.find?_cons,e']
   rw[Yp e,b];exact h2
  ·have e':¬q.1=k:=fun z=>e (h1.trans z)
   have b:atKey (q::qs) k=atKey qs k:=by simp[atKey,List.find?_cons,e']
   rw[Yq e,b];exact ih
theorem KT.repl{H:Hp}{kvs:List (List Key×V)}{xs:List (List Key×Addr×Value)}(r:KT H kvs xs)(k:List Key){y:V}{u:Value}(ry:RelV y u):
  KT H (kvs.map fun kv=>if kv.1=k then(kv.1,y)else kv) (xs.map (putAt k u)):=by
 induction r with
 |nil=>exact .nil
 | @cons p q ps qs h t ih=>
  rw[List.map_cons,List.map_cons]
  refine .cons ?_ ih
  obtain⟨h1,h2,h3⟩:=h
  unfold putAt
  by_cases e:p.1=k
  ·rw[if_pos e,if_pos (h1.symm.trans e)];exact⟨h1,h2,ry⟩
  ·rw[if_neg e,if_neg (fun z=>e (h1.trans z))];exact⟨h1,h2,h3⟩
theorem KT.put{H:Hp}{kvs:List (List Key×V)}{xs:List (List Key×Addr×Value)}(r:KT H kvs xs)(k:List Key){b:Addr}{y:V}{u:Value}(hb:H b=some (.tup (k.map kV)))(ry:RelV y u):
  KT H (Wg kvs k y) (storedH xs k b u):=by
 have e:(kvs.any fun kv=>decide (kv.1=k))=(atKey xs k).isSome:=by
  rw[Wh,(r.val k).isSome_eq,Option.isSome_map]
 unfold Wg storedH
 rw[e]
 by_cases q:(atKey xs k).isSome=true
 ·rw[if_pos q,if_pos q];exact r.repl k ry
 ·rw[if_neg q,if_neg q];exact Paired.snoc r ⟨rfl,hb,ry⟩
theorem KT.keeps{H H':Hp}{kvs:List (List Key×V)}{xs:List (List Key×Addr×Value)}(r:KT H kvs xs)(ht:∀b ys,H b=some (.tup ys)->H' b=some (.tup ys)):KT H' kvs xs:=
 Paired.mapP r fun _ _ z=>⟨z.1,ht _ _ z.2.1,z.2.2⟩
section
variable{P:Program}{w:World}{H:Hp}{h:Heap}{a:Addr}
theorem Ze8{u:HO}(ok:HOk P w H h)(e:Rd H a u):ObjOk P w H h a u:=e.ok ok
theorem Z5u{ks:List Key}(ok:HOk P w H h)(e:H a=some (.tup (ks.map kV))):(tupleKind (Yh P w)).is h ks a:=by
 obtain⟨_,its,r,⟨o,h1,h2,n,h3⟩,_⟩:=(show ObjOk P w H h a (.tup (ks.map kV))from ok a _ e)
 exact⟨o,its.toArray,n,h1,h2,h3,by simpa using Qt r⟩
theorem Ze9{kvs:List (List Key×V)}(ok:HOk P w H h)(e:Rd H a (.dT kvs)):kvs.length<=sizeLine/\(a == sysModules)=false/\
  ∃xs,KT H kvs xs/\h.DictOfH (tupleKind (Yh P w)) a xs:=by
 obtain⟨z,y,xs,r,o,es,ep,h1,h2,h3,h4,h5⟩:=(show ObjOk P w H h a (.dT kvs)from Ze8 ok e)
 refine⟨z,y,xs,r,o,es,ep,h1,h2,h3,h4,fun x hx=> ?_,h5⟩
 have all:∀{l:List (List Key×V)} {m:List (List Key×Addr×Value)},KT H l m->∀x∈m,(tupleKind (Yh P w)).is h x.1 x.2.1:=by
  intro l m q
  induction q with
  |nil=>intro x hx;exact nomatch hx
  | @cons p q ps qs hq t ih=>
   intro x hx
   rcases List.mem_cons.mp hx with e|hx
   ·subst e
    exact Z5u ok (by rw[←hq.1];exact hq.2.1)
   ·exact ih x hx
 exact all r x hx
theorem Z2b{kvs:List (List Key×V)}(ok:HOk P w H h)(e:H a=some (.dT kvs)):kvs.length<=sizeLine/\(a == sysModules)=false/\
  ∃xs,KT H kvs xs/\h.DictOfH (tupleKind (Yh P w)) a xs:=Ze9 ok (.inl e)
end
def DGet(H:Hp)(a:Addr)(y:V)(r:Option V):Prop:=
 (∃kvs k,Rd H a (.dK kvs)/\y=kV k/\r=YJ kvs k)\/∃kvs k b,Rd H a (.dT kvs)/\y=.ref b/\H b=some (.tup (k.map kV))/\r=YJ kvs k
theorem DGet.k{H:Hp}{a:Addr}{kvs:List (Key×V)}{k:Key}(e:H a=some (.dK kvs)):DGet H a (kV k) (YJ kvs k):=.inl ⟨kvs,k, .inl e,rfl,rfl⟩
theorem DGet.t{H:Hp}{a b:Addr}{kvs:List (List Key×V)}{k:List Key}(e:H a=some (.dT kvs))(eb:H b=some (.tup (k.map kV))):DGet H a (.ref b) (YJ kvs k):=.inr ⟨kvs,k,b, .inl e,rfl,eb,rfl⟩
section
variable{X:Cx}{pins:List (Addr×Obj)}{σ:St}{H:Hp}{s:Shared}{a:Addr}{y v:V}{u r:Value}{o:Option V}{A:Around}{E:Value->Shared->Prop}
theorem Inv.big(I:Inv X pins σ H s):sysModules<s.heap.objs.size:=by
 have h:mainGlobals<s.heap.objs.size:=(I.mod.glob.keeps I.bk).lt
 exact Nat.lt_trans (by decide) h
theorem Z8z{h':Heap}{t':Nat}{ob:HO}(I:Inv X pins σ H s)(mu:Mut (H a))(hs:Heap.SameBut a s.heap h')(he:∃q,h'.get? a=some q)(new:ObjOk X.prog X.w (upd H a ob) h' a ob):
  Inv X pins σ (upd H a ob) {s with heap:=h',toks:=t'}:=
 I.write (x:=a) (e:=a) mu (.inl rfl) (fun b q hb z=>(hs.2 b hb).trans z) he new
end
section
variable{X:Cx}{pins:List (Addr×Obj)}{σ:St}{H:Hp}{s:Shared}{a:Addr}{kvs:List (Key×V)}{k:Key}{u:Value}{A:Around}{E:Value->Shared->Prop}
end
section
variable{X:Cx}{o i e value:Expr}{pos pos' tpos:Pos}{td ty tv:TE}
end
theorem Z5v{P:Program}{w:World}{H:Hp}(h:Heap)(hb:sysModules<h.objs.size):ObjOk P w H (h.push {cls:=.type "dict",data:=.dict #[]}) h.objs.size (.dT []):=
 ⟨Nat.zero_le _,beq_eq_false_iff_ne.mpr (Ne.symm (Nat.ne_of_lt hb)),[], .nil,_,#[],0,Heap.get?_push_size _ rfl,⟨rfl,rfl,rfl⟩,rfl,rfl,List.nodup_nil⟩
def Zby:TE:=fun _ H Q=>∀p,H p=none->Q (.ref p) (upd H p (.dT []))
section
variable{X:Cx}{pos:Pos}
theorem Z5w:PE X (.Dict [] [] pos) Zby:=fun pins s σ H Q I h=>
 wpAny_Dict_empty ⟨.ref s.heap.objs.size,_,I.laid (a:=s.heap.objs.size) (o:=.dT []) (t':=s.toks) (fun _ _ q=>Heap.get?_push_of_some _ q) (Nat.le_refl _) (Z5v s.heap I.big),rfl,h _ (I.hok.fresh (Nat.le_refl _))⟩
end
def Zbz(kvs more:List (Key×V)):List (Key×V):=more.foldl (fun acc kv=>Wg acc kv.1 kv.2) kvs
theorem KV.merge:∀{more:List (Key×V)} {rs:List (Key×Value)} {kvs:List (Key×V)} {vs:List (Key×Value)},KV more rs->KV kvs vs->KV (Zbz kvs more) (merged vs rs):=by
 intro more rs kvs vs r
 unfold KV at r
 induction r generalizing kvs vs with
 |nil=>intro q;exact q
 | @cons p q ps qs h t ih=>
  intro r0
  have e:KV (Wg kvs p.1 p.2) (stored vs q.1 q.2):=by
   have:=r0.put p.1 h.2
   rw[←h.1];exact this
  exact ih e
structure M1(X:Cx)(o:Expr)(m:Str)(apos:Pos)(e:Expr)(cpos:Pos):Prop where
 base:attributeBase o m X.env (eval o X.env)=eval o X.env
 few:((backTo cpos (starEach [e] X.env)).all (fun x=> !x.1)&&(backToKw cpos (keywordEach [] X.env)).all (fun x=>x.1.isSome)
  &&decide (([e]:List Expr).length+([]:List Keyword).length+(if([]:List Keyword).isEmpty then 0 else 1)<30))=true
 line:(apos.endLine == cpos.line)=true
 trees:backTo cpos (starEach [e] X.env)=[(false,eval e X.env)]
structure M2(X:Cx)(o:Expr)(m:Str)(apos:Pos)(e f:Expr)(cpos:Pos):Prop where
 base:attributeBase o m X.env (eval o X.env)=eval o X.env
 few:((backTo cpos (starEach [e,f] X.env)).all (fun x=> !x.1)&&(backToKw cpos (keywordEach [] X.env)).all (fun x=>x.1.isSome)
  &&decide (([e,f]:List Expr).length+([]:List Keyword).length+(if([]:List Keyword).isEmpty then 0 else 1)<30))=true
 line:(apos.endLine == cpos.line)=true
 trees:backTo cpos (starEach [e,f] X.env)=[(false,eval e X.env),(false,eval f X.env)]
section
variable{X:Cx}{pins:List (Addr×Obj)}{σ:St}{H:Hp}{s:Shared}{a:Addr}{y d:V}{u r:Value}{o:Option V}{A:Around}{E:Value->Shared->Prop}
end
section
variable{X:Cx}{o e f:Expr}{apos cpos:Pos}{td ty tx:TE}
end
section
variable{X:Cx}{pins:List (Addr×Obj)}{σ:St}{H:Hp}{s:Shared}{a:Addr}{kvs:List (Key×V)}{A:Around}{E:Value->Shared->Prop}
end
section
variable{X:Cx}{pins:List (Addr×Obj)}{σ:St}{H:Hp}{s:Shared}{a:Addr}{y:V}{u:Value}{A:Around}{E:Value->Shared->Prop}
end
end L2
namespace L3
open PySem PySem.Spec L2
open PyProof.Rows hiding St
structure Cov(X:Cx)(pins:List (Addr×Obj))(H:Hp)(B:Heap):Prop where
 trk:∀b o,H b=some o->∃u,B.get? b=some u
 old:∀b o,X.s₀.heap.get? b=some o->b∉frs X.stack->∃u,B.get? b=some u
 pin:∀p∈X.pn++pins,∃u,B.get? p.1=some u
def Zea(h:Heap)(e C:Addr):Prop:=∃oe vs a0,h.get? e=some oe/\oe.cls=.ref C/\oe.data=.fields vs/\vs[1]? =some .none/\vs[0]? =some a0
def Z5x(B:Heap)(stk:List Env)(e C:Addr)(h:Heap):Prop:=
 B.StaysIn h/\B.get? e=none/\h.FunFrames B stk/\((∃a0,h.TracedW B e (.ref C) a0)\/Zea h e C\/∃L a0,(stk.head?.bind fun v=>v.frame)=some L/\h.TracedAtW B e (.ref C) a0 (rawInt L))
def Fly(X:Cx)(pins:List (Addr×Obj))(H:Hp)(e C:Addr)(h:Heap):Prop:=∃B,Cov X pins H B/\Z5x B X.stack e C h
theorem _root_.L2.ObjOk.thereO{P:Program}{w:World}{H:Hp}{h:Heap}{a:Addr}{o:HO}(x:ObjOk P w H h a o):∃u,h.get? a=some u:=by
 cases o with
 |lst xs=>obtain⟨_,_,_,_,q⟩:=x;exact⟨_,q⟩
 |tup xs=>obtain⟨_,_,_,⟨u,q,_⟩,_⟩:=x;exact⟨u,q⟩
 |dK kvs=>obtain⟨_,_,_,_,u,_,_,q,_⟩:=x;exact⟨u,q⟩
 |dT kvs=>obtain⟨_,_,_,_,u,_,_,q,_⟩:=x;exact⟨u,q⟩
 |set S n=>obtain⟨u,_,_,_,q,_⟩:=x;exact⟨u,q⟩
 |ins C dx fs=>obtain⟨_,_,_,q,_⟩:=x;exact⟨_,q⟩
 |own y=>exact x
 |xd fs=>obtain⟨_,⟨u,_,_,q,_⟩,_⟩:=x;exact⟨u,q⟩
 |rng lo hi=>obtain⟨_,_,_,q⟩:=x;exact⟨_,q⟩
 |frz ob u=>exact⟨_,x.1⟩
 |tbl ps=>exact⟨_,x⟩
 |met f y=>exact⟨_,x⟩
 |ext φ=>exact x.2.1
section
variable{X:Cx}{pins:List (Addr×Obj)}{σ:St}{H H':Hp}{s:Shared}{h' B:Heap}{e C:Addr}
theorem Z90(I:Inv X pins σ H s){b:Addr}(h1:b≠X.env.locals)(h2:b∉X.fs):b∉frs X.stack:=fun z=>(List.mem_cons.mp (I.stkSub b z)).elim h1 h2
theorem Zar(I:Inv X pins σ H s){b:Addr}{o:Obj}(q:X.s₀.heap.get? b=some o):b≠X.env.locals:=Nat.ne_of_lt (Nat.lt_of_lt_of_le (Heap.lt_size q) I.ok.above)
theorem Inv.flew{t':Nat}(I:Inv X pins σ H s)(hex:X.ex=[])(cv:Cov X pins H B)(h1:B.StaysIn s.heap)(h2:B.StaysIn h')(U:s.heap.UpToSlots h'):Inv X pins σ H {s with heap:=h',toks:=t'}:=by
 have nx:∀b:Addr,b∉X.ex:=fun b z=>by rw[hex]at z;cases z
 have st:∀{b:Addr} {u o:Obj},B.get? b=some u->s.heap.get? b=some o->h'.get? b=some o:=fun{b u o} q z=>by
  have y:=h1 b u q
  rw[z]at y
  cases y
  exact h2 b _ q
 have old:∀b o,X.s₀.heap.get? b=some o->b∉X.fs->∀o',s.heap.get? b=some o'->h'.get? b=some o':=fun b o q hb o' z=>by
  obtain⟨u,w⟩:=cv.old b o q (Z90 I (Zar I q) hb)
  exact st w z
 have slt:∀b o,X.s₀.heap.get? b=some o->b∈X.fs->∃sl,h'.get? b=some {o with slots:=sl}:=fun b o q hb=>by
  obtain⟨sl,z⟩:=I.base.slot b o q (I.ok.frf b hb) hb (nx b)
  obtain⟨_,o',ho',hd⟩:=I.ok.funs.mem hb
  rw[q]at ho'
  cases ho'
  obtain⟨sl',z'⟩:=U b _ z hd
  exact⟨sl',z'⟩
 have cel:∀c v,s.heap.IsCell c v->Heap.IsCell h' c v:=fun c v ⟨o,ho,hd⟩=>by
  obtain⟨sl,z⟩:=U c o ho fun vs q=>by rw[hd]at q;cases q
  exact⟨_,z,hd⟩
 refine⟨I.ok,I.os,I.bare,⟨fun b o q n hb hx=>old b o q hb o (I.base.keep b o q n hb hx),fun b o q n hb hx=>slt b o q hb,I.base.free,fun b o q hx=> ?_,I.base.tups,I.base.frzs,I.base.tbls⟩,?_,fun x c q=> ?_,I.free,I.freeC,fun p hp=> ?_,fun b u q=> ?_,I.len⟩
 ·by_cases hb:b∈X.fs
  ·obtain⟨sl,z⟩:=slt b o q hb
   exact⟨_,z⟩
  ·obtain⟨o',z⟩:=I.base.there b o q hx
   exact⟨o',old b o q hb o' z⟩
 ·obtain⟨m,hn,hl⟩:=I.loc
  refine⟨m,U.ns hn,fun i x v e1 e2 e3=> ?_⟩
  obtain⟨u,r,l⟩:=hl i x v e1 e2 e3
  refine⟨u,r,?_⟩
  rcases l with l|⟨k,c,q,z⟩
  ·exact .inl l
  ·exact .inr ⟨k,c,q,cel c _ z⟩
 ·obtain⟨v,z⟩:=I.cell x c q
  exact⟨v,cel c v z⟩
 ·obtain⟨z,r⟩:=I.pin p hp
  obtain⟨u,w⟩:=cv.pin p hp
  exact⟨st w z,r⟩
 ·refine(I.hok b u q).stay (fun c v hc z=> ?_) (fun _ z=>z) fun _ _ z=>z
  rcases hc with hc|hc
  ·rw[hc]at z ⊢
   obtain⟨w,y⟩:=cv.trk b u q
   exact st y z
  ·obtain⟨w,y⟩:=cv.trk c _ hc
   exact st y z
theorem Z91(I:Inv X pins σ H s)(hex:X.ex=[]):Cov X pins H (PySem.W.hideAll s.heap (frs X.stack)):=by
 refine⟨fun b o q=> ?_,fun b o q nb=> ?_,fun p hp=> ?_⟩
 ·have:∃u,s.heap.get? b=some u:=(I.hok b o q).thereO
  obtain⟨u,z⟩:=this
  exact⟨u,PySem.W.hideAll_get _ z fun hb=>by rw[I.stkFree b hb]at q;cases q⟩
 ·obtain⟨u,z⟩:=I.base.there b o q (by rw[hex];simp)
  exact⟨u,PySem.W.hideAll_get _ z nb⟩
 ·obtain⟨z,_,n1,n2,_⟩:=I.pin p hp
  exact⟨p.2,PySem.W.hideAll_get _ z (Z90 I n1 n2)⟩
theorem Z92{vs:List Value}(I:Inv X pins σ H s)(hex:X.ex=[])(m:Heap.MadeExcOf s.heap h' e (.ref C) vs):Inv X pins σ H {s with heap:=h'}/\Fly X pins H e C h':=by
 refine⟨I.kept (t':=s.toks) m.keeps,_,Z91 I hex,fun b o q=>m.keeps b o (PySem.W.of_hideAll _ q),?_,?_, .inr (.inl ?_)⟩
 ·cases q:(PySem.W.hideAll s.heap (frs X.stack)).get? e with
  |none=>rfl
  |some o=>have:=PySem.W.of_hideAll _ q;rw[m.new]at this;cases this
 ·have F:=PySem.W.funFrames_hide (as:=frs X.stack) I.stack fun env he a ha=>List.mem_filterMap.mpr ⟨env,he,ha⟩
  exact F.of_keeps fun b o q _=>⟨o,m.keeps b o q,rfl⟩
 ·obtain⟨t,a,_,_⟩:=m.there
  exact⟨_,_,_,a,rfl,rfl,rfl,rfl⟩
theorem Z5y{M:Model}{A:Around}{E:Value->Shared->Prop}{stk:List Env}{cl a0 fl:Value}{to:Option Addr}{Q:Unit->Shared->Prop}(k1:B.StaysIn s.heap)(k2:s.heap.FunFrames B stk)(tr:s.heap.TracedAtW B e cl a0 fl)
  (done:∀g,B.StaysIn g->g.FunFrames B stk->g.TracedAtW B e cl a0 (to.elim Value.none fun f=>rawInt f)->s.heap.UpToSlots g->Q () {s with heap:=g}):wpAny M A (setFlight (.ref e) to) Q E s:=by
 obtain⟨oe,vs,T,oT,ts,g1,g2,g3,g4,g5,g6,g7,g8,g9⟩:=tr
 have sz:3<ts.size:=(Array.getElem?_eq_some_iff.mp g9).1
 let U:=s.heap.update T (Obj.mapFields (·.setIfInBounds 3 (to.elim Value.none fun f=>rawInt f)))
 have ot:∀b,b≠T->U.get? b=s.heap.get? b:=fun b nb=>Heap.get?_update_other _ _ (Ne.symm nb)
 have nr:∀b o,s.heap.get? b=some o->(∀vs,o.data≠ .fields vs)->b≠T:=fun b o q nf z=>by
  rw[z,g7]at q
  cases q
  exact nf ts g8
 unfold setFlight
 refine wpAny_bind (wpAny_field g1 g3 g4 ?_)
 rw[if_pos (by simp:(Value.ref T != Value.none)=true)]
 refine wpAny_setField g7 g8 sz (done U (fun b o q=> ?_) (k2.of_keeps fun b o q nf=>⟨o,?_,rfl⟩) ?_ fun b o q nf=>⟨o.slots,?_⟩)
 ·rw[ot b fun z=>by rw[z,g5]at q;cases q]
  exact k1 b o q
 ·rw[ot b (nr b o q nf)];exact q
 ·refine⟨oe,vs,T,_,_,?_,g2,g3,g4,g5,g6,Heap.get?_update_self _ g7 (Obj.isFreed_of_fields (Obj.data_mapFields g8 _)),Obj.data_mapFields g8 _,?_⟩
  ·rw[ot e (Ne.symm g6)];exact g1
  ·simp[sz]
 ·rw[ot b (nr b o q nf)];exact q
theorem Z2c{M:Model}{E:Value->Shared->Prop}{Q:Unit->Shared->Prop}{env:Env}{out:List Env}{L:Addr}{A:Around}(hfr:A.frames=some (env::out))(hL:env.frame=some L)(f:Z5x B (env::out) e C s.heap)
  (done:∀g a0,B.StaysIn g->g.FunFrames B (env::out)->g.TracedAtW B e (.ref C) a0 (rawInt L)->s.heap.UpToSlots g->Q () {s with heap:=g}):wpAny M A (noteFrame (.ref e) env) Q E s:=by
 obtain⟨f1,f2,f3,f4⟩:=f
 rcases f4 with⟨a0,tr⟩|⟨oe,vs,a0,q1,q2,q3,q4,q5⟩|⟨L',a0,hl,tr⟩
 ·exact wpAny_noteFrame_onW hfr f3 hL tr f1 f2 fun g ⟨k1,k2,k3,k4⟩=>done g a0 k1 k2 k3 k4
 ·unfold noteFrame
  simp only[hL]
  refine wpAny_bind (wpAny_field q1 q3 q4 ?_)
  rw[if_neg (by decide)]
  exact wpAny_entryW hfr f3 hL q1 f1 f2 q3 (Array.getElem?_eq_some_iff.mp q4).1 q5 fun g ⟨k1,k2,k3,k4⟩=>done g a0 k1 k2 (q2▸k3) k4
 ·have:L'=L:=by
   have hl:env.frame=some L':=hl
   rw[hL]at hl
   exact(Option.some.inj hl).symm
  subst this
  exact wpAny_noteFrame_againW hL tr (done s.heap a0 f1 f3 tr (Heap.UpToSlots.refl _))
theorem Z93{M:Model}{E:Value->Shared->Prop}{Q:Unit->Shared->Prop}{env:Env}{out:List Env}{L:Addr}{A:Around}(hfr:A.frames=some (env::out))(hL:env.frame=some L)(f:Z5x B (env::out) e C s.heap)
  (done:∀g,Z5x B out e C g->s.heap.UpToSlots g->Q () {s with heap:=g}):wpAny M A (leaving env (.ref e)) Q E s:=by
 unfold leaving
 refine wpAny_bind (Z2c hfr hL f fun g a0 k1 k2 k3 k4=> ?_)
 exact Z5y (s:={s with heap:=g}) (to:=none) k1 k2 k3 fun g' j1 ⟨_,_,j2⟩ j3 j4=>done g' ⟨j1,f.2.1,j2, .inl ⟨a0,j3⟩⟩ (k4.trans j4)
end
end L3
namespace L3
open PySem PySem.Spec L2
open PyProof.Rows hiding St
inductive D where
 |non|bl (b:Bool)|int (i:Int)|str (x:Str)|tup (xs:List D)|lst (xs:List D)|exc (c:Nat)|dct (kvs:List (List Int×List (List Int)))
def Z5z:Nat->Str
 |0=>"SquareError"|1=>"BadSquare"|2=>"BadPlace"|3=>"BadCut"|4=>"BadBlock"|5=>"BadOrder"|6=>"BadNumber"|7=>"TooBig"|_=>"BadText"
def Yn(K:PySem.W.Frag)(c:Nat):Addr:=match PySem.W.nsIn K mainGlobals (Z5z c)with
 |some (some (.ref a))=>a
 |_=>0
def excP(a c:Addr):Heap->Prop:=fun h=>∃o,h.get? a=some o/\o.cls=.ref c
inductive R(α:Type) where
 |ok (a:α)|ex (c:Nat)|bad
def R.bind{α β:Type}(r:R α)(k:α->R β):R β:=match r with
 | .ok a=>k a
 | .ex c=>.ex c
 | .bad=>.bad
instance:Monad R where
 pure:=R.ok
 bind:=R.bind
theorem R.ok_bind{α β:Type}(a:α)(k:α->R β):(R.ok a>>=k)=k a:=rfl
theorem R.bad_bind{α β:Type}(k:α->R β):((R.bad:R α)>>=k)=R.bad:=rfl
theorem R.ex_bind{α β:Type}(c:Nat)(k:α->R β):((R.ex c:R α)>>=k)=R.ex c:=rfl
abbrev Rho:=List (Option D)
def LstAt(K:PySem.W.Frag)(G:Addr->Prop)(H:Hp)(a:Addr)(xs:List V):Prop:=
 (Rd H a (.lst xs)/\G a)\/
  ∃(o:Obj) (its:Array Value) (n:Nat),K.lookup a=some o/\o.cls=.type "list"/\o.dict=none/\o.data=.seq its n/\its.size<=sizeLine/\Vals xs its.toList
theorem LstAt.sq{K:PySem.W.Frag}{G:Addr->Prop}{H:Hp}{a:Addr}{xs:List V}(h:LstAt K G H a xs):SqL K H a xs:=h.elim (fun q=>.inl q.1) .inr
theorem LstAt.of{K:PySem.W.Frag}{G:Addr->Prop}{H:Hp}{a:Addr}{xs:List V}(h:H a=some (.lst xs))(g:G a):LstAt K G H a xs:=.inl ⟨.inl h,g⟩
def LTI(K:PySem.W.Frag)(G:Addr->Prop)(H:Hp)(ts:List (List Int))(v:V):Prop:=
 ∃b xs,v=.ref b/\LstAt K G H b xs/\Paired (fun(t:List Int) (x:V)=>∃c,x=.ref c/\SqT K H c (t.map V.int)) ts xs
def DctAt(K:PySem.W.Frag)(G:Addr->Prop)(H:Hp)(a:Addr)(kvs:List (List Int×List (List Int))):Prop:=
 ∃es:List (List Key×V),H a=some (.dT es)/\G a/\Paired (fun(p:List Int×List (List Int)) (q:List Key×V)=>q.1=p.1.map Sum.inl/\LTI K G H p.2 q.2) kvs es
theorem LTI.imp{K:PySem.W.Frag}{G G':Addr->Prop}{H H':Hp}(hl:∀a xs,LstAt K G H a xs->LstAt K G' H' a xs)(ht:∀a xs,SqT K H a xs->SqT K H' a xs){ts:List (List Int)}{v:V}(h:LTI K G H ts v):LTI K G' H' ts v:=by
 obtain⟨b,xs,e,l,p⟩:=h
 exact⟨b,xs,e,hl _ _ l,Paired.imp' (fun _ _ ⟨c,e,s⟩=>⟨c,e,ht _ _ s⟩) p⟩
theorem DctAt.imp{K:PySem.W.Frag}{G G':Addr->Prop}{H H':Hp}{a:Addr}(hd:∀es,H a=some (.dT es)->G a->H' a=some (.dT es)/\G' a)(hl:∀a xs,LstAt K G H a xs->LstAt K G' H' a xs)(ht:∀a xs,SqT K H a xs->SqT K H' a xs){kvs:List (List Int×List (List Int))}(h:DctAt K G H a kvs):DctAt K G' H' a kvs:=by
 obtain⟨es,e,g,p⟩:=h
 obtain⟨e',g'⟩:=hd es e g
 exact⟨es,e',g',Paired.imp' (fun _ _ ⟨q1,q2⟩=>⟨q1,q2.imp hl ht⟩) p⟩
mutual
def Rep(K:PySem.W.Frag)(G:Addr->Prop)(H:Hp):D->V->Prop
 | .non,v=>v=.non
 | .bl b,v=>v=.bl b
 | .int i,v=>v=.int i
 | .str x,v=>v=.str x/\x.length<=sizeLine/\PyData.strOk x=true
 | .tup ds,v=>∃a xs,v=.ref a/\SqT K H a xs/\RepL K G H ds xs
 | .lst ds,v=>∃a xs,v=.ref a/\LstAt K G H a xs/\RepL K G H ds xs
 | .exc c,v=>∃a,v=.ref a/\H a=some (.ext (excP a (Yn K c)))
 | .dct kvs,v=>∃a,v=.ref a/\DctAt K G H a kvs
def RepL(K:PySem.W.Frag)(G:Addr->Prop)(H:Hp):List D->List V->Prop
 | [],xs=>xs=[]
 |d::ds,xs=>∃x r,xs=x::r/\Rep K G H d x/\RepL K G H ds r
end
theorem LstAt.mono{K:PySem.W.Frag}{G G':Addr->Prop}{H H':Hp}{a:Addr}{xs:List V}(e:Same H H')(g:∀a,G a->G' a)(h:LstAt K G H a xs):LstAt K G' H' a xs:=by
 rcases h with⟨h|⟨o,h⟩,ga⟩|h
 ·exact .inl ⟨.inl (e _ _ h),g a ga⟩
 ·exact .inl ⟨.inr ⟨o,e _ _ h⟩,g a ga⟩
 ·exact .inr h
theorem Same.seqT{K:PySem.W.Frag}{H H':Hp}{a:Addr}{xs:List V}(e:Same H H')(h:SqT K H a xs):SqT K H' a xs:=by
 rcases h with(h|⟨o,h⟩)|h
 ·exact .inl (.inl (e _ _ h))
 ·exact .inl (.inr ⟨o,e _ _ h⟩)
 ·exact .inr h
section
variable{K:PySem.W.Frag}{G G':Addr->Prop}{H H':Hp}
mutual
theorem Rep.mono(e:Same H H')(g:∀a,G a->G' a):∀(d:D) {v:V},Rep K G H d v->Rep K G' H' d v
 | .non,_,h=>by simpa only[Rep]using h
 | .bl _,_,h=>by simpa only[Rep]using h
 | .int _,_,h=>by simpa only[Rep]using h
 | .str _,_,h=>by simpa only[Rep]using h
 | .tup ds,v,h=>by
  simp only[Rep]at h ⊢
  obtain⟨a,xs,rfl,s,r⟩:=h
  exact⟨a,xs,rfl,Same.seqT e s,RepL.mono e g ds r⟩
 | .lst ds,v,h=>by
  simp only[Rep]at h ⊢
  obtain⟨a,xs,rfl,s,r⟩:=h
  exact⟨a,xs,rfl,s.mono e g,RepL.mono e g ds r⟩
 | .exc c,v,h=>by
  simp only[Rep]at h ⊢
  obtain⟨a,rfl,q⟩:=h
  exact⟨a,rfl,e _ _ q⟩
 | .dct kvs,v,h=>by
  simp only[Rep]at h ⊢
  obtain⟨a,rfl,q⟩:=h
  exact⟨a,rfl,q.imp (fun es z y=>⟨e _ _ z,g _ y⟩) (fun _ _ z=>z.mono e g) fun _ _ z=>Same.seqT e z⟩
theorem RepL.mono(e:Same H H')(g:∀a,G a->G' a):∀(ds:List D) {xs:List V},RepL K G H ds xs->RepL K G' H' ds xs
 | [],_,h=>by simpa only[RepL]using h
 |d::ds,xs,h=>by
  simp only[RepL]at h ⊢
  obtain⟨x,r,rfl,h1,h2⟩:=h
  exact⟨x,r,rfl,Rep.mono e g d h1,RepL.mono e g ds h2⟩
end
theorem Rep.same{d:D}{v:V}(h:Rep K G H d v)(e:Same H H'):Rep K G H' d v:=Rep.mono e (fun _ x=>x) d h
theorem RepL.same{ds:List D}{xs:List V}(h:RepL K G H ds xs)(e:Same H H'):RepL K G H' ds xs:=RepL.mono e (fun _ x=>x) ds h
theorem RepL.nil:RepL K G H [] []:=by simp only[RepL]
theorem RepL.cons{d:D}{ds:List D}{x:V}{xs:List V}(h:Rep K G H d x)(t:RepL K G H ds xs):RepL K G H (d::ds) (x::xs):=by
 simp only[RepL];exact⟨x,xs,rfl,h,t⟩
theorem RepL.uncons{d:D}{ds:List D}{xs:List V}(h:RepL K G H (d::ds) xs):∃x r,xs=x::r/\Rep K G H d x/\RepL K G H ds r:=by
 simpa only[RepL]using h
theorem RepL.nil_of{xs:List V}(h:RepL K G H [] xs):xs=[]:=by simpa only[RepL]using h
theorem RepL.length:∀{ds:List D} {xs:List V},RepL K G H ds xs->xs.length=ds.length
 | [],_,h=>by rw[h.nil_of];rfl
 |d::ds,xs,h=>by
  obtain⟨x,r,rfl,_,t⟩:=h.uncons
  simp[t.length]
theorem RepL.get:∀{ds:List D} {xs:List V} {i:Nat} {d:D},RepL K G H ds xs->ds[i]? =some d->∃x,xs[i]? =some x/\Rep K G H d x
 | [],_,_,_,_,e=>by simp at e
 |d::ds,xs,0,d',h,e=>by
  obtain⟨x,r,rfl,h1,_⟩:=h.uncons
  simp at e;subst e
  exact⟨x,rfl,h1⟩
 |d::ds,xs,i+1,d',h,e=>by
  obtain⟨x,r,rfl,_,t⟩:=h.uncons
  obtain⟨y,h1,h2⟩:=RepL.get (i:=i) t (by simpa using e)
  exact⟨y,by simpa using h1,h2⟩
theorem RepL.get':∀{ds:List D} {xs:List V} {i:Nat} {x:V},RepL K G H ds xs->xs[i]? =some x->∃d,ds[i]? =some d/\Rep K G H d x
 | [],_,_,_,h,e=>by rw[h.nil_of]at e;simp at e
 |d::ds,xs,0,x',h,e=>by
  obtain⟨x,r,rfl,h1,_⟩:=h.uncons
  simp at e;subst e
  exact⟨d,rfl,h1⟩
 |d::ds,xs,i+1,x',h,e=>by
  obtain⟨x,r,rfl,_,t⟩:=h.uncons
  obtain⟨y,h1,h2⟩:=RepL.get' (i:=i) t (by simpa using e)
  exact⟨y,by simpa using h1,h2⟩
theorem RepL.append:∀{ds es:List D} {xs ys:List V},RepL K G H ds xs->RepL K G H es ys->RepL K G H (ds++es) (xs++ys)
 | [],_,_,_,h,t=>by rw[h.nil_of];exact t
 |d::ds,es,xs,ys,h,t=>by
  obtain⟨x,r,rfl,h1,h2⟩:=h.uncons
  exact RepL.cons h1 (RepL.append h2 t)
theorem RepL.drop:∀{ds:List D} {xs:List V} (n:Nat),RepL K G H ds xs->RepL K G H (ds.drop n) (xs.drop n)
 |ds,xs,0,h=>by simpa using h
 | [],_,n+1,h=>by rw[h.nil_of];simpa using RepL.nil
 |d::ds,xs,n+1,h=>by
  obtain⟨x,r,rfl,_,t⟩:=h.uncons
  simpa using RepL.drop n t
theorem RepL.take:∀{ds:List D} {xs:List V} (n:Nat),RepL K G H ds xs->RepL K G H (ds.take n) (xs.take n)
 |ds,xs,0,h=>by simpa using RepL.nil
 | [],_,n+1,h=>by rw[h.nil_of];simpa using RepL.nil
 |d::ds,xs,n+1,h=>by
  obtain⟨x,r,rfl,h1,t⟩:=h.uncons
  simpa using RepL.cons h1 (RepL.take n t)
theorem RepL.set{d':D}{x':V}(h':Rep K G H d' x'):∀{ds:List D} {xs:List V} (n:Nat),RepL K G H ds xs->RepL K G H (ds.set n d') (xs.set n x')
 | [],_,n,h=>by rw[h.nil_of];simpa using RepL.nil
 |d::ds,xs,0,h=>by
  obtain⟨x,r,rfl,h1,t⟩:=h.uncons
  simpa using RepL.cons h' t
 |d::ds,xs,n+1,h=>by
  obtain⟨x,r,rfl,h1,t⟩:=h.uncons
  simpa using RepL.cons h1 (RepL.set h' n t)
theorem Rep.tup_of{ds:List D}{v:V}(h:Rep K G H (.tup ds) v):∃a xs,v=.ref a/\SqT K H a xs/\RepL K G H ds xs:=by simpa only[Rep]using h
theorem Rep.lst_of{ds:List D}{v:V}(h:Rep K G H (.lst ds) v):∃a xs,v=.ref a/\LstAt K G H a xs/\RepL K G H ds xs:=by simpa only[Rep]using h
theorem Rep.dct_of{kvs:List (List Int×List (List Int))}{v:V}(h:Rep K G H (.dct kvs) v):∃a,v=.ref a/\DctAt K G H a kvs:=by simpa only[Rep]using h
theorem Rep.exc_of{c:Nat}{v:V}(h:Rep K G H (.exc c) v):∃a,v=.ref a/\H a=some (.ext (excP a (Yn K c))):=by simpa only[Rep]using h
theorem Rep.int_of{i:Int}{v:V}(h:Rep K G H (.int i) v):v=.int i:=by simpa only[Rep]using h
theorem Rep.bl_of{i:Bool}{v:V}(h:Rep K G H (.bl i) v):v=.bl i:=by simpa only[Rep]using h
theorem Rep.int{i:Int}:Rep K G H (.int i) (.int i):=by simp only[Rep]
theorem Rep.bl{i:Bool}:Rep K G H (.bl i) (.bl i):=by simp only[Rep]
theorem Rep.non:Rep K G H .non .non:=by simp only[Rep]
theorem Rep.tup{ds:List D}{a:Addr}{xs:List V}(s:SqT K H a xs)(r:RepL K G H ds xs):Rep K G H (.tup ds) (.ref a):=by simp only[Rep];exact⟨a,xs,rfl,s,r⟩
theorem Rep.lst{ds:List D}{a:Addr}{xs:List V}(s:H a=some (.lst xs))(g:G a)(r:RepL K G H ds xs):Rep K G H (.lst ds) (.ref a):=by simp only[Rep];exact⟨a,xs,rfl, .of s g,r⟩
end
section
variable{K:PySem.W.Frag}{G G':Addr->Prop}{H H':Hp}
mutual
theorem Rep.there:∀(d:D) {v:V},Rep K G H d v->Rep K (fun a=>G a/\H a≠none) H d v
 | .non,_,h=>by simpa only[Rep]using h
 | .bl _,_,h=>by simpa only[Rep]using h
 | .int _,_,h=>by simpa only[Rep]using h
 | .str _,_,h=>by simpa only[Rep]using h
 | .tup ds,v,h=>by
  obtain⟨a,xs,rfl,s,r⟩:=h.tup_of
  exact Rep.tup s (RepL.there ds r)
 | .lst ds,v,h=>by
  obtain⟨a,xs,rfl,s,r⟩:=h.lst_of
  simp only[Rep]
  refine⟨a,xs,rfl,?_,RepL.there ds r⟩
  rcases s with⟨s,ga⟩|s
  ·refine .inl ⟨s,ga,?_⟩
   rcases s with s|⟨o,s⟩<;>rw[s]<;>simp
  ·exact .inr s
 | .exc c,v,h=>by simpa only[Rep]using h
 | .dct kvs,v,h=>by
  obtain⟨a,rfl,q⟩:=h.dct_of
  simp only[Rep]
  refine⟨a,rfl,q.imp (fun es z y=>⟨z,y,by rw[z];simp⟩) (fun b xs s=> ?_) fun _ _ z=>z⟩
  rcases s with⟨s,ga⟩|s
  ·refine .inl ⟨s,ga,?_⟩
   rcases s with s|⟨o,s⟩<;>rw[s]<;>simp
  ·exact .inr s
theorem RepL.there:∀(ds:List D) {xs:List V},RepL K G H ds xs->RepL K (fun a=>G a/\H a≠none) H ds xs
 | [],_,h=>by simpa only[RepL]using h
 |d::ds,xs,h=>by
  obtain⟨x,r,rfl,h1,h2⟩:=h.uncons
  exact RepL.cons (Rep.there d h1) (RepL.there ds h2)
end
theorem RepL.off{p:Addr}{ds:List D}{xs:List V}(h:RepL K G H ds xs)(hp:H p=none):RepL K (fun a=>G a/\a≠p) H ds xs:=
 RepL.mono (Same.refl H) (fun a z=>⟨z.1,fun e=>z.2 (by rw[e];exact hp)⟩) ds (RepL.there ds h)
end
def Free(G:Addr->Prop)(H:Hp):Prop:=∀a,H a=none->G a
theorem Free.same{G:Addr->Prop}{H H':Hp}(f:Free G H)(e:Same H H'):Free G H':=fun a h=>f a (e.free h)
theorem Zv{H:Hp}{p:Addr}(h:H p=none)(o:HO):Same H (upd H p o):=fun b u q=>by rw[Zm (Yi q h)];exact q
def RepS(K:PySem.W.Frag)(G:Addr->Prop)(H:Hp)(ρ:Rho)(σ:St):Prop:=∀(i:Nat) (d:D),ρ[i]? =some (some d)->∃v,σ[i]? =some (some v)/\Rep K G H d v
theorem RepS.same{K:PySem.W.Frag}{G:Addr->Prop}{H H':Hp}{ρ:Rho}{σ:St}(h:RepS K G H ρ σ)(e:Same H H'):RepS K G H' ρ σ:=fun i d q=>let⟨v,a,b⟩:=h i d q;⟨v,a,b.same e⟩
def XQ(X:Cx)(σ:St)(H:Hp)(c:Nat):Prop:=X.ex=[]/\∀(pins:List (Addr×Obj)) (e:Addr) (s':Shared) (H':Hp),Same H H'->Inv X pins σ H' s'->Fly X pins H' e (Yn X.K c) s'.heap->X.xe (.ref e) s'
theorem XQ.mono{X:Cx}{σ:St}{H H1:Hp}{c:Nat}(h:XQ X σ H c)(e:Same H H1):XQ X σ H1 c:=⟨h.1,fun pins a s' H' e'=>h.2 pins a s' H' (e.trans e')⟩
def DQ{α β:Type}(X:Cx)(σ:St)(rep:Hp->α->β->Prop)(H:Hp)(r:R α)(Q:β->Hp->Prop):Prop:=match r with
 | .ok a=>∀b H',Same H H'->rep H' a b->Q b H'
 | .ex c=>XQ X σ H c
 | .bad=>False
theorem DQ.mono{α β:Type}{X:Cx}{σ:St}{rep:Hp->α->β->Prop}{H H1:Hp}{r:R α}{Q:β->Hp->Prop}(h:DQ X σ rep H r Q)(e:Same H H1):DQ X σ rep H1 r Q:=by
 cases r with
 |ok a=>exact fun b H' e' q=>h b H' (e.trans e') q
 |ex c=>exact XQ.mono h e
 |bad=>exact h
theorem DQ.bind{α β γ δ:Type}{X:Cx}{σ:St}{rep:Hp->α->β->Prop}{rep':Hp->γ->δ->Prop}{H:Hp}{r:R α}{k:α->R γ}{Q:δ->Hp->Prop}(h:DQ X σ rep' H (r>>=k) Q):
  DQ X σ rep H r (fun b H1=>∃a,r=.ok a/\Same H H1/\rep H1 a b/\DQ X σ rep' H1 (k a) Q):=by
 cases r with
 |ok a=>exact fun b H1 e q=>⟨a,rfl,e,q,DQ.mono (r:=k a) h e⟩
 |ex c=>exact h
 |bad=>exact h
theorem DQ.wk{α β:Type}{X:Cx}{σ:St}{rep:Hp->α->β->Prop}{H:Hp}{r:R α}{Q Q':β->Hp->Prop}(h:DQ X σ rep H r Q)(w:∀b H',Same H H'->Q b H'->Q' b H'):DQ X σ rep H r Q':=by
 cases r with
 |ok a=>exact fun b H' e' q=>w b H' e' (h b H' e' q)
 |ex c=>exact h
 |bad=>exact h
def repB:Hp->Bool->Bool->Prop:=fun _ a b=>b=a
def tD(X:Cx)(m:Rho->R D):TE:=fun σ H Q=>∃(G:Addr->Prop) (ρ:Rho),Free G H/\RepS X.K G H ρ σ/\DQ X σ (Rep X.K G) H (m ρ) Q
def tDT(X:Cx)(m:Rho->R Bool):TT:=fun σ H Q=>∃(G:Addr->Prop) (ρ:Rho),Free G H/\RepS X.K G H ρ σ/\DQ X σ repB H (m ρ) Q
def tDA(X:Cx)(m:Rho->R (List D)):TA:=fun σ H Q=>∃(G:Addr->Prop) (ρ:Rho),Free G H/\RepS X.K G H ρ σ/\DQ X σ (RepL X.K G) H (m ρ) Q
def PD(X:Cx)(e:Expr)(m:Rho->R D):Prop:=PE X e (tD X m)
def PDT(X:Cx)(e:Expr)(m:Rho->R Bool):Prop:=PT X e (tDT X m)
def PDW(X:Cx)(e:Expr)(m:Rho->R Bool):Prop:=PW X e (tDT X m)
def PDA(X:Cx)(es:List Expr)(m:Rho->R (List D)):Prop:=PA X es (tDA X m)
theorem _root_.L2.PE.imp{X:Cx}{e:Expr}{t t':TE}(h:PE X e t)(i:∀σ H Q,t' σ H Q->t σ H Q):PE X e t':=fun pins s σ H Q I q=>h pins s σ H Q I (i σ H Q q)
theorem _root_.L2.PT.imp{X:Cx}{e:Expr}{t t':TT}(h:PT X e t)(i:∀σ H Q,t' σ H Q->t σ H Q):PT X e t':=fun pins s σ H Q I q=>h pins s σ H Q I (i σ H Q q)
theorem _root_.L2.PW.imp{X:Cx}{e:Expr}{t t':TT}(h:PW X e t)(i:∀σ H Q,t' σ H Q->t σ H Q):PW X e t':=fun wh pins s σ H Q I q=>h wh pins s σ H Q I (i σ H Q q)
theorem _root_.L2.PA.imp{X:Cx}{e:List Expr}{t t':TA}(h:PA X e t)(i:∀σ H Q,t' σ H Q->t σ H Q):PA X e t':=fun pos pins s σ H Q I q=>h pos pins s σ H Q I (i σ H Q q)
def vr(i:Nat):Rho->R D:=fun ρ=>match ρ[i]? with
 |some (some d)=>.ok d
 |_=>.bad
def cn(d:D):Rho->R D:=fun _=>.ok d
section
variable{X:Cx}
theorem Z1(i:Nat){x:Str}{pos:Pos}(hN:X.N[i]? =some x:=by rfl)(hv:Vis X.env.scope x:=by first|exact Or.inl rfl|exact Or.inr (Or.inl rfl)|exact Or.inr (Or.inr rfl))(hd:(x == ("__debug__":Str))=false:=by decide)
  (hcd:(x == ("__classdict__":Str))=false:=by decide):PD X (.Name x pos) (vr i):=(Xm hN hv hd hcd).imp fun σ H Q ⟨G,ρ,hG,hρ,q⟩=>by
 unfold vr at q
 cases e:ρ[i]? with
 |none=>rw[e]at q;exact q.elim
 |some o=>
  cases o with
  |none=>rw[e]at q;exact q.elim
  |some d=>
   rw[e]at q
   obtain⟨v,h1,h2⟩:=hρ i d e
   exact⟨v,h1,q v H (Same.refl H) h2⟩
theorem Zb{i j pos}:PD X (.Constant (.int i) j pos) (cn (.int i)):=pe_int.imp fun σ H Q ⟨G,ρ,hG,hρ,q⟩=>q _ H (Same.refl H) Rep.int
theorem Wi{i j pos}:PD X (.Constant (.bool i) j pos) (cn (.bl i)):=pe_bl.imp fun σ H Q ⟨G,ρ,hG,hρ,q⟩=>q _ H (Same.refl H) Rep.bl
theorem Z2d{j pos}:PD X (.Constant .none j pos) (cn .non):=pe_non.imp fun σ H Q ⟨G,ρ,hG,hρ,q⟩=>q _ H (Same.refl H) Rep.non
theorem XI{x:Str}{j pos}(hx:x.length<=sizeLine:=by decide)(hy:PyData.strOk x=true:=by decide+kernel):PD X (.Constant (.str x) j pos) (cn (.str x)):=pe_str.imp fun σ H Q ⟨G,ρ,hG,hρ,q⟩=>q _ H (Same.refl H) (by simp only[Rep];exact⟨trivial,hx,hy⟩)
theorem Wj{x:Str}{i:Int}{t:Tok}{pos:Pos}(hg:Gl X x)(hm:X.mg x=some (.int i t))(hd:(x == ("__debug__":Str))=false:=by decide):PD X (.Name x pos) (cn (.int i)):=
 (Z8k (v:=.int i) hg hm ⟨t,rfl⟩ hd).imp fun σ H Q ⟨G,ρ,hG,hρ,q⟩=>q _ H (Same.refl H) Rep.int
def bi(op:D->D->R D)(ma mb:Rho->R D):Rho->R D:=fun ρ=>ma ρ>>=fun x=>mb ρ>>=fun y=>op x y
def OpD(X:Cx)(f:Value->Value->Sem Value)(op:D->D->R D):Prop:=
 OpR X f fun x y H Q=>∃(G:Addr->Prop) (σ:St) (d e:D),Free G H/\Rep X.K G H d x/\Rep X.K G H e y/\DQ X σ (Rep X.K G) H (op d e) Q
theorem Wk{σ:St}{H:Hp}{Q:VK}{ma mb:Rho->R D}{op:D->D->R D}(h:tD X (bi op ma mb) σ H Q):
  tD X ma σ H fun x H1=>tD X mb σ H1 fun y H2=>∃(G:Addr->Prop) (σ:St) (d e:D),Free G H2/\Rep X.K G H2 d x/\Rep X.K G H2 e y/\DQ X σ (Rep X.K G) H2 (op d e) Q:=by
 obtain⟨G,ρ,hG,hρ,q⟩:=h
 refine⟨G,ρ,hG,hρ,(DQ.bind q).wk fun x H1 e1 ⟨d,_,_,rd,q1⟩=>⟨G,ρ,hG.same e1,hρ.same e1,(DQ.bind q1).wk fun y H2 e2 ⟨e,_,_,re,q2⟩=> ?_⟩⟩
 exact⟨G,σ,d,e,(hG.same e1).same e2,rd.same e2,re,q2⟩
theorem ZJ{a b:Expr}{op:Operator}{f:D->D->R D}{ma mb:Rho->R D}{pos:Pos}(ho:OpD X (binaryOp op) f)(ha:PD X a ma)(hb:PD X b mb):PD X (.BinOp a op b pos) (bi f ma mb):=
 (Zdy ho ha hb).imp fun σ H Q h=>Wk h
theorem Q3{a b:Expr}{op:CmpOp}{f:D->D->R D}{ma mb:Rho->R D}{pos:Pos}(ho:OpD X (compareOp op) f)(ha:PD X a ma)(hb:PD X b mb)(hm:behindInMarks op b=false:=by first|exact Z5g _|with_unfolding_all rfl):PD X (.Compare a [op] [b] pos) (bi f ma mb):=
 (Z8r ho ha hb hm).imp fun σ H Q h=>Wk h
def ZM:D->D->R D
 | .int i, .int j=>.ok (.int (i+j))
 | .tup xs, .tup ys=>if xs.length+ys.length<=sizeLine then .ok (.tup (xs++ys))else .bad
 | .lst xs, .lst ys=>if xs.length+ys.length<=sizeLine then .ok (.lst (xs++ys))else .bad
 |_,_=>.bad
def Z94:D->D->R D
 | .int i, .int j=>.ok (.int (i - j))
 |_,_=>.bad
def X0:D->D->R D
 | .int i, .int j=>if i.natAbs<=1000000000000\/j.natAbs<=1000000000000 then .ok (.int (i * j))else .bad
 |_,_=>.bad
def Yr:D->D->R D
 | .int i, .int j=>if 0<j then .ok (.int (i%j))else .bad
 |_,_=>.bad
def Z60:D->D->R D
 | .int i, .int j=>if 0<j/\j.natAbs<=1000000 then .ok (.int (i / j))else .bad
 |_,_=>.bad
def Xk(p:Int->Int->Bool):D->D->R D
 | .int i, .int j=>.ok (.bl (p i j))
 |_,_=>.bad
theorem Z2e:OpD X (binaryOp .Sub) Z94:=by
 intro pins s σ H x y v u Q I rx ry ⟨G,σ',d,e,hG,rd,re,q⟩
 cases d<;>cases e<;>first|exact q.elim|skip
 rename_i i j
 cases rd.int_of;cases re.int_of
 exact Zbr pins s σ H _ _ v u Q I rx ry ⟨_,_,rfl,rfl,q _ H (Same.refl H) Rep.int⟩
theorem YC:OpD X (binaryOp .Mult) X0:=by
 intro pins s σ H x y v u Q I rx ry ⟨G,σ',d,e,hG,rd,re,q⟩
 cases d<;>cases e<;>first|exact q.elim|skip
 rename_i i j
 cases rd.int_of;cases re.int_of
 simp only[X0]at q
 split at q
 ·rename_i hc
  have hc:(-(2 ^ 64)<i/\i<2 ^ 64)\/(-(2 ^ 64)<j/\j<2 ^ 64):=by omega
  exact Zbs pins s σ H _ _ v u Q I rx ry ⟨_,_,rfl,rfl,hc,q _ H (Same.refl H) Rep.int⟩
 ·exact q.elim
theorem ZW:OpD X (binaryOp .Mod) Yr:=by
 intro pins s σ H x y v u Q I rx ry ⟨G,σ',d,e,hG,rd,re,q⟩
 cases d<;>cases e<;>first|exact q.elim|skip
 rename_i i j
 cases rd.int_of;cases re.int_of
 simp only[Yr]at q
 split at q
 ·rename_i hc
  exact Zbt pins s σ H _ _ v u Q I rx ry ⟨_,_,rfl,rfl,hc,q _ H (Same.refl H) Rep.int⟩
 ·exact q.elim
theorem Z95:OpD X (binaryOp .FloorDiv) Z60:=by
 intro pins s σ H x y v u Q I rx ry ⟨G,σ',d,e,hG,rd,re,q⟩
 cases d<;>cases e<;>first|exact q.elim|skip
 rename_i i j
 cases rd.int_of;cases re.int_of
 simp only[Z60]at q
 split at q
 ·rename_i hc
  have hc:0<j/\j<1073741824:=by omega
  exact Z8q pins s σ H _ _ v u Q I rx ry ⟨_,_,rfl,rfl,hc,q _ H (Same.refl H) Rep.int⟩
 ·exact q.elim
theorem Wl{f:Value->Value->Sem Value}{p:Int->Int->Bool}(ho:OpR X f (rI0 fun i j=>.bl (p i j))):OpD X f (Xk p):=by
 intro pins s σ H x y v u Q I rx ry ⟨G,σ',d,e,hG,rd,re,q⟩
 cases d<;>cases e<;>first|exact q.elim|skip
 rename_i i j
 cases rd.int_of;cases re.int_of
 exact ho pins s σ H _ _ v u Q I rx ry ⟨_,_,rfl,rfl,q _ H (Same.refl H) Rep.bl⟩
theorem JF:OpD X (compareOp .Lt) (Xk fun i j=>decide (i<j)):=Wl Zdz
theorem JG:OpD X (compareOp .LtE) (Xk fun i j=>decide (i<=j)):=Wl Ze0
theorem VT:OpD X (compareOp .Gt) (Xk fun i j=>decide (j<i)):=Wl Ze1
end
end L3
namespace L3
open PySem PySem.Spec L2
open PyProof.Rows hiding St
def Zas:Nat->PyData
 |0=>.none
 |n+1=>.tuple [Zas n]
def far:PyData:=Zas 50
theorem Vj:40<far.depth:=by decide+kernel
mutual
def toP:D->PyData
 | .non=>.none
 | .bl b=>.bool b
 | .int i=>.int i
 | .str x=>.str x
 | .tup xs=>.tuple (Xo xs)
 | .lst xs=>.list (Xo xs)
 | .exc _=>far
 | .dct _=>far
def Xo:List D->List PyData
 | []=>[]
 |x::xs=>toP x::Xo xs
end
def dep(d:D):Nat:=(toP d).depth
def VU(ds:List D):Nat:=PyData.depthAll (Xo ds)
def eqB(x y:D):Bool:=PyData.eqv (toP x) (toP y)
section
variable{X:Cx}{pins:List (Addr×Obj)}{σ:St}{H:Hp}{s:Shared}{G:Addr->Prop}
mutual
theorem Wm(I:Inv X pins σ H s):∀(d:D) {v:V} {u:Value},Rep X.K G H d v->RelV v u->dep d<=40->(∃as,Reads s.heap u (toP d) as)/\(toP d).canLay0=true
 | .non,v,u,h,r,hd=>by
  simp only[Rep]at h;subst h;cases r
  exact⟨⟨_, .none⟩,rfl⟩
 | .bl b,v,u,h,r,hd=>by
  simp only[Rep]at h;subst h;cases r
  exact⟨⟨_, .bool b⟩,rfl⟩
 | .int i,v,u,h,r,hd=>by
  simp only[Rep]at h;subst h;obtain⟨t,rfl⟩:=r
  exact⟨⟨_, .int i t⟩,rfl⟩
 | .str x,v,u,h,r,hd=>by
  simp only[Rep]at h;obtain⟨rfl,h1,h2⟩:=h;obtain⟨t,rfl⟩:=r
  exact⟨⟨_, .str x t⟩,h2⟩
 | .tup ds,v,u,h,r,hd=>by
  simp only[Rep]at h;obtain⟨a,xs,rfl,hs,hr⟩:=h;cases r
  obtain⟨its,rv,⟨o,e,c,n,d⟩,_⟩:=I.tuple hs
  obtain⟨⟨as,q⟩,c2⟩:=JH I ds hr rv (Nat.le_of_lt hd)
  exact⟨⟨_, .tuple e c d (by simpa using q)⟩,c2⟩
 | .lst ds,v,u,h,r,hd=>by
  simp only[Rep]at h;obtain⟨a,xs,rfl,hs,hr⟩:=h;cases r
  obtain⟨its,rv,⟨o,n,e,c,_,d⟩,_⟩:=I.list hs.sq
  obtain⟨⟨as,q⟩,c2⟩:=JH I ds hr rv (Nat.le_of_lt hd)
  exact⟨⟨_, .list e c d (by simpa using q)⟩,c2⟩
 | .exc c,v,u,h,r,hd=>absurd hd (Nat.not_le.mpr Vj)
 | .dct c,v,u,h,r,hd=>absurd hd (Nat.not_le.mpr Vj)
theorem JH(I:Inv X pins σ H s):∀(ds:List D) {xs:List V} {us:List Value},RepL X.K G H ds xs->Vals xs us->VU ds<=40->(∃as,ReadsAll s.heap us (Xo ds) as)/\PyData.canLayAll0 (Xo ds)=true
 | [],xs,us,h,r,hd=>by
  rw[h.nil_of]at r;cases r
  exact⟨⟨_, .nil⟩,rfl⟩
 |d::ds,xs,us,h,r,hd=>by
  obtain⟨x,rr,rfl,h1,h2⟩:=h.uncons
  cases r with
  |cons r1 r2=>
   obtain⟨⟨as,q1⟩,c1⟩:=Wm I d h1 r1 (Nat.le_trans (Nat.le_max_left ..) hd)
   obtain⟨⟨bs,q2⟩,c2⟩:=JH I ds h2 r2 (Nat.le_trans (Nat.le_max_right ..) hd)
   refine⟨⟨_, .cons q1 q2⟩,?_⟩
   show(PyData.canLay0 (toP d)&&PyData.canLayAll0 (Xo ds))=true
   rw[c1,c2];rfl
end
end
def Z96(x y:D):Bool:=decide (dep x<=40/\dep y<=40)
def eqD(x y:D):R D:=if Z96 x y then .ok (.bl (eqB x y))else .bad
def neD(x y:D):R D:=if Z96 x y then .ok (.bl (!eqB x y))else .bad
def inB(x:D)(ys:List D):Bool:=ys.any fun y=>eqB y x
def QZ:D->D->R D
 |x, .tup ys=>if VU ys<=39/\dep x<=40 then .ok (.bl (!inB x ys))else .bad
 |x, .lst ys=>if VU ys<=39/\dep x<=40 then .ok (.bl (!inB x ys))else .bad
 |_,_=>.bad
theorem Wn(x:D):∀ys:List D,((Xo ys).any fun y=>PyData.eqv y (toP x))=inB x ys
 | []=>rfl
 |y::ys=>by
  show(PyData.eqv (toP y) (toP x) || (Xo ys).any _)=(eqB y x || inB x ys)
  rw[Wn x ys];rfl
section
variable{X:Cx}
theorem ZU(hu:X.A.units+64<cLine):OpD X (compareOp .Eq) eqD:=by
 intro pins s σ H x y v u Q I rx ry ⟨G,σ',d,e,hG,rd,re,q⟩
 unfold eqD at q
 split at q
 ·rename_i hs
  have hs:dep d<=40/\dep e<=40:=of_decide_eq_true hs
  obtain⟨⟨as,r1⟩,c1⟩:=Wm I d rd rx hs.1
  obtain⟨⟨bs,r2⟩,c2⟩:=Wm I e re ry hs.2
  exact SeqAt.rcAt_reads r1 r2 c1 c2 (by show X.A.units+min (dep d) (dep e)<cLine;omega) _ _ _ _ ⟨.bl _,H,I,rfl,q _ H (Same.refl H) Rep.bl⟩
 ·exact q.elim
theorem VV(hu:X.A.units+64<cLine):OpD X (compareOp .NotEq) neD:=by
 intro pins s σ H x y v u Q I rx ry ⟨G,σ',d,e,hG,rd,re,q⟩
 unfold neD at q
 split at q
 ·rename_i hs
  have hs:dep d<=40/\dep e<=40:=of_decide_eq_true hs
  obtain⟨⟨as,r1⟩,c1⟩:=Wm I d rd rx hs.1
  obtain⟨⟨bs,r2⟩,c2⟩:=Wm I e re ry hs.2
  exact SeqAt.compareNe_reads r1 r2 c1 c2 (by show X.A.units+min (dep d) (dep e)<cLine;omega) ⟨.bl _,H,I,rfl,q _ H (Same.refl H) Rep.bl⟩
 ·exact q.elim
theorem Z2f(hu:X.A.units+64<cLine):OpD X (compareOp .NotIn) QZ:=by
 intro pins s σ H x y v u Q I rx ry ⟨G,σ',d,e,hG,rd,re,q⟩
 cases e<;>first|exact q.elim|skip
 all_goals
  rename_i ys
  simp only[QZ]at q
  split at q
  ·rename_i hs
   obtain⟨⟨as,r1⟩,c1⟩:=Wm I d rd rx hs.2
   obtain⟨⟨bs,r2⟩,c2⟩:=Wm I _ re ry (Nat.succ_le_succ hs.1)
   first
    |exact SeqAt.notIn_tuple_reads r2 r1 c2 c1 (by show X.A.units+1+min (VU ys) (dep d)<cLine;omega) ⟨.bl _,H,I,rfl,by rw[Wn];exact q _ H (Same.refl H) Rep.bl⟩
    |exact SeqAt.notIn_list_reads r2 r1 c2 c1 (by show X.A.units+1+min (VU ys) (dep d)<cLine;omega) ⟨.bl _,H,I,rfl,by rw[Wn];exact q _ H (Same.refl H) Rep.bl⟩
  ·exact q.elim
def Ye(x:D):Bool:=match x with| .non=>true|_=>false
theorem Wo{K:PySem.W.Frag}{G:Addr->Prop}{H:Hp}{d:D}{v:V}(h:Rep K G H d v):decide (v=.non)=Ye d:=by
 cases d with
 |non=>simp only[Rep]at h;subst h;rfl
 |bl b=>simp only[Rep]at h;subst h;rfl
 |int b=>simp only[Rep]at h;subst h;rfl
 |str b=>simp only[Rep]at h;obtain⟨rfl,_⟩:=h;rfl
 |tup b=>obtain⟨a,xs,rfl,_⟩:=h.tup_of;rfl
 |lst b=>obtain⟨a,xs,rfl,_⟩:=h.lst_of;rfl
 |exc b=>obtain⟨a,rfl,_⟩:=h.exc_of;rfl
 |dct b=>obtain⟨a,rfl,_⟩:=h.dct_of;rfl
def un(f:D->R D)(ma:Rho->R D):Rho->R D:=fun ρ=>ma ρ>>=f
theorem Zat{a:Expr}{ma:Rho->R D}{j pos pos'}(ha:PD X a ma):PD X (.Compare a [.Is] [.Constant .none j pos'] pos) (un (fun x=>.ok (.bl (Ye x))) ma):=
 (Zba (Z58 ha)).imp fun σ H Q ⟨G,ρ,hG,hρ,q⟩=>⟨G,ρ,hG,hρ,(DQ.bind q).wk fun v H1 e ⟨d,_,_,rd,q1⟩=>by rw[Wo rd];exact q1 _ H1 (Same.refl H1) Rep.bl⟩
theorem Z61:OpR X (binaryOp .Add) (fun x y H Q=>∃a b ys,x=.ref a/\y=.ref b/\SqT X.K H a []/\SqT X.K H b ys/\Q (.ref b) H):=by
 intro pins s σ H x y v u Q I rx ry h
 obtain⟨a,b,ys,rfl,rfl,ha,hb,q⟩:=h
 cases rx
 cases ry
 obtain⟨its,r1,⟨⟨cls,dd,data,sl⟩,ho,hc,n,hd⟩,_⟩:=I.tuple ha
 obtain⟨its2,r2,⟨⟨cls2,dd2,data2,sl2⟩,ho2,hc2,n2,hd2⟩,_⟩:=I.tuple hb
 cases r1
 simp only at hc hd hc2 hd2
 subst hc hd hc2 hd2
 exact concat_meets ⟨_,ho,rfl⟩ ⟨_,ho2,rfl⟩ noFill_tuple_add seq_tuple_add PySem.F.slot_tuple_add PySem.F.entry_tuple_add (PySem.F.args_tuple_add_2 _ _)
  (tuple_addW0 a b _ _ n n2 dd dd2 sl sl2 (by simp)) ⟨ho,ho2,⟨.ref b,H,I,rfl,q⟩⟩
theorem Z97:OpR X (binaryOp .Add) (fun x y H Q=>∃l b xs zs,x=.ref l/\y=.ref b/\SqL X.K H l xs/\SqL X.K H b zs/\xs.length+zs.length<=sizeLine/\∀p,H p=none->Q (.ref p) (upd H p (.lst (xs++zs)))):=by
 intro pins s σ H x y v u Q I rx ry h
 obtain⟨l,b,xs,zs,rfl,rfl,hH,hB,hz,q⟩:=h
 cases rx
 cases ry
 obtain⟨its,r,⟨⟨cls,dd,data,sl⟩,n,ho,hc,hdd,hd⟩,z1⟩:=I.list hH
 obtain⟨its2,r2,⟨⟨cls2,dd2,data2,sl2⟩,n2,ho2,hc2,hdd2,hd2⟩,z2⟩:=I.list hB
 simp only at hc hd hc2 hd2 hdd hdd2
 subst hc hd hc2 hd2 hdd hdd2
 refine concat_meets ⟨_,ho,rfl⟩ ⟨_,ho2,rfl⟩ noFill_list_add seq_list_add PySem.F.slot_list_add PySem.F.entry_list_add (PySem.F.args_list_add_2 _ _)
  (list_addW l b its.toArray its2.toArray n n2 _ _ sl sl2 (by rw[List.size_toArray,List.size_toArray,←r.length,←r2.length];exact hz)) ⟨ho,ho2,?_⟩
 have ea:its.toArray++its2.toArray=(its++its2).toArray:=by simp
 rw[ea]
 exact⟨.ref _,_,I.lnew (t':=s.toks) (r.append r2) (by rw[List.length_append];omega),rfl,q _ I.fresh⟩
theorem ZC:OpD X (binaryOp .Add) ZM:=by
 intro pins s σ H x y v u Q I rx ry ⟨G,σ',d,e,hG,rd,re,q⟩
 cases d<;>cases e<;>first|exact q.elim|skip
 ·rename_i i j
  cases rd.int_of;cases re.int_of
  exact Zbq pins s σ H _ _ v u Q I rx ry ⟨_,_,rfl,rfl,q _ H (Same.refl H) Rep.int⟩
 ·rename_i xs ys
  simp only[ZM]at q
  split at q
  ·rename_i hl
   obtain⟨a,vs,rfl,h1,r1⟩:=rd.tup_of
   obtain⟨b,ws,rfl,h2,r2⟩:=re.tup_of
   have l1:=r1.length
   have l2:=r2.length
   by_cases e1:vs=[]
   ·subst e1
    have:xs=[]:=by cases xs with|nil=>rfl|cons _ _=>simp at l1
    subst this
    exact Z61 pins s σ H _ _ v u Q I rx ry ⟨a,b,ws,rfl,rfl,h1,h2,q _ H (Same.refl H) (Rep.tup h2 r2)⟩
   ·refine Z8v pins s σ H _ _ v u Q I rx ry ⟨a,b,vs,ws,rfl,rfl,h1,h2,e1,by omega,fun e2=> ?_,fun _ p hp=> ?_⟩
    ·subst e2
     have:ys=[]:=by cases ys with|nil=>rfl|cons _ _=>simp at l2
     subst this
     exact q _ H (Same.refl H) (by rw[List.append_nil];exact Rep.tup h1 r1)
    ·have g:=Zv hp (.tup (vs++ws))
     exact q _ _ g (Rep.tup (SqT.of Zi) ((r1.same g).append (r2.same g)))
  ·exact q.elim
 ·rename_i xs ys
  simp only[ZM]at q
  split at q
  ·rename_i hl
   obtain⟨a,vs,rfl,h1,r1⟩:=rd.lst_of
   obtain⟨b,ws,rfl,h2,r2⟩:=re.lst_of
   have l1:=r1.length
   have l2:=r2.length
   refine Z97 pins s σ H _ _ v u Q I rx ry ⟨a,b,vs,ws,rfl,rfl,h1.sq,h2.sq,by omega,fun p hp=> ?_⟩
   have g:=Zv hp (.lst (vs++ws))
   exact q _ _ g (Rep.lst Zi (hG p hp) ((r1.same g).append (r2.same g)))
  ·exact q.elim
def Z98:D->Bool
 | .exc _=>true
 | .dct _=>true
 | .non=>false
 | .bl b=>b
 | .int i=>i != 0
 | .str x=>(x.length:Int) != 0
 | .tup xs=> !xs.isEmpty
 | .lst xs=> !xs.isEmpty
def opq:D->Bool
 | .exc _=>true
 | .dct _=>true
 |_=>false
theorem Z62{K:PySem.W.Frag}{G:Addr->Prop}{H:Hp}{d:D}{v:V}(hn:opq d=false)(h:Rep K G H d v):Zbu K v H (Z98 d):=by
 cases d with
 |exc c=>cases hn
 |dct c=>cases hn
 |non=>simp only[Rep]at h;subst h;rfl
 |bl b=>simp only[Rep]at h;subst h;rfl
 |int b=>simp only[Rep]at h;subst h;rfl
 |str b=>simp only[Rep]at h;obtain⟨rfl,h1,_⟩:=h;exact⟨h1,rfl⟩
 |tup b=>
  obtain⟨a,xs,rfl,h1,r⟩:=h.tup_of
  have e:(!xs.isEmpty)= !b.isEmpty:=by
   have:=r.length
   cases xs<;>cases b<;>simp_all
  exact .inr (.inl ⟨xs,h1,e.symm⟩)
 |lst b=>
  obtain⟨a,xs,rfl,h1,r⟩:=h.lst_of
  have e:(!xs.isEmpty)= !b.isEmpty:=by
   have:=r.length
   cases xs<;>cases b<;>simp_all
  exact .inl ⟨xs,h1.sq,e.symm⟩
def VW:D->R Bool
 | .exc _=>.bad
 | .dct _=>.bad
 |d=>.ok (Z98 d)
def tst(m:Rho->R D):Rho->R Bool:=fun ρ=>m ρ>>=VW
theorem Wp(d:D):VW d=.bad\/(VW d=.ok (Z98 d)/\opq d=false):=by
 cases d<;>first|exact .inl rfl|exact .inr ⟨rfl,rfl⟩
theorem Yd{a:Expr}{m:Rho->R D}(ha:PD X a m)(he:∀whole,isTrue a X.env whole=(do let v←whole;standAt a.pos;holding [v] (truthy v)):=by intro _;rfl):PDT X a (tst m):=
 (Z5k ha he).imp fun σ H Q ⟨G,ρ,hG,hρ,q⟩=>⟨G,ρ,hG,hρ,(DQ.bind q).wk fun v H1 e ⟨d,_,_,rd,q1⟩=>by
  rcases Wp d with h|⟨h,hn⟩
  ·rw[h]at q1;exact q1.elim
  ·rw[h]at q1;exact⟨Z98 d,Z62 hn rd,q1 _ H1 (Same.refl H1) rfl⟩⟩
theorem Y5{a b:Expr}{op:CmpOp}{f:D->D->R D}{ma mb:Rho->R D}{pos:Pos}(ho:OpD X (compareOp op) f)(ha:PD X a ma)(hb:PD X b mb)
  (hf:∀x y d,f x y=.ok d->∃k,d=.bl k) (hm:behindInMarks op b=false:=by first|exact Z5g _|with_unfolding_all rfl):PDT X (.Compare a [op] [b] pos) (tst (bi f ma mb)):=
 (Z8s ho ha hb hm).imp fun σ H Q ⟨G,ρ,hG,hρ,q⟩=>by
  refine Wk (op:=f) ⟨G,ρ,hG,hρ,(DQ.bind q).wk fun v H1 e ⟨d,ed,_,rd,q1⟩=> ?_⟩
  have:∃k,d=.bl k:=by
   simp only[bi]at ed
   cases h1:ma ρ with
   |ok x=>
    cases h2:mb ρ with
    |ok y=>
     rw[h1,h2]at ed
     exact hf x y d ed
    |ex c=>rw[h1,h2]at ed;cases ed
    |bad=>rw[h1,h2]at ed;cases ed
   |ex c=>rw[h1]at ed;cases ed
   |bad=>rw[h1]at ed;cases ed
  obtain⟨k,rfl⟩:=this
  exact⟨k,rd.bl_of,q1 _ H1 (Same.refl H1) rfl⟩
theorem XO{p:Int->Int->Bool}:∀x y d,Xk p x y=.ok d->∃k,d=.bl k:=by
 intro x y d h
 unfold Xk at h
 split at h
 ·cases h;exact⟨_,rfl⟩
 ·cases h
theorem X3:∀x y d,eqD x y=.ok d->∃k,d=.bl k:=by
 intro x y d h;unfold eqD at h;split at h
 ·cases h;exact⟨_,rfl⟩
 ·cases h
theorem Z2g:∀x y d,neD x y=.ok d->∃k,d=.bl k:=by
 intro x y d h;unfold neD at h;split at h
 ·cases h;exact⟨_,rfl⟩
 ·cases h
theorem Z63:∀x y d,QZ x y=.ok d->∃k,d=.bl k:=by
 intro x y d h;unfold QZ at h;split at h
 ·split at h<;>cases h;exact⟨_,rfl⟩
 ·split at h<;>cases h;exact⟨_,rfl⟩
 ·cases h
def Wq(m n:Rho->R Bool):Rho->R Bool:=fun ρ=>m ρ>>=fun c=>if c=true then n ρ else .ok false
def orT(m n:Rho->R Bool):Rho->R Bool:=fun ρ=>m ρ>>=fun c=>if c=true then .ok true else n ρ
def YU(m:Rho->R Bool):Rho->R Bool:=fun ρ=>m ρ>>=fun c=>.ok (!c)
theorem Z2h{a:Expr}{m:Rho->R Bool}{pos:Pos}(ha:PDT X a m):PDW X (.BoolOp .And [a] pos) m:=Z8n ha
theorem Wr{a:Expr}{m:Rho->R Bool}{pos:Pos}(ha:PDT X a m):PDW X (.BoolOp .Or [a] pos) m:=Zbb ha
theorem Z2i{a b:Expr}{Y4:List Expr}{m n:Rho->R Bool}{pos:Pos}(ha:PDT X a m)(hb:PDW X (.BoolOp .And (b::Y4) pos) n):PDW X (.BoolOp .And (a::b::Y4) pos) (Wq m n):=
 (Zbc ha hb).imp fun σ H Q ⟨G,ρ,hG,hρ,q⟩=>⟨G,ρ,hG,hρ,(DQ.bind q).wk fun c H1 e ⟨c',_,_,rc,q1⟩=>by
  cases rc
  cases c with
  |true=>exact⟨G,ρ,hG.same e,hρ.same e,q1⟩
  |false=>exact q1 _ H1 (Same.refl H1) rfl⟩
theorem Z64{a b:Expr}{Y4:List Expr}{m n:Rho->R Bool}{pos:Pos}(ha:PDT X a m)(hb:PDW X (.BoolOp .Or (b::Y4) pos) n):PDW X (.BoolOp .Or (a::b::Y4) pos) (orT m n):=
 (Zdq ha hb).imp fun σ H Q ⟨G,ρ,hG,hρ,q⟩=>⟨G,ρ,hG,hρ,(DQ.bind q).wk fun c H1 e ⟨c',_,_,rc,q1⟩=>by
  cases rc
  cases c with
  |false=>exact⟨G,ρ,hG.same e,hρ.same e,q1⟩
  |true=>exact q1 _ H1 (Same.refl H1) rfl⟩
theorem t_w{a:Expr}{m:Rho->R Bool}(h:PDW X a m):PDT X a m:=PW.pt h
theorem Yv{a:Expr}{m:Rho->R Bool}{pos:Pos}(ha:PDT X a m):PDT X (.UnaryOp .Not a pos) (YU m):=
 (Zbd ha).imp fun σ H Q ⟨G,ρ,hG,hρ,q⟩=>⟨G,ρ,hG,hρ,(DQ.bind q).wk fun c H1 e ⟨c',_,_,rc,q1⟩=>by cases rc;exact q1 _ H1 (Same.refl H1) rfl⟩
def blR:D->R Bool
 | .bl b=>.ok b
 |_=>.bad
def Z65(m n:Rho->R D):Rho->R D:=fun ρ=>m ρ>>=fun d=>blR d>>=fun c=>if c=true then n ρ else .ok (.bl false)
def orV(m n:Rho->R D):Rho->R D:=fun ρ=>m ρ>>=fun d=>blR d>>=fun c=>if c=true then .ok (.bl true)else n ρ
theorem Z2j{op}{a:Expr}{m:Rho->R D}{pos:Pos}(ha:PD X a m):PD X (.BoolOp op [a] pos) m:=Zbe ha
theorem Z66{a b:Expr}{Y4:List Expr}{m n:Rho->R D}{pos:Pos}(ha:PD X a m)(hb:PD X (.BoolOp .And (b::Y4) pos) n):PD X (.BoolOp .And (a::b::Y4) pos) (Z65 m n):=
 (Zbf ha hb).imp fun σ H Q ⟨G,ρ,hG,hρ,q⟩=>⟨G,ρ,hG,hρ,(DQ.bind q).wk fun v H1 e ⟨d,_,_,rd,q1⟩=>by
  cases d with
  |bl c=>
   cases rd.bl_of
   refine⟨c,rfl,?_⟩
   cases c with
   |true=>exact⟨G,ρ,hG.same e,hρ.same e,q1⟩
   |false=>exact q1 _ H1 (Same.refl H1) Rep.bl
  |_=>exact q1.elim⟩
theorem d_or{a b:Expr}{Y4:List Expr}{m n:Rho->R D}{pos:Pos}(ha:PD X a m)(hb:PD X (.BoolOp .Or (b::Y4) pos) n):PD X (.BoolOp .Or (a::b::Y4) pos) (orV m n):=
 (Zds ha hb).imp fun σ H Q ⟨G,ρ,hG,hρ,q⟩=>⟨G,ρ,hG,hρ,(DQ.bind q).wk fun v H1 e ⟨d,_,_,rd,q1⟩=>by
  cases d with
  |bl c=>
   cases rd.bl_of
   refine⟨c,rfl,?_⟩
   cases c with
   |false=>exact⟨G,ρ,hG.same e,hρ.same e,q1⟩
   |true=>exact q1 _ H1 (Same.refl H1) Rep.bl
  |_=>exact q1.elim⟩
def Z67(d:D):R D:=VW d>>=fun b=>.ok (.bl (!b))
theorem Zau{a:Expr}{m:Rho->R D}{pos:Pos}(ha:PD X a m):PD X (.UnaryOp .Not a pos) (un Z67 m):=by
 intro pins s σ H Q I ⟨G,ρ,hG,hρ,q⟩
 refine UnaryOp_ (thn (ha pins s σ H _ I ⟨G,ρ,hG,hρ,DQ.bind q⟩) fun v s1 ⟨x,H1,I1,r1,d,_,_,rd,q1⟩=> ?_)
 unfold Z67 at q1
 rcases Wp d with h|⟨h,hn⟩
 ·rw[h]at q1;exact q1.elim
 ·rw[h]at q1
  refine not_of (thn (Z5j pins s1 σ H1 x v (fun k H2=>Q (.bl (!k)) H2) I1 r1 ⟨_,Z62 hn rd,q1 _ H1 (Same.refl H1) Rep.bl⟩) fun k s2 ⟨H2,I2,q2⟩=>⟨.bl (!k),H2,I2,rfl,q2⟩)
def ifV(c:Rho->R Bool)(m n:Rho->R D):Rho->R D:=fun ρ=>c ρ>>=fun b=>if b=true then m ρ else n ρ
theorem d_if{c a b:Expr}{mc:Rho->R Bool}{m n:Rho->R D}{pos:Pos}(hc:PDT X c mc)(ha:PD X a m)(hb:PD X b n):PD X (.IfExp c a b pos) (ifV mc m n):=
 (Z5a hc ha hb).imp fun σ H Q ⟨G,ρ,hG,hρ,q⟩=>⟨G,ρ,hG,hρ,(DQ.bind q).wk fun c H1 e ⟨c',_,_,rc,q1⟩=>by
  cases rc
  cases c with
  |true=>exact⟨G,ρ,hG.same e,hρ.same e,q1⟩
  |false=>exact⟨G,ρ,hG.same e,hρ.same e,q1⟩⟩
def chn(f g:D->D->R D)(ma mb mc:Rho->R D):Rho->R D:=fun ρ=>ma ρ>>=fun x=>mb ρ>>=fun y=>f x y>>=fun z=>blR z>>=fun k=>if k=true then mc ρ>>=fun w=>g y w else .ok (.bl false)
theorem Z68{a b c:Expr}{f g:D->D->R D}{ma mb mc:Rho->R D}{σ:St}{H:Hp}{Q:VK}(h:tD X (chn f g ma mb mc) σ H Q):
  JA (fun x y H Q=>∃(G:Addr->Prop) (σ:St) (d e:D),Free G H/\Rep X.K G H d x/\Rep X.K G H e y/\DQ X σ (Rep X.K G) H (f d e) Q)
   (fun x y H Q=>∃(G:Addr->Prop) (σ:St) (d e:D),Free G H/\Rep X.K G H d x/\Rep X.K G H e y/\DQ X σ (Rep X.K G) H (g d e) Q) (tD X ma) (tD X mb) (tD X mc) σ H Q:=by
 obtain⟨G,ρ,hG,hρ,q⟩:=h
 refine⟨G,ρ,hG,hρ,(DQ.bind q).wk fun x H1 e1 ⟨d,_,_,rd,q1⟩=>⟨G,ρ,hG.same e1,hρ.same e1,(DQ.bind q1).wk fun y H2 e2 ⟨e,_,_,re,q2⟩=> ?_⟩⟩
 have e12:=e1.trans e2
 refine⟨G,σ,d,e,hG.same e12,rd.same e2,re,(DQ.bind q2).wk fun z H3 e3 ⟨dz,_,_,rz,q3⟩=> ?_⟩
 have e13:=e12.trans e3
 cases dz with
 |bl k=>
  refine⟨k,rz.bl_of,?_⟩
  cases k with
  |false=>exact q3 _ H3 (Same.refl H3) Rep.bl
  |true=>
   refine⟨G,ρ,hG.same e13,hρ.same e13,(DQ.bind (k:=fun w=>g e w) q3).wk fun w H4 e4 ⟨dw,_,_,rw',q4⟩=> ?_⟩
   exact⟨G,σ,e,dw,hG.same (e13.trans e4),re.same (e3.trans e4),rw',q4⟩
 |_=>exact q3.elim
theorem Z99{a b c:Expr}{op op':CmpOp}{f g:D->D->R D}{ma mb mc:Rho->R D}{pos:Pos}(ho:OpD X (compareOp op) f)(ho':OpD X (compareOp op') g)(ha:PD X a ma)(hb:PD X b mb)(hc:PD X c mc)
  (hm:lastMarks [op,op'] [b,c]=false:=by with_unfolding_all rfl):PD X (.Compare a [op,op'] [b,c] pos) (chn f g ma mb mc):=
 (Z5h ho ho' ha hb hc hm).imp fun σ H Q h=>Z68 (a:=a) (b:=b) (c:=c) h
theorem Zc0{f g:D->D->R D}{ma mb mc:Rho->R D}(hg:∀x y d,g x y=.ok d->∃k,d=.bl k){ρ:Rho}{d:D}(h:chn f g ma mb mc ρ=.ok d):∃k,d=.bl k:=by
 unfold chn at h
 cases h1:ma ρ with
 |ok x=>
  cases h2:mb ρ with
  |ok y=>
   rw[h1,h2]at h
   have h:(f x y>>=fun z=>blR z>>=fun k=>if k=true then mc ρ>>=fun w=>g y w else .ok (.bl false))=.ok d:=h
   cases h3:f x y with
   |ok z=>
    rw[h3]at h
    have h:(blR z>>=fun k=>if k=true then mc ρ>>=fun w=>g y w else .ok (.bl false))=.ok d:=h
    cases h4:blR z with
    |ok k=>
     rw[h4]at h
     have h:(if k=true then mc ρ>>=fun w=>g y w else .ok (.bl false))=.ok d:=h
     cases k with
     |false=>cases h;exact⟨_,rfl⟩
     |true=>
      cases h5:mc ρ with
      |ok w=>rw[h5]at h;exact hg _ _ _ h
      |ex c=>rw[h5]at h;cases h
      |bad=>rw[h5]at h;cases h
    |ex c=>rw[h4]at h;cases h
    |bad=>rw[h4]at h;cases h
   |ex c=>rw[h3]at h;cases h
   |bad=>rw[h3]at h;cases h
  |ex c=>rw[h1,h2]at h;cases h
  |bad=>rw[h1,h2]at h;cases h
 |ex c=>rw[h1]at h;cases h
 |bad=>rw[h1]at h;cases h
theorem Z9a{a b c:Expr}{op op':CmpOp}{f g:D->D->R D}{ma mb mc:Rho->R D}{pos:Pos}(ho:OpD X (compareOp op) f)(ho':OpD X (compareOp op') g)(ha:PD X a ma)(hb:PD X b mb)(hc:PD X c mc)
  (hg:∀x y d,g x y=.ok d->∃k,d=.bl k) (hm:lastMarks [op,op'] [b,c]=false:=by with_unfolding_all rfl):PDT X (.Compare a [op,op'] [b,c] pos) (tst (chn f g ma mb mc)):=
 (Z5i ho ho' ha hb hc hm).imp fun σ H Q ⟨G,ρ,hG,hρ,q⟩=>by
  refine Z68 (a:=a) (b:=b) (c:=c) ⟨G,ρ,hG,hρ,(DQ.bind q).wk fun v H1 e ⟨d,ed,_,rd,q1⟩=> ?_⟩
  obtain⟨k,rfl⟩:=Zc0 hg ed
  exact⟨k,rd.bl_of,q1 _ H1 (Same.refl H1) rfl⟩
def nl:Rho->R (List D):=fun _=>.ok []
def cs(m:Rho->R D)(n:Rho->R (List D)):Rho->R (List D):=fun ρ=>m ρ>>=fun d=>n ρ>>=fun ds=>.ok (d::ds)
theorem Z4:PDA X [] nl:=pa_nil.imp fun σ H Q ⟨G,ρ,hG,hρ,q⟩=>q _ H (Same.refl H) RepL.nil
theorem Z0{e:Expr}{es:List Expr}{m:Rho->R D}{n:Rho->R (List D)}(ha:PD X e m)(hr:PDA X es n)(hs:starEach (e::es) X.env=(false,eval e X.env)::starEach es X.env:=by rfl):PDA X (e::es) (cs m n):=
 (Yo ha hr hs).imp fun σ H Q ⟨G,ρ,hG,hρ,q⟩=>⟨G,ρ,hG,hρ,(DQ.bind q).wk fun v H1 e1 ⟨d,_,_,rd,q1⟩=>⟨G,ρ,hG.same e1,hρ.same e1,(DQ.bind q1).wk fun vs H2 e2 ⟨ds,_,_,rds,q2⟩=>
  q2 _ H2 (Same.refl H2) (RepL.cons (rd.same e2) rds)⟩⟩
def tpl(n:Rho->R (List D)):Rho->R D:=fun ρ=>n ρ>>=fun ds=>if ds.length<=sizeLine then .ok (.tup ds)else .bad
theorem Y0{es:List Expr}{n:Rho->R (List D)}{x1}{pos:Pos}(h:PDA X es n):PD X (.Tuple es x1 pos) (tpl n):=
 (Z5m h).imp fun σ H Q ⟨G,ρ,hG,hρ,q⟩=>⟨G,ρ,hG,hρ,(DQ.bind q).wk fun vs H1 e ⟨ds,_,_,rd,q1⟩=>by
  split at q1
  ·rename_i hl
   refine⟨by rw[rd.length];exact hl,fun p hp=> ?_⟩
   have g:=Zv hp (.tup vs)
   exact q1 _ _ g (Rep.tup (SqT.of Zi) (rd.same g))
  ·exact q1.elim⟩
def tN(X:Cx)(m:Rho->R (List D)):TE:=fun σ H Q=>∃(G:Addr->Prop) (ρ:Rho),Free G H/\RepS X.K G H ρ σ/\
 DQ X σ (fun H' ds v=>∃p xs,v=.ref p/\H p=none/\H' p=some (.lst xs)/\RepL X.K (fun a=>G a/\a≠p) H' ds xs) H (m ρ) Q
def PN(X:Cx)(e:Expr)(m:Rho->R (List D)):Prop:=PE X e (tN X m)
def asL(m:Rho->R (List D)):Rho->R D:=fun ρ=>m ρ>>=fun ds=>.ok (.lst ds)
theorem ZD{e:Expr}{m:Rho->R (List D)}(h:PN X e m):PD X e (asL m):=PE.imp h fun σ H Q ⟨G,ρ,hG,hρ,q⟩=>⟨G,ρ,hG,hρ,(DQ.bind q).wk fun v H1 e ⟨ds,_,_,⟨p,xs,ev,hp,h1,r⟩,q1⟩=>by
  subst ev
  exact q1 _ H1 (Same.refl H1) (Rep.lst h1 (hG p hp) (RepL.mono (Same.refl H1) (fun a z=>z.1) _ r))⟩
def lim(n:Rho->R (List D)):Rho->R (List D):=fun ρ=>n ρ>>=fun ds=>if ds.length<=sizeLine then .ok ds else .bad
theorem X4{es:List Expr}{n:Rho->R (List D)}{pos:Pos}(h:PDA X es n):PN X (.List es pos) (lim n):=
 (Z5n h).imp fun σ H Q ⟨G,ρ,hG,hρ,q⟩=>by
  refine⟨G,ρ,hG,hρ,(DQ.bind q).wk fun vs H1 e ⟨ds,_,_,rd,q1⟩=> ?_⟩
  split at q1
  ·rename_i hl
   refine⟨by rw[rd.length];exact hl,fun p hp=> ?_⟩
   have g:=Zv hp (.lst vs)
   exact q1 _ _ g ⟨p,vs,rfl,e.free hp,Zi,(rd.off hp).same g⟩
  ·exact q1.elim
end
end L3
namespace L3
open PySem PySem.Spec L2
open PyProof.Rows hiding St
def ixD:D->D->R D
 | .tup xs, .int i=>match atI xs i with|some d=>.ok d|none=>.bad
 | .lst xs, .int i=>match atI xs i with|some d=>.ok d|none=>.bad
 |_,_=>.bad
theorem RepL.atI{K:PySem.W.Frag}{G:Addr->Prop}{H:Hp}{ds:List D}{xs:List V}(r:RepL K G H ds xs){i:Int}{d:D}(h:L2.atI ds i=some d):∃x,L2.atI xs i=some x/\Rep K G H d x:=by
 unfold L2.atI at h ⊢
 rw[r.length]
 cases e:ixN ds.length i with
 |none=>rw[e]at h;cases h
 |some j=>
  rw[e]at h
  exact r.get h
section
variable{X:Cx}
def IxD(X:Cx)(op:D->D->R D):Prop:=
 IxR X fun x y H Q=>∃(G:Addr->Prop) (σ:St) (d e:D),Free G H/\Rep X.K G H d x/\Rep X.K G H e y/\DQ X σ (Rep X.K G) H (op d e) Q
theorem ixd:IxD X ixD:=by
 intro value slice pins s σ H x y v u Q I rx ry ⟨G,σ',d,e,hG,rd,re,q⟩ hsub
 cases d with
 |tup xs=>
  cases e with
  |int i=>
   obtain⟨a,vs,rfl,h1,r1⟩:=rd.tup_of
   cases re.int_of
   simp only[ixD]at q
   cases ha:atI xs i with
   |none=>rw[ha]at q;exact q.elim
   |some d=>
    rw[ha]at q
    obtain⟨z,hz,rz⟩:=r1.atI ha
    exact ix_tup value slice pins s σ H _ _ v u Q I rx ry ⟨a,vs,i,z,rfl,rfl,h1,hz,q _ H (Same.refl H) rz⟩ hsub
  |_=>exact q.elim
 |lst xs=>
  cases e with
  |int i=>
   obtain⟨a,vs,rfl,h1,r1⟩:=rd.lst_of
   cases re.int_of
   simp only[ixD]at q
   cases ha:atI xs i with
   |none=>rw[ha]at q;exact q.elim
   |some d=>
    rw[ha]at q
    obtain⟨z,hz,rz⟩:=r1.atI ha
    exact Z29 value slice pins s σ H _ _ v u Q I rx ry ⟨a,vs,i,z,rfl,rfl,h1.sq,hz,q _ H (Same.refl H) rz⟩ hsub
  |_=>exact q.elim
 |_=>exact q.elim
theorem ZB{a b:Expr}{ma mb:Rho->R D}{pos:Pos}(ha:PD X a ma)(hb:PD X b mb)(hs:W3 b:=by intro _ _;rfl):PD X (.Subscript a b pos) (bi ixD ma mb):=
 (Z5q ixd ha hb hs).imp fun σ H Q h=>Wk h
def Z9b(xs:List D)(lo hi:Option Int):List D:=(xs.drop (HT.sIx xs.length 0 lo)).take (HT.sIx xs.length xs.length hi - HT.sIx xs.length 0 lo)
def slD:D->Option Int->Option Int->R D
 | .tup xs,lo,hi=>if HT.sIx xs.length 0 lo=0/\HT.sIx xs.length xs.length hi=xs.length then .bad else .ok (.tup (Z9b xs lo hi))
 | .lst xs,lo,hi=>.ok (.lst (Z9b xs lo hi))
 |_,_,_=>.bad
def noP:Rho->R (Option Int):=fun _=>.ok none
def soP(m:Rho->R D):Rho->R (Option Int):=fun ρ=>m ρ>>=fun d=>match d with| .int i=>.ok (some i)|_=>.bad
def sli(m:Rho->R D)(l h:Rho->R (Option Int)):Rho->R D:=fun ρ=>m ρ>>=fun d=>l ρ>>=fun lo=>h ρ>>=fun hi=>slD d lo hi
def tDO(X:Cx)(m:Rho->R (Option Int)):TO:=fun σ H Q=>∃(G:Addr->Prop) (ρ:Rho),Free G H/\RepS X.K G H ρ σ/\DQ X σ (fun _ a b=>b=a) H (m ρ) Q
def PDO(X:Cx)(e:Option Expr)(m:Rho->R (Option Int)):Prop:=PO X e (tDO X m)
theorem _root_.L2.PO.imp{X:Cx}{e:Option Expr}{t t':TO}(h:PO X e t)(i:∀σ H Q,t' σ H Q->t σ H Q):PO X e t':=fun pins s σ H Q I q=>h pins s σ H Q I (i σ H Q q)
theorem Zc1:PDO X none noP:=po_none.imp fun σ H Q ⟨G,ρ,hG,hρ,q⟩=>q _ H (Same.refl H) rfl
theorem Zc2{e:Expr}{m:Rho->R D}(h:PD X e m):PDO X (some e) (soP m):=(Z8u h).imp fun σ H Q ⟨G,ρ,hG,hρ,q⟩=>⟨G,ρ,hG,hρ,(DQ.bind q).wk fun v H1 e ⟨d,_,_,rd,q1⟩=>by
  cases d with
  |int i=>exact⟨i,rd.int_of,q1 _ H1 (Same.refl H1) rfl⟩
  |_=>exact q1.elim⟩
theorem Z69{K:PySem.W.Frag}{G:Addr->Prop}{H:Hp}{ds:List D}{xs:List V}(r:RepL K G H ds xs)(lo hi:Option Int):RepL K G H (Z9b ds lo hi) (V6 xs lo hi):=by
 unfold Z9b V6
 rw[r.length]
 exact(r.drop _).take _
theorem Z9c{e:Expr}{lo hi:Option Expr}{m:Rho->R D}{l h:Rho->R (Option Int)}{pos p2:Pos}(he:PD X e m)(hl:PDO X lo l)(hh:PDO X hi h):PD X (.Subscript e (.Slice lo hi none p2) pos) (sli m l h):=
 (Z5p (sl_tup.or Z8w) he hl hh).imp fun σ H Q ⟨G,ρ,hG,hρ,q⟩=>by
  refine⟨G,ρ,hG,hρ,(DQ.bind q).wk fun v H1 e1 ⟨d,_,_,rd,q1⟩=> ?_⟩
  refine⟨G,ρ,hG.same e1,hρ.same e1,(DQ.bind (rep:=fun _ a b=>b=a) q1).wk fun lo' H2 e2 ⟨lo'',_,_,rl,q2⟩=> ?_⟩
  subst rl
  have e12:=e1.trans e2
  refine⟨G,ρ,hG.same e12,hρ.same e12,(DQ.bind (rep:=fun _ a b=>b=a) q2).wk fun hi' H3 e3 ⟨hi'',_,_,rh,q3⟩=> ?_⟩
  subst rh
  have e23:=e2.trans e3
  have hG3:=hG.same (e12.trans e3)
  cases d with
  |tup xs=>
   obtain⟨a,vs,rfl,h1,r1⟩:=rd.tup_of
   simp only[slD]at q3
   split at q3
   ·exact q3.elim
   ·rename_i hw
    refine .inl ⟨a,vs,rfl,Same.seqT e23 h1,by rw[r1.length];exact hw,fun p hp=> ?_⟩
    have g:=Zv hp (.tup (V6 vs lo' hi'))
    exact q3 _ _ g (Rep.tup (SqT.of Zi) (Z69 ((r1.same e23).same g) _ _))
  |lst xs=>
   obtain⟨a,vs,rfl,h1,r1⟩:=rd.lst_of
   refine .inr ⟨a,vs,rfl,e23.seq h1.sq,fun p hp=> ?_⟩
   have g:=Zv hp (.lst (V6 vs lo' hi'))
   exact q3 _ _ g (Rep.lst Zi (hG3 p hp) (Z69 ((r1.same e23).same g) _ _))
  |_=>exact q3.elim
def Q4(X:Cx)(f:Value)(g:List D->R D):Prop:=
 X2 X f fun xs H Q=>∃(G:Addr->Prop) (σ:St) (ds:List D),Free G H/\RepL X.K G H ds xs/\DQ X σ (Rep X.K G) H (g ds) Q
def ap(g:List D->R D)(n:Rho->R (List D)):Rho->R D:=fun ρ=>n ρ>>=g
theorem Zav{σ:St}{H:Hp}{Q:VK}{g:List D->R D}{n:Rho->R (List D)}(h:tD X (ap g n) σ H Q):
  tDA X n σ H fun xs H1=>∃(G:Addr->Prop) (σ:St) (ds:List D),Free G H1/\RepL X.K G H1 ds xs/\DQ X σ (Rep X.K G) H1 (g ds) Q:=by
 obtain⟨G,ρ,hG,hρ,q⟩:=h
 exact⟨G,ρ,hG,hρ,(DQ.bind q).wk fun xs H1 e ⟨ds,_,_,rd,q1⟩=>⟨G,σ,ds,hG.same e,rd,q1⟩⟩
theorem Zf{x:Str}{p pos:Pos}{e:Expr}{es:List Expr}{id:String}{g:List D->R D}{n:Rho->R (List D)}(hc:Q4 X (.builtin id) g)(hm:X.mg x=none)(hv:bootBuiltins x=some (.builtin id))(ha:PDA X (e::es) n)
  (hg:Gl X x:=by rfl) (hn:x≠"__name__":=by decide) (hdb:(x == ("__debug__":Str))=false:=by decide)
  (he:starEach (e::es) X.env=(false,eval e X.env)::starEach es X.env:=by rfl) (hpl:(backTo pos (starEach es X.env)).any (·.1)=false:=by rfl):PD X (.Call (.Name x p) (e::es) [] pos) (ap g n):=
 (Xn hc hg hm hv ha hn hdb he hpl).imp fun σ H Q h=>Zav h
theorem Zw{x:Str}{p pos:Pos}{e:Expr}{es:List Expr}{T:String}{g:List D->R D}{n:Rho->R (List D)}(hc:Q4 X (.type T) g)(hm:X.mg x=none)(hv:bootBuiltins x=some (.type T))(ha:PDA X (e::es) n)
  (hg:Gl X x:=by rfl) (hn:x≠"__name__":=by decide) (hdb:(x == ("__debug__":Str))=false:=by decide)
  (he:starEach (e::es) X.env=(false,eval e X.env)::starEach es X.env:=by rfl) (hpl:(backTo pos (starEach es X.env)).any (·.1)=false:=by rfl):PD X (.Call (.Name x p) (e::es) [] pos) (ap g n):=
 (Qp hc hg hm hv ha hn hdb he hpl).imp fun σ H Q h=>Zav h
def ZN:List D->R D
 | [.tup xs]=>.ok (.int xs.length)
 | [.lst xs]=>.ok (.int xs.length)
 | [.str x]=>.ok (.int x.length)
 |_=>.bad
theorem ZY{K:PySem.W.Frag}{G:Addr->Prop}{H:Hp}{d:D}{xs:List V}(r:RepL K G H [d] xs):∃x,xs=[x]/\Rep K G H d x:=by
 obtain⟨x,t,rfl,h1,h2⟩:=r.uncons
 rw[h2.nil_of]
 exact⟨x,rfl,h1⟩
theorem JI(ds:List D):ZN ds=.bad\/(∃ys,ds=[.tup ys])\/(∃ys,ds=[.lst ys])\/∃y,ds=[.str y]:=by
 unfold ZN
 split
 ·exact .inr (.inl ⟨_,rfl⟩)
 ·exact .inr (.inr (.inl ⟨_,rfl⟩))
 ·exact .inr (.inr (.inr ⟨_,rfl⟩))
 ·exact .inl rfl
theorem Zu:Q4 X (.builtin "len") ZN:=by
 intro pins s σ H xs us Q I r ⟨G,σ',ds,hG,rd,q⟩
 rcases JI ds with h|⟨ys,rfl⟩|⟨ys,rfl⟩|⟨y,rfl⟩
 ·rw[h]at q;exact q.elim
 ·obtain⟨x,rfl,rx⟩:=ZY rd
  obtain⟨a,vs,rfl,h1,r1⟩:=rx.tup_of
  exact Q1 pins s σ H _ us Q I r ⟨a,vs,rfl, .inr h1,by rw[r1.length];exact q _ H (Same.refl H) Rep.int⟩
 ·obtain⟨x,rfl,rx⟩:=ZY rd
  obtain⟨a,vs,rfl,h1,r1⟩:=rx.lst_of
  exact Q1 pins s σ H _ us Q I r ⟨a,vs,rfl, .inl h1.sq,by rw[r1.length];exact q _ H (Same.refl H) Rep.int⟩
 ·obtain⟨x,rfl,rx⟩:=ZY rd
  simp only[Rep]at rx
  obtain⟨rfl,h1,_⟩:=rx
  exact VS pins s σ H _ us Q I r ⟨y,rfl,h1,q _ H (Same.refl H) Rep.int⟩
def Yx:List D->R D
 | [.tup xs]=>.ok (.tup xs)
 | [.lst xs]=>.ok (.tup xs)
 |_=>.bad
theorem JJ(ds:List D):Yx ds=.bad\/(∃ys,ds=[.tup ys])\/∃ys,ds=[.lst ys]:=by
 unfold Yx
 split
 ·exact .inr (.inl ⟨_,rfl⟩)
 ·exact .inr (.inr ⟨_,rfl⟩)
 ·exact .inl rfl
theorem ZZ:Q4 X (.type "tuple") Yx:=by
 intro pins s σ H xs us Q I r ⟨G,σ',ds,hG,rd,q⟩
 rcases JJ ds with h|⟨ys,rfl⟩|⟨ys,rfl⟩
 ·rw[h]at q;exact q.elim
 ·obtain⟨x,rfl,rx⟩:=ZY rd
  obtain⟨a,vs,rfl,h1,r1⟩:=rx.tup_of
  exact XH pins s σ H _ us Q I r ⟨a,vs,rfl, .inr ⟨h1,q _ H (Same.refl H) (Rep.tup h1 r1)⟩⟩
 ·obtain⟨x,rfl,rx⟩:=ZY rd
  obtain⟨a,vs,rfl,h1,r1⟩:=rx.lst_of
  refine XH pins s σ H _ us Q I r ⟨a,vs,rfl, .inl ⟨h1.sq,fun p hp=> ?_⟩⟩
  have g:=Zv hp (.tup vs)
  exact q _ _ g (Rep.tup (SqT.of Zi) (r1.same g))
def Uu(X:Cx)(f:Value)(g:List D->R (List D)):Prop:=
 X2 X f fun xs H Q=>∃(G:Addr->Prop) (σ:St) (ds:List D),Free G H/\RepL X.K G H ds xs/\DQ X σ (fun H' ds v=>∃p xs,v=.ref p/\H p=none/\H' p=some (.lst xs)/\RepL X.K (fun a=>G a/\a≠p) H' ds xs) H (g ds) Q
def apN(g:List D->R (List D))(n:Rho->R (List D)):Rho->R (List D):=fun ρ=>n ρ>>=g
theorem Z6a{σ:St}{H:Hp}{Q:VK}{g:List D->R (List D)}{n:Rho->R (List D)}(h:tN X (apN g n) σ H Q):
  tDA X n σ H fun xs H1=>∃(G:Addr->Prop) (σ:St) (ds:List D),Free G H1/\RepL X.K G H1 ds xs/\DQ X σ (fun H' ds v=>∃p xs,v=.ref p/\H1 p=none/\H' p=some (.lst xs)/\RepL X.K (fun a=>G a/\a≠p) H' ds xs) H1 (g ds) Q:=by
 obtain⟨G,ρ,hG,hρ,q⟩:=h
 refine⟨G,ρ,hG,hρ,(DQ.bind q).wk fun xs H1 e ⟨ds,_,_,rd,q1⟩=>⟨G,σ,ds,hG.same e,rd,?_⟩⟩
 cases hg:g ds with
 |ok es=>rw[hg]at q1;exact fun v H2 e2 ⟨p,zs,ev,hp,h2,r2⟩=>q1 v H2 e2 ⟨p,zs,ev,e.free hp,h2,r2⟩
 |ex c=>rw[hg]at q1;exact q1
 |bad=>rw[hg]at q1;exact q1.elim
theorem Z2k{x:Str}{p pos:Pos}{e:Expr}{es:List Expr}{id:String}{g:List D->R (List D)}{n:Rho->R (List D)}(hc:Uu X (.builtin id) g)(hm:X.mg x=none)(hv:bootBuiltins x=some (.builtin id))(ha:PDA X (e::es) n)
  (hg:Gl X x:=by rfl) (hn:x≠"__name__":=by decide) (hdb:(x == ("__debug__":Str))=false:=by decide)
  (he:starEach (e::es) X.env=(false,eval e X.env)::starEach es X.env:=by rfl) (hpl:(backTo pos (starEach es X.env)).any (·.1)=false:=by rfl):PN X (.Call (.Name x p) (e::es) [] pos) (apN g n):=
 (Xn hc hg hm hv ha hn hdb he hpl).imp fun σ H Q h=>Z6a h
theorem Z6b{x:Str}{p pos:Pos}{e:Expr}{es:List Expr}{T:String}{g:List D->R (List D)}{n:Rho->R (List D)}(hc:Uu X (.type T) g)(hm:X.mg x=none)(hv:bootBuiltins x=some (.type T))(ha:PDA X (e::es) n)
  (hg:Gl X x:=by rfl) (hn:x≠"__name__":=by decide) (hdb:(x == ("__debug__":Str))=false:=by decide)
  (he:starEach (e::es) X.env=(false,eval e X.env)::starEach es X.env:=by rfl) (hpl:(backTo pos (starEach es X.env)).any (·.1)=false:=by rfl):PN X (.Call (.Name x p) (e::es) [] pos) (apN g n):=
 (Qp hc hg hm hv ha hn hdb he hpl).imp fun σ H Q h=>Z6a h
def VX:List D->R (List D)
 | [.tup xs]=>.ok xs
 | [.lst xs]=>.ok xs
 |_=>.bad
theorem JK(ds:List D):VX ds=.bad\/(∃ys,ds=[.tup ys]/\VX ds=.ok ys)\/∃ys,ds=[.lst ys]/\VX ds=.ok ys:=by
 unfold VX
 split
 ·exact .inr (.inl ⟨_,rfl,rfl⟩)
 ·exact .inr (.inr ⟨_,rfl,rfl⟩)
 ·exact .inl rfl
theorem Z9d:Uu X (.type "list") VX:=by
 intro pins s σ H xs us Q I r ⟨G,σ',ds,hG,rd,q⟩
 rcases JK ds with e|⟨ys,e0,e⟩|⟨ys,e0,e⟩<;>rw[e]at q
 ·exact q.elim
 ·rw[e0]at rd
  obtain⟨x,rfl,rx⟩:=ZY rd
  obtain⟨a,vs,rfl,h1,r1⟩:=rx.tup_of
  refine Q2 pins s σ H _ us Q I r ⟨a,vs,rfl, .inr h1,fun p hp=> ?_⟩
  have g:=Zv hp (.lst vs)
  exact q _ _ g ⟨p,vs,rfl,hp,Zi,(r1.off hp).same g⟩
 ·rw[e0]at rd
  obtain⟨x,rfl,rx⟩:=ZY rd
  obtain⟨a,vs,rfl,h1,r1⟩:=rx.lst_of
  refine Q2 pins s σ H _ us Q I r ⟨a,vs,rfl, .inl h1.sq,fun p hp=> ?_⟩
  have g:=Zv hp (.lst vs)
  exact q _ _ g ⟨p,vs,rfl,hp,Zi,(r1.off hp).same g⟩
def bls:List D->Option (List Bool)
 | []=>some []
 | .bl b::ds=>(bls ds).map (b:: ·)
 |_=>none
theorem JL{K:PySem.W.Frag}{G:Addr->Prop}{H:Hp}:∀{ds:List D} {bs:List Bool} {xs:List V} {us:List Value},bls ds=some bs->RepL K G H ds xs->Vals xs us->LSm.BoolsAre us bs
 | [],bs,xs,us,e,r,rv=>by
  cases e
  rw[r.nil_of]at rv
  cases rv
  exact .nil
 | .bl b::ds,bs,xs,us,e,r,rv=>by
  obtain⟨x,t,rfl,h1,h2⟩:=r.uncons
  cases h1.bl_of
  cases rv with
  |cons r1 r2=>
   simp only[bls]at e
   cases hb:bls ds with
   |none=>rw[hb]at e;cases e
   |some bs'=>
    rw[hb]at e
    cases e
    cases r1
    exact .cons b (JL hb h2 r2)
 | .non::_,_,_,_,e,_,_=>by cases e
 | .int _::_,_,_,_,e,_,_=>by cases e
 | .str _::_,_,_,_,e,_,_=>by cases e
 | .tup _::_,_,_,_,e,_,_=>by cases e
 | .lst _::_,_,_,_,e,_,_=>by cases e
def Q5:List D->R D
 | [.lst xs]=>match bls xs with|some bs=>.ok (.bl (bs.all id))|none=>.bad
 |_=>.bad
def Uv:List D->R D
 | [.lst xs]=>match bls xs with|some bs=>.ok (.bl (bs.any id))|none=>.bad
 |_=>.bad
theorem JM(ds:List D):Q5 ds=.bad\/∃ys,ds=[.lst ys]:=by
 unfold Q5
 split
 ·exact .inr ⟨_,rfl⟩
 ·exact .inl rfl
theorem Ws(hh:X.A.handled=none):Q4 X (.builtin "all") Q5:=by
 intro pins s σ H xs us Q I r ⟨G,σ',ds,hG,rd,q⟩
 rcases JM ds with h|⟨ys,rfl⟩
 ·rw[h]at q;exact q.elim
 ·obtain⟨x,rfl,rx⟩:=ZY rd
  obtain⟨a,vs,rfl,h1,r1⟩:=rx.lst_of
  obtain⟨u,rfl,ru⟩:=YE r
  cases ru
  simp only[Q5]at q
  cases hb:bls ys with
  |none=>rw[hb]at q;exact q.elim
  |some bs=>
   rw[hb]at q
   obtain⟨its,rv,pl,hz⟩:=I.list h1.sq
   have hB:=JL hb r1 rv
   have hl:=pl.isList
   have hlt:a<s.heap.objs.size:=by obtain⟨_,e,_⟩:=hl;exact Heap.lt_size e
   refine call_all_walk (wpAny_pyIter_list hl ?_)
   refine⟨s.heap.objs.size,[s.heap.objs.size,a],[s.heap.objs.size],its.toArray.size,_,_,fun i=>(bs[i]?).getD true,rfl,Walks.list (A:=X.A.in1) hh _ a (Nat.ne_of_lt hlt) its.toArray,
    ⟨⟨_,Heap.get?_push_size _ rfl,rfl,rfl⟩,hl.push _⟩,fun i v s' Q' E' hP hQ=> ?_,fun h' tk hk=> ?_⟩
   ·obtain⟨b,e,rfl⟩:=hB.get i v (by simpa using hP)
    simp only[e,Option.getD_some]at hQ
    exact wpAny_truthy_bool hQ
   ·have e:((List.range its.toArray.size).all fun i=>(bs[i]?).getD true)=bs.all id:=by
     rw[List.size_toArray,hB.length];exact LSm.range_all bs
    rw[e]
    exact⟨.bl _,H,I.kept (t':=tk) (LSm.kept_iter hk),rfl,q _ H (Same.refl H) Rep.bl⟩
theorem JN(ds:List D):Uv ds=.bad\/∃ys,ds=[.lst ys]:=by
 unfold Uv
 split
 ·exact .inr ⟨_,rfl⟩
 ·exact .inl rfl
theorem Z6c(hh:X.A.handled=none):Q4 X (.builtin "any") Uv:=by
 intro pins s σ H xs us Q I r ⟨G,σ',ds,hG,rd,q⟩
 rcases JN ds with h|⟨ys,rfl⟩
 ·rw[h]at q;exact q.elim
 ·obtain⟨x,rfl,rx⟩:=ZY rd
  obtain⟨a,vs,rfl,h1,r1⟩:=rx.lst_of
  obtain⟨u,rfl,ru⟩:=YE r
  cases ru
  simp only[Uv]at q
  cases hb:bls ys with
  |none=>rw[hb]at q;exact q.elim
  |some bs=>
   rw[hb]at q
   obtain⟨its,rv,pl,hz⟩:=I.list h1.sq
   have hB:=JL hb r1 rv
   have hl:=pl.isList
   have hlt:a<s.heap.objs.size:=by obtain⟨_,e,_⟩:=hl;exact Heap.lt_size e
   refine call_any_walk (wpAny_pyIter_list hl ?_)
   refine⟨s.heap.objs.size,[s.heap.objs.size,a],[s.heap.objs.size],its.toArray.size,_,_,fun i=>(bs[i]?).getD false,rfl,Walks.list (A:=X.A.in1) hh _ a (Nat.ne_of_lt hlt) its.toArray,
    ⟨⟨_,Heap.get?_push_size _ rfl,rfl,rfl⟩,hl.push _⟩,fun i v s' Q' E' hP hQ=> ?_,fun h' tk hk=> ?_⟩
   ·obtain⟨b,e,rfl⟩:=hB.get i v (by simpa using hP)
    simp only[e,Option.getD_some]at hQ
    exact wpAny_truthy_bool hQ
   ·have e:((List.range its.toArray.size).any fun i=>(bs[i]?).getD false)=bs.any id:=by
     rw[List.size_toArray,hB.length];exact LSm.range_any bs
    rw[e]
    exact⟨.bl _,H,I.kept (t':=tk) (LSm.kept_iter hk),rfl,q _ H (Same.refl H) Rep.bl⟩
inductive Ty where
 |tuple|list|int|bool|str|dict
def Ty.nm:Ty->String
 | .tuple=>"tuple"| .list=>"list"| .int=>"int"| .bool=>"bool"| .str=>"str"| .dict=>"dict"
def isT:Ty->D->Bool
 | .tuple, .tup _=>true
 | .list, .lst _=>true
 | .int, .int _=>true
 | .int, .bl _=>true
 | .bool, .bl _=>true
 | .str, .str _=>true
 |_,_=>false
theorem Z6d{A:Around}{E:Value->Shared->Prop}{pins:List (Addr×Obj)}{σ:St}{H:Hp}{s:Shared}{G:Addr->Prop}{d:D}{v:V}{u:Value}{Q:Value->Shared->Prop}(I:Inv X pins σ H s)(hn:opq d=false)(rd:Rep X.K G H d v)(rv:RelV v u)(T:Ty)
  (h:∀tk,Q (.bool (isT T d)) {s with toks:=tk}):wpAny (model X.prog X.w) A (call (.builtin "isinstance") [u, .type T.nm]) Q E s:=by
 cases d with
 |exc c=>cases hn
 |dct c=>cases hn
 |non=>
  simp only[Rep]at rd;subst rd;cases rv
  cases T
  ·exact IsiPair.NoneType_tuple (h _)
  ·exact IsiPair.NoneType_list (h _)
  ·exact IsiPair.NoneType_int (h _)
  ·exact IsiPair.NoneType_bool (h _)
  ·exact IsiPair.NoneType_str (h _)
  ·exact IsiPair.NoneType_dict (h _)
 |bl b=>
  cases rd.bl_of;cases rv
  cases T
  ·exact IsiPair.bool_tuple (h _)
  ·exact IsiPair.bool_list (h _)
  ·exact IsiPair.bool_int (h s.toks)
  ·exact IsiPair.bool_bool (h s.toks)
  ·exact IsiPair.bool_str (h _)
  ·exact IsiPair.bool_dict (h _)
 |int b=>
  cases rd.int_of;obtain⟨t,rfl⟩:=rv
  cases T
  ·exact IsiPair.int_tuple (h _)
  ·exact IsiPair.int_list (h _)
  ·exact IsiPair.int_int (h s.toks)
  ·exact IsiPair.int_bool (h _)
  ·exact IsiPair.int_str (h _)
  ·exact IsiPair.int_dict (h _)
 |str b=>
  simp only[Rep]at rd;obtain⟨rfl,_⟩:=rd;obtain⟨t,rfl⟩:=rv
  cases T
  ·exact IsiPair.str_tuple (h _)
  ·exact IsiPair.str_list (h _)
  ·exact IsiPair.str_int (h _)
  ·exact IsiPair.str_bool (h _)
  ·exact IsiPair.str_str (h s.toks)
  ·exact IsiPair.str_dict (h _)
 |tup b=>
  obtain⟨a,xs,rfl,h1,_⟩:=rd.tup_of
  cases rv
  obtain⟨its,r,⟨o,e,c,_⟩,_⟩:=I.tuple h1
  cases T
  ·exact IsiPair.tuple_tuple e c (h s.toks)
  ·exact IsiPair.tuple_list e c (h _)
  ·exact IsiPair.tuple_int e c (h _)
  ·exact IsiPair.tuple_bool e c (h _)
  ·exact IsiPair.tuple_str e c (h _)
  ·exact IsiPair.tuple_dict e c (h _)
 |lst b=>
  obtain⟨a,xs,rfl,h1,_⟩:=rd.lst_of
  cases rv
  obtain⟨its,r,⟨o,n,e,c,_⟩,_⟩:=I.list h1.sq
  cases T
  ·exact IsiPair.list_tuple e c (h _)
  ·exact IsiPair.list_list e c (h s.toks)
  ·exact IsiPair.list_int e c (h _)
  ·exact IsiPair.list_bool e c (h _)
  ·exact IsiPair.list_str e c (h _)
  ·exact IsiPair.list_dict e c (h _)
def isiR(T:Ty)(K:PySem.W.Frag):List V->Hp->VK->Prop:=fun xs H Q=>∃(G:Addr->Prop) (d:D) (x:V),xs=[x, .ty T.nm]/\opq d=false/\Rep K G H d x/\Q (.bl (isT T d)) H
theorem Zc3(T:Ty):X2 X (.builtin "isinstance") (isiR T X.K):=by
 intro pins s σ H xs us Q I r ⟨G,d,x,e,hn,rd,q⟩
 subst e
 obtain⟨u,w',rfl,r1,r2⟩:=Z25 r
 cases r2
 exact Z6d I hn rd r1 T fun tk=>⟨.bl _,H,I.tok tk,rfl,q⟩
def Q6(T:Ty):D->R D
 | .exc _=>.bad
 | .dct _=>.bad
 |d=>.ok (.bl (isT T d))
theorem Z2l{a:Expr}{m:Rho->R D}{y:Str}{p p2 pos:Pos}(T:Ty)(ha:PD X a m)(hm:X.mg "isinstance"=none)(hmy:X.mg y=none)(hvy:bootBuiltins y=some (.type T.nm))(hgy:Gl X y:=by rfl)
  (hg:Gl X "isinstance":=by rfl) (hse:starEach [a, .Name y p2] X.env=(false,eval a X.env)::starEach [.Name y p2] X.env:=by rfl) (hny:y≠"__name__":=by decide) (hdy:(y == ("__debug__":Str))=false:=by decide):
  PD X (.Call (.Name "isinstance" p) [a, .Name y p2] [] pos) (un (Q6 T) m):=by
 refine(Xn (he:=hse) (Zc3 T) hg hm PyProof.Rows.boot_isinstance (Yo (hs:=hse) ha (Yo (Z8l (v:=.ty T.nm) hgy hmy hvy rfl hny hdy) pa_nil))).imp fun σ H Q ⟨G,ρ,hG,hρ,q⟩=> ?_
 refine⟨G,ρ,hG,hρ,(DQ.bind q).wk fun v H1 e ⟨d,_,_,rd,q1⟩=> ?_⟩
 cases d with
 |exc c=>exact q1.elim
 |dct c=>exact q1.elim
 |_=>exact⟨G,_,v,rfl,rfl,rd,q1 _ H1 (Same.refl H1) Rep.bl⟩
end
end L3
namespace L3
open PySem PySem.Spec L2
open PyProof.Rows hiding St
theorem Qu:∀(names:List (Str×NameKind)) (n:Nat) (acc:List (Str×Addr)),(∀p∈acc,p.2<n)->∀p q,p∈cellsFrom n names acc->q∈cellsFrom n names acc->p.2=q.2->p=q\/(p∈acc/\q∈acc)
 | [],_,_,_,_,_,h1,h2,_=>.inr ⟨h1,h2⟩
 |(x,k)::r,n,acc,ha,p,q,h1,h2,e=>by
  unfold cellsFrom at h1 h2
  split at h1
  ·rename_i hk
   rw[if_pos hk]at h2
   have ha':∀p∈(x,n)::acc,p.2<n+1:=fun p hp=>by
    rcases List.mem_cons.mp hp with rfl|hp
    ·exact Nat.lt_succ_self _
    ·exact Nat.lt_succ_of_lt (ha p hp)
   rcases Qu r (n+1) _ ha' p q h1 h2 e with z|⟨z1,z2⟩
   ·exact .inl z
   ·rcases List.mem_cons.mp z1 with rfl|z1<;>rcases List.mem_cons.mp z2 with rfl|z2
    ·exact .inl rfl
    ·exact absurd (show q.2<q.2 from Nat.lt_of_lt_of_eq (ha q z2) e) (Nat.lt_irrefl _)
    ·exact absurd (show p.2<p.2 from Nat.lt_of_lt_of_eq (ha p z1) e.symm) (Nat.lt_irrefl _)
    ·exact .inr ⟨z1,z2⟩
  ·rename_i hk
   rw[if_neg hk]at h2
   exact Qu r n acc ha p q h1 h2 e
theorem Xu{x:Str}{c:Addr}:∀(names:List (Str×NameKind)) (n:Nat) (acc:List (Str×Addr)),(cellsFrom n names acc).lookup x=some c->n<=c\/(acc.lookup x=some c/\(x,NameKind.cell)∉names)
 | [],_,_,e=>.inr ⟨e,by simp⟩
 |(y,k)::r,n,acc,e=>by
  unfold cellsFrom at e
  split at e
  ·rename_i hk
   rcases Xu r (n+1) _ e with q|⟨q1,q2⟩
   ·exact .inl (Nat.le_of_succ_le q)
   ·rw[List.lookup_cons]at q1
    cases hxy:x == y with
    |true=>rw[hxy]at q1;cases q1;exact .inl (Nat.le_refl _)
    |false=>
     rw[hxy]at q1
     refine .inr ⟨q1,fun hm=> ?_⟩
     rcases List.mem_cons.mp hm with z|z
     ·cases z;simp at hxy
     ·exact q2 z
  ·rename_i hk
   rcases Xu r n acc e with q|⟨q1,q2⟩
   ·exact .inl q
   ·refine .inr ⟨q1,fun hm=> ?_⟩
    rcases List.mem_cons.mp hm with z|z
    ·cases z;simp at hk
    ·exact q2 z
theorem Qv{x:Str}:∀(names:List (Str×NameKind)) (n:Nat) (acc:List (Str×Addr)),(x,NameKind.cell)∉names->(cellsFrom n names acc).lookup x=acc.lookup x
 | [],_,_,_=>rfl
 |(y,k)::r,n,acc,h=>by
  unfold cellsFrom
  split
  ·rename_i hk
   have hk':k=.cell:=by simpa using hk
   subst hk'
   have hxy:(x == y)=false:=by
    cases hb:x == y with
    |false=>rfl
    |true=>exact absurd (by rw[beq_iff_eq.mp hb];exact List.mem_cons_self) h
   rw[Qv r (n+1) _ fun z=>h (List.mem_cons_of_mem _ z),List.lookup_cons,hxy]
  ·exact Qv r n acc fun z=>h (List.mem_cons_of_mem _ z)
theorem Qw:∀(names:List (Str×NameKind)) (h:Heap) (acc:List (Str×Addr)) (p:Str×Addr),p∈cellsFrom h.objs.size names acc->p∈acc\/(pushCells h names).IsCell p.2 none
 | [],_,_,_,hp=>.inl hp
 |(y,k)::r,h,acc,p,hp=>by
  unfold cellsFrom at hp
  unfold pushCells
  split at hp
  ·rename_i hk
   rw[if_pos hk]
   have e:h.objs.size+1=(h.push {cls:=.type "cell",data:=.cell none}).objs.size:=(Heap.size_push ..).symm
   rw[e]at hp
   rcases Qw r _ _ p hp with q|q
   ·rcases List.mem_cons.mp q with rfl|q
    ·exact .inr ⟨_,pushCells_keeps r _ _ _ (Heap.get?_push_size _ rfl),rfl⟩
    ·exact .inl q
   ·exact .inr q
  ·rename_i hk
   rw[if_neg hk]
   exact Qw r h acc p hp
theorem Wt{scope:Scope}{env:Env}(h:∀y∈scope.names,y.2=.free->∃c,env.cells.lookup y.1=some c):
  ∃cl,closureFor scope env=pure cl/\(∀p∈cl,env.cells.lookup p.1=some p.2)/\∀x,(x,NameKind.free)∈scope.names->cl.lookup x=env.cells.lookup x:=by
 have go:∀(names:List (Str×NameKind)) (acc:List (Str×Addr)),(∀y∈names,y.2=.free->∃c,env.cells.lookup y.1=some c)->(∀p∈acc,env.cells.lookup p.1=some p.2)->
   ∃cl,(forIn names acc fun(y:Str×NameKind) (cs:List (Str×Addr))=>(if y.2 == .free then do let a←cellOf env y.1;pure (ForInStep.yield ((y.1,a)::cs))else pure (ForInStep.yield cs):Sem (ForInStep (List (Str×Addr)))))=pure cl/\
    (∀p∈cl,env.cells.lookup p.1=some p.2)/\(∀x,(x,NameKind.free)∈names->cl.lookup x=env.cells.lookup x)/\∀x c,acc.lookup x=some c->cl.lookup x=some c:=by
  intro names
  induction names with
  |nil=>intro acc _ ha;exact⟨acc,rfl,ha,(fun x hx=>absurd hx (by simp)),fun _ _ e=>e⟩
  |cons y r ih=>
   intro acc hy ha
   rw[List.forIn_cons]
   by_cases hk:(y.2 == .free)=true
   ·obtain⟨c,hc⟩:=hy y List.mem_cons_self (by simpa using hk)
    have e1:cellOf env y.1=pure c:=by unfold cellOf;rw[hc]
    rw[if_pos hk,e1]
    obtain⟨cl,q1,q2,q3,q4⟩:=ih ((y.1,c)::acc) (fun z hz=>hy z (List.mem_cons_of_mem _ hz)) (fun p hp=>by
     rcases List.mem_cons.mp hp with rfl|hp
     ·exact hc
     ·exact ha p hp)
    refine⟨cl,?_,q2,fun x hx=> ?_,fun x c' e=> ?_⟩
    ·simp only[pure_bind]
     exact q1
    ·rcases List.mem_cons.mp hx with z|z
     ·have z1:x=y.1:=congrArg Prod.fst z
      subst z1
      rw[q4 y.1 c (by simp[List.lookup_cons]),hc]
     ·exact q3 x z
    ·by_cases hxy:x=y.1
     ·subst hxy
      have a:=ha (y.1,c') (mem_of_lookup e)
      have a':env.cells.lookup y.1=some c':=a
      rw[hc]at a'
      cases a'
      exact q4 y.1 c (by simp[List.lookup_cons])
     ·have hb:(x == y.1)=false:=by simpa using hxy
      exact q4 x c' (by rw[List.lookup_cons,hb];exact e)
   ·rw[if_neg hk]
    obtain⟨cl,q1,q2,q3,q4⟩:=ih acc (fun z hz=>hy z (List.mem_cons_of_mem _ hz)) ha
    refine⟨cl,?_,q2,fun x hx=> ?_,q4⟩
    ·simp only[pure_bind]
     exact q1
    ·rcases List.mem_cons.mp hx with z|z
     ·have z2:NameKind.free=y.2:=congrArg Prod.snd z
      exact absurd (by rw[←z2];rfl) hk
     ·exact q3 x z
 obtain⟨cl,q1,q2,q3,_⟩:=go scope.names [] h (fun p hp=>by cases hp)
 refine⟨cl,?_,q2,q3⟩
 unfold closureFor
 have e:(forIn scope.names ([]:List (Str×Addr)) fun x r=>(match x with|(name,kind)=>if(kind == NameKind.free)=true then do let a←cellOf env name;pure (ForInStep.yield ((name,a)::r))else pure (ForInStep.yield r):Sem (ForInStep (List (Str×Addr)))))=pure cl:=q1
 first
  |(rw[e];rfl)
  |(simp only[bind_pure];exact e)
  |exact e
def benv(scope:Scope)(cl:List (Str×Addr))(C:Addr)(env:Env):Env:=
 {scope:=relabel scope env,locals:=C,globals:=env.globals,cells:=cellsFrom (C+1) scope.names cl,qual:=env.qual,func:=none,code:=env.code,frame:=env.frame,builtins:=env.builtins}
theorem Z6e{M:Model}{A:Around}{E:Value->Shared->Prop}{s:Shared}{scope:Scope}{globals:Addr}{cl:List (Str×Addr)}{qual:Str}{env:Env}{Q:Env->Shared->Prop}
  (h:Q {scope:=scope,locals:=s.heap.objs.size,globals:=globals,cells:=cellsFrom (s.heap.objs.size+1) scope.names cl,qual:=qual,func:=none,code:=env.code,frame:=env.frame,builtins:=env.builtins}
   {s with heap:=pushCells (s.heap.push {cls:=.type "dict",data:=.dict #[]}) scope.names}):
  wpAny M A (newFunctionEnv scope globals cl [] qual none .none (some env)) Q E s:=by
 simp only[newFunctionEnv,Option.isSome_some,if_true]
 refine wpAny_bind (wpAny_alloc ?_)
 refine wpAny_bind (wpAny_layCells _ (fun name kind cells=>by cases hkc:kind == NameKind.cell<;>simp[hkc]) _ _ _ _ ?_)
 rw[show({s with heap:=s.heap.push {cls:=.type "dict",data:=.dict #[]}}:Shared).heap.objs.size=s.heap.objs.size+1 from Heap.size_push ..]
 simp only[List.forIn_nil]
 exact wpAny_bind (wpAny_pure (wpAny_pure h))
theorem Xa{scope:Scope}{env:Env}:∀{names:List (Str×NameKind)} {x:Str} {k:NameKind},
  (names.map fun(n,k)=>if(k == NameKind.free&&env.scope.kind == .function&&env.kindOf n == some .cell)then(n,NameKind.cell)else(n,k)).lookup x=some k->
  ∃k',names.lookup x=some k'/\(k=k'\/(k=.cell/\k'=.free))
 | [],_,_,h=>by simp at h
 |(n,k0)::r,x,k,h=>by
  rw[List.map_cons]at h
  by_cases hc:(k0 == NameKind.free&&env.scope.kind == .function&&env.kindOf n == some .cell)=true
  ·simp only[hc,if_true,List.lookup_cons]at h ⊢
   cases hx:x == n with
   |true=>
    rw[hx]at h
    cases h
    have:k0=.free:=by
     rw[Bool.and_eq_true,Bool.and_eq_true]at hc
     simpa using hc.1.1
    exact⟨k0,rfl, .inr ⟨rfl,this⟩⟩
   |false=>rw[hx]at h;exact Xa (scope:=scope) h
  ·simp only[hc,if_false,Bool.false_eq_true,List.lookup_cons]at h ⊢
   cases hx:x == n with
   |true=>rw[hx]at h;cases h;exact⟨k0,rfl, .inl rfl⟩
   |false=>rw[hx]at h;exact Xa (scope:=scope) h
theorem Xb{scope:Scope}{env:Env}{x:Str}:∀{names:List (Str×NameKind)},names.lookup x=some .free->
  (names.map fun(n,k)=>if(k == NameKind.free&&env.scope.kind == .function&&env.kindOf n == some .cell)then(n,NameKind.cell)else(n,k)).lookup x=some .cell\/
  (names.map fun(n,k)=>if(k == NameKind.free&&env.scope.kind == .function&&env.kindOf n == some .cell)then(n,NameKind.cell)else(n,k)).lookup x=some .free
 | [],h=>by simp at h
 |(n,k0)::r,h=>by
  rw[List.map_cons]
  by_cases hc:(k0 == NameKind.free&&env.scope.kind == .function&&env.kindOf n == some .cell)=true
  ·simp only[hc,if_true,List.lookup_cons]at h ⊢
   cases hx:x == n with
   |true=>exact .inl rfl
   |false=>rw[hx]at h;exact Xb (scope:=scope) h
  ·simp only[hc,if_false,Bool.false_eq_true,List.lookup_cons]at h ⊢
   cases hx:x == n with
   |true=>rw[hx]at h;cases h;exact .inr rfl
   |false=>rw[hx]at h;exact Xb (scope:=scope) h
end L3
namespace L3
open PySem PySem.Spec L2
open PyProof.Rows hiding St
def blk(X:Cx)(N':List Str)(scope:Scope)(cl:List (Str×Addr))(C:Addr)(s:Shared)(H:Hp)(fp:List Addr):Cx where
 prog:=X.prog
 w:=X.w
 K:=X.K
 mg:=X.mg
 base:=X.base
 A:=X.A
 N:=N'
 s₀:=s
 H₀:=H
 env:=benv scope cl C X.env
 outer:=X.stack
 stack:=X.stack
 ex:=fp
 fn:=fun x=>scope.names.lookup x == some .cell
 calm:=X.calm
 pn:=[]
 xe:=fun _ _=>False
structure CompOk(X:Cx)(scope:Scope)(N':List Str)(k:Nat)(js:List Nat):Prop where
 kind:scope.kind=.function
 loc:∀y∈scope.names,y.2=.local->scope.names.lookup y.1=some .local
 fre:∀y∈scope.names,y.2=.free->X.env.scope.names.lookup y.1=some .cell\/X.env.scope.names.lookup y.1=some .free
 len:N'.length=k+js.length
 cap:∀i j,js[i]? =some j->∃x,N'[k+i]? =some x/\X.N[j]? =some x/\scope.names.lookup x=some .free/\(x,NameKind.cell)∉scope.names
def Vk(osc:Scope)(N:List Str)(scope:Scope)(N':List Str)(k:Nat)(js:List Nat):Bool:=
 scope.kind == .function&&scope.names.all (fun y=>y.2 != .local || scope.names.lookup y.1 == some .local)&&scope.names.all (fun y=>y.2 != .free || osc.names.lookup y.1 == some .cell || osc.names.lookup y.1 == some .free)&&
  N'.length == k+js.length&&js.zipIdx.all fun p=>match N'[k+p.2]?,N[p.1]? with
   |some x,some y=>x == y&&scope.names.lookup x == some .free&&scope.names.all fun z=>z.1 != x || z.2 != .cell
   |_,_=>false
theorem Vl{X:Cx}{scope:Scope}{N':List Str}{k:Nat}{js:List Nat}(h:Vk X.env.scope X.N scope N' k js=true):CompOk X scope N' k js:=by
 unfold Vk at h
 simp only[Bool.and_eq_true]at h
 obtain⟨⟨⟨⟨h1,h2⟩,h3⟩,h4⟩,h5⟩:=h
 refine⟨by simpa using h1,fun y hy hk=> ?_,fun y hy hk=> ?_,by simpa using h4,fun i j hj=> ?_⟩
 ·have q:=List.all_eq_true.mp h2 y hy
  simpa[hk]using q
 ·have q:=List.all_eq_true.mp h3 y hy
  simpa[hk]using q
 ·have hm:(j,i)∈js.zipIdx:=by
   rw[List.mem_zipIdx_iff_getElem?]
   exact hj
  have q:=List.all_eq_true.mp h5 _ hm
  dsimp only at q
  split at q
  ·rename_i x y e1 e2
   simp only[Bool.and_eq_true,beq_iff_eq]at q
   obtain⟨⟨q1,q2⟩,q3⟩:=q
   subst q1
   refine⟨x,e1,e2,q2,fun z=> ?_⟩
   have:=List.all_eq_true.mp q3 _ z
   simp at this
  ·cases q
def ndB:List Str->Bool
 | []=>true
 |x::r=>(r.all fun y=>x != y)&&ndB r
theorem XJ:∀{N:List Str},ndB N=true->N.Nodup
 | [],_=>List.nodup_nil
 |x::r,h=>by
  simp only[ndB,Bool.and_eq_true]at h
  refine List.nodup_cons.mpr ⟨fun hm=> ?_,XJ h.2⟩
  have:=List.all_eq_true.mp h.1 x hm
  simp at this
def bst(k:Nat)(js:List Nat)(σ:St):St:=List.replicate k none++js.map fun j=>(σ[j]?).join
section
variable{X:Cx}{pins:List (Addr×Obj)}{σ:St}{H:Hp}{s:Shared}{scope:Scope}{N':List Str}{k:Nat}{js:List Nat}{cl:List (Str×Addr)}{fp:List Addr}
theorem JO:(bst k js σ).length=k+js.length:=by simp[bst]
theorem Z2m{i:Nat}{v:V}(h:(bst k js σ)[i]? =some (some v)):∃n j,i=k+n/\js[n]? =some j/\σ[j]? =some (some v):=by
 unfold bst at h
 by_cases hi:i<k
 ·rw[List.getElem?_append_left (by simpa using hi),List.getElem?_replicate,if_pos hi]at h
  cases h
 ·rw[List.getElem?_append_right (by simpa using hi),List.length_replicate,List.getElem?_map]at h
  cases e:js[i - k]? with
  |none=>rw[e]at h;cases h
  |some j=>
   rw[e]at h
   have h':(σ[j]?).join=some v:=Option.some.inj h
   cases e2:σ[j]? with
   |none=>rw[e2]at h';cases h'
   |some o=>rw[e2]at h';exact⟨i - k,j,by omega,e,by rw[e2];exact congrArg some h'⟩
theorem Z3v(I:Inv X pins σ H s)(hC:CompOk X scope N' k js)(hcl:∀p∈cl,X.env.cells.lookup p.1=some p.2)(hcl2:∀x,(x,NameKind.free)∈scope.names->cl.lookup x=X.env.cells.lookup x)
  (hfp:∀b∈fp,X9 X pins H b) (hob:∀b∈fp,∃o,s.heap.get? b=some o):
  Inv (blk X N' scope cl s.heap.objs.size s H fp) [] (bst k js σ) H {s with heap:=pushCells (s.heap.push {cls:=.type "dict",data:=.dict #[]}) scope.names}:=by
 have kp:∀b o,s.heap.get? b=some o->(pushCells (s.heap.push {cls:=.type "dict",data:=.dict #[]}) scope.names).get? b=some o:=fun b o e=>pushCells_keeps _ _ b o (Heap.get?_push_of_some _ e)
 have hsz:(s.heap.push {cls:=.type "dict",data:=.dict #[]}).objs.size=s.heap.objs.size+1:=Heap.size_push ..
 have clt:∀p∈cl,p.2<s.heap.objs.size:=fun p hp=>let⟨v,q⟩:=I.cell p.1 p.2 (hcl p hp);q.lt
 have clt':∀p∈cl,p.2<s.heap.objs.size+1:=fun p hp=>Nat.lt_succ_of_lt (clt p hp)
 have cells:∀x c,(cellsFrom (s.heap.objs.size+1) scope.names cl).lookup x=some c->s.heap.objs.size+1<=c\/(c<s.heap.objs.size/\X.env.cells.lookup x=some c):=fun x c e=>by
  rcases Xu _ _ _ e with q|⟨q,_⟩
  ·exact .inl q
  ·exact .inr ⟨clt _ (mem_of_lookup q),hcl _ (mem_of_lookup q)⟩
 have cellIs:∀x c,(cellsFrom (s.heap.objs.size+1) scope.names cl).lookup x=some c->∃v,(pushCells (s.heap.push {cls:=.type "dict",data:=.dict #[]}) scope.names).IsCell c v:=fun x c e=>by
  have hm:=mem_of_lookup e
  rw[←hsz]at hm
  rcases Qw _ _ _ _ hm with q|q
  ·obtain⟨v,z⟩:=I.cell x c (hcl _ q)
   exact⟨v,z.keeps kp⟩
  ·exact⟨none,q⟩
 refine⟨⟨I.ok.mod,hC.kind,I.ok.glob,I.ok.blt,Nat.le_refl _,fun x y c h1 h2=> ?_,fun x hx=> ?_,fun x c hf h=> ?_,I.ok.hd,I.ok.frames, .inl rfl,fun b hb=>⟨?_,fun x c h=> ?_⟩,I.bs,Nat.le_trans I.ok.bsz I.sz,fun b o e hb=> ?_,fun b hb=> ?_,I.stack,I.stkFree⟩,
  rfl,I.bare,Un.kept kp,⟨fun _=>none,(Heap.Ns.new s.heap (.type "dict")).keeps (pushCells_keeps _ _),fun i x v h1 h2 h3=> ?_⟩,fun x c h=>cellIs x c h,I.fresh,fun x c h=> ?_,fun p hp=>absurd (show p∈([]:List (Addr×Obj))from hp) (by simp),I.hok.kept kp,?_⟩
 ·rcases Qu _ _ _ clt' _ _ (mem_of_lookup h1) (mem_of_lookup h2) rfl with z|⟨z1,z2⟩
  ·exact congrArg Prod.fst z
  ·exact I.ok.inj x y c (hcl _ z1) (hcl _ z2)
 ·have hx':(relabel scope X.env).names.lookup x=some .cell\/(relabel scope X.env).names.lookup x=some .free:=hx
  have fromK:∀{kk},(relabel scope X.env).names.lookup x=some kk->kk=.cell\/kk=.free->∃c,(cellsFrom (s.heap.objs.size+1) scope.names cl).lookup x=some c:=fun{kk} e hk=>by
   obtain⟨k',e',q⟩:=Xa (scope:=scope) (env:=X.env) e
   have:k'=.cell\/k'=.free:=by
    rcases q with rfl|⟨_,rfl⟩
    ·exact hk
    ·exact .inr rfl
   rcases this with rfl|rfl
   ·exact Option.isSome_iff_exists.mp (PySem.W.cellsFrom_some _ _ _ (.inl e'))
   ·have hm:(x,NameKind.free)∈scope.names:=mem_of_lookup e'
    obtain⟨c,hc⟩:=I.ok.has x (hC.fre _ hm rfl)
    have z:cl.lookup x=some c:=(hcl2 x hm).trans hc
    exact Option.isSome_iff_exists.mp (PySem.W.cellsFrom_some _ _ _ (.inr (by rw[z];rfl)))
  rcases hx' with e|e
  ·exact fromK e (.inl rfl)
  ·exact fromK e (.inr rfl)
 ·have hf':scope.names.lookup x=some .cell:=by simpa[blk]using hf
  rcases Xu _ _ _ h with q|⟨_,q⟩
  ·exact Nat.le_of_succ_le q
  ·exact absurd (mem_of_lookup hf') q
 ·obtain⟨o,e⟩:=hob b hb
  exact Nat.ne_of_lt (Heap.lt_size e)
 ·obtain⟨o,e⟩:=hob b hb
  rcases cells x c h with q|⟨_,q⟩
  ·exact Nat.ne_of_gt (Nat.lt_of_lt_of_le (Heap.lt_size e) (Nat.le_of_succ_le q))
  ·exact(hfp b hb).2.2.2.2.1 x c q
 ·obtain⟨_,_,_,q,_⟩:=hfp b hb
  rcases q with q|q
  ·exact I.ok.noex b o e q
  ·exact absurd (Nat.lt_of_lt_of_le (Heap.lt_size e) (Nat.le_trans I.ok.bsz q)) (Nat.lt_irrefl _)
 ·intro z
  obtain⟨_,q1,q2,_⟩:=hfp b hb
  exact(List.mem_cons.mp (I.stkSub b z)).elim q1 q2
 ·obtain⟨n,j,rfl,hj,hσ⟩:=Z2m h2
  obtain⟨y,e1,e2,e3,e4⟩:=hC.cap n j hj
  have e1':N'[k+n]? =some x:=h1
  rw[e1']at e1
  cases e1
  have hm:(x,NameKind.free)∈scope.names:=mem_of_lookup e3
  obtain⟨m,hn,hl⟩:=I.loc
  have hk:=hC.fre _ hm rfl
  obtain⟨u,r,lk⟩:=hl j x v e2 hσ (.inr hk)
  refine⟨u,r, .inr ⟨Xb (scope:=scope) e3,?_⟩⟩
  rcases lk with⟨z,_⟩|⟨_,c,hc,hcell⟩
  ·have z':X.env.scope.names.lookup x=some .local:=z
   rcases hk with q|q<;>rw[z']at q<;>cases q
  ·refine⟨c,?_,hcell.keeps kp⟩
   show(cellsFrom (s.heap.objs.size+1) scope.names cl).lookup x=some c
   rw[Qv _ _ _ e4,hcl2 x hm]
   exact hc
 ·rcases cells x c h with q|⟨_,q⟩
  ·exact I.hok.fresh (Nat.le_of_succ_le q)
  ·exact I.freeC x c q
 ·rw[JO];exact hC.len.symm
theorem Uw{H':Hp}{s':Shared}{σ':St}{C:Addr}(I:Inv X pins σ H s)(hfp:∀b∈fp,X9 X pins H b)(eC:C=s.heap.objs.size)
  (J:Inv (blk X N' scope cl C s H fp) [] σ' H' s'):Inv X pins σ H' s'/\∃oC,s'.heap.get? C=some oC/\H' C=none/\C≠X.env.locals/\C∉X.fs/\(∀v,oC.data≠ .cell v)/\(X.s₀.heap.objs.size<=C)/\(∀x c,X.env.cells.lookup x=some c->c≠C)/\∀p∈X.pn++pins,p.1≠C:=by
 subst eC
 refine⟨I.call' J.os J.base J.hok J.bare fun b hb=> ?_,?_⟩
 ·obtain⟨_,q1,q2,q3,q4,q5⟩:=hfp b hb
  exact⟨q3,q1,q4,q5⟩
 ·obtain⟨m,⟨o,es,ep,ho,hd,_⟩,_⟩:=J.loc
  refine⟨o,ho,J.free,Nat.ne_of_gt I.lt,I.nofs (Nat.le_refl _),fun v z=> ?_,I.sz,fun x c e z=> ?_,fun p hp z=> ?_⟩
  ·rw[hd]at z;cases z
  ·obtain⟨v,q⟩:=I.cell x c e
   exact absurd q.lt (by rw[z];exact Nat.lt_irrefl _)
  ·exact absurd (Heap.lt_size (I.pin p hp).1) (by rw[z];exact Nat.lt_irrefl _)
end
end L3
namespace L3
open PySem PySem.Spec L2
open PyProof.Rows hiding St
def isL:HO->Prop
 | .lst _=>True
 | .dT _=>True
 |_=>False
def KeepG(G:Addr->Prop)(H H':Hp):Prop:=∀b o,H b=some o->(G b\/¬isL o)->H' b=some o
theorem Same.keepG{G:Addr->Prop}{H H':Hp}(e:Same H H'):KeepG G H H':=fun b o q _=>e b o q
section
variable{K:PySem.W.Frag}{G G':Addr->Prop}{H H':Hp}
theorem KeepG.seqT(e:KeepG G H H'){a:Addr}{xs:List V}(h:SqT K H a xs):SqT K H' a xs:=by
 rcases h with(h|⟨o,h⟩)|h
 ·exact .inl (.inl (e _ _ h (.inr fun z=>z)))
 ·exact .inl (.inr ⟨o,e _ _ h (.inr fun z=>z)⟩)
 ·exact .inr h
theorem KeepG.lstAt(e:KeepG G H H'){a:Addr}{xs:List V}(h:LstAt K G H a xs):LstAt K G H' a xs:=by
 rcases h with⟨h|⟨o,h⟩,ga⟩|h
 ·exact .inl ⟨.inl (e _ _ h (.inl ga)),ga⟩
 ·exact .inl ⟨.inr ⟨o,e _ _ h (.inl ga)⟩,ga⟩
 ·exact .inr h
mutual
theorem Rep.keep(e:KeepG G H H'):∀(d:D) {v:V},Rep K G H d v->Rep K G H' d v
 | .non,_,h=>by simpa only[Rep]using h
 | .bl _,_,h=>by simpa only[Rep]using h
 | .int _,_,h=>by simpa only[Rep]using h
 | .str _,_,h=>by simpa only[Rep]using h
 | .tup ds,v,h=>by
  obtain⟨a,xs,rfl,s,r⟩:=h.tup_of
  exact Rep.tup (e.seqT s) (RepL.keep e ds r)
 | .lst ds,v,h=>by
  obtain⟨a,xs,rfl,s,r⟩:=h.lst_of
  simp only[Rep]
  exact⟨a,xs,rfl,e.lstAt s,RepL.keep e ds r⟩
 | .exc c,v,h=>by
  obtain⟨a,rfl,q⟩:=h.exc_of
  simp only[Rep]
  exact⟨a,rfl,e _ _ q (.inr fun z=>z)⟩
 | .dct kvs,v,h=>by
  obtain⟨a,rfl,q⟩:=h.dct_of
  simp only[Rep]
  exact⟨a,rfl,q.imp (fun es z y=>⟨e _ _ z (.inl y),y⟩) (fun _ _ z=>e.lstAt z) fun _ _ z=>e.seqT z⟩
theorem RepL.keep(e:KeepG G H H'):∀(ds:List D) {xs:List V},RepL K G H ds xs->RepL K G H' ds xs
 | [],_,h=>by simpa only[RepL]using h
 |d::ds,xs,h=>by
  obtain⟨x,r,rfl,h1,h2⟩:=h.uncons
  exact RepL.cons (Rep.keep e d h1) (RepL.keep e ds h2)
end
theorem Rep.wid(g:∀a,G a->G' a){d:D}{v:V}(h:Rep K G H d v):Rep K G' H d v:=Rep.mono (Same.refl H) g d h
theorem RepL.wid(g:∀a,G a->G' a){d:List D}{v:List V}(h:RepL K G H d v):RepL K G' H d v:=RepL.mono (Same.refl H) g d h
theorem RepS.wid(g:∀a,G a->G' a){ρ:Rho}{σ:St}(h:RepS K G H ρ σ):RepS K G' H ρ σ:=fun i d e=>let⟨v,a,b⟩:=h i d e;⟨v,a,b.wid g⟩
theorem RepS.there{ρ:Rho}{σ:St}(h:RepS K G H ρ σ):RepS K (fun a=>G a/\H a≠none) H ρ σ:=fun i d e=>let⟨v,a,b⟩:=h i d e;⟨v,a,Rep.there d b⟩
end
def ItD(K:PySem.W.Frag)(G:Addr->Prop)(J:It)(ds:List D)(C:Hp->Prop):Prop:=
 (∀i H,C H->i<ds.length->J.go i H/\∀x H',J.yld i H x H'->Same H H'/\C H'/\∃d,ds[i]? =some d/\Rep K G H' d x)/\∀i H,C H->ds.length<=i->J.stop i H
def tI(X:Cx)(m:Rho->R (List D)):TI:=fun σ H Q=>∃(G:Addr->Prop) (ρ:Rho),Free G H/\RepS X.K G H ρ σ/\match m ρ with
 | .ok ds=>∀(J:It) (H1:Hp) (C:Hp->Prop),Same H H1->ItD X.K (fun a=>G a/\H1 a≠none) J ds C->(∀H2 H3,C H2->KeepG (fun a=>G a/\H1 a≠none) H2 H3->C H3)->C H1->ds.length<=sizeLine->Q J H1
 | .ex c=>XQ X σ H c
 | .bad=>False
def PID(X:Cx)(tg iter:Expr)(m:Rho->R (List D)):Prop:=PI X tg iter (tI X m)
theorem _root_.L2.PI.imp{X:Cx}{tg e:Expr}{t t':TI}(h:PI X tg e t)(i:∀σ H Q,t' σ H Q->t σ H Q):PI X tg e t':=fun pins s σ H Q I q=>h pins s σ H Q I (i σ H Q q)
section
variable{X:Cx}{tg:Expr}
theorem Z6f{l:Expr}{tl:TE}(hl:PE X l tl):PI X tg l (fun σ H R=>tl σ H fun x H1=>(∃a xs,x=.ref a/\SqL X.K H1 a xs/\(xs.length<=sizeLine->R (Itl X.K a) H1))\/∃a xs,x=.ref a/\SqT X.K H1 a xs/\(xs.length<=sizeLine->R (Itt X.K a) H1)):=by
 intro pins s σ H R I h
 refine thn (hl pins s σ H _ I h) fun v s1 ⟨x,H1,I1,r1,q1⟩=> ?_
 have fp:∀b∈[s1.heap.objs.size],X9 X pins H1 b:=fun b hb=>by
  cases List.mem_singleton.mp hb
  exact I1.fpOk (Nat.le_refl _) (I1.hok.fresh (Nat.le_refl _))
 rcases q1 with⟨a,xs,rfl,hq,q⟩|⟨a,xs,rfl,hq,q⟩
 ·cases r1
  obtain⟨its,rv,p,hz⟩:=I1.list hq
  exact wpAny_pyIter_list p.isList ⟨_,[_],_,_,H1,rfl,I1.kept (t':=s1.toks) fun b o e=>Heap.get?_push_of_some _ e,Z3n a _,⟨_,Heap.get?_push_size _ rfl,rfl,rfl⟩,fp,q hz⟩
 ·cases r1
  obtain⟨its,rv,p,hz⟩:=I1.tuple hq
  exact wpAny_pyIter_tuple (show s1.heap.IsTuple a its.toArray from p) ⟨_,[_],_,_,H1,rfl,I1.kept (t':=s1.toks) fun b o e=>Heap.get?_push_of_some _ e,Jy a _,⟨_,Heap.get?_push_size _ rfl,rfl,rfl⟩,fp,q hz⟩
def Ya:D->R (List D)
 | .tup xs=>.ok xs
 | .lst xs=>.ok xs
 |_=>.bad
def Y1(m:Rho->R D):Rho->R (List D):=fun ρ=>m ρ>>=Ya
theorem ZQ{l:Expr}{m:Rho->R D}(hl:PD X l m):PID X tg l (Y1 m):=(Z6f hl).imp fun σ H Q ⟨G,ρ,hG,hρ,q⟩=>by
 refine⟨G,ρ,hG,hρ,?_⟩
 unfold Y1 at q
 cases e:m ρ with
 |ex c=>rw[e]at q;exact q
 |bad=>rw[e]at q;exact q.elim
 |ok d=>
  rw[e]at q
  have q:(match Ya d with
   | .ok ds=>∀(J:It) (H1:Hp) (C:Hp->Prop),Same H H1->ItD X.K (fun a=>G a/\H1 a≠none) J ds C->(∀H2 H3,C H2->KeepG (fun a=>G a/\H1 a≠none) H2 H3->C H3)->C H1->ds.length<=sizeLine->Q J H1
   | .ex c=>XQ X σ H c
   | .bad=>False):=q
  intro v H1 e1 rd
  cases d with
  |tup ds=>
   obtain⟨a,xs,rfl,h1,r1⟩:=rd.tup_of
   refine .inr ⟨a,xs,rfl,h1,fun hz=>q (Itt X.K a) H1 (fun H2=>∃ys,SqT X.K H2 a ys/\RepL X.K (fun a=>G a/\H1 a≠none) H2 ds ys) e1 ⟨fun i H2 ⟨ys,c1,c2⟩ hi=> ?_,fun i H2 ⟨ys,c1,c2⟩ hi=>⟨ys,c1,by rw[c2.length];exact hi⟩⟩
    (fun H2 H3 ⟨ys,c1,c2⟩ hk=>⟨ys,hk.seqT c1,RepL.keep hk _ c2⟩) ⟨xs,h1,RepL.there ds r1⟩ (by rw[←r1.length];exact hz)⟩
   have hl:i<ys.length:=by rw[c2.length];exact hi
   refine⟨⟨ys,ys[i],c1,by simp[hl]⟩,fun x H' ⟨e,y⟩=> ?_⟩
   subst e
   exact⟨Same.refl _,⟨ys,c1,c2⟩,c2.get' (y ys c1)⟩
  |lst ds=>
   obtain⟨a,xs,rfl,h1,r1⟩:=rd.lst_of
   have h2:LstAt X.K (fun a=>G a/\H1 a≠none) H1 a xs:=by
    have z:=Rep.there (.lst ds) rd
    rcases h1 with⟨h1,ga⟩|h1
    ·exact .inl ⟨h1,ga,by rcases h1 with h1|⟨o,h1⟩<;>rw[h1]<;>simp⟩
    ·exact .inr h1
   refine .inl ⟨a,xs,rfl,h1.sq,fun hz=>q (Itl X.K a) H1 (fun H2=>∃ys,LstAt X.K (fun a=>G a/\H1 a≠none) H2 a ys/\RepL X.K (fun a=>G a/\H1 a≠none) H2 ds ys) e1 ⟨fun i H2 ⟨ys,c1,c2⟩ hi=> ?_,fun i H2 ⟨ys,c1,c2⟩ hi=>⟨ys,c1.sq,by rw[c2.length];exact hi⟩⟩
    (fun H2 H3 ⟨ys,c1,c2⟩ hk=>⟨ys,hk.lstAt c1,RepL.keep hk _ c2⟩) ⟨xs,h2,RepL.there ds r1⟩ (by rw[←r1.length];exact hz)⟩
   have hl:i<ys.length:=by rw[c2.length];exact hi
   refine⟨⟨ys,ys[i],c1.sq,by simp[hl]⟩,fun x H' ⟨e,y⟩=> ?_⟩
   subst e
   exact⟨Same.refl _,⟨ys,c1,c2⟩,c2.get' (y ys c1.sq)⟩
  |_=>exact q.elim
def XR(lo:Int)(n:Nat):List D:=(List.range n).map fun(i:Nat)=>D.int (lo+(i:Int))
theorem Z6g{K:PySem.W.Frag}{G:Addr->Prop}{lo:Int}{n:Nat}:ItD K G (Itr lo n) (XR lo n) (fun _=>True):=by
 refine⟨fun i H _ hi=> ?_,fun i H _ hi=> ?_⟩
 ·have hi':i<n:=by simpa[XR]using hi
  refine⟨hi',fun x H' ⟨e,y⟩=> ?_⟩
  subst e;subst y
  exact⟨Same.refl _,trivial, .int (lo+(i:Int)),by simp[XR,hi'],Rep.int⟩
 ·have hi':n<=i:=by simpa[XR]using hi
  exact hi'
def rg1:List D->R (List D)
 | [.int j]=>if j.natAbs<=1000000 then .ok (XR 0 j.toNat)else .bad
 |_=>.bad
def rg2:List D->R (List D)
 | [.int i, .int j]=>if i.natAbs<=1000000/\j.natAbs<=1000000 then .ok (XR i (j - i).toNat)else .bad
 |_=>.bad
def apL(g:List D->R (List D))(n:Rho->R (List D)):Rho->R (List D):=fun ρ=>n ρ>>=g
theorem Z3w(ds:List D):rg1 ds=.bad\/∃j,ds=[.int j]:=by
 unfold rg1
 split
 ·exact .inr ⟨_,rfl⟩
 ·exact .inl rfl
theorem Z3x(ds:List D):rg2 ds=.bad\/∃i j,ds=[.int i, .int j]:=by
 unfold rg2
 split
 ·exact .inr ⟨_,_,rfl⟩
 ·exact .inl rfl
theorem ZK{a:Expr}{m:Rho->R (List D)}{p pos:Pos}(hm:X.mg "range"=none)(ha:PDA X [a] m)(hg:Gl X "range":=by rfl)(hs:starEach [a] X.env=[(false,eval a X.env)]:=by rfl):PID X tg (.Call (.Name "range" p) [a] [] pos) (apL rg1 m):=
 (Z3o hg hm ha hs).imp fun σ H Q ⟨G,ρ,hG,hρ,q⟩=>by
  refine⟨G,ρ,hG,hρ,?_⟩
  unfold apL at q
  cases e:m ρ with
  |ex c=>rw[e]at q;exact q
  |bad=>rw[e]at q;exact q.elim
  |ok ds=>
   rw[e]at q
   intro vs H1 e1 rd
   rcases Z3w ds with h|⟨j,rfl⟩
   ·rw[R.ok_bind,h]at q;exact q.elim
   ·obtain⟨x,rfl,rx⟩:=ZY rd
    cases rx.int_of
    simp only[R.ok_bind,rg1]at q
    by_cases hj:j.natAbs<=1000000
    ·rw[if_pos hj]at q
     refine⟨j,rfl,by omega,by omega,q (Itr 0 j.toNat) H1 (fun _=>True) e1 Z6g (fun _ _ _ _=>trivial) trivial ?_⟩
     simp only[XR,List.length_map,List.length_range]
     rw[sizeLine_eq];omega
    ·rw[if_neg hj]at q;exact q.elim
theorem Q7{a b:Expr}{m:Rho->R (List D)}{p pos:Pos}(hm:X.mg "range"=none)(ha:PDA X [a,b] m)(hg:Gl X "range":=by rfl)(hs:starEach [a,b] X.env=[(false,eval a X.env),(false,eval b X.env)]:=by rfl)(hs2:starEach [b] X.env=[(false,eval b X.env)]:=by rfl):
  PID X tg (.Call (.Name "range" p) [a,b] [] pos) (apL rg2 m):=
 (Z3p hg hm ha hs hs2).imp fun σ H Q ⟨G,ρ,hG,hρ,q⟩=>by
  refine⟨G,ρ,hG,hρ,?_⟩
  unfold apL at q
  cases e:m ρ with
  |ex c=>rw[e]at q;exact q
  |bad=>rw[e]at q;exact q.elim
  |ok ds=>
   rw[e]at q
   intro vs H1 e1 rd
   have no:(match(.bad:R (List D))with
    | .ok ds=>∀(J:It) (H1:Hp) (C:Hp->Prop),Same H H1->ItD X.K (fun a=>G a/\H1 a≠none) J ds C->(∀H2 H3,C H2->KeepG (fun a=>G a/\H1 a≠none) H2 H3->C H3)->C H1->ds.length<=sizeLine->Q J H1
    | .ex c=>XQ X σ H c
    | .bad=>False)->False:=fun z=>z
   rcases Z3x ds with h|⟨i,j,rfl⟩
   ·rw[R.ok_bind,h]at q;exact q.elim
   ·obtain⟨x,r,rfl,rx,rr⟩:=rd.uncons
    obtain⟨y,rfl,ry⟩:=ZY rr
    cases rx.int_of;cases ry.int_of
    simp only[R.ok_bind,rg2]at q
    by_cases hj:i.natAbs<=1000000/\j.natAbs<=1000000
    ·rw[if_pos hj]at q
     refine⟨i,j,rfl,⟨by omega,by omega,by omega,by omega⟩,q (Itr i (j - i).toNat) H1 (fun _=>True) e1 Z6g (fun _ _ _ _=>trivial) trivial ?_⟩
     simp only[XR,List.length_map,List.length_range]
     rw[sizeLine_eq];omega
    ·rw[if_neg hj]at q;exact q.elim
def setM:St->List Nat->List V->St
 |σ,i::is,v::vs=>setM (σ.set i (some v)) is vs
 |σ,_,_=>σ
def Qx:Rho->List Nat->List D->Rho
 |ρ,i::is,d::ds=>Qx (ρ.set i (some d)) is ds
 |ρ,_,_=>ρ
def gD(X:Cx)(is:List Nat)(f:D->R (List D)):TG:=fun v σ H Q=>∃(G:Addr->Prop) (d:D) (ds:List D),Rep X.K G H d v/\f d=.ok ds/\∀vs,RepL X.K G H ds vs->vs.length=is.length->Q (setM σ is vs) H
def PGD(X:Cx)(tg:Expr)(is:List Nat)(f:D->R (List D)):Prop:=PG X tg (gD X is f)
def one:D->R (List D):=fun d=>.ok [d]
def W0(n:Nat):D->R (List D)
 | .tup ds=>if ds.length=n then .ok ds else .bad
 |_=>.bad
theorem _root_.L2.PG.imp{X:Cx}{e:Expr}{t t':TG}(h:PG X e t)(i:∀v σ H Q,t' v σ H Q->t v σ H Q):PG X e t':=fun pins s σ H v u Q I r q=>h pins s σ H v u Q I r (i v σ H Q q)
theorem Zg{i:Nat}{x:Str}{pos:Pos}(hN:ndB X.N=true:=by kernel_rfl)(hi:X.N[i]? =some x:=by rfl)(hx:Loc X.env.scope x:=by first|exact Or.inl rfl|exact Or.inr rfl)(hf:X.fn x=true\/X.env.scope.names.lookup x=some .local:=by first|exact .inl rfl|exact .inr rfl):PGD X (.Name x pos) [i] one:=
 (Z24 (XJ hN) hi hx hf).imp fun v σ H Q ⟨G,d,ds,rd,e,q⟩=>by
  cases e
  exact q [v] (RepL.cons rd RepL.nil) rfl
def gNs:List Nat->TGs
 | []=>gNil
 |i::is=>Zap (Uo i) (gNs is)
theorem Z6h{Q:St->Hp->Prop}{H:Hp}:∀(is:List Nat) (vs:List V) (σ:St),vs.length=is.length->Q (setM σ is vs) H->gNs is vs σ H Q
 | [],[],_,_,q=>⟨rfl,q⟩
 | [],_::_,_,h,_=>by simp at h
 |_::_,[],_,h,_=>by simp at h
 |i::is,v::vs,σ,h,q=>⟨v,vs,rfl,Z6h is vs _ (by simpa using h) q⟩
def PNs(X:Cx)(es:List Expr)(is:List Nat):Prop:=PGs X es (gNs is)
theorem Wu:PNs X [] []:=Z8p
theorem YD{i:Nat}{is:List Nat}{x:Str}{es:List Expr}{pos:Pos}(hr:PNs X es is)(hN:ndB X.N=true:=by kernel_rfl)(hi:X.N[i]? =some x:=by rfl)(hx:Loc X.env.scope x:=by first|exact Or.inl rfl|exact Or.inr rfl)(hf:X.fn x=true\/X.env.scope.names.lookup x=some .local:=by first|exact .inl rfl|exact .inr rfl)
  (hs:(assignEach (.Name x pos::es) X.env).map (·.2)=assign (.Name x pos) X.env::(assignEach es X.env).map (·.2):=by rfl):PNs X (.Name x pos::es) (i::is):=Z5c (Z24 (XJ hN) hi hx hf) hr hs
theorem Ux{es:List Expr}{is:List Nat}{k:Nat}{n:Nat}{pos:Pos}(h:PNs X es is)(hc:X.calm=true:=by rfl)(hin:is.length=n:=by rfl)
  (hn:(assignEach es X.env).length=n:=by rfl) (hst:(assignEach es X.env).findIdx? (·.1)=none:=by rfl):PGD X (.Tuple es k pos) is (W0 n):=
 (Zbi hc h hn hst).imp fun v σ H Q ⟨G,d,ds,rd,e,q⟩=>by
  cases d with
  |tup es=>
   simp only[W0]at e
   split at e
   ·rename_i hl
    cases e
    obtain⟨a,xs,rfl,h1,r1⟩:=rd.tup_of
    have hx:xs.length=n:=by rw[r1.length];exact hl
    exact⟨a,xs,rfl,h1,hx,Z6h is xs σ (by omega) (q xs r1 (by omega))⟩
   ·cases e
  |_=>cases e
theorem QR:∀(σ:St) (is:List Nat) (vs:List V),(setM σ is vs).length=σ.length
 |σ,[],vs=>by cases vs<;>rfl
 |σ,i::is,[]=>rfl
 |σ,i::is,v::vs=>by rw[setM,QR];simp
theorem Uy{K:PySem.W.Frag}{G:Addr->Prop}{H:Hp}:∀(is:List Nat) (ds:List D) (vs:List V) (ρ:Rho) (σ:St),RepS K G H ρ σ->RepL K G H ds vs->ρ.length=σ.length->RepS K G H (Qx ρ is ds) (setM σ is vs)
 | [],ds,vs,ρ,σ,h,r,_=>by cases vs<;>cases ds<;>exact h
 |i::is,[],vs,ρ,σ,h,r,_=>by rw[r.nil_of];exact h
 |i::is,d::ds,vs,ρ,σ,h,r,hl=>by
  obtain⟨v,t,rfl,h1,h2⟩:=r.uncons
  refine Uy is ds t _ _ (fun j e hj=> ?_) h2 (by simpa using hl)
  by_cases hij:i=j
  ·subst hij
   have hlt:i<ρ.length:=by
    have:=(List.getElem?_eq_some_iff.mp hj).1
    simpa using this
   rw[List.getElem?_set_self hlt]at hj
   cases hj
   exact⟨v,List.getElem?_set_self (by omega),h1⟩
  ·rw[List.getElem?_set_ne hij]at hj
   obtain⟨w,a,b⟩:=h j e hj
   exact⟨w,by rw[List.getElem?_set_ne hij];exact a,b⟩
theorem Vm:∀(is:List Nat) (vs:List V) (σ:St) (j:Nat),j∉is->(setM σ is vs)[j]? =σ[j]?
 | [],vs,σ,j,_=>by cases vs<;>rfl
 |i::is,[],σ,j,_=>rfl
 |i::is,v::vs,σ,j,h=>by
  rw[setM,Vm is vs _ j fun z=>h (List.mem_cons_of_mem _ z),List.getElem?_set_ne fun z=>h (by rw[z];exact List.mem_cons_self)]
end
end L3
namespace L3
open PySem PySem.Spec L2
open PyProof.Rows hiding St
abbrev nof:Value->Shared->Prop:=fun _ _=>False
abbrev Zaw(ifs:List Expr)(env:Env):Sem Bool:=forIn ifs true fun c r=>if r=true then do let ok←isTrue c env (eval c env);pure (ForInStep.yield ok)else pure (ForInStep.yield r)
section
variable{prog:Program}{w:World}{A:Around}{R:Result->Shared->Prop}{s:Shared}
theorem JP{elt target iter:Expr}{ifs:List Expr}{scope:Scope}{pos:Pos}{it acc:Value}{env:Env}(I:Nat->Shared->Prop)
  (ZT:∀n s,I n s->wpAny (model prog w) A (pyNext it) (fun r s1=>match r with
   |none=>R (.ok .next) s1
   |some v=>wpAny (model prog w) A (letOwnedTupleGo target it v) (fun _ s2=>wpAny (model prog w) A (assign target env v) (fun _ s3=>wpAny (model prog w) A (Zaw ifs env) (fun ok s4=>
     if ok=true then wpAny (model prog w) A (eval elt env) (fun x s5=>wpAny (model prog w) A (call (.builtin "list.append") [acc,x]) (fun _ s6=>∃m,m<n/\I m s6) nof s5) nof s4
     else∃m,m<n/\I m s4) nof s3) nof s2) nof s1) nof s)
  (n:Nat) (h:I n s):codeAny (model prog w) A (.compLoop (.ListComp elt [⟨target,iter,ifs,0⟩] scope pos) 0 it acc env) R s:=by
 refine codeAny_loop rfl I (fun n s hI=> ?_) n h
 refine(show wpAny (model prog w) A ((compTurn (.ListComp elt [⟨target,iter,ifs,0⟩] scope pos) 0 it acc env).onRaise (fun x=>do noteFrame x env;theTreesLotGoes x)) _ _ s from wpAny_noted ?_)
 rw[compTurn_list]
 refine wpAny_bind (wpAny_standAt (wpAny_bind (wpAny_mono (ZT n s hI) (fun r s1 h1=> ?_) fun _ _ f=>f.elim)))
 cases r with
 |none=>exact wpAny_pure h1
 |some v=>
  refine wpAny_bind (wpAny_mono h1 (fun _ s2 h2=>wpAny_bind (wpAny_mono h2 (fun _ s3 h3=>wpAny_bind (wpAny_mono h3 (fun ok s4 h4=> ?_) fun _ _ f=>f.elim)) fun _ _ f=>f.elim)) fun _ _ f=>f.elim)
  cases ok with
  |false=>exact wpAny_pure ⟨rfl,h4⟩
  |true=>exact wpAny_bind (wpAny_bind (wpAny_mono h4 (fun x s5 h5=>wpAny_bind (wpAny_mono h5 (fun _ s6 h6=>wpAny_pure (wpAny_pure ⟨rfl,h6⟩)) fun _ _ f=>f.elim)) fun _ _ f=>f.elim))
end
def PTs(X:Cx)(ifs:List Expr)(m:Rho->R Bool):Prop:=
 ∀(pins:List (Addr×Obj)) (s:Shared) (σ:St) (H:Hp) (Q:Bool->Hp->Prop),Inv X pins σ H s->tDT X m σ H Q->wpAny (model X.prog X.w) X.A (Zaw ifs X.env) (TP X pins σ Q) X.xe s
def yes:Rho->R Bool:=fun _=>.ok true
theorem Zs{X:Cx}:PTs X [] yes:=fun pins s σ H Q I ⟨G,ρ,hG,hρ,q⟩=>wpAny_pure ⟨H,I,q _ H (Same.refl H) rfl⟩
theorem VY{X:Cx}{c:Expr}{m:Rho->R Bool}(h:PDT X c m):PTs X [c] m:=fun pins s σ H Q I q=>wpAny_tests_one (h pins s σ H Q I q)
def ZO{α:Type}(f:D->R (List D))(ρ0:Rho)(is:List Nat)(mt:Rho->R Bool)(me:Rho->R α):List D->R (List α)
 | []=>.ok []
 |d::ds=>f d>>=fun vs=>mt (Qx ρ0 is vs)>>=fun b=>if b=true then me (Qx ρ0 is vs)>>=fun y=>ZO f ρ0 is mt me ds>>=fun ys=>.ok (y::ys)else ZO f ρ0 is mt me ds
def bro(k:Nat)(js:List Nat)(ρ:Rho):Rho:=List.replicate k none++js.map fun j=>(ρ[j]?).join
def nox{α:Type}:R α->R α
 | .ok a=>.ok a
 |_=>.bad
def cmp{α:Type}(src:Rho->R (List D))(k:Nat)(js:List Nat)(is:List Nat)(f:D->R (List D))(mt:Rho->R Bool)(me:Rho->R α):Rho->R (List α):=fun ρ=>src ρ>>=fun ds=>nox (ZO f (bro k js ρ) is mt me ds)
theorem R.bind_ok{α β:Type}{r:R α}{k:α->R β}{b:β}(h:(r>>=k)=.ok b):∃a,r=.ok a/\k a=.ok b:=by
 cases r with
 |ok a=>exact⟨a,rfl,h⟩
 |ex c=>cases h
 |bad=>cases h
section
variable{X:Cx}{pins:List (Addr×Obj)}{σ:St}{scope:Scope}{N':List Str}{k:Nat}{js is:List Nat}{cl:List (Str×Addr)}{fp:List Addr}{f:D->R (List D)}{mt:Rho->R Bool}{me:Rho->R D}
theorem Z9e{K:PySem.W.Frag}{G:Addr->Prop}{H:Hp}{ρ:Rho}(h:RepS K G H ρ σ):RepS K G H (bro k js ρ) (bst k js σ):=by
 intro i d e
 unfold bro at e
 by_cases hi:i<k
 ·rw[List.getElem?_append_left (by simpa using hi),List.getElem?_replicate,if_pos hi]at e
  cases e
 ·rw[List.getElem?_append_right (by simpa using hi),List.length_replicate,List.getElem?_map]at e
  cases e1:js[i - k]? with
  |none=>rw[e1]at e;cases e
  |some j=>
   rw[e1]at e
   have e':(ρ[j]?).join=some d:=Option.some.inj e
   cases e2:ρ[j]? with
   |none=>rw[e2]at e';cases e'
   |some o=>
    rw[e2]at e'
    obtain⟨v,a,b⟩:=h j d (by rw[e2];exact congrArg some e')
    refine⟨v,?_,b⟩
    unfold bst
    rw[List.getElem?_append_right (by simpa using hi),List.length_replicate,List.getElem?_map,e1,Option.map_some,a]
    rfl
theorem Z9f(his:∀i∈is,i<k)(vs:List V)(i:Nat)(v:V)(h:(bst k js σ)[i]? =some (some v)):(setM (bst k js σ) is vs)[i]? =some (some v):=by
 obtain⟨n,j,e,_⟩:=Z2m h
 rw[Vm is vs _ i fun z=>by have:=his i z;omega]
 exact h
theorem YN{G':Addr->Prop}{H1:Hp}{p:Addr}{ys zs:List V}(ng:¬G' p)(hy:H1 p=some (.lst ys)):KeepG G' H1 (upd H1 p (.lst zs)):=fun b o e hb=>by
 rw[Zm]
 ·exact e
 ·intro z
  subst z
  rw[hy]at e
  cases e
  rcases hb with hb|hb
  ·exact ng hb
  ·exact hb trivial
inductive CI{α:Type}(B:Cx)(σb:St)(tn:Nat->Heap->Prop)(fp:List Addr)(p:Addr)(H:Hp)(C:Hp->Prop)(Acc:Hp->List α->List V->Prop)(mp:Nat->R (List α))(out:List α)(len n:Nat)(s5:Shared):Prop
 |mk (i:Nat) (σ5:St) (H5:Hp) (zs:List V) (done Y4:List α) (J5:Inv B [] σ5 H5 s5) (l5:σ5.length=σb.length) (w5:∀(j:Nat) v,σb[j]? =some (some v)->σ5[j]? =some (some v)) (t5:tn i s5.heap) (f5:∀b∈fp,H5 b=none) (hp5:H5 p=some (.lst zs)) (e5:Same H H5) (c5:C H5) (r5:Acc H5 done zs) (m5:mp i=.ok Y4) (o5:out=done++Y4) (hi:i<=len) (hdn:done.length<=i) (hn:n=len - i):CI B σb tn fp p H C Acc mp out len n s5
section
variable{α:Type}{me:Rho->R α}{B:Cx}{σb:St}{ρb:Rho}{Acc:Hp->List α->List V->Prop}{rep:(Addr->Prop)->Hp->Hp->α->V->Prop}{elt tg iter:Expr}{ifs:List Expr}{pos:Pos}{H:Hp}{it p:Addr}{J:It}{tn:Nat->Heap->Prop}{Gk:Addr->Prop}{ds:List D}{out:List α}{C:Hp->Prop}{RR:Result->Shared->Prop}
theorem CI.again(T:Turn B.prog B.w B.K tg J fp it tn){i:Nat}{s7 s8:Shared}{σ8:St}{H8:Hp}{zs8:List V}{done8 rest8:List α}{mp:Nat->R (List α)}{len:Nat}(hlt:i<len)(t7:tn (i+1) s7.heap)(J8:Inv B ([]++Wd fp s7.heap) σ8 H8 s8)(l8:σ8.length=σb.length)(w8:∀(j:Nat) v,σb[j]? =some (some v)->σ8[j]? =some (some v))
  (hp8:H8 p=some (.lst zs8)) (e8:Same H H8) (c8:C H8) (r8:Acc H8 done8 zs8) (m8:mp (i+1)=.ok rest8) (o8:out=done8++rest8) (dn8:done8.length<=i+1):∃m,m<len - i/\CI B σb tn fp p H C Acc mp out len m s8:=by
 have pin:∀b∈fp,∀o,s7.heap.get? b=some o->s8.heap.get? b=some o/\H8 b=none:=fun b hb o e=>let q:=J8.pin (b,o) (List.mem_append_right _ (List.mem_append_right _ (XN hb e)));⟨q.1,q.2.1⟩
 refine⟨len - (i+1),by omega, .mk (i+1) σ8 H8 zs8 done8 rest8 J8.unpinned l8 w8 (T.keep _ _ _ t7 fun b hb o e=>(pin b hb o e).1) (fun b hb=> ?_) hp8 e8 c8 r8 m8 o8 hlt dn8 rfl⟩
 obtain⟨o,e,_⟩:=T.obj _ _ t7 b hb
 exact(pin b hb o e).2
theorem JQ(hcalm:B.calm=true)(hxe:∀v s,B.xe v s->nof v s)(T:Turn B.prog B.w B.K tg J fp it tn)(hF:∀H6:Hp,(∀b∈fp,H6 b=none)->∀b∈fp,X9 B [] H6 b)
  (hset:∀(us:List V) (j:Nat) (v:V),σb[j]? =some (some v)->(setM σb is us)[j]? =some (some v)) (hlen:ρb.length=σb.length) (hrep:RepS B.K Gk H ρb σb)
  (hg:PGD B tg is f) (ht:PTs B ifs mt) (he:PE B elt (fun σ H1 Q=>∃(G:Addr->Prop) (ρ:Rho),Free G H1/\RepS B.K G H1 ρ σ/\DQ B σ (rep G H1) H1 (me ρ) Q))
  (hJ:ItD B.K Gk J ds C) (hk:∀H2 H3,C H2->KeepG Gk H2 H3->C H3) (hz:ds.length<=sizeLine) (hfD:H p=none) (hng:¬Gk p)
  (aS:∀H1 H2 done zs,Acc H1 done zs->Same H1 H2->Acc H2 done zs) (aL:∀H1 done zs,Acc H1 done zs->zs.length=done.length)
  (aN:∀H1 H2 done zs y v,Same H H1->H1 p=some (.lst zs)->Acc H1 done zs->Same H1 H2->rep (fun a=>Gk a\/H1 a=none) H1 H2 y v->Acc (upd H2 p (.lst (zs++[v]))) (done++[y]) (zs++[v]))
  (fin:∀(H':Hp) (s':Shared) (zs:List V) (σ':St),Inv B [] σ' H' s'->Same H H'->H' p=some (.lst zs)->Acc H' out zs->RR (.ok .next) s') {s4:Shared} {n0:Nat}
  (h0:CI B σb tn fp p H C Acc (fun i=>ZO f ρb is mt me (ds.drop i)) out ds.length n0 s4):
  codeAny (model B.prog B.w) B.A (.compLoop (.ListComp elt [⟨tg,iter,ifs,0⟩] scope pos) 0 (.ref it) (.ref p) B.env) RR s4:=by
 refine JP (fun n s5=>CI B σb tn fp p H C Acc (fun i=>ZO f ρb is mt me (ds.drop i)) out ds.length n s5) (fun n s5 h5=> ?_) n0 h0
 obtain⟨i,σ5,H5,zs,done,Y4,J5,l5,w5,t5,f5,hp5,e5,c5,r5,m5,o5,hi,hdn,hn⟩:=h5
 by_cases hlt:i<ds.length
 ·obtain⟨go,yl⟩:=hJ.1 i H5 c5 hlt
  have hd:ds.drop i=ds[i]::ds.drop (i+1):=List.drop_eq_getElem_cons hlt
  have m5:ZO f ρb is mt me (ds.drop i)=.ok Y4:=m5
  rw[hd]at m5
  obtain⟨vs,ef,m6⟩:=R.bind_ok m5
  obtain⟨b,et,m7⟩:=R.bind_ok m6
  rw[hn]
  refine thn (T.item B rfl rfl rfl hcalm i [] s5 σb H5 nof (J5.weak l5.symm w5) (hF _ f5) t5 go) fun r s6 ⟨u,hr,h6⟩=> ?_
  rw[hr]
  refine thn h6 fun _ s7 ⟨x,H7,J7,rx,y7,t7,f7⟩=> ?_
  obtain⟨e7,c7,d,ed,rd⟩:=yl x H7 y7
  have ed':ds[i]=d:=Option.some.inj ((List.getElem?_eq_getElem hlt).symm.trans ed)
  rw[ed']at ef
  have J7':=J7.pinned (hF _ f7) (T.obj _ _ t7)
  have e57:=e5.trans e7
  refine wpAny_mono (hg _ s7 σb H7 x u (fun σ8 H8=>H8=H7/\σ8.length=σb.length/\(∀(j:Nat) v,σb[j]? =some (some v)->σ8[j]? =some (some v))/\RepS B.K Gk H7 (Qx ρb is vs) σ8) J7' rx ⟨_,_,vs,rd,ef,fun us ru lu=>
   ⟨rfl,QR _ _ _,hset us,Uy is vs us _ _ (hrep.same e57) ru hlen⟩⟩) (fun _ s8 ⟨σ8,H8,J8,eH8,l8,w8,r8⟩=> ?_) hxe
  rw[eH8]at J8
  refine wpAny_mono (ht _ s8 σ8 H7 (fun b' H9=>b'=b/\Same H7 H9) J8 ⟨fun a=>Gk a\/H7 a=none,_,fun a ha=>.inr ha,r8.wid fun a z=>.inl z,by rw[et];exact fun b' H9 e9 q9=>⟨q9,e9⟩⟩) (fun ok s9 ⟨H9,J9,eb,e9⟩=> ?_) hxe
  rw[eb]
  have c9:=hk _ _ c7 (Same.keepG e9)
  have e59:=e57.trans e9
  have hp9:=e9 _ _ (e7 _ _ hp5)
  have r9:Acc H9 done zs:=aS _ _ _ _ (aS _ _ _ _ r5 e7) e9
  cases b with
  |false=>exact CI.again T hlt t7 J9 l8 w8 hp9 e59 c9 r9 m7 o5 (by omega)
  |true=>
   have m7:(me (Qx ρb is vs)>>=fun y=>ZO f ρb is mt me (ds.drop (i+1))>>=fun ys=>.ok (y::ys))=.ok Y4:=m7
   obtain⟨y,ey,m8⟩:=R.bind_ok m7
   obtain⟨ys,em,m9⟩:=R.bind_ok m8
   refine wpAny_mono (he _ s9 σ8 H9 (fun v H10=>Same H9 H10/\rep (fun a=>Gk a\/H9 a=none) H9 H10 y v) J9 ⟨fun a=>Gk a\/H9 a=none,_,fun a ha=>.inr ha,(r8.wid fun a z=>.inl z).same e9,by rw[ey];exact fun v H10 e10 q10=>⟨e10,q10⟩⟩) (fun x' s10 ⟨v10,H10,J10,rx10,e10,ry⟩=> ?_) hxe
   have hp10:=e10 _ _ hp9
   have hzl:zs.length<sizeLine:=by rw[aL _ _ _ r5];omega
   refine wpAny_mono (Qr (X:=B) _ s10 σ8 H10 (.ref p) [v10] (.ref p) [x'] (fun _ H11=>H11=upd H10 p (.lst (zs++[v10]))) J10 rfl (.cons rx10 .nil) ⟨p,zs,v10,rfl,rfl,hp10,hzl,rfl⟩) (fun _ s11 ⟨_,H11,J11,_,e11⟩=> ?_) hxe
   rw[e11]at J11
   exact CI.again T hlt t7 J11 l8 w8 Zi (fun b o q=>(Zm (Yi q hfD)).trans (e10 _ _ (e59 _ _ q))) (hk _ _ (hk _ _ c9 (Same.keepG e10)) (YN hng hp10)) (aN H9 H10 done zs y v10 e59 hp9 r9 e10 ry) em (by rw[o5,←R.ok.inj m9];simp) (by simp;omega)
 ·have hie:i=ds.length:=by omega
  rw[hie]at t5
  refine thn (T.done B rfl rfl rfl hcalm ds.length [] s5 σ5 H5 nof J5 (hF _ f5) t5 (hJ.2 _ _ c5 (Nat.le_refl _))) fun r s6 ⟨hr,J6⟩=> ?_
  rw[hr]
  refine fin H5 s6 zs σ5 J6 e5 hp5 ?_
  have er:Y4=[]:=by
   have m5':ZO f ρb is mt me (ds.drop i)=.ok Y4:=m5
   rw[hie,List.drop_length]at m5'
   exact(R.ok.inj m5').symm
  rw[o5,er,List.append_nil]
  exact r5
end
theorem QS{α:Type}{me:Rho->R α}{rep:(Addr->Prop)->Hp->Hp->α->V->Prop}{Acc:Addr->Hp->List α->List V->Prop}{elt tg iter:Expr}{ifs:List Expr}{pos:Pos}{H:Hp}{s:Shared}{it:Addr}{J:It}{tn:Nat->Heap->Prop}{G:Addr->Prop}{ρ:Rho}{ds:List D}{out:List α}{C:Hp->Prop}{RR:Value->Addr->Result->Shared->Prop}{E:Value->Shared->Prop}
  (hcalm:X.calm=true) (I:Inv X pins σ H s) (T:Turn X.prog X.w X.K tg J fp it tn) (t0:tn 0 s.heap) (hfp:∀b∈fp,X9 X pins H b)
  (hC:CompOk X scope N' k js) (hcl:∀p∈cl,X.env.cells.lookup p.1=some p.2) (hcl2:∀x,(x,NameKind.free)∈scope.names->cl.lookup x=X.env.cells.lookup x) (his:∀i∈is,i<k)
  (hg:∀C cl s H fp,PGD (blk X N' scope cl C s H fp) tg is f) (ht:∀C cl s H fp,PTs (blk X N' scope cl C s H fp) ifs mt) (he:∀C cl s H fp,PE (blk X N' scope cl C s H fp) elt (fun σ H1 Q=>∃(G:Addr->Prop) (ρ:Rho),Free G H1/\RepS X.K G H1 ρ σ/\DQ (blk X N' scope cl C s H fp) σ (rep G H1) H1 (me ρ) Q))
  (hG:Free G H) (hρ:RepS X.K G H ρ σ) (hJ:ItD X.K (fun a=>G a/\H a≠none) J ds C) (hk:∀H2 H3,C H2->KeepG (fun a=>G a/\H a≠none) H2 H3->C H3) (c0:C H) (hz:ds.length<=sizeLine)
  (hm:ZO f (bro k js ρ) is mt me ds=.ok out)
  (a0:∀p,H p=none->Acc p (upd H p (.lst [])) [] []) (aS:∀p H1 H2 done zs,Acc p H1 done zs->Same H1 H2->Acc p H2 done zs) (aL:∀p H1 done zs,Acc p H1 done zs->zs.length=done.length)
  (aN:∀p H1 H2 done zs y v,H p=none->Same H H1->H1 p=some (.lst zs)->Acc p H1 done zs->Same H1 H2->rep (fun a=>(G a/\H a≠none)\/H1 a=none) H1 H2 y v->Acc p (upd H2 p (.lst (zs++[v]))) (done++[y]) (zs++[v]))
  (fin:∀(p C:Addr) (H' H3:Hp) (s' s3:Shared) (zs:List V) (σ':St),Inv X pins σ H3 s3->(∀b∈fp,X9 X pins H3 b)->C=s3.heap.objs.size->Inv (blk X N' scope cl C s3 H3 fp) [] σ' H' s'->H p=none->Same H H'->H' p=some (.lst zs)->Acc p H' out zs->RR (.ref p) C (.ok .next) s'):
  wpAny (model X.prog X.w) X.A (newList []) (fun acc s3=>wpAny (model X.prog X.w) X.A (newFunctionEnv scope X.env.globals cl [] X.env.qual none .none (some X.env)) (fun cenv s4=>
   codeAny (model X.prog X.w) X.A (.compStart (.ListComp elt [⟨tg,iter,ifs,0⟩] scope pos) 0 (.ref it) acc {cenv with scope:=relabel scope X.env}) (RR acc cenv.locals) s4) E s3) E s:=by
 refine wpAny_newObj_type ?_
 have hfD:H s.heap.objs.size=none:=I.fresh
 have I3:Inv X pins σ (upd H s.heap.objs.size (.lst [])) {s with heap:=s.heap.push {cls:=.type "list",data:=.seq ([]:List Value).toArray}}:=
  I.laid (t':=s.toks) (fun b u e=>Heap.get?_push_of_some _ e) (Nat.le_refl _) ⟨Nat.zero_le _,[],0, .nil,Heap.get?_push_size _ rfl⟩
 have oB:∀b∈fp,∃o,s.heap.get? b=some o:=fun b hb=>let⟨o,e,_⟩:=T.obj _ _ t0 b hb;⟨o,e⟩
 have fp3:∀b∈fp,X9 X pins (upd H s.heap.objs.size (.lst [])) b:=fun b hb=>⟨by rw[Zm (let⟨o,e⟩:=oB b hb;Nat.ne_of_lt (Heap.lt_size e))];exact(hfp b hb).1,(hfp b hb).2⟩
 have J4:=Z3v (fp:=fp) I3 hC hcl hcl2 fp3 (fun b hb=>let⟨o,e⟩:=oB b hb;⟨o,Heap.get?_push_of_some _ e⟩)
 refine Z6e ?_
 have hF:∀H6:Hp,(∀b∈fp,H6 b=none)->∀b∈fp,X9 _ [] H6 b:=fun H6 hn b hb=>
  ⟨hn b hb,(J4.ok.exf b hb).1,fun z=>J4.ok.exfs b hb z, .inl hb,(J4.ok.exf b hb).2,fun q hq=>absurd (show q∈([]:List (Addr×Obj))from hq) (by simp)⟩
 have t4:=T.keep _ _ _ t0 fun b hb o e=>pushCells_keeps scope.names _ b o (Heap.get?_push_of_some {cls:=.type "dict",data:=.dict #[]} (Heap.get?_push_of_some {cls:=.type "list",data:=.seq ([]:List Value).toArray} e))
 have loop:=JQ (B:=blk X N' scope cl _ _ _ fp) (iter:=iter) (pos:=pos) (scope:=scope) hcalm (fun _ _ x=>x) T hF (Z9f his) (by simp[bro,bst]) ((Z9e hρ).there) (hg _ _ _ _ _) (ht _ _ _ _ _) (he _ _ _ _ _) hJ hk hz hfD (fun z=>z.2 hfD) (aS _) (aL _) (fun H1 H2 done zs y v=>aN _ H1 H2 done zs y v hfD)
  (fun H' s' zs σ' J e hp a=>fin _ _ H' _ s' _ zs σ' I3 fp3 rfl J hfD e hp a) (CI.mk 0 _ _ [] [] out J4 rfl (fun _ _ e=>e) t4 (fun b hb=>(fp3 b hb).1) Zi (Zv hfD _) (hk _ _ c0 (Same.keepG (Zv hfD _))) (a0 _ hfD) hm rfl (Nat.zero_le _) (Nat.le_refl _) rfl)
 exact codeAny_compStart_list loop (T.self _ 0 _ _ _ t4 loop)
theorem JR{me:Rho->R D}{elt tg iter:Expr}{ifs:List Expr}{pos:Pos}{H:Hp}{s:Shared}{it:Addr}{J:It}{tn:Nat->Heap->Prop}{G:Addr->Prop}{ρ:Rho}{ds out:List D}{C:Hp->Prop}{RR:Value->Addr->Result->Shared->Prop}{E:Value->Shared->Prop}
  (hcalm:X.calm=true) (I:Inv X pins σ H s) (T:Turn X.prog X.w X.K tg J fp it tn) (t0:tn 0 s.heap) (hfp:∀b∈fp,X9 X pins H b)
  (hC:CompOk X scope N' k js) (hcl:∀p∈cl,X.env.cells.lookup p.1=some p.2) (hcl2:∀x,(x,NameKind.free)∈scope.names->cl.lookup x=X.env.cells.lookup x) (his:∀i∈is,i<k)
  (hg:∀C cl s H fp,PGD (blk X N' scope cl C s H fp) tg is f) (ht:∀C cl s H fp,PTs (blk X N' scope cl C s H fp) ifs mt) (he:∀C cl s H fp,PD (blk X N' scope cl C s H fp) elt me)
  (hG:Free G H) (hρ:RepS X.K G H ρ σ) (hJ:ItD X.K (fun a=>G a/\H a≠none) J ds C) (hk:∀H2 H3,C H2->KeepG (fun a=>G a/\H a≠none) H2 H3->C H3) (c0:C H) (hz:ds.length<=sizeLine)
  (hm:ZO f (bro k js ρ) is mt me ds=.ok out)
  (fin:∀(p C:Addr) (H' H3:Hp) (s' s3:Shared) (zs:List V) (σ':St),Inv X pins σ H3 s3->(∀b∈fp,X9 X pins H3 b)->C=s3.heap.objs.size->Inv (blk X N' scope cl C s3 H3 fp) [] σ' H' s'->H p=none->Same H H'->H' p=some (.lst zs)->RepL X.K (fun a=>G a/\a≠p) H' out zs->RR (.ref p) C (.ok .next) s'):
  wpAny (model X.prog X.w) X.A (newList []) (fun acc s3=>wpAny (model X.prog X.w) X.A (newFunctionEnv scope X.env.globals cl [] X.env.qual none .none (some X.env)) (fun cenv s4=>
   codeAny (model X.prog X.w) X.A (.compStart (.ListComp elt [⟨tg,iter,ifs,0⟩] scope pos) 0 (.ref it) acc {cenv with scope:=relabel scope X.env}) (RR acc cenv.locals) s4) E s3) E s:=by
 refine QS (me:=me) (rep:=fun G _=>Rep X.K G) (Acc:=fun p H' out zs=>RepL X.K (fun a=>G a/\a≠p) H' out zs) hcalm I T t0 hfp hC hcl hcl2 his hg ht he hG hρ hJ hk c0 hz hm (fun p hp=>RepL.nil) (fun p H1 H2 done zs r e=>r.same e) (fun p H1 done zs r=>r.length) (fun p H1 H2 done zs y v hp e1 hp1 r e2 ry=> ?_) fin
 have kg:KeepG (fun a=>G a/\a≠p) H2 (upd H2 p (.lst (zs++[v]))):=YN (fun z=>z.2 rfl) (e2 _ _ hp1)
 refine(RepL.keep kg _ (r.same e2)).append (RepL.cons (Rep.keep kg _ (ry.wid fun a z=> ?_)) RepL.nil)
 rcases z with z|z
 ·exact⟨z.1,fun y=>z.2 (by rw[y];exact hp)⟩
 ·exact⟨hG a (e1.free z),fun y=>by rw[y,hp1]at z;cases z⟩
def OwnL(K:PySem.W.Frag)(B:Addr->Prop)(H:Hp):List (List D)->List Addr->Prop
 | [],qs=>qs=[]
 |ds::r,qs=>∃q t xs,qs=q::t/\H q=some (.lst xs)/\RepL K B H ds xs/\OwnL K B H r t
def OwnN(K:PySem.W.Frag)(G:Addr->Prop)(H0 H:Hp)(p:Addr)(dss:List (List D))(qs:List Addr):Prop:=
 (p::qs).Nodup/\(∀q∈qs,H0 q=none/\∃xs,H q=some (.lst xs))/\OwnL K (fun a=>G a/\a∉p::qs) H dss qs
theorem OwnL.mono{K:PySem.W.Frag}{B B':Addr->Prop}{H H':Hp}(k:∀ds xs,RepL K B H ds xs->RepL K B' H' ds xs):∀(dss:List (List D)) {qs:List Addr},(∀q∈qs,H' q=H q)->OwnL K B H dss qs->OwnL K B' H' dss qs
 | [],qs,_,h=>h
 |ds::r,qs,hq,⟨q,t,xs,e,h1,h2,h3⟩=>by
  subst e
  exact⟨q,t,xs,rfl,by rw[hq q List.mem_cons_self];exact h1,k _ _ h2,OwnL.mono k r (fun z hz=>hq z (List.mem_cons_of_mem _ hz)) h3⟩
theorem OwnL.length{K:PySem.W.Frag}{B:Addr->Prop}{H:Hp}:∀(dss:List (List D)) {qs:List Addr},OwnL K B H dss qs->qs.length=dss.length
 | [],qs,h=>by cases h;rfl
 |ds::r,qs,⟨q,t,xs,e,_,_,h3⟩=>by subst e;simp[OwnL.length r h3]
theorem OwnL.snoc{K:PySem.W.Frag}{B:Addr->Prop}{H:Hp}{ds:List D}{q:Addr}{xs:List V}(h1:H q=some (.lst xs))(h2:RepL K B H ds xs):∀(dss:List (List D)) {qs:List Addr},OwnL K B H dss qs->OwnL K B H (dss++[ds]) (qs++[q])
 | [],qs,h=>by cases h;exact⟨q,[],xs,rfl,h1,h2,rfl⟩
 |es::r,qs,⟨q',t,ys,e,g1,g2,g3⟩=>by subst e;exact⟨q',t++[q],ys,rfl,g1,g2,OwnL.snoc h1 h2 r g3⟩
structure AccOk{α:Type}(rep:(Addr->Prop)->Hp->Hp->α->V->Prop)(Acc:(Addr->Prop)->Hp->Addr->Hp->List α->List V->Prop):Prop where
 a0:∀G H p,H p=none->Acc G H p (upd H p (.lst [])) [] []
 aS:∀G H p H1 H2 done zs,Acc G H p H1 done zs->Same H1 H2->Acc G H p H2 done zs
 aL:∀G H p H1 done zs,Acc G H p H1 done zs->zs.length=done.length
 aN:∀G H p H1 H2 done zs y v,Free G H->H p=none->Same H H1->H1 p=some (.lst zs)->Acc G H p H1 done zs->Same H1 H2->rep (fun a=>(G a/\H a≠none)\/H1 a=none) H1 H2 y v->Acc G H p (upd H2 p (.lst (zs++[v]))) (done++[y]) (zs++[v])
 aB:∀G H0 H p H1 done zs,Same H0 H->Acc G H p H1 done zs->Acc G H0 p H1 done zs
def accD(K:PySem.W.Frag):(Addr->Prop)->Hp->Addr->Hp->List D->List V->Prop:=fun G _ p H' out zs=>RepL K (fun a=>G a/\a≠p) H' out zs
def accN(K:PySem.W.Frag):(Addr->Prop)->Hp->Addr->Hp->List (List D)->List V->Prop:=fun G H p H' out zs=>∃qs,zs=qs.map .ref/\OwnN K G H H' p out qs
def repD(K:PySem.W.Frag):(Addr->Prop)->Hp->Hp->D->V->Prop:=fun G _ H' d v=>Rep K G H' d v
def repN(K:PySem.W.Frag):(Addr->Prop)->Hp->Hp->List D->V->Prop:=fun G H H' ds v=>∃p xs,v=.ref p/\H p=none/\H' p=some (.lst xs)/\RepL K (fun a=>G a/\a≠p) H' ds xs
theorem Zeb{K:PySem.W.Frag}:AccOk (repD K) (accD K) where
 a0:=fun _ _ _ _=>RepL.nil
 aS:=fun _ _ _ _ _ _ _ r e=>r.same e
 aL:=fun _ _ _ _ _ _ r=>r.length
 aN:=fun G H p H1 H2 done zs y v hG hp e1 hp1 r e2 ry=>by
  have kg:KeepG (fun a=>G a/\a≠p) H2 (upd H2 p (.lst (zs++[v]))):=YN (fun z=>z.2 rfl) (e2 _ _ hp1)
  refine(RepL.keep kg _ (r.same e2)).append (RepL.cons (Rep.keep kg _ (Rep.wid (fun a z=> ?_) ry)) RepL.nil)
  rcases z with z|z
  ·exact⟨z.1,fun y=>z.2 (by rw[y];exact hp)⟩
  ·exact⟨hG a (e1.free z),fun y=>by rw[y,hp1]at z;cases z⟩
 aB:=fun _ _ _ _ _ _ _ _ r=>r
theorem Zec{K:PySem.W.Frag}:AccOk (repN K) (accN K) where
 a0:=fun G H p hp=>⟨[],rfl,by simp,(fun q hq=>by cases hq),rfl⟩
 aS:=fun G H p H1 H2 done zs ⟨qs,e1,n1,n2,n3⟩ e=>⟨qs,e1,n1,fun q hq=>let⟨a,xs,b⟩:=n2 q hq;⟨a,xs,e _ _ b⟩,OwnL.mono (fun d v z=>z.same e) _ (fun q hq=>by obtain⟨_,xs,b⟩:=n2 q hq;rw[b,e _ _ b]) n3⟩
 aL:=fun G H p H1 done zs ⟨qs,e1,_,_,n3⟩=>by rw[e1,List.length_map];exact OwnL.length _ n3
 aN:=fun G H p H1 H2 done zs y v hG hp e1 hp1 ⟨qs,e0,n1,n2,n3⟩ e2 ⟨q,xs,ev,hq,hq2,ry⟩=>by
  subst ev e0
  have qp:q≠p:=fun z=>by rw[z,hp1]at hq;cases hq
  have qq:q∉qs:=fun z=>by obtain⟨_,ys,b⟩:=n2 q z;rw[hq]at b;cases b
  have hH:H q=none:=e1.free hq
  have hp2:=e2 _ _ hp1
  have up:∀b,b≠p->upd H2 p (.lst (qs.map .ref++[.ref q])) b=H2 b:=fun b hb=>Zm hb
  refine⟨qs++[q],by simp,?_,fun b hb=> ?_,?_⟩
  ·rw[List.nodup_cons]at n1 ⊢
   refine⟨fun z=> ?_,?_⟩
   ·rcases List.mem_append.mp z with z|z
    ·exact n1.1 z
    ·exact qp (List.mem_singleton.mp z).symm
   ·rw[List.nodup_append]
    exact⟨n1.2,by simp,fun a ha b hb=>by cases List.mem_singleton.mp hb;exact fun z=>qq (z▸ha)⟩
  ·rcases List.mem_append.mp hb with hb|hb
   ·obtain⟨a,ys,z⟩:=n2 b hb
    have bp:b≠p:=fun w=>(List.nodup_cons.mp n1).1 (w▸hb)
    exact⟨a,ys,by rw[up b bp];exact e2 _ _ z⟩
   ·cases List.mem_singleton.mp hb
    exact⟨hH,xs,by rw[up _ qp];exact hq2⟩
  ·have kg:KeepG (fun a=>G a/\a∉p::(qs++[q])) H2 (upd H2 p (.lst (qs.map .ref++[.ref q]))):=YN (fun z=>z.2 List.mem_cons_self) hp2
   refine OwnL.snoc (by rw[up q qp];exact hq2) (RepL.keep kg _ (ry.wid fun a z=> ?_)) _ (OwnL.mono (fun d u z=>RepL.keep kg _ (((RepL.there d z).wid fun a w=> ?_).same e2)) _ (fun b hb=> ?_) n3)
   ·rcases z with⟨z|z,zq⟩
    ·refine⟨z.1,fun w=> ?_⟩
     rcases List.mem_cons.mp w with w|w
     ·exact z.2 (by rw[w];exact hp)
     ·rcases List.mem_append.mp w with w|w
      ·exact z.2 (n2 a w).1
      ·exact zq (List.mem_singleton.mp w)
    ·refine⟨hG a (e1.free z),fun w=> ?_⟩
     rcases List.mem_cons.mp w with w|w
     ·rw[w,hp1]at z;cases z
     ·rcases List.mem_append.mp w with w|w
      ·obtain⟨_,ys,b⟩:=n2 a w;rw[z]at b;cases b
      ·exact zq (List.mem_singleton.mp w)
   ·refine⟨w.1.1,fun y=> ?_⟩
    rcases List.mem_cons.mp y with y|y
    ·exact w.1.2 (by rw[y];exact List.mem_cons_self)
    ·rcases List.mem_append.mp y with y|y
     ·exact w.1.2 (List.mem_cons_of_mem _ y)
     ·exact w.2 (by rw[List.mem_singleton.mp y];exact hq)
   ·obtain⟨_,ys,z⟩:=n2 b hb
    have bp:b≠p:=fun w=>(List.nodup_cons.mp n1).1 (w▸hb)
    rw[up b bp,z,e2 _ _ z]
 aB:=fun G H0 H p H1 done zs e ⟨qs,e1,n1,n2,n3⟩=>⟨qs,e1,n1,fun q hq=>⟨e.free (n2 q hq).1,(n2 q hq).2⟩,n3⟩
theorem Zx{elt tg iter:Expr}{ifs:List Expr}{pos:Pos}{src:Rho->R (List D)}(N':List Str)(hi:PID X tg iter src)(hg:∀C cl s H fp,PGD (blk X N' scope cl C s H fp) tg is f)
  (ht:∀C cl s H fp,PTs (blk X N' scope cl C s H fp) ifs mt) (he:∀C cl s H fp,PD (blk X N' scope cl C s H fp) elt me) (hB:Vk X.env.scope X.N scope N' k js=true:=by kernel_rfl) (hcalm:X.calm=true:=by rfl) (his:∀i∈is,i<k:=by decide) (hs:∀x,foldedSetIterable iter X.env x=pure x:=by intro _;rfl):
  PN X (.ListComp elt [⟨tg,iter,ifs,0⟩] scope pos) (cmp src k js is f mt me):=by
 intro pins s σ H Q I ⟨G,ρ,hG,hρ,q⟩
 have hC:=Vl hB
 obtain⟨cl,c1,c2,c3⟩:=Wt (scope:=scope) (env:=X.env) fun y hy hk=>I.ok.has y.1 (hC.fre y hy hk)
 rw[eval_ListComp]
 refine wpAny_comprehension_free (use:=none) rfl hs c1 hC.kind hC.loc ?_
 unfold cmp at q
 cases es:src ρ with
 |ex c=>
  rw[es]at q
  exact thn (hi pins s σ H (fun _ _=>False) I ⟨G,ρ,hG,hρ,by rw[es];exact q⟩) fun v s1 h1=>thn h1 fun itv s2 h2=>by
   obtain⟨_,_,_,_,_,_,_,_,_,_,z⟩:=h2
   exact z.elim
 |bad=>rw[es]at q;exact q.elim
 |ok ds=>
  rw[es]at q
  have q:DQ X σ (fun H' ds v=>∃p xs,v=.ref p/\H p=none/\H' p=some (.lst xs)/\RepL X.K (fun a=>G a/\a≠p) H' ds xs) H (nox (ZO f (bro k js ρ) is mt me ds)) Q:=q
  cases em:ZO f (bro k js ρ) is mt me ds with
  |ex c=>rw[em]at q;exact q.elim
  |bad=>rw[em]at q;exact q.elim
  |ok out=>
   rw[em]at q
   refine thn (hi pins s σ H (fun J H1=>∃C:Hp->Prop,Same H H1/\ItD X.K (fun a=>G a/\H1 a≠none) J ds C/\(∀H2 H3,C H2->KeepG (fun a=>G a/\H1 a≠none) H2 H3->C H3)/\C H1/\ds.length<=sizeLine) I
    ⟨G,ρ,hG,hρ,by rw[es];exact fun J H1 C e1 h1 h2 h3 h4=>⟨C,e1,h1,h2,h3,h4⟩⟩) fun v s1 h1=>thn h1 fun itv s2 h2=> ?_
   obtain⟨it,fp,tn,J,H2,rfl,I2,T,t0,hfp,C,e1,hJ,hk,c0,hz⟩:=h2
   refine JR (RR:=fun acc C=>compPost (model X.prog X.w) X.A X.xe none (EP X pins σ Q) acc C) hcalm I2 T t0 hfp hC c2 c3 his hg ht he (hG.same e1) (hρ.same e1) hJ hk c0 hz em ?_
   intro p Cc H' H3 s' s3 zs σ' I3 fp3 eC J6 hp e2 hp' rr
   obtain⟨I6,oC,o1,o2,o3,o4,o5,o6,o7,o8⟩:=Uw I3 fp3 eC J6
   obtain⟨m,hn,_⟩:=J6.loc
   refine⟨m,hn,fun h' sb=>⟨.ref p,H',I6.turned (t':=s'.toks) (fun b o nb e=>sb.extBut b o nb e) o2 o3 (.inr o6) o7 o8,rfl,q _ _ (e1.trans e2) ⟨p,zs,rfl,e1.free hp,hp',rr⟩⟩⟩
end
end L3
namespace L3
open PySem PySem.Spec L2
open PyProof.Rows hiding St
inductive Sl where
 |sh (d:D)|ac (ds:List D)|an (dss:List (List D))|dc (kvs:List (List Int×List (List Int)))|tk (k:List Int)
abbrev Tau:=List (Option Sl)
def Sl.d:Sl->D
 | .sh d=>d
 | .ac ds=>.lst ds
 | .an dss=>.lst (dss.map .lst)
 | .dc kvs=>.dct kvs
 | .tk k=>.tup (k.map .int)
def Sl.h:Sl->Option D
 | .sh d=>some d
 | .tk k=>some (.tup (k.map .int))
 |_=>none
def Zz(τ:Tau):Rho:=τ.map fun o=>o.map Sl.d
def ZH(τ:Tau):Rho:=τ.map fun o=>o.bind Sl.h
inductive Fl where
 |nx (τ:Tau)|rt (d:D)|bk (τ:Tau)|ct (τ:Tau)|ex (c:Nat) (τ:Tau)|bad
structure Tr(O:Addr->Prop)(H:Hp)(O':Addr->Prop)(H':Hp):Prop where
 keep:∀b o,H b=some o->¬O b->H' b=some o
 dom:∀b,H' b=none->H b=none
 own:∀b,O' b->O b\/H b=none
theorem Tr.refl(O:Addr->Prop)(H:Hp):Tr O H O H:=⟨fun _ _ e _=>e,fun _ e=>e,fun _ h=>.inl h⟩
theorem Tr.of_same{O:Addr->Prop}{H H':Hp}(e:Same H H'):Tr O H O H':=⟨fun b o q _=>e b o q,fun b q=>e.free q,fun _ h=>.inl h⟩
theorem Tr.trans{O O1 O2:Addr->Prop}{H H1 H2:Hp}(a:Tr O H O1 H1)(b:Tr O1 H1 O2 H2):Tr O H O2 H2 where
 keep:=fun c o e n=>b.keep c o (a.keep c o e n) fun z=>by
  rcases a.own c z with q|q
  ·exact n q
  ·rw[e]at q;cases q
 dom:=fun c e=>a.dom c (b.dom c e)
 own:=fun c h=>by
  rcases b.own c h with q|q
  ·exact a.own c q
  ·exact .inr (a.dom c q)
abbrev LD:={o:HO // isL o}
abbrev TI(K:PySem.W.Frag)(H:Hp)(t:List Int)(x:V):Prop:=∃c,x=.ref c/\SqT K H c (t.map V.int)
def OwnK(K:PySem.W.Frag)(H:Hp):List (List Int×List (List Int))->List (List Key×V)->List Addr->Prop
 | [],es,qs=>es=[]/\qs=[]
 |(k,ts)::r,es,qs=>∃q t xs es',qs=q::t/\es=(k.map Sum.inl, .ref q)::es'/\H q=some (.lst xs)/\Paired (TI K H) ts xs/\OwnK K H r es' t
theorem OwnK.isL{K:PySem.W.Frag}{H:Hp}:∀(kvs:List (List Int×List (List Int))) {es:List (List Key×V)} {qs:List Addr},OwnK K H kvs es qs->∀q∈qs,∃xs,H q=some (.lst xs)
 | [],es,qs,h,q,hq=>by rw[h.2]at hq;cases hq
 |(k,ts)::r,es,qs,⟨q',t,xs,es',e,_,h1,_,h3⟩,q,hq=>by
  subst e
  rcases List.mem_cons.mp hq with rfl|hq
  ·exact⟨xs,h1⟩
  ·exact OwnK.isL r h3 q hq
theorem OwnK.mono{K:PySem.W.Frag}{H H':Hp}(ht:∀a xs,SqT K H a xs->SqT K H' a xs):∀(kvs:List (List Int×List (List Int))) {es:List (List Key×V)} {qs:List Addr},(∀q∈qs,H' q=H q)->OwnK K H kvs es qs->OwnK K H' kvs es qs
 | [],es,qs,_,h=>h
 |(k,ts)::r,es,qs,hq,⟨q,t,xs,es',e,e2,h1,h2,h3⟩=>by
  subst e
  exact⟨q,t,xs,es',rfl,e2,by rw[hq q List.mem_cons_self];exact h1,Paired.imp' (fun _ _ ⟨c,e,s⟩=>⟨c,e,ht _ _ s⟩) h2,OwnK.mono ht r (fun z hz=>hq z (List.mem_cons_of_mem _ hz)) h3⟩
theorem OwnK.rep{K:PySem.W.Frag}{G:Addr->Prop}{H:Hp}:∀(kvs:List (List Int×List (List Int))) {es:List (List Key×V)} {qs:List Addr},(∀q∈qs,G q)->OwnK K H kvs es qs->Paired (fun(p:List Int×List (List Int)) (q:List Key×V)=>q.1=p.1.map Sum.inl/\LTI K G H p.2 q.2) kvs es
 | [],es,qs,_,h=>by rw[h.1];exact .nil
 |(k,ts)::r,es,qs,hq,⟨q,t,xs,es',e,e2,h1,h2,h3⟩=>by
  subst e e2
  exact .cons ⟨rfl,q,xs,rfl,LstAt.of h1 (hq q List.mem_cons_self),h2⟩ (OwnK.rep r (fun z hz=>hq z (List.mem_cons_of_mem _ hz)) h3)
def Own(K:PySem.W.Frag)(B:Addr->Prop)(H:Hp):Sl->V->List Addr->Prop
 | .sh d,v,f=>f=[]/\Rep K B H d v
 | .ac ds,v,f=>∃p xs,v=.ref p/\f=[p]/\H p=some (.lst xs)/\RepL K B H ds xs
 | .an dss,v,f=>∃p qs,v=.ref p/\f=p::qs/\H p=some (.lst (qs.map .ref))/\OwnL K B H dss qs
 | .dc kvs,v,f=>∃p qs es,v=.ref p/\f=p::qs/\H p=some (.dT es)/\OwnK K H kvs es qs/\(kvs.map (·.1)).Nodup
 | .tk k,v,f=>∃p,v=.ref p/\f=[]/\H p=some (.tup (k.map V.int))
theorem OwnL.isL{K:PySem.W.Frag}{B:Addr->Prop}{H:Hp}:∀(dss:List (List D)) {qs:List Addr},OwnL K B H dss qs->∀q∈qs,∃xs,H q=some (.lst xs)
 | [],qs,h,q,hq=>by cases h;cases hq
 |ds::r,qs,⟨q',t,xs,e,h1,_,h3⟩,q,hq=>by
  subst e
  rcases List.mem_cons.mp hq with rfl|hq
  ·exact⟨xs,h1⟩
  ·exact OwnL.isL r h3 q hq
section
variable{K:PySem.W.Frag}{B B':Addr->Prop}{H H':Hp}
theorem Own.isL{sl:Sl}{v:V}{f:List Addr}(h:Own K B H sl v f):∀q∈f,∃xs:LD,H q=some xs.1:=by
 intro q hq
 cases sl with
 |sh d=>rw[h.1]at hq;cases hq
 |ac ds=>
  obtain⟨p,xs,_,rfl,h1,_⟩:=h
  cases List.mem_singleton.mp hq
  exact⟨⟨.lst xs,trivial⟩,h1⟩
 |an dss=>
  obtain⟨p,qs,_,rfl,h1,h2⟩:=h
  rcases List.mem_cons.mp hq with rfl|hq
  ·exact⟨⟨.lst _,trivial⟩,h1⟩
  ·obtain⟨xs,z⟩:=OwnL.isL dss h2 q hq
   exact⟨⟨.lst xs,trivial⟩,z⟩
 |dc kvs=>
  obtain⟨p,qs,es,_,rfl,h1,h2⟩:=h
  rcases List.mem_cons.mp hq with rfl|hq
  ·exact⟨⟨.dT es,trivial⟩,h1⟩
  ·obtain⟨xs,z⟩:=OwnK.isL kvs h2.1 q hq
   exact⟨⟨.lst xs,trivial⟩,z⟩
 |tk k=>
  obtain⟨p,_,rfl,_⟩:=h
  cases hq
theorem Own.mono(hT:∀a xs,H a=some (.tup xs)->H' a=some (.tup xs))(ht:∀a xs,SqT K H a xs->SqT K H' a xs)(k:∀d v,Rep K B H d v->Rep K B' H' d v)(kl:∀d v,RepL K B H d v->RepL K B' H' d v){sl:Sl}{v:V}{f:List Addr}(hf:∀q∈f,H' q=H q)(h:Own K B H sl v f):Own K B' H' sl v f:=by
 cases sl with
 |sh d=>exact⟨h.1,k _ _ h.2⟩
 |ac ds=>
  obtain⟨p,xs,e1,rfl,h1,h2⟩:=h
  exact⟨p,xs,e1,rfl,by rw[hf p (List.mem_singleton.mpr rfl)];exact h1,kl _ _ h2⟩
 |an dss=>
  obtain⟨p,qs,e1,rfl,h1,h2⟩:=h
  exact⟨p,qs,e1,rfl,by rw[hf p List.mem_cons_self];exact h1,OwnL.mono kl dss (fun q hq=>hf q (List.mem_cons_of_mem _ hq)) h2⟩
 |dc kvs=>
  obtain⟨p,qs,es,e1,rfl,h1,h2⟩:=h
  exact⟨p,qs,es,e1,rfl,by rw[hf p List.mem_cons_self];exact h1,OwnK.mono ht kvs (fun q hq=>hf q (List.mem_cons_of_mem _ hq)) h2.1,h2.2⟩
 |tk k=>
  obtain⟨p,e1,e2,h1⟩:=h
  exact⟨p,e1,e2,hT _ _ h1⟩
theorem OwnL.rep{G:Addr->Prop}(k:∀d v,RepL K B H d v->RepL K G H d v):∀(dss:List (List D)) {qs:List Addr},(∀q∈qs,G q)->OwnL K B H dss qs->RepL K G H (dss.map .lst) (qs.map .ref)
 | [],qs,_,h=>by cases h;exact RepL.nil
 |ds::r,qs,hq,⟨q,t,xs,e,h1,h2,h3⟩=>by
  subst e
  exact RepL.cons (Rep.lst h1 (hq q List.mem_cons_self) (k _ _ h2)) (OwnL.rep k r (fun z hz=>hq z (List.mem_cons_of_mem _ hz)) h3)
theorem Vn{G:Addr->Prop}:∀k:List Int,RepL K G H (k.map .int) (k.map V.int)
 | []=>RepL.nil
 |_::k=>RepL.cons Rep.int (Vn k)
theorem Uz{G:Addr->Prop}{k:List Int}{p:Addr}(h:H p=some (.tup (k.map V.int))):Rep K G H (.tup (k.map .int)) (.ref p):=Rep.tup (SqT.of h) (Vn k)
theorem Own.rep{G:Addr->Prop}(k:∀a,B a->G a){sl:Sl}{v:V}{f:List Addr}(hf:∀q∈f,G q)(h:Own K B H sl v f):Rep K G H sl.d v:=by
 cases sl with
 |sh d=>exact h.2.wid k
 |ac ds=>
  obtain⟨p,xs,rfl,rfl,h1,h2⟩:=h
  exact Rep.lst h1 (hf p (List.mem_singleton.mpr rfl)) (h2.wid k)
 |an dss=>
  obtain⟨p,qs,rfl,rfl,h1,h2⟩:=h
  exact Rep.lst h1 (hf p List.mem_cons_self) (OwnL.rep (fun d v z=>z.wid k) dss (fun q hq=>hf q (List.mem_cons_of_mem _ hq)) h2)
 |dc kvs=>
  obtain⟨p,qs,es,rfl,rfl,h1,h2⟩:=h
  show Rep K G H (.dct kvs) _
  simp only[Rep]
  exact⟨p,rfl,es,h1,hf p List.mem_cons_self,OwnK.rep kvs (fun q hq=>hf q (List.mem_cons_of_mem _ hq)) h2.1⟩
 |tk k=>
  obtain⟨p,rfl,_,h1⟩:=h
  exact Uz h1
end
structure Fps(K:PySem.W.Frag)(G O:Addr->Prop)(τ:Tau)(σ:St)(H:Hp)(F:Nat->List Addr):Prop where
 at_:∀(i:Nat) (sl:Sl),τ[i]? =some (some sl)->∃v,σ[i]? =some (some v)/\Own K (fun a=>G a/\¬O a) H sl v (F i)
 sub:∀i p,p∈F i->O p
 nd:∀i,(F i).Nodup
 dj:∀i j p,i≠j->p∈F i->p∉F j
structure StOk(K:PySem.W.Frag)(G O:Addr->Prop)(τ:Tau)(σ:St)(H:Hp):Prop where
 free:Free G H
 own:∀p,O p->G p/\∃xs:LD,H p=some xs.1
 len:τ.length=σ.length
 fps:∃F,Fps K G O τ σ H F
section
variable{K:PySem.W.Frag}{G O:Addr->Prop}{τ:Tau}{σ:St}{H H':Hp}
theorem StOk.hid(S:StOk K G O τ σ H):Free (fun a=>G a/\¬O a) H/\RepS K (fun a=>G a/\¬O a) H (ZH τ) σ:=by
 refine⟨fun a e=>⟨S.free a e,fun z=> ?_⟩,fun i d e=> ?_⟩
 ·obtain⟨_,xs,q⟩:=S.own a z
  rw[q]at e;cases e
 ·obtain⟨F,P⟩:=S.fps
  unfold ZH at e
  rw[List.getElem?_map]at e
  cases h:τ[i]? with
  |none=>rw[h]at e;cases e
  |some o=>
   rw[h]at e
   cases o with
   |none=>cases e
   |some sl=>
    obtain⟨v,h1,h2⟩:=P.at_ i sl h
    cases sl with
    |sh d'=>cases e;exact⟨v,h1,h2.2⟩
    |ac ds=>cases e
    |an ds=>cases e
    |dc ds=>cases e
    |tk k=>
     cases e
     obtain⟨p,rfl,_,h3⟩:=h2
     exact⟨_,h1,Uz h3⟩
theorem StOk.vw(S:StOk K G O τ σ H):RepS K G H (Zz τ) σ:=by
 intro i d e
 obtain⟨F,P⟩:=S.fps
 unfold Zz at e
 rw[List.getElem?_map]at e
 cases h:τ[i]? with
 |none=>rw[h]at e;cases e
 |some o=>
  rw[h]at e
  cases o with
  |none=>cases e
  |some sl=>
   cases e
   obtain⟨v,h1,h2⟩:=P.at_ i sl h
   exact⟨v,h1,h2.rep (fun a z=>z.1) fun q hq=>(S.own q (P.sub i q hq)).1⟩
theorem StOk.same(S:StOk K G O τ σ H)(e:Same H H'):StOk K G O τ σ H':=by
 obtain⟨F,P⟩:=S.fps
 refine⟨S.free.same e,fun p h=>let⟨a,xs,b⟩:=S.own p h;⟨a,xs,e _ _ b⟩,S.len,F,fun i sl h=> ?_,P.sub,P.nd,P.dj⟩
 obtain⟨v,h1,h2⟩:=P.at_ i sl h
 refine⟨v,h1,h2.mono (fun _ _ z=>e _ _ z) (fun _ _ z=>Same.seqT e z) (fun d v z=>z.same e) (fun d v z=>z.same e) fun q hq=> ?_⟩
 obtain⟨_,xs,z⟩:=S.own q (P.sub i q hq)
 rw[z,e _ _ z]
theorem StOk.step(S:StOk K G O τ σ H){F:Nat->List Addr}(P:Fps K G O τ σ H F){i:Nat}{sl:Sl}{v:V}{f:List Addr}(kp:∀b o,H b=some o->b∉F i->H' b=some o)(dom:∀b,H' b=none->H b=none)
  (hf:f.Nodup) (hn:∀q∈f,q∈F i\/H q=none) (h:Own K (fun a=>G a/\¬((O a/\a∉F i)\/a∈f)) H' sl v f):
  StOk K G (fun a=>(O a/\a∉F i)\/a∈f) (τ.set i (some sl)) (σ.set i (some v)) H'/\Tr O H (fun a=>(O a/\a∉F i)\/a∈f) H':=by
 have bw:∀a,(G a/\¬O a)/\H a≠none->G a/\¬((O a/\a∉F i)\/a∈f):=fun a z=>⟨z.1.1,fun q=>by
  rcases q with q|q
  ·exact z.1.2 q.1
  ·rcases hn a q with y|y
   ·exact z.1.2 (P.sub i a y)
   ·exact z.2 y⟩
 have kg:KeepG (fun a=>(G a/\¬O a)/\H a≠none) H H':=fun b o e hb=>kp b o e fun z=>by
  obtain⟨_,xs,ex⟩:=S.own b (P.sub i b z)
  rcases hb with hb|hb
  ·exact hb.1.2 (P.sub i b z)
  ·rw[e]at ex;cases ex;exact hb xs.2
 refine⟨⟨fun a e=>S.free a (dom a e),fun p hp=> ?_,by simpa using S.len,fun j=>if j=i then f else F j,fun j sl' hj=> ?_,fun j p hp=> ?_,fun j=> ?_,fun j l p hjl hp hp'=> ?_⟩,⟨fun b o e n=>kp b o e fun z=>n (P.sub i b z),dom,fun b z=> ?_⟩⟩
 ·rcases hp with hp|hp
  ·obtain⟨a,xs,e⟩:=S.own p hp.1
   exact⟨a,xs,kp p _ e hp.2⟩
  ·obtain⟨xs,e⟩:=h.isL p hp
   refine⟨?_,xs,e⟩
   rcases hn p hp with y|y
   ·exact(S.own p (P.sub i p y)).1
   ·exact S.free p y
 ·by_cases hji:j=i
  ·subst hji
   have hlt:j<τ.length:=by have:=(List.getElem?_eq_some_iff.mp hj).1;simpa using this
   rw[List.getElem?_set_self hlt]at hj
   cases hj
   simp only[if_true]
   exact⟨v,List.getElem?_set_self (by rw[←S.len];exact hlt),h⟩
  ·rw[List.getElem?_set_ne (Ne.symm hji)]at hj ⊢
   simp only[hji,if_false]
   obtain⟨v',h1,h2⟩:=P.at_ j sl' hj
   refine⟨v',h1,h2.mono (fun _ _ z=>kg _ _ z (.inr fun y=>y)) (fun _ _ z=>kg.seqT z) (fun d u z=>(Rep.keep kg _ (Rep.there d z)).wid bw) (fun d u z=>(RepL.keep kg _ (RepL.there d z)).wid bw) fun q hq=> ?_⟩
   obtain⟨xs,z⟩:=h2.isL q hq
   rw[z,kp q _ z (P.dj j i q hji hq)]
 ·by_cases hji:j=i
  ·simp only[hji,if_true]at hp;exact .inr hp
  ·simp only[hji,if_false]at hp;exact .inl ⟨P.sub j p hp,P.dj j i p hji hp⟩
 ·by_cases hji:j=i
  ·simp only[hji,if_true];exact hf
  ·simp only[hji,if_false];exact P.nd j
 ·by_cases hji:j=i<;>by_cases hli:l=i
  ·exact hjl (hji.trans hli.symm)
  ·simp only[hji,hli,if_true,if_false]at hp hp'
   rcases hn p hp with y|y
   ·exact P.dj l i p hli hp' y
   ·obtain⟨_,xs,e⟩:=S.own p (P.sub l p hp')
    rw[y]at e;cases e
  ·simp only[hji,hli,if_true,if_false]at hp hp'
   rcases hn p hp' with y|y
   ·exact P.dj j i p hji hp y
   ·obtain⟨_,xs,e⟩:=S.own p (P.sub j p hp)
    rw[y]at e;cases e
  ·simp only[hji,hli,if_false]at hp hp'
   exact P.dj j l p hjl hp hp'
 ·rcases z with z|z
  ·exact .inl z.1
  ·rcases hn b z with y|y
   ·exact .inl (P.sub i b y)
   ·exact .inr y
theorem StOk.set'(S:StOk K G O τ σ H){i:Nat}{d:D}{v:V}(r:Rep K (fun a=>G a/\¬O a) H d v):∃O',(∀a,O' a->O a)/\StOk K G O' (τ.set i (some (.sh d))) (σ.set i (some v)) H/\Tr O H O' H:=by
 obtain⟨F,P⟩:=S.fps
 exact⟨_,fun a z=>z.elim (fun y=>y.1) (fun y=>by cases y),S.step P (fun b o e _=>e) (fun b e=>e) List.nodup_nil (fun q hq=>by cases hq) (sl:=.sh d) (v:=v) (f:=[]) ⟨rfl,r.wid fun a z=>⟨z.1,fun y=>by
  rcases y with y|y
  ·exact z.2 y.1
  ·cases y⟩⟩⟩
theorem StOk.new(S:StOk K G O τ σ H){i:Nat}{ds:List D}{p:Addr}{xs:List V}{H1:Hp}(e:Same H H1)(hn:H p=none)(hp:H1 p=some (.lst xs))(r:RepL K (fun a=>(G a/\¬O a)/\a≠p) H1 ds xs):
  ∃O',StOk K G O' (τ.set i (some (.ac ds))) (σ.set i (some (.ref p))) H1/\Tr O H O' H1:=by
 obtain⟨F,P⟩:=S.fps
 refine⟨_,S.step P (fun b o q _=>e b o q) (fun b q=>e.free q) (f:=[p]) (by simp) (fun q hq=>.inr (by rw[List.mem_singleton.mp hq];exact hn)) (sl:=.ac ds) (v:=.ref p) ⟨p,xs,rfl,rfl,hp,r.wid fun a z=>⟨z.1.1,fun y=> ?_⟩⟩⟩
 rcases y with y|y
 ·exact z.1.2 y.1
 ·exact z.2 (List.mem_singleton.mp y)
theorem StOk.newN(S:StOk K G O τ σ H){i:Nat}{dss:List (List D)}{p:Addr}{qs:List Addr}{H1:Hp}(e:Same H H1)(hn:H p=none)(hp:H1 p=some (.lst (qs.map .ref)))(r:OwnN K (fun a=>G a/\¬O a) H H1 p dss qs):
  ∃O',StOk K G O' (τ.set i (some (.an dss))) (σ.set i (some (.ref p))) H1/\Tr O H O' H1:=by
 obtain⟨F,P⟩:=S.fps
 obtain⟨r1,r2,r3⟩:=r
 refine⟨_,S.step P (fun b o q _=>e b o q) (fun b q=>e.free q) (f:=p::qs) r1 (fun q hq=> ?_) (sl:=.an dss) (v:=.ref p) ⟨p,qs,rfl,rfl,hp,OwnL.mono (fun d v z=>z.wid fun a y=>⟨y.1.1,fun w=> ?_⟩) dss (fun _ _=>rfl) r3⟩⟩
 ·rcases List.mem_cons.mp hq with rfl|hq
  ·exact .inr hn
  ·exact .inr (r2 q hq).1
 ·rcases w with w|w
  ·exact y.1.2 w.1
  ·exact y.2 w
theorem StOk.upd(S:StOk K G O τ σ H){i:Nat}{ds es:List D}{p:Addr}{ys:List V}(h:τ[i]? =some (some (.ac ds)))(hp:σ[i]? =some (some (.ref p)))(r:RepL K (fun a=>G a/\¬O a) H es ys):
  ∃O',StOk K G O' (τ.set i (some (.ac es))) σ (L2.upd H p (.lst ys))/\Tr O H O' (L2.upd H p (.lst ys)):=by
 obtain⟨F,P⟩:=S.fps
 obtain⟨v,h1,p',xs,ev,ef,h2,h3⟩:=P.at_ i _ h
 rw[hp]at h1
 cases h1
 cases ev
 have kg:KeepG (fun a=>(G a/\¬O a)) H (L2.upd H p (.lst ys)):=YN (fun z=>z.2 (P.sub i p (by rw[ef];simp))) h2
 have hs:σ.set i (some (.ref p))=σ:=by
  apply List.ext_getElem?
  intro j
  by_cases hij:i=j
  ·subst hij
   rw[List.getElem?_set_self (List.getElem?_eq_some_iff.mp hp).1,hp]
  ·rw[List.getElem?_set_ne hij]
 have z:=S.step P (H':=L2.upd H p (.lst ys)) (i:=i) (f:=[p]) (sl:=.ac es) (v:=.ref p) (fun b o e nb=>by
   rw[Zm]
   ·exact e
   ·intro z;subst z;exact nb (by rw[ef];simp)) (fun b e=>by
   by_cases z:b=p
   ·subst z;rw[Zi]at e;cases e
   ·rw[Zm z]at e;exact e) (by simp) (fun q hq=>.inl (by rw[ef];exact hq)) ⟨p,ys,rfl,rfl,Zi,(RepL.keep kg _ r).wid fun a y=>⟨y.1,fun w=>by
   rcases w with w|w
   ·exact y.2 w.1
   ·exact y.2 (P.sub i a (by rw[ef];exact w))⟩⟩
 rw[hs]at z
 exact⟨_,z⟩
theorem OwnL.get{K:PySem.W.Frag}{B:Addr->Prop}{H:Hp}:∀(dss:List (List D)) {qs:List Addr} {n:Nat} {ds:List D},OwnL K B H dss qs->dss[n]? =some ds->∃q xs,qs[n]? =some q/\H q=some (.lst xs)/\RepL K B H ds xs
 | [],qs,n,ds,_,e=>by simp at e
 |es::r,qs,0,ds,⟨q,t,xs,eq,h1,h2,_⟩,e=>by subst eq;simp at e;subst e;exact⟨q,xs,rfl,h1,h2⟩
 |es::r,qs,n+1,ds,⟨q,t,xs,eq,_,_,h3⟩,e=>by
  subst eq
  obtain⟨q',ys,a,b⟩:=OwnL.get r (n:=n) h3 (by simpa using e)
  exact⟨q',ys,by simpa using a,b⟩
theorem OwnL.put{K:PySem.W.Frag}{B:Addr->Prop}{H:Hp}{q:Addr}{es:List D}{ys:List V}(k:∀ds xs,RepL K B H ds xs->RepL K B (L2.upd H q (.lst ys)) ds xs)(r:RepL K B H es ys):∀(dss:List (List D)) {qs:List Addr} {n:Nat},qs.Nodup->OwnL K B H dss qs->qs[n]? =some q->OwnL K B (L2.upd H q (.lst ys)) (dss.set n es) qs
 | [],qs,n,_,h,e=>by cases h;simp at e
 |ds::t,qs,0,nd,⟨q',u,xs,eq,h1,h2,h3⟩,e=>by
  subst eq
  simp at e
  subst e
  refine⟨q',u,ys,rfl,Zi,k _ _ r,OwnL.mono k t (fun z hz=> ?_) h3⟩
  rw[Zm]
  intro w
  subst w
  exact(List.nodup_cons.mp nd).1 hz
 |ds::t,qs,n+1,nd,⟨q',u,xs,eq,h1,h2,h3⟩,e=>by
  subst eq
  have e':u[n]? =some q:=by simpa using e
  have hne:q'≠q:=fun w=>(List.nodup_cons.mp nd).1 (by rw[w];exact List.mem_of_getElem? e')
  exact⟨q',u,xs,rfl,by rw[Zm hne];exact h1,k _ _ h2,OwnL.put k r t (List.nodup_cons.mp nd).2 h3 e'⟩
theorem StOk.updN(S:StOk K G O τ σ H){i n:Nat}{dss:List (List D)}{ds es:List D}{p:Addr}(h:τ[i]? =some (some (.an dss)))(hp:σ[i]? =some (some (.ref p)))(hd:dss[n]? =some ds):
  ∃(qs:List Addr) (q:Addr) (xs:List V),H p=some (.lst (qs.map .ref))/\qs[n]? =some q/\H q=some (.lst xs)/\RepL K (fun a=>G a/\¬O a) H ds xs/\qs.length=dss.length/\
   ∀ys,RepL K (fun a=>G a/\¬O a) H es ys->∃O',StOk K G O' (τ.set i (some (.an (dss.set n es)))) σ (L2.upd H q (.lst ys))/\Tr O H O' (L2.upd H q (.lst ys)):=by
 obtain⟨F,P⟩:=S.fps
 obtain⟨v,h1,p',qs,ev,ef,h2,h3⟩:=P.at_ i _ h
 rw[hp]at h1
 cases h1
 cases ev
 obtain⟨q,xs,g1,g2,g3⟩:=OwnL.get dss h3 hd
 have hqm:=List.mem_of_getElem? g1
 have nd:=P.nd i
 rw[ef]at nd
 refine⟨qs,q,xs,h2,g1,g2,g3,OwnL.length dss h3,fun ys r=> ?_⟩
 have hqF:q∈F i:=by rw[ef];exact List.mem_cons_of_mem _ hqm
 have hqp:p≠q:=fun w=>(List.nodup_cons.mp nd).1 (by rw[w];exact hqm)
 have kg:KeepG (fun a=>(G a/\¬O a)) H (L2.upd H q (.lst ys)):=YN (fun z=>z.2 (P.sub i q hqF)) g2
 have hs:σ.set i (some (.ref p))=σ:=by
  apply List.ext_getElem?
  intro j
  by_cases hij:i=j
  ·subst hij
   rw[List.getElem?_set_self (List.getElem?_eq_some_iff.mp hp).1,hp]
  ·rw[List.getElem?_set_ne hij]
 have z:=S.step P (H':=L2.upd H q (.lst ys)) (i:=i) (f:=p::qs) (sl:=.an (dss.set n es)) (v:=.ref p) (fun b o e nb=>by
   rw[Zm]
   ·exact e
   ·intro z;subst z;exact nb hqF) (fun b e=>by
   by_cases z:b=q
   ·subst z;rw[Zi]at e;cases e
   ·rw[Zm z]at e;exact e) nd (fun q hq=>.inl (by rw[ef];exact hq)) ⟨p,qs,rfl,rfl,by rw[Zm hqp];exact h2,OwnL.mono (fun d u z=>z.wid fun a y=>⟨y.1,fun w=>by
   rcases w with w|w
   ·exact y.2 w.1
   ·exact y.2 (P.sub i a (by rw[ef];exact w))⟩) _ (fun _ _=>rfl) (OwnL.put (fun d u z=>RepL.keep kg _ z) r dss (List.nodup_cons.mp nd).2 h3 g1)⟩
 rw[hs]at z
 exact⟨_,z⟩
theorem StOk.ac(S:StOk K G O τ σ H){i:Nat}{ds:List D}(h:τ[i]? =some (some (.ac ds))):∃p xs,σ[i]? =some (some (.ref p))/\H p=some (.lst xs)/\RepL K (fun a=>G a/\¬O a) H ds xs:=by
 obtain⟨F,P⟩:=S.fps
 obtain⟨v,h1,p,xs,rfl,_,h2,h3⟩:=P.at_ i _ h
 exact⟨p,xs,h1,h2,h3⟩
theorem StOk.an(S:StOk K G O τ σ H){i:Nat}{dss:List (List D)}(h:τ[i]? =some (some (.an dss))):∃p,σ[i]? =some (some (.ref p)):=by
 obtain⟨F,P⟩:=S.fps
 obtain⟨v,h1,p,qs,rfl,_⟩:=P.at_ i _ h
 exact⟨p,h1⟩
theorem StOk.frz(S:StOk K G O τ σ H){i:Nat}{sl:Sl}(h:τ[i]? =some (some sl)):∃O',StOk K G O' (τ.set i (some (.sh sl.d))) σ H/\Tr O H O' H:=by
 obtain⟨F,P⟩:=S.fps
 obtain⟨v,h1,h2⟩:=P.at_ i _ h
 have hs:σ.set i (some v)=σ:=by
  apply List.ext_getElem?
  intro j
  by_cases hij:i=j
  ·subst hij
   rw[List.getElem?_set_self (List.getElem?_eq_some_iff.mp h1).1,h1]
  ·rw[List.getElem?_set_ne hij]
 have z:=S.step P (H':=H) (i:=i) (f:=[]) (sl:=.sh sl.d) (v:=v) (fun b o e _=>e) (fun b e=>e) List.nodup_nil (fun q hq=>by cases hq) ⟨rfl,h2.rep (fun a y=>⟨y.1,fun w=>by
   rcases w with w|w
   ·exact y.2 w.1
   ·cases w⟩) fun q hq=>⟨(S.own q (P.sub i q hq)).1,fun w=>by
   rcases w with w|w
   ·exact w.2 hq
   ·cases w⟩⟩
 rw[hs]at z
 exact⟨_,z⟩
end
end L3
namespace L3
open PySem PySem.Spec L2
open PyProof.Rows hiding St
def EndsOk(X:Cx)(G O:Addr->Prop)(H:Hp)(E:Ends)(r:Fl):Prop:=match r with
 | .nx τ'=>∀O' σ' H',Tr O H O' H'->StOk X.K G O' τ' σ' H'->E.nx σ' H'
 | .rt d=>∀O' v H',Tr O H O' H'->Rep X.K G H' d v->E.rt v H'
 | .bk τ'=>∀O' σ' H',Tr O H O' H'->StOk X.K G O' τ' σ' H'->E.bk σ' H'
 | .ct τ'=>∀O' σ' H',Tr O H O' H'->StOk X.K G O' τ' σ' H'->E.ct σ' H'
 | .ex c τ'=>X.ex=[]/\∀O' pins σ' H' e s',Tr O H O' H'->StOk X.K G O' τ' σ' H'->Inv X pins σ' H' s'->Fly X pins H' e (Yn X.K c) s'.heap->X.xe (.ref e) s'
 | .bad=>False
theorem EndsOk.xq{X:Cx}{G O:Addr->Prop}{H:Hp}{E:Ends}{c:Nat}{τ:Tau}{σ:St}(h:EndsOk X G O H E (.ex c τ))(S:StOk X.K G O τ σ H):XQ X σ H c:=
 ⟨h.1,fun pins e s' H' sm I f=>h.2 O pins σ H' e s' (Tr.of_same sm) (S.same sm) I f⟩
theorem EndsOk.tr{X:Cx}{G O O1:Addr->Prop}{H H1:Hp}{E:Ends}{r:Fl}(h:EndsOk X G O H E r)(t:Tr O H O1 H1):EndsOk X G O1 H1 E r:=by
 cases r with
 |nx τ'=>exact fun O' σ' H' t' s=>h O' σ' H' (t.trans t') s
 |rt d=>exact fun O' v H' t' s=>h O' v H' (t.trans t') s
 |bk τ'=>exact fun O' σ' H' t' s=>h O' σ' H' (t.trans t') s
 |ct τ'=>exact fun O' σ' H' t' s=>h O' σ' H' (t.trans t') s
 |ex c τ'=>exact⟨h.1,fun O' pins σ' H' e s' t'=>h.2 O' pins σ' H' e s' (t.trans t')⟩
 |bad=>exact h
def tS(X:Cx)(M:Tau->Fl):TS:=fun E σ H=>∃(G O:Addr->Prop) (τ:Tau),StOk X.K G O τ σ H/\EndsOk X G O H E (M τ)
def PSD(X:Cx)(st:Stmt)(M:Tau->Fl):Prop:=PS X st (tS X M)
def PSS(X:Cx)(sts:List Stmt)(M:Tau->Fl):Prop:=PSs X sts (tS X M)
theorem _root_.L2.PS.imp{X:Cx}{e:Stmt}{t t':TS}(h:PS X e t)(i:∀D σ H,t' D σ H->t D σ H):PS X e t':=fun pins s σ H D I q=>h pins s σ H D I (i D σ H q)
theorem _root_.L2.PSs.imp{X:Cx}{e:List Stmt}{t t':TS}(h:PSs X e t)(i:∀D σ H,t' D σ H->t D σ H):PSs X e t':=fun pins s σ H D I q=>h pins s σ H D I (i D σ H q)
def sq(M N:Tau->Fl):Tau->Fl:=fun τ=>match M τ with
 | .nx τ'=>N τ'
 |r=>r
def sk:Tau->Fl:=fun τ=>.nx τ
def sno:Tau->Fl:=fun _=>.bad
section
variable{X:Cx}{st:Stmt}{Y4:List Stmt}{M N:Tau->Fl}{pos:Pos}
theorem Zt:PSS X [] sk:=pss_nil.imp fun E σ H ⟨G,O,τ,S,q⟩=>q O σ H (Tr.refl O H) S
theorem Z7(h1:PSD X st M)(h2:PSS X Y4 N):PSS X (st::Y4) (sq M N):=(Z5b h1 h2).imp fun E σ H ⟨G,O,τ,S,q⟩=>by
 refine⟨G,O,τ,S,?_⟩
 unfold sq at q
 cases e:M τ with
 |nx τ'=>rw[e]at q;exact fun O' σ' H' t s=>⟨G,O',τ',s,EndsOk.tr (r:=N τ') q t⟩
 |rt d=>rw[e]at q;exact q
 |bk τ'=>rw[e]at q;exact q
 |ct τ'=>rw[e]at q;exact q
 |ex c τ'=>rw[e]at q;exact q
 |bad=>rw[e]at q;exact q
theorem Z6(h1:PSD X st M):PSS X [st] M:=Z8o h1
def Zr(m:Rho->R D):Tau->Fl:=fun τ=>match m (Zz τ)with
 | .ok d=>.rt d
 | .ex c=>.ex c τ
 | .bad=>.bad
theorem Zl{e:Expr}{m:Rho->R D}(he:PD X e m):PSD X (.Return (some e) pos) (Zr m):=(Zbg he).imp fun E σ H ⟨G,O,τ,S,q⟩=>by
 refine⟨G,Zz τ,S.free,S.vw,?_⟩
 unfold Zr at q
 cases h:m (Zz τ)with
 |ok d=>rw[h]at q;exact fun v H' e r=>q O v H' (Tr.of_same e) r
 |ex c=>rw[h]at q;exact EndsOk.xq q S
 |bad=>rw[h]at q;exact q.elim
def ZX(i:Nat)(m:Rho->R D):Tau->Fl:=fun τ=>match m (ZH τ)with
 | .ok d=>.nx (τ.set i (some (.sh d)))
 | .ex c=>.ex c τ
 | .bad=>.bad
theorem Y3{i:Nat}{x:Str}{e:Expr}{m:Rho->R D}{pos':Pos}(he:PD X e m)(hN:ndB X.N=true:=by kernel_rfl)(hi:X.N[i]? =some x:=by rfl)(hx:Loc X.env.scope x:=by first|exact Or.inl rfl|exact Or.inr rfl)(hs:swapsWith e (some (.Name x pos')) pos.line X.env=pure false:=by rfl)
  (hf:X.fn x=true\/X.env.scope.names.lookup x=some .local:=by first|exact .inl rfl|exact .inr rfl):PSD X (.Assign [.Name x pos'] e pos) (ZX i m):=
 (Wc (XJ hN) hi hx he hs hf).imp fun E σ H ⟨G,O,τ,S,q⟩=>by
  refine⟨_,ZH τ,S.hid.1,S.hid.2,?_⟩
  unfold ZX at q
  cases h:m (ZH τ)with
  |ok d=>rw[h]at q;exact fun v H' e r=>let⟨O',_,s1,t1⟩:=(S.same e).set' (i:=i) r;q O' _ H' ((Tr.of_same e).trans t1) s1
  |ex c=>rw[h]at q;exact EndsOk.xq q S
  |bad=>rw[h]at q;exact q.elim
def noL:D->Bool
 | .lst _=>false
 | .dct _=>false
 | .tup xs=>noLs xs
 |_=>true
where noLs:List D->Bool
 | []=>true
 |x::xs=>noL x&&noLs xs
mutual
theorem Q8{K:PySem.W.Frag}{G G':Addr->Prop}{H:Hp}:∀(d:D) {v:V},noL d=true->Rep K G H d v->Rep K G' H d v
 | .non,_,_,h=>by simpa only[Rep]using h
 | .bl _,_,_,h=>by simpa only[Rep]using h
 | .int _,_,_,h=>by simpa only[Rep]using h
 | .str _,_,_,h=>by simpa only[Rep]using h
 | .tup ds,v,n,h=>by
  obtain⟨a,xs,rfl,s,r⟩:=h.tup_of
  exact Rep.tup s (UA ds (by simpa only[noL]using n) r)
 | .lst ds,v,n,h=>by simp[noL]at n
 | .exc c,v,n,h=>by simpa only[Rep]using h
 | .dct c,v,n,h=>by simp[noL]at n
theorem UA{K:PySem.W.Frag}{G G':Addr->Prop}{H:Hp}:∀(ds:List D) {xs:List V},noL.noLs ds=true->RepL K G H ds xs->RepL K G' H ds xs
 | [],_,_,h=>by simpa only[RepL]using h
 |d::ds,xs,n,h=>by
  obtain⟨x,r,rfl,h1,h2⟩:=h.uncons
  simp only[noL.noLs,Bool.and_eq_true]at n
  exact RepL.cons (Q8 d n.1 h1) (UA ds n.2 h2)
end
def UB(i:Nat)(m:Rho->R D):Tau->Fl:=fun τ=>match m (Zz τ)with
 | .ok d=>if noL d=true then .nx (τ.set i (some (.sh d)))else .bad
 | .ex c=>.ex c τ
 | .bad=>.bad
theorem Zc4{i:Nat}{x:Str}{e:Expr}{m:Rho->R D}{pos':Pos}(he:PD X e m)(hN:ndB X.N=true:=by kernel_rfl)(hi:X.N[i]? =some x:=by rfl)(hx:Loc X.env.scope x:=by first|exact Or.inl rfl|exact Or.inr rfl)(hs:swapsWith e (some (.Name x pos')) pos.line X.env=pure false:=by rfl)
  (hf:X.fn x=true\/X.env.scope.names.lookup x=some .local:=by first|exact .inl rfl|exact .inr rfl):PSD X (.Assign [.Name x pos'] e pos) (UB i m):=
 (Wc (XJ hN) hi hx he hs hf).imp fun E σ H ⟨G,O,τ,S,q⟩=>by
  refine⟨G,Zz τ,S.free,S.vw,?_⟩
  unfold UB at q
  cases h:m (Zz τ)with
  |ok d=>
   rw[h]at q
   by_cases hn:noL d=true
   ·simp only[hn,if_true]at q
    exact fun v H' e r=>let⟨O',_,s1,t1⟩:=(S.same e).set' (i:=i) (Q8 d hn r);q O' _ H' ((Tr.of_same e).trans t1) s1
   ·simp only[hn,if_false]at q
    exact q.elim
  |ex c=>rw[h]at q;exact EndsOk.xq q S
  |bad=>rw[h]at q;exact q.elim
def UC(i:Nat)(m:Rho->R (List D)):Tau->Fl:=fun τ=>match m (ZH τ)with
 | .ok ds=>.nx (τ.set i (some (.ac ds)))
 | .ex c=>.ex c τ
 | .bad=>.bad
theorem UD{i:Nat}{x:Str}{e:Expr}{m:Rho->R (List D)}{pos':Pos}(he:PN X e m)(hN:ndB X.N=true:=by kernel_rfl)(hi:X.N[i]? =some x:=by rfl)(hx:Loc X.env.scope x:=by first|exact Or.inl rfl|exact Or.inr rfl)(hs:swapsWith e (some (.Name x pos')) pos.line X.env=pure false:=by rfl)
  (hf:X.fn x=true\/X.env.scope.names.lookup x=some .local:=by first|exact .inl rfl|exact .inr rfl):PSD X (.Assign [.Name x pos'] e pos) (UC i m):=
 (Wc (XJ hN) hi hx he hs hf).imp fun E σ H ⟨G,O,τ,S,q⟩=>by
  refine⟨_,ZH τ,S.hid.1,S.hid.2,?_⟩
  unfold UC at q
  cases h:m (ZH τ)with
  |ok d=>
   rw[h]at q
   intro v H' e ⟨p,xs,ev,hp,hp',r⟩
   subst ev
   obtain⟨O',s1,t1⟩:=S.new (i:=i) e hp hp' r
   exact q O' _ H' t1 s1
  |ex c=>rw[h]at q;exact EndsOk.xq q S
  |bad=>rw[h]at q;exact q.elim
def sIf(c:Rho->R Bool)(M N:Tau->Fl):Tau->Fl:=fun τ=>match c (Zz τ)with
 | .ok b=>if b=true then M τ else N τ
 | .ex c=>.ex c τ
 | .bad=>.bad
theorem Y9{c:Expr}{a b:List Stmt}{mc:Rho->R Bool}(hc:PDT X c mc)(ha:PSS X a M)(hb:PSS X b N):PSD X (.If c a b pos) (sIf mc M N):=(Zdv hc ha hb).imp fun E σ H ⟨G,O,τ,S,q⟩=>by
 refine⟨G,Zz τ,S.free,S.vw,?_⟩
 unfold sIf at q
 cases h:mc (Zz τ)with
 |ok k=>
  rw[h]at q
  intro b' H' e r
  cases r
  cases k with
  |true=>exact⟨G,O,τ,S.same e,EndsOk.tr (r:=M τ) q (Tr.of_same e)⟩
  |false=>exact⟨G,O,τ,S.same e,EndsOk.tr (r:=N τ) q (Tr.of_same e)⟩
 |ex c=>rw[h]at q;exact EndsOk.xq q S
 |bad=>rw[h]at q;exact q.elim
def Xi(m:Rho->R D):Tau->Fl:=fun τ=>match m (Zz τ)with
 | .ok _=>.nx τ
 | .ex c=>.ex c τ
 | .bad=>.bad
theorem Qy{e:Expr}{m:Rho->R D}(he:PD X e m)(hs:swapsWith e none pos.line X.env=pure false:=by rfl):PSD X (.Expr e pos) (Xi m):=(Q0 he hs).imp fun E σ H ⟨G,O,τ,S,q⟩=>by
 refine⟨G,Zz τ,S.free,S.vw,?_⟩
 unfold Xi at q
 cases h:m (Zz τ)with
 |ok d=>rw[h]at q;exact fun v H' e r=>q O _ H' (Tr.of_same e) (S.same e)
 |ex c=>rw[h]at q;exact EndsOk.xq q S
 |bad=>rw[h]at q;exact q.elim
def UE(i:Nat)(m:Rho->R D):Tau->Fl:=fun τ=>match τ[i]?,m (ZH τ)with
 |some (some (.ac ds)), .ok d=>if ds.length<sizeLine then .nx (τ.set i (some (.ac (ds++[d]))))else .bad
 |some (some (.ac _)), .ex c=>.ex c τ
 |_,_=>.bad
theorem Zed{i:Nat}{x:Str}{e:Expr}{m:Rho->R D}{p1 apos cpos:Pos}(he:PD X e m)(hi:X.N[i]? =some x:=by rfl)(hv:Vis X.env.scope x:=by first|exact Or.inl rfl|exact Or.inr (Or.inl rfl)|exact Or.inr (Or.inr rfl))
  (hbase:attributeBase (.Name x p1) "append" X.env (eval (.Name x p1) X.env)=eval (.Name x p1) X.env:=by rfl)
  (hfew:((backTo cpos (starEach [e] X.env)).all (fun x=> !x.1)&&(backToKw cpos (keywordEach [] X.env)).all (fun x=>x.1.isSome)&&decide ([e].length+([]:List Keyword).length+(if([]:List Keyword).isEmpty then 0 else 1)<30))=true:=by rfl)
  (hline:(apos.endLine == cpos.line)=true:=by rfl) (hs:starEach [e] X.env=(false,eval e X.env)::starEach [] X.env:=by rfl) (hd:(x == ("__debug__":Str))=false:=by decide) (hcd:(x == ("__classdict__":Str))=false:=by decide)
  (hsw:swapsWith (.Call (.Attribute (.Name x p1) "append" apos) [e] [] cpos) none pos.line X.env=pure false:=by rfl):
  PSD X (.Expr (.Call (.Attribute (.Name x p1) "append" apos) [e] [] cpos) pos) (UE i m):=
 (Q0 (Ur PySem.F.plainAttrs_list PySem.F.slot_list_append PySem.F.type_list_append Qr (Xm hi hv hd hcd) (Yo he pa_nil hs) hbase hfew hline hs) hsw).imp fun E σ H ⟨G,O,τ,S,q⟩=>by
  unfold UE at q
  split at q
  ·rename_i ds d h1 h2
   obtain⟨p,xs,a,c,r⟩:=S.ac h1
   refine⟨.ref p,a, .inl ⟨rfl,_,SqL.of c⟩,_,ZH τ,S.hid.1,S.hid.2,?_⟩
   rw[h2]
   intro v H1 e1 rv
   split at q
   ·rename_i hl
    obtain⟨O',s1,t1⟩:=(S.same e1).upd h1 a ((r.same e1).append (RepL.cons rv RepL.nil))
    exact⟨p,xs,v,rfl,rfl,e1 _ _ c,by rw[r.length];exact hl,q O' _ _ ((Tr.of_same e1).trans t1) s1⟩
   ·exact q.elim
  ·rename_i ds c h1 h2
   obtain⟨p,xs,a,c',r⟩:=S.ac h1
   refine⟨.ref p,a, .inl ⟨rfl,_,SqL.of c'⟩,_,ZH τ,S.hid.1,S.hid.2,?_⟩
   rw[h2]
   exact EndsOk.xq q S
  ·exact q.elim
def XS:Tau->List Nat->List D->Tau
 |τ,i::is,d::ds=>XS (τ.set i (some (.sh d))) is ds
 |τ,_,_=>τ
def ZP(is:List Nat)(f:D->R (List D))(B:Tau->Fl):List D->Tau->Fl
 | [],τ=>.nx τ
 |d::ds,τ=>match f d with
  | .ok vs=>match B (XS τ is vs)with
   | .nx τ'=>ZP is f B ds τ'
   | .ct τ'=>ZP is f B ds τ'
   | .bk τ'=>.nx τ'
   | .rt d=>.rt d
   | .ex c τ'=>.ex c τ'
   | .bad=>.bad
  |_=>.bad
def Yj(src:Rho->R (List D))(is:List Nat)(f:D->R (List D))(B:Tau->Fl):Tau->Fl:=fun τ=>match src (ZH τ)with
 | .ok ds=>ZP is f B ds τ
 | .ex c=>.ex c τ
 | .bad=>.bad
theorem StOk.setM{K:PySem.W.Frag}{G:Addr->Prop}{H:Hp}:∀(is:List Nat) (ds:List D) (vs:List V) {O:Addr->Prop} {τ:Tau} {σ:St},StOk K G O τ σ H->RepL K (fun a=>G a/\¬O a) H ds vs->∃O',StOk K G O' (XS τ is ds) (L3.setM σ is vs) H/\Tr O H O' H
 | [],ds,vs,O,τ,σ,S,r=>by cases ds<;>cases vs<;>exact⟨O,S,Tr.refl O H⟩
 |i::is,[],vs,O,τ,σ,S,r=>by rw[r.nil_of];exact⟨O,S,Tr.refl O H⟩
 |i::is,d::ds,vs,O,τ,σ,S,r=>by
  obtain⟨v,t,rfl,h1,h2⟩:=r.uncons
  obtain⟨O1,s0,S1,t1⟩:=S.set' (i:=i) h1
  obtain⟨O2,S2,t2⟩:=StOk.setM is ds t S1 (h2.wid fun a z=>⟨z.1,fun y=>z.2 (s0 a y)⟩)
  exact⟨O2,S2,t1.trans t2⟩
theorem Zc5{tg iter:Expr}{body:List Stmt}{src:Rho->R (List D)}{is:List Nat}{f:D->R (List D)}{B:Tau->Fl}(hi:PID X tg iter src)(hg:PGD X tg is f)(hb:PSS X body B)(hx:PassesOwn (model X.prog X.w) X.A X.env X.xe)(hc:X.calm=true:=by rfl)
  (hs:∀x,foldedSetIterable iter X.env x=pure x:=by intro _;rfl):PSD X (.For tg iter body [] pos) (Yj src is f B):=
 (Z5f hx hc hi hg hb hs).imp fun E σ H ⟨G,O,τ,S,q⟩=>by
  refine⟨_,ZH τ,S.hid.1,S.hid.2,?_⟩
  unfold Yj at q
  cases h:src (ZH τ)with
  |ex c=>rw[h]at q;exact EndsOk.xq q S
  |bad=>rw[h]at q;exact q.elim
  |ok ds=>
   rw[h]at q
   have q:EndsOk X G O H E (ZP is f B ds τ):=q
   intro J H1 C e1 hJ hk c0 hz
   generalize hr0:ZP is f B ds τ=r0 at q
   have q1:=EndsOk.tr q (Tr.of_same e1)
   refine⟨fun i m σ' H'=>∃(O':Addr->Prop) (τ':Tau),Tr O H1 O' H'/\StOk X.K G O' τ' σ' H'/\C H'/\ZP is f B (ds.drop i) τ'=r0/\i<=ds.length/\m=ds.length - i,⟨ds.length,O,τ,Tr.refl O H1,S.same e1,c0,hr0,Nat.zero_le _,rfl⟩,?_⟩
   rintro i m σ' H' ⟨O',τ',t',S',c',hr,hi,rfl⟩
   have noO:∀a,((G a/\¬O a)/\H1 a≠none)->G a/\¬O' a:=fun a ⟨⟨g,n⟩,y⟩=>⟨g,fun z=>(t'.own a z).elim n y⟩
   by_cases hlt:i<ds.length
   ·obtain⟨go,yl⟩:=hJ.1 i H' c' hlt
    have hd:ds.drop i=ds[i]::ds.drop (i+1):=List.drop_eq_getElem_cons hlt
    rw[hd]at hr
    refine .inr ⟨go,fun σ2 H2=>∃(O2:Addr->Prop) (τ2:Tau),Tr O H1 O2 H2/\StOk X.K G O2 τ2 σ2 H2/\C H2/\ZP is f B (ds.drop (i+1)) τ2=r0,fun σ2 H2 ⟨O2,τ2,a1,a2,a3,a4⟩=>⟨ds.length - (i+1),by omega,O2,τ2,a1,a2,a3,a4,hlt,rfl⟩,fun x H2 y=> ?_⟩
    obtain⟨e2,c2,d,ed,rd⟩:=yl x H2 y
    rw[List.getElem?_eq_getElem hlt]at ed
    cases ed
    have S2:=S'.same e2
    have t2:=t'.trans (Tr.of_same (O:=O') e2)
    have rd':=rd.wid noO
    unfold ZP at hr
    cases hf:f ds[i]with
    |ex c=>rw[hf]at hr;subst hr;exact q1.elim
    |bad=>rw[hf]at hr;subst hr;exact q1.elim
    |ok vs=>
     rw[hf]at hr
     refine⟨_,ds[i],vs,rd',hf,fun us ru _=> ?_⟩
     obtain⟨O3',S3,t3'⟩:=S2.setM is vs us ru
     have hr:(match B (XS τ' is vs)with
      | .nx τ'=>ZP is f B (ds.drop (i+1)) τ'
      | .ct τ'=>ZP is f B (ds.drop (i+1)) τ'
      | .bk τ'=>.nx τ'
      | .rt d=>.rt d
      | .ex c τ'=>.ex c τ'
      | .bad=>.bad)=r0:=hr
     refine⟨G,O3',_,S3,?_⟩
     have t2:=t2.trans t3'
     have cK:∀{O3:Addr->Prop} {H3:Hp},Tr O3' H2 O3 H3->C H3:=fun{O3 H3} t3=>hk _ _ c2 fun b o e hb=>t3.keep b o e fun z=>by
      rcases hb with hb|hb
      ·rcases t3'.own b z with w|w
       ·exact(noO b hb).2 w
       ·rw[e]at w;cases w
      ·obtain⟨_,xs,ex⟩:=S3.own b z
       rw[e]at ex;cases ex
       exact hb xs.2
     cases hB:B (XS τ' is vs)with
     |nx τ3=>rw[hB]at hr;exact fun O3 σ3 H3 t3 s3=>⟨O3,τ3,t2.trans t3,s3,cK t3,hr⟩
     |ct τ3=>rw[hB]at hr;exact fun O3 σ3 H3 t3 s3=>⟨O3,τ3,t2.trans t3,s3,cK t3,hr⟩
     |bk τ3=>rw[hB]at hr;subst hr;exact fun O3 σ3 H3 t3 s3=>q1 O3 σ3 H3 (t2.trans t3) s3
     |rt d=>rw[hB]at hr;subst hr;exact fun O3 v H3 t3 r3=>q1 O3 v H3 (t2.trans t3) r3
     |ex c τ3=>rw[hB]at hr;subst hr;exact⟨q1.1,fun O3 pins σ3 H3 e3 s3 t3=>q1.2 O3 pins σ3 H3 e3 s3 (t2.trans t3)⟩
     |bad=>rw[hB]at hr;subst hr;exact q1.elim
   ·have hie:i=ds.length:=by omega
    subst hie
    rw[List.drop_length]at hr
    subst hr
    exact .inl ⟨hJ.2 _ _ c' (Nat.le_refl _),q1 O' σ' H' t' S'⟩
def XE(X:Cx)(G O:Addr->Prop)(H:Hp)(r:Fl)(v:Value)(s':Shared):Prop:=
 ∃(c:Nat) (τ':Tau) (e:Addr) (O':Addr->Prop) (pins:List (Addr×Obj)) (σ':St) (H':Hp),v=.ref e/\r=.ex c τ'/\X.ex=[]/\Tr O H O' H'/\StOk X.K G O' τ' σ' H'/\Inv X pins σ' H' s'/\Fly X pins H' e (Yn X.K c) s'.heap
theorem Fly.unwish{pins:List (Addr×Obj)}{H:Hp}{e C:Addr}{h:Heap}{E:Value->Shared->Prop}(f:Fly (X.wish E) pins H e C h):Fly X pins H e C h:=let⟨B,c,q⟩:=f;⟨B,⟨c.trk,c.old,c.pin⟩,q⟩
theorem XE.passes{G O:Addr->Prop}{H:Hp}{r:Fl}(hst:X.stack=X.env::X.outer/\X.env.frame=some X.env.locals):PassesOwn (model X.prog X.w) X.A X.env (XE X G O H r):=by
 rintro v s' ⟨c,τ',e,O',pins,σ',H',rfl,hr,hex,t,S,I,B,cv,f⟩
 have hfr:=I.ok.frames
 rw[hst.1]at hfr f
 have f1:=f.1
 unfold notedBy
 refine Z2c hfr hst.2 f fun g a0 k1 k2 k3 k4=> ?_
 obtain⟨oe,vs,T,oT,ts,g1,g2,g3,g4,g5⟩:=id k3
 unfold cameBackBy
 refine wpAny_bind (wpAny_field g1 g3 g4 ?_)
 rw[if_neg (by simp:¬((Value.ref T == Value.none)=true))]
 rw[hst.2]
 refine Z5y (s:={s' with heap:=g}) (to:=some X.env.locals) k1 k2 k3 fun g' j1 j2 j3 j4=> ?_
 refine⟨c,τ',e,O',pins,σ',H',rfl,hr,hex,t,S,(show Inv X pins σ' H' {s' with heap:=g'}from Inv.flew (t':=s'.toks) (s:=s') I hex cv f1 j1 (k4.trans j4)),B,cv,j1,f.2.1,?_, .inr (.inr ⟨X.env.locals,a0,?_,j3⟩)⟩
 ·rw[hst.1];exact j2
 ·rw[hst.1];exact hst.2
theorem JS{st:Stmt}{M:Tau->Fl}(h:∀G O H r,PSD (X.wish (XE X G O H r)) st M):PSD X st M:=by
 intro pins s σ H D I ⟨G,O,τ,S,q⟩
 have z:=h G O H (M τ) pins s σ H D (I.wish _) ⟨G,O,τ,S,?_⟩
 ·refine wpAny_mono z (fun f s' k=> ?_) fun v s' k=> ?_
  ·cases f with
   |next=>obtain⟨a,b,J,k⟩:=k;exact⟨a,b,J.unwish,k⟩
   |cont=>obtain⟨a,b,J,k⟩:=k;exact⟨a,b,J.unwish,k⟩
   |brk=>obtain⟨a,b,J,k⟩:=k;exact⟨a,b,J.unwish,k⟩
   |ret u=>obtain⟨a,b,c,J,k⟩:=k;exact⟨a,b,c,J.unwish,k⟩
  ·obtain⟨c,τ',e,O',pins',σ',H',rfl,hr,hex,t,S',I',f⟩:=k
   rw[hr]at q
   exact q.2 O' pins' σ' H' e s' t S' I' f
 ·cases hM:M τ with
  |nx τ'=>rw[hM]at q;exact q
  |rt d=>rw[hM]at q;exact q
  |bk τ'=>rw[hM]at q;exact q
  |ct τ'=>rw[hM]at q;exact q
  |bad=>rw[hM]at q;exact q
  |ex c τ'=>
   rw[hM]at q
   exact⟨q.1,fun O' pins' σ' H' e s' t S' I' f=>⟨c,τ',e,O',pins',σ',H',rfl,rfl,q.1,t,S',I'.unwish,f.unwish⟩⟩
theorem YF{tg iter:Expr}{body:List Stmt}{src:Rho->R (List D)}{is:List Nat}{f:D->R (List D)}{B:Tau->Fl}(hi:∀E,PID (X.wish E) tg iter src)(hg:∀E,PGD (X.wish E) tg is f)(hb:∀E,PSS (X.wish E) body B)(hc:X.calm=true:=by rfl)
  (hst:X.stack=X.env::X.outer/\X.env.frame=some X.env.locals:=by exact⟨rfl,rfl⟩) (hs:∀x,foldedSetIterable iter X.env x=pure x:=by intro _;rfl):PSD X (.For tg iter body [] pos) (Yj src is f B):=
 JS fun G O H r=>Zc5 (hi _) (hg _) (hb _) (XE.passes hst) hc hs
end
end L3
namespace L3
open PySem PySem.Spec L2
open PyProof.Rows hiding St
def CovC(outer:List Env)(H:Hp)(s:Shared)(B:Heap):Prop:=(∀b o,H b=some o->∃u,B.get? b=some u)/\∀b o,s.heap.get? b=some o->b∉frs outer->∃u,B.get? b=some u
def CXR(P:Program)(w:World):CXT:=fun outer H s E v s'=>∃(e C:Addr) (H':Hp) (B:Heap),v=.ref e/\E (.ref C) none H'/\Same H H'/\s'.os=s.os/\AllBare s'.gens/\Un (frs outer) [] H H' s.heap s'.heap/\HOk P w H' s'.heap/\CovC outer H' s B/\Z5x B outer e C s'.heap
def spD(K:PySem.W.Frag)(F:List D->R D):Sp:=fun vs H Q E=>∃(G:Addr->Prop) (ds:List D),Free G H/\RepL K G H ds vs/\match F ds with
 | .ok d=>∀v H',Same H H'->Rep K G H' d v->Q v H'
 | .ex c=>∀H',Same H H'->E (.ref (Yn K c)) none H'
 | .bad=>False
def fnF(n nl:Nat)(M:Tau->Fl):List D->R D:=fun ds=>if ds.length=n then(match M (ds.map (fun d=>some (.sh d))++List.replicate (nl - n) none)with
 | .rt d=>.ok d
 | .nx _=>.ok .non
 | .ex c _=>.ex c
 |_=>.bad)else .bad
def Zh(P:Program)(w:World)(K:PySem.W.Frag)(mg:Str->Option Value)(base:Heap)(k:Nat)(f:Addr)(N:List Str)(qual:Str)(st:Stmt)(M:Tau->Fl):Prop:=
 ∀(cdv:Value) (A:Around) (outer:List Env) (s:Shared) (H:Hp) (E:XK),Room k (A.deeper (envOfC qual (Z3 st) s.heap.objs.size f cdv))->PSS (VQ (CXR P w) P w K mg base N qual (Z3 st) f cdv A outer s H E) (Z9 st) M
section
variable{P:Program}{w:World}{K:PySem.W.Frag}{mg:Str->Option Value}{base:Heap}
theorem Z6i{n:Nat}{N:List Str}{vs:List V}(h:vs.length=n):QP N vs=vs.map some++List.replicate (N.length - n) none:=by rw[←h];rfl
theorem Z6j{N:List Str}{qual:Str}{scope:Scope}{f:Addr}{cd:Value}{A:Around}{outer:List Env}{s s':Shared}{H H':Hp}{E:XK}{pins:List (Addr×Obj)}{σ:St}{e C:Addr}
  (J:Inv (VQ (CXR P w) P w K mg base N qual scope f cd A outer s H E) pins σ H' s') (fl:Fly (VQ (CXR P w) P w K mg base N qual scope f cd A outer s H E) pins H' e C s'.heap) (sm:Same H H') (hE:E (.ref C) none H'):
  (VQ (CXR P w) P w K mg base N qual scope f cd A outer s H E).xe (.ref e) s':=by
 obtain⟨B,cv,fb⟩:=fl
 have f1:=fb.1
 refine(show wpAny (model P w) (A.deeper (envOfC qual scope s.heap.objs.size f cd)) (leaving (envOfC qual scope s.heap.objs.size f cd) (.ref e)) _ _ s' from Z93 (L:=s.heap.objs.size) J.ok.frames rfl fb fun g h1 h2=> ?_)
 have J2:=Inv.flew (t':=s'.toks) J rfl cv f1 h1.1 h2
 exact⟨e,C,H',B,rfl,hE,sm,J2.os,J2.bare,J2.base,J2.hok,⟨cv.trk,fun b o q nb=>cv.old b o q (Z90 J (Zar J q) nb)⟩,h1⟩
theorem Zk{x qual:Str}{st:Stmt}{f:Addr}{fd:FuncData}{N ps:List Str}{k n nl:Nat}{M:Tau->Fl}(F:Fun K x qual st f fd)(S:FnScope N ps (Z3 st))(hn:ps.length=n)(hnl:N.length=nl)(hb:Zh P w K mg base k f N qual st M):
  FnOk P w K mg base (CXR P w) (k+1) f fd ps (spD K (fnF n nl M)):=by
 subst hn hnl
 obtain⟨oc,od,kV,doc,pm,an,cdv,ct,osl,rfl,lk,hcd⟩:=F.ex
 refine Ze3 lk hcd S (fun vs H Q E ⟨G,ds,hG,r,e⟩=> ?_) fun A outer s H vs Q E hr ⟨G,ds,hG,r,e⟩=> ?_
 ·unfold fnF at e
  split at e
  ·rename_i hl
   split at hl
   ·rename_i hl';rw[r.length];exact hl'
   ·cases hl
  ·rename_i hl
   split at hl
   ·rename_i hl';rw[r.length];exact hl'
   ·cases hl
  ·exact e.elim
 ·refine⟨_,hb cdv A outer s H E hr,?_⟩
  unfold fnF at e
  by_cases hl:ds.length=ps.length
  ·rw[if_pos hl]at e
   have hv:vs.length=ps.length:=by rw[r.length];exact hl
   rw[Z6i hv]
   refine⟨G,fun _=>False,ds.map (fun d=>some (.sh d))++List.replicate (N.length - ps.length) none,⟨hG,fun p z=>z.elim,?_,fun _=>[],fun i sl h=> ?_,(fun i p h=>by cases h),fun i=>List.nodup_nil,(fun i j p _ h=>by cases h)⟩,?_⟩
   ·simp[r.length]
   ·have hi:i<ds.length:=by
     by_cases hi:i<ds.length
     ·exact hi
     ·rw[List.getElem?_append_right (by simpa using hi),List.getElem?_replicate]at h
      split at h<;>cases h
    rw[List.getElem?_append_left (by simpa using hi),List.getElem?_map,List.getElem?_eq_getElem hi]at h
    cases h
    obtain⟨v,e1,e2⟩:=r.get (List.getElem?_eq_getElem hi)
    refine⟨v,?_,rfl,e2.wid fun a z=>⟨z,fun y=>y⟩⟩
    rw[List.getElem?_append_left (by rw[List.length_map,r.length];exact hi),List.getElem?_map,e1]
    rfl
   ·have back:∀{O':Addr->Prop} {H':Hp},Tr (fun _=>False) H O' H'->Same H H':=fun t b o e=>t.keep b o e fun z=>z
    cases hM:M (ds.map (fun d=>some (.sh d))++List.replicate (N.length - ps.length) none)with
    |rt d'=>rw[hM]at e;exact fun O' v H' t r'=>e v H' (back t) r'
    |nx τ=>rw[hM]at e;exact fun O' σ' H' t S'=>e .non H' (back t) Rep.non
    |bk τ=>rw[hM]at e;exact e.elim
    |ct τ=>rw[hM]at e;exact e.elim
    |ex c τ=>rw[hM]at e;exact⟨rfl,fun O' pins σ' H' a s' t S' I f=>Z6j I f (back t) (e H' (back t))⟩
    |bad=>rw[hM]at e;exact e.elim
  ·rw[if_neg hl]at e;exact e.elim
theorem Wv{f:Addr}{fd:FuncData}{ps:List Str}{k:Nat}:FnOk P w K mg base (CXR P w) k f fd ps (spD K fun _=>.bad):=
 ⟨fun vs H Q E ⟨_,_,_,_,e⟩=>e.elim,fun A outer s H args us vs Q E _ _ _ _ ⟨_,_,_,_,e⟩=>e.elim⟩
end
section
variable{X:Cx}
theorem Zee{k:Nat}{f:Addr}{fd:FuncData}{ps:List Str}{F:List D->R D}{pins:List (Addr×Obj)}{σ:St}{H:Hp}{s:Shared}{Q:VK}{us:List Value}{vs:List V}{G:Addr->Prop}{ds:List D}
  (Fn:FnOk X.prog X.w X.K X.mg X.base (CXR X.prog X.w) k f fd ps (spD X.K F)) (hr:Room k X.A) (hb:Binds X.K fd ps []) (I:Inv X pins σ H s) (r:Vals vs us) (hG:Free G H) (rd:RepL X.K G H ds vs) (q:DQ X σ (Rep X.K G) H (F ds) Q):
  wpAny (model X.prog X.w) X.A (call (.ref f) us) (EP X pins σ Q) X.xe s:=by
 have main:∀E:XK,spD X.K F vs H Q E->(∀C H',E (.ref C) none H'->X.ex=[]/\∀(pins:List (Addr×Obj)) (e:Addr) (s':Shared),Inv X pins σ H' s'->Fly X pins H' e C s'.heap->X.xe (.ref e) s')->
   wpAny (model X.prog X.w) X.A (call (.ref f) us) (EP X pins σ Q) X.xe s:=fun E h hE=>by
  have hl:(us++[]).length=ps.length:=by rw[List.append_nil,←r.length];exact Fn.len _ _ _ _ h
  have hbs:=hb s us I.kIn hl
  rw[List.append_nil]at hbs
  refine wpAny_call (codeAny_mono (Fn.run X.A X.stack s H ⟨us,[]⟩ us vs Q E hr I.env0 hbs r h) fun rr s' hq=> ?_)
  cases rr with
  |error v=>
   obtain⟨e,C,H',B,rfl,he,sm,os,bare,un,hok,cc,fb⟩:=hq
   obtain⟨hex,go⟩:=hE C H' he
   have I':Inv X pins σ H' s':=by
    obtain⟨hh,g,d,t,os'⟩:=s'
    obtain rfl:os'=s.os:=os
    exact I.call (h':=hh) (g':=g) (d':=d) (t':=t) (ch:=[]) un hok bare fun b z=>absurd z (by simp)
   refine go pins e s' I' ⟨B,⟨cc.1,fun b o z nb=> ?_,fun p hp=> ?_⟩,fb⟩
   ·obtain⟨u,y⟩:=I.base.there b o z (by rw[hex];simp)
    exact cc.2 b u y nb
   ·obtain⟨z,_,n1,n2,_⟩:=I.pin p hp
    exact cc.2 p.1 p.2 z (Z90 I n1 n2)
  |ok fl=>
   cases fl with
   |ret u=>exact I.after hq
   |next=>exact False.elim hq
   |brk=>exact False.elim hq
   |cont=>exact False.elim hq
 cases h:F ds with
 |ok d=>rw[h]at q;exact main (fun _ _ _=>False) ⟨G,ds,hG,rd,by rw[h];exact q⟩ fun _ _ z=>z.elim
 |ex c=>
  rw[h]at q
  exact main (fun v _ H'=>v=.ref (Yn X.K c)/\Same H H') ⟨G,ds,hG,rd,by rw[h];exact fun H' sm=>⟨rfl,sm⟩⟩ fun C H' z=>by
   obtain⟨z,sm⟩:=z
   have z:=Value.ref.inj z
   subst z
   exact⟨q.1,fun pins e s' I' f=>q.2 pins e s' H' sm I' f⟩
 |bad=>rw[h]at q;exact q.elim
theorem Zc6{x:Str}{p pos:Pos}{e:Expr}{es:List Expr}{k:Nat}{f:Addr}{fd:FuncData}{ps:List Str}{F:List D->R D}{n:Rho->R (List D)}(Fn:FnOk X.prog X.w X.K X.mg X.base (CXR X.prog X.w) k f fd ps (spD X.K F))(hb:Binds X.K fd ps [])(hk:PySem.W.keepIn X.K (.ref f)=true)(hm:X.mg x=some (.ref f))(hr:Room k X.A)(ha:PDA X (e::es) n)
  (hg:Gl X x:=by rfl) (hdb:(x == ("__debug__":Str))=false:=by decide) (he:starEach (e::es) X.env=(false,eval e X.env)::starEach es X.env:=by rfl) (hpl:(backTo pos (starEach es X.env)).any (·.1)=false:=by rfl):
  PD X (.Call (.Name x p) (e::es) [] pos) (ap F n):=by
 intro pins s σ H Q I ⟨G,ρ,hG,hρ,q⟩
 refine wpAny_Call_Name_kw (VP I hg hm ?_ hdb)
 refine PySem.W.callWith_K (h₀:=X.base) I.ok.mod.kin hk (thn (ha pos pins s σ H _ I ⟨G,ρ,hG,hρ,DQ.bind q⟩) fun us s1 ⟨vs,H1,I1,r,ds,_,e1,rd,q1⟩=>⟨I1.kIn,?_⟩) he hpl
 exact Zee Fn hr hb I1 r (hG.same e1) rd q1
end
end L3
namespace L3
open PySem PySem.Spec L2
open PyProof.Rows hiding St
section
variable{X:Cx}{scope:Scope}{k:Nat}{js is:List Nat}{f:D->R (List D)}{mt:Rho->R Bool}{me:Rho->R D}{pos spos:Pos}
def tR{α:Type}(X:Cx)(rep:(Addr->Prop)->Hp->Hp->α->V->Prop)(m:Rho->R α):TE:=fun σ H Q=>∃(G:Addr->Prop) (ρ:Rho),Free G H/\RepS X.K G H ρ σ/\DQ X σ (rep G H) H (m ρ) Q
def tAc{α:Type}(X:Cx)(Acc:(Addr->Prop)->Hp->Addr->Hp->List α->List V->Prop)(m:Rho->R (List α)):TE:=fun σ H Q=>∃(G:Addr->Prop) (ρ:Rho),Free G H/\RepS X.K G H ρ σ/\DQ X σ (fun H' out v=>∃p zs,v=.ref p/\H p=none/\H' p=some (.lst zs)/\Acc G H p H' out zs) H (m ρ) Q
theorem UF{α:Type}{me:Rho->R α}{rep:(Addr->Prop)->Hp->Hp->α->V->Prop}{Acc:(Addr->Prop)->Hp->Addr->Hp->List α->List V->Prop}(ac:AccOk rep Acc){elt tg iter:Expr}{ifs:List Expr}{src:Rho->R (List D)}{i:Nat}{y:Str}{py:Pos}(N':List Str)(hi:PID X tg iter src)(hg:∀C cl s H fp,PGD (blk X N' scope cl C s H fp) tg is f)
  (ht:∀C cl s H fp,PTs (blk X N' scope cl C s H fp) ifs mt) (he:∀C cl s H fp,PE (blk X N' scope cl C s H fp) elt (tR (blk X N' scope cl C s H fp) rep me)) (hB:Vk X.env.scope X.N scope N' k js=true) (hcalm:X.calm=true) (his:∀i∈is,i<k)
  (hN:ndB X.N=true) (hiN:X.N[i]? =some y) (hy:Loc X.env.scope y) (hf:X.fn y=true\/X.env.scope.names.lookup y=some .local) (hsw:swapsWith (.ListComp elt [⟨tg,iter,ifs,0⟩] scope pos) (some (.Name y py)) spos.line X.env=pure true)
  (hs:∀x,foldedSetIterable iter X.env x=pure x):PS X (.Assign [.Name y py] (.ListComp elt [⟨tg,iter,ifs,0⟩] scope pos) spos) (Zbk (tAc X Acc (cmp src k js is f mt me)) (Uo i)):=by
 intro pins s σ H E I ⟨G,ρ,hG,hρ,q⟩
 have hC:=Vl hB
 obtain⟨cl,c1,c2,c3⟩:=Wt (scope:=scope) (env:=X.env) fun y hy hk=>I.ok.has y.1 (hC.fre y hy hk)
 rw[exec_Assign_Name_used _ _ _ _ hsw]
 refine wpAny_bind (wpAny_standAt (wpAny_bind ?_))
 refine(show wpAny (model X.prog X.w) X.A (do let _←comprehension (.ListComp elt [⟨tg,iter,ifs,0⟩] scope pos) scope X.env _ (newList []) false (eval iter X.env) (some (assign (.Name y py) X.env))) _ _ s from
  wpAny_bind (wpAny_mono (wpAny_comprehension_free (use:=some (assign (.Name y py) X.env)) (Q:=fun _ s'=>SP X pins E .next s') rfl hs c1 hC.kind hC.loc ?_) (fun _ s' z=>wpAny_pure (wpAny_pure z)) fun _ _ z=>z))
 unfold cmp at q
 cases es:src ρ with
 |ex c=>
  rw[es]at q
  exact thn (hi pins s σ H (fun _ _=>False) I ⟨G,ρ,hG,hρ,by rw[es];exact q⟩) fun v s1 h1=>thn h1 fun itv s2 h2=>by
   obtain⟨_,_,_,_,_,_,_,_,_,_,z⟩:=h2
   exact z.elim
 |bad=>rw[es]at q;exact q.elim
 |ok ds=>
  rw[es]at q
  have q:DQ X σ (fun H' out v=>∃p zs,v=.ref p/\H p=none/\H' p=some (.lst zs)/\Acc G H p H' out zs) H (nox (ZO f (bro k js ρ) is mt me ds)) (fun x H1=>Uo i x σ H1 E.nx):=q
  cases em:ZO f (bro k js ρ) is mt me ds with
  |ex c=>rw[em]at q;exact q.elim
  |bad=>rw[em]at q;exact q.elim
  |ok out=>
   rw[em]at q
   refine thn (hi pins s σ H (fun J H1=>∃C:Hp->Prop,Same H H1/\ItD X.K (fun a=>G a/\H1 a≠none) J ds C/\(∀H2 H3,C H2->KeepG (fun a=>G a/\H1 a≠none) H2 H3->C H3)/\C H1/\ds.length<=sizeLine) I
    ⟨G,ρ,hG,hρ,by rw[es];exact fun J H1 C e1 h1 h2 h3 h4=>⟨C,e1,h1,h2,h3,h4⟩⟩) fun v s1 h1=>thn h1 fun itv s2 h2=> ?_
   obtain⟨it,fp,tn,J,H2,rfl,I2,T,t0,hfp,C,e1,hJ,hk,c0,hz⟩:=h2
   refine QS (rep:=rep) (Acc:=Acc G H2) (RR:=fun acc C=>compPost (model X.prog X.w) X.A X.xe (some (assign (.Name y py) X.env)) (fun _ s'=>SP X pins E .next s') acc C) hcalm I2 T t0 hfp hC c2 c3 his hg ht he (hG.same e1) (hρ.same e1) hJ hk c0 hz em (ac.a0 G H2) (ac.aS G H2) (ac.aL G H2) (fun p H1 H3 done zs y v=>ac.aN G H2 p H1 H3 done zs y v (hG.same e1)) ?_
   intro p Cc H' H3 s' s3 zs σ' I3 fp3 eC J6 hp e2 hp' rr
   obtain⟨I6,oC,o1,o2,o3,o4,o5,o6,o7,o8⟩:=Uw I3 fp3 eC J6
   obtain⟨m,hn,_⟩:=J6.loc
   have I7:Inv X (pins++[(Cc,oC)]) σ H' s':=I6.pins_of fun z hz=>by
    rcases List.mem_append.mp hz with hz|hz
    ·exact I6.pin z (List.mem_append_right _ hz)
    ·cases List.mem_singleton.mp hz
     exact⟨o1,o2,o3,o4,o5⟩
   refine(show wpAny (model X.prog X.w) X.A (assign (.Name y py) X.env (.ref p)) _ _ s' from wpAny_assign_Name (Xl I7 (XJ hN) hiN hy (v:=.ref p) rfl (fun s8 I8=> ?_) hf))
   have z8:=(I8.pin (Cc,oC) (List.mem_append_right _ (List.mem_append_right _ (List.mem_singleton.mpr rfl)))).1
   refine⟨m,hn.at' fun o e=> ?_,fun h' sb=>⟨σ.set i (some (.ref p)),H',I8.unpinned.turned (t':=s8.toks) (fun b o nb e=>sb.extBut b o nb e) o2 o3 (.inr o6) o7 o8,q _ _ (e1.trans e2) ⟨p,zs,rfl,e1.free hp,hp',ac.aB G H H2 p _ _ _ e1 rr⟩⟩⟩
   have e':s'.heap.get? Cc=some o:=e
   rw[o1]at e'
   cases e'
   exact z8
theorem XT{elt tg iter:Expr}{ifs:List Expr}{src:Rho->R (List D)}{i:Nat}{y:Str}{py:Pos}(N':List Str)(hi:PID X tg iter src)(hg:∀C cl s H fp,PGD (blk X N' scope cl C s H fp) tg is f)
  (ht:∀C cl s H fp,PTs (blk X N' scope cl C s H fp) ifs mt) (he:∀C cl s H fp,PD (blk X N' scope cl C s H fp) elt me) (hB:Vk X.env.scope X.N scope N' k js=true:=by kernel_rfl) (hcalm:X.calm=true:=by rfl) (his:∀i∈is,i<k:=by decide)
  (hN:ndB X.N=true:=by kernel_rfl) (hiN:X.N[i]? =some y:=by rfl) (hy:Loc X.env.scope y:=by first|exact Or.inl rfl|exact Or.inr rfl) (hf:X.fn y=true\/X.env.scope.names.lookup y=some .local:=by first|exact .inl rfl|exact .inr rfl)
  (hsw:swapsWith (.ListComp elt [⟨tg,iter,ifs,0⟩] scope pos) (some (.Name y py)) spos.line X.env=pure true:=by rfl)
  (hs:∀x,foldedSetIterable iter X.env x=pure x:=by intro _;rfl):PSD X (.Assign [.Name y py] (.ListComp elt [⟨tg,iter,ifs,0⟩] scope pos) spos) (ZX i (asL (cmp src k js is f mt me))):=
 (UF Zeb N' hi hg ht he hB hcalm his hN hiN hy hf hsw hs).imp fun E σ H ⟨G,O,τ,S,q⟩=>by
  refine⟨_,ZH τ,S.hid.1,S.hid.2,?_⟩
  unfold ZX asL at q
  cases h:cmp src k js is f mt me (ZH τ)with
  |ok d=>
   rw[h]at q
   intro v H' e ⟨p,xs,ev,hp,hp',r⟩
   subst ev
   obtain⟨O',_,s1,t1⟩:=(S.same e).set' (i:=i) (d:=.lst d) (Rep.lst hp' (S.hid.1 p hp) (RepL.wid (fun a z=>z.1) r))
   exact q O' _ H' ((Tr.of_same e).trans t1) s1
  |ex c=>rw[h]at q;exact EndsOk.xq q S
  |bad=>rw[h]at q;exact q.elim
def Z2n(i:Nat)(m:Rho->R (List (List D))):Tau->Fl:=fun τ=>match m (ZH τ)with
 | .ok ds=>.nx (τ.set i (some (.an ds)))
 | .ex c=>.ex c τ
 | .bad=>.bad
theorem Z6k{me:Rho->R (List D)}{elt tg iter:Expr}{ifs:List Expr}{src:Rho->R (List D)}{i:Nat}{y:Str}{py:Pos}(N':List Str)(hi:PID X tg iter src)(hg:∀C cl s H fp,PGD (blk X N' scope cl C s H fp) tg is f)
  (ht:∀C cl s H fp,PTs (blk X N' scope cl C s H fp) ifs mt) (he:∀C cl s H fp,PN (blk X N' scope cl C s H fp) elt me) (hB:Vk X.env.scope X.N scope N' k js=true:=by kernel_rfl) (hcalm:X.calm=true:=by rfl) (his:∀i∈is,i<k:=by decide)
  (hN:ndB X.N=true:=by kernel_rfl) (hiN:X.N[i]? =some y:=by rfl) (hy:Loc X.env.scope y:=by first|exact Or.inl rfl|exact Or.inr rfl) (hf:X.fn y=true\/X.env.scope.names.lookup y=some .local:=by first|exact .inl rfl|exact .inr rfl)
  (hsw:swapsWith (.ListComp elt [⟨tg,iter,ifs,0⟩] scope pos) (some (.Name y py)) spos.line X.env=pure true:=by rfl)
  (hs:∀x,foldedSetIterable iter X.env x=pure x:=by intro _;rfl):PSD X (.Assign [.Name y py] (.ListComp elt [⟨tg,iter,ifs,0⟩] scope pos) spos) (Z2n i (cmp src k js is f mt me)):=
 (UF Zec N' hi hg ht he hB hcalm his hN hiN hy hf hsw hs).imp fun E σ H ⟨G,O,τ,S,q⟩=>by
  refine⟨_,ZH τ,S.hid.1,S.hid.2,?_⟩
  unfold Z2n at q
  cases h:cmp src k js is f mt me (ZH τ)with
  |ok d=>
   rw[h]at q
   intro v H' e ⟨p,xs,ev,hp,hp',qs,eq,r⟩
   subst ev eq
   obtain⟨O',s1,t1⟩:=S.newN (i:=i) e hp hp' r
   exact q O' _ H' t1 s1
  |ex c=>rw[h]at q;exact EndsOk.xq q S
  |bad=>rw[h]at q;exact q.elim
def Zef(i:Nat)(m:Rho->R (List D)):Tau->Fl:=fun τ=>match m (Zz τ)with
 | .ok ds=>if noL.noLs ds=true then .nx (τ.set i (some (.ac ds)))else .bad
 | .ex c=>.ex c τ
 | .bad=>.bad
end
end L3
namespace L3
open PySem PySem.Spec L2
open PyProof.Rows hiding St
open PySem.W (KasT kas_sort kas_rev kas_asc kas_desc kas_tail3 kas_descPart kas_count kas_place kas_bin kas_ask KatLex KatGo kat_nil kat_cons kat_yes kat_no kat_go kat_lt kat_one KatTups kat_kind kat_run kat_snds kas_item)
def Yf{α:Type}(lt:Nat->Nat->Bool):KasT α->α
 | .ret a=>a
 | .ask i j k=>Yf lt (k (lt i j))
def Asks{α:Type}(N:Nat)(P:α->Prop):KasT α->Prop
 | .ret a=>P a
 | .ask i j k=>i<N/\j<N/\∀b,Asks N P (k b)
theorem Vo{α:Type}{ask:Nat->Nat->(Bool->Shared->Prop)->Shared->Prop}{lt:Nat->Nat->Bool}{s:Shared}{N:Nat}{P:α->Prop}(ha:∀i j C,i<N->j<N->C (lt i j) s->ask i j C s):∀(t:KasT α) {G:α->Shared->Prop},Asks N P t->G (Yf lt t) s->t.kasWp ask G s
 | .ret _,_,_,h=>h
 | .ask i j k,G,q,h=>ha i j _ q.1 q.2.1 (Vo ha (k (lt i j)) (q.2.2 _) h)
theorem Asks.bind{α β:Type}{N:Nat}{P:α->Prop}{P':β->Prop}{f:α->KasT β}(hf:∀a,P a->Asks N P' (f a)):∀{t:KasT α},Asks N P t->Asks N P' (t.bind f)
 | .ret a,h=>hf a h
 | .ask _ _ _,h=>⟨h.1,h.2.1,fun b=>Asks.bind hf (h.2.2 b)⟩
def Low(N:Nat)(p:Array Nat):Prop:=∀x∈p,x<N
theorem Low.getD{N:Nat}{p:Array Nat}(h:Low N p)(h0:0<N)(k:Nat):p.getD k 0<N:=by
 unfold Array.getD
 split
 ·exact h _ (Array.getElem_mem _)
 ·exact h0
theorem Low.perm{N:Nat}{p q:Array Nat}(h:Low N p)(e:q.Perm p):Low N q:=fun x hx=>h x (e.mem_iff.mp hx)
theorem Yk{α β:Type}(lt:Nat->Nat->Bool)(f:α->KasT β):∀t:KasT α,Yf lt (t.bind f)=Yf lt (f (Yf lt t))
 | .ret _=>rfl
 | .ask i j k=>Yk lt f (k (lt i j))
theorem Ys(p:Array Nat)(i j:Nat):(kas_rev p i j).Perm p:=mirror_perm _ _ _ _
theorem Xv(lt:Nat->Nat->Bool):∀(f:Nat) (p:Array Nat) (n q:Nat),(Yf lt (kas_desc f p n q)).1.Perm p
 |0,p,_,_=>Array.Perm.refl p
 |f+1,p,n,q=>by
  unfold kas_desc
  simp only[Yf]
  split
  ·split
   ·exact(Xv lt f _ _ _).trans (Ys p _ _)
   ·exact Xv lt f p _ _
  ·simp only[Yf]
   split
   ·exact Array.Perm.refl p
   ·exact Xv lt f p _ _
theorem Ww(lt:Nat->Nat->Bool)(n m:Nat)(p:Array Nat):(Yf lt (kas_tail3 n m p)).2.Perm p:=by
 unfold kas_tail3
 rw[Yk]
 exact Ys p _ _
theorem XL(lt:Nat->Nat->Bool)(n m:Nat)(p:Array Nat):(Yf lt (kas_descPart n m p)).2.Perm p:=by
 unfold kas_descPart
 rw[Yk]
 have h:=Xv lt (m - (n+1)) p (n+1) 0
 split
 ·exact(Ww lt _ _ _).trans ((Ys _ _ _).trans h)
 ·exact(Ww lt _ _ _).trans h
theorem JT(lt:Nat->Nat->Bool)(m:Nat)(p:Array Nat):(Yf lt (kas_count m p)).2.Perm p:=by
 unfold kas_count
 rw[Yk]
 split
 ·exact Array.Perm.refl p
 ·split
  ·simp only[Yf]
   split
   ·exact Array.Perm.refl p
   ·exact(XL lt _ _ _).trans (Ys p _ _)
  ·exact XL lt _ _ _
theorem UG(lt:Nat->Nat->Bool):∀(f:Nat) (p:Array Nat) (k:Nat),(Yf lt (kas_bin f p k)).Perm p
 |0,p,_=>Array.Perm.refl p
 |f+1,p,k=>by
  unfold kas_bin
  rw[Yk]
  exact(UG lt f _ _).trans (bubble_perm p _ _)
theorem Qz(lt:Nat->Nat->Bool)(n:Nat):(Yf lt (kas_sort n)).Perm (List.toArray (List.range n)):=by
 unfold kas_sort
 rw[Yk]
 have h:=JT lt n (List.toArray (List.range n))
 split
 ·exact(UG lt _ _ _).trans h
 ·exact h
section
variable{N:Nat}(h0:0<N)
include h0
theorem Wx{p:Array Nat}(hp:Low N p):∀(f n:Nat),Asks N (fun _=>True) (kas_asc p f n)
 |0,_=>trivial
 |f+1,n=>⟨hp.getD h0 _,hp.getD h0 _,fun b=>by
  cases b with
  |true=>exact trivial
  |false=>exact Wx hp f (n+1)⟩
theorem Xw:∀(f:Nat) {p:Array Nat} (n q:Nat),Low N p->Asks N (fun r:Array Nat×Nat×Nat=>Low N r.1) (kas_desc f p n q)
 |0,p,_,_,hp=>hp
 |f+1,p,n,q,hp=>⟨hp.getD h0 _,hp.getD h0 _,fun b=>by
  cases b with
  |true=>
   simp only[if_true]
   split
   ·exact Xw f _ _ (hp.perm (Ys p _ _))
   ·exact Xw f _ _ hp
  |false=>
   refine⟨hp.getD h0 _,hp.getD h0 _,fun b'=> ?_⟩
   cases b' with
   |true=>exact hp
   |false=>exact Xw f _ _ hp⟩
theorem Wy(n m:Nat){p:Array Nat}(hp:Low N p):Asks N (fun r:Nat×Array Nat=>Low N r.2) (kas_tail3 n m p):=
 Asks.bind (N:=N) (P:=fun _=>True) (P':=fun r:Nat×Array Nat=>Low N r.2) (f:=fun m=>KasT.ret (m,kas_rev p 0 n)) (fun a _=>show Low N (kas_rev p 0 n)from hp.perm (Ys p 0 n)) (Wx h0 (hp.perm (Ys p _ _)) _ _)
theorem XM(n m:Nat){p:Array Nat}(hp:Low N p):Asks N (fun r:Nat×Array Nat=>Low N r.2) (kas_descPart n m p):=
 Asks.bind (fun r hr=>by
  split
  ·exact Wy h0 _ _ (hr.perm (Ys _ _ _))
  ·exact Wy h0 _ _ hr) (Xw h0 _ _ _ hp)
theorem JU(m:Nat){p:Array Nat}(hp:Low N p):Asks N (fun r:Nat×Array Nat=>Low N r.2) (kas_count m p):=
 Asks.bind (fun n _=>by
  split
  ·exact hp
  ·split
   ·refine⟨hp.getD h0 _,hp.getD h0 _,fun b=> ?_⟩
    cases b with
    |true=>exact hp
    |false=>exact XM h0 _ _ (hp.perm (Ys p _ _))
   ·exact XM h0 _ _ hp) (Wx h0 hp _ _)
theorem XU{p:Array Nat}(hp:Low N p)(k:Nat):∀(f l r:Nat),Asks N (fun _=>True) (kas_place p k f l r)
 |0,_,_=>trivial
 |f+1,l,r=>by
  unfold kas_place
  split
  ·exact trivial
  ·refine⟨hp.getD h0 _,hp.getD h0 _,fun b=> ?_⟩
   cases b with
   |true=>exact XU hp k f _ _
   |false=>exact XU hp k f _ _
theorem UH:∀(f:Nat) {p:Array Nat} (k:Nat),Low N p->Asks N (Low N) (kas_bin f p k)
 |0,p,_,hp=>hp
 |f+1,p,k,hp=>Asks.bind (fun l _=>UH f _ (hp.perm (bubble_perm p _ _))) (XU h0 hp k _ _ _)
theorem Z3y:Asks N (Low N) (kas_sort N):=by
 have hp:Low N (List.toArray (List.range N)):=fun x hx=>by simpa using hx
 refine Asks.bind (fun r hr=> ?_) (JU h0 N hp)
 split
 ·exact UH h0 _ _ hr
 ·exact hr
end
section
variable{prog:Program}{w:World}{A:Around}{E:Value->Shared->Prop}{s:Shared}{b:Bool}{Q:Bool->Shared->Prop}
theorem UI:∀{xs ys:List Value} {ns ms:List Int} (i:Nat),IntsAre xs ns->IntsAre ys ms->Q (HT.lexLt ns ms) s->KatLex prog w A b (decide (xs.length<ys.length)) Q (xs.zip ys) i s
 |_,_,_,_,_, .nil, .nil,h=>h
 |_,_,_,_,_, .nil, .cons m u r,h=>by
  rw[List.zip_nil_left]
  refine kat_nil ?_
  rw[decide_eq_true (by simp)]
  exact h
 |_,_,_,_,_, .cons n t r, .nil,h=>by
  rw[List.zip_nil_right]
  exact kat_nil h
 |_::xs,_::ys,_,_,i, .cons n t r, .cons m u r',h=>by
  rw[List.zip_cons_cons]
  refine kat_cons (SeqAt.EqAt.int_int n t m u _ _ _ _ ?_)
  rw[HT.lexLt_cons]at h
  by_cases e:n=m
  ·rw[if_pos e]at h
   have e':(n == m)=true:=by simpa using e
   rw[e']
   refine kat_yes ?_
   have q:=UI (xs:=xs) (ys:=ys) (i+1) r r' h
   simpa using q
  ·rw[if_neg e]at h
   have e':(n == m)=false:=by simpa using e
   rw[e']
   refine kat_no ?_
   cases (b&&i == 0)with
   |true=>exact oneLt_int h
   |false=>exact kat_one _ _ (lt_int (show PySem.W.BoolBack Q (.bool (decide (n<m))) s from h))
structure TupsAre(h:Heap)(vs:List Value)(ks:List (List Int)):Prop where
 len:vs.length=ks.length
 at_:∀(i:Nat) (v:Value) (k:List Int),vs[i]? =some v->ks[i]? =some k->k≠[]/\∃a items,v=.ref a/\IsTup h a items/\IntsAre items.toList k
theorem TupsAre.kat{h:Heap}:∀{vs:List Value} {ks:List (List Int)},TupsAre h vs ks->∃fs,KatTups h vs fs/\fs.length=vs.length/\∀v∈fs,∃n t,v=.int n t
 | [],_,_=>⟨[],KatTups.nil,rfl,fun v hv=>by cases hv⟩
 |v::vs,[],T=>by have:=T.len;simp at this
 |v::vs,k::ks,T=>by
  obtain⟨hk,a,items,rfl,⟨o,ho,hc,n,hd⟩,hi⟩:=T.at_ 0 v k rfl rfl
  obtain⟨fs,q1,q2,q3⟩:=TupsAre.kat (vs:=vs) (ks:=ks) ⟨by simpa using T.len,fun i v k h1 h2=>T.at_ (i+1) v k (by simpa using h1) (by simpa using h2)⟩
  cases k with
  |nil=>exact absurd rfl hk
  |cons z zs=>
   have:∃t,items[0]? =some (.int z t):=by
    have e:items.toList[0]? =items[0]? :=by simp
    rw[←e]
    generalize items.toList=l at hi
    cases hi with
    |cons _ t _=>exact⟨t,rfl⟩
   obtain⟨t,ht⟩:=this
   exact⟨.int z t::fs,KatTups.cons ho hc hd ht q1,by simp[q2],fun v hv=>by
    rcases List.mem_cons.mp hv with rfl|hv
    ·exact⟨z,t,rfl⟩
    ·exact q3 v hv⟩
theorem TupsAre.keeps{h h':Heap}{vs:List Value}{ks:List (List Int)}(T:TupsAre h vs ks)(k:∀b o,h.get? b=some o->h'.get? b=some o):TupsAre h' vs ks:=
 ⟨T.len,fun i v z h1 h2=>let⟨a,b,items,c,d,e⟩:=T.at_ i v z h1 h2;⟨a,b,items,c,d.keeps k,e⟩⟩
def kLt(ks:List (List Int))(i j:Nat):Bool:=HT.lexLt (ks.getD i []) (ks.getD j [])
theorem Z2o{vs:List Value}{ks:List (List Int)}(T:TupsAre s.heap vs ks){i j:Nat}(hi:i<vs.length)(hj:j<vs.length){C:Bool->Shared->Prop}(h:C (kLt ks i j) s):kas_ask prog w A (tuples' b) vs i j C s:=by
 have li:=T.len
 obtain⟨_,a,items,ea,⟨o,ho,hc,n,hd⟩,hia⟩:=T.at_ i vs[i] (ks[i]'(by omega)) (by simp) (by simp)
 obtain⟨_,a2,items2,ea2,⟨o2,ho2,hc2,n2,hd2⟩,hia2⟩:=T.at_ j vs[j] (ks[j]'(by omega)) (by simp) (by simp)
 unfold kas_ask
 have e1:vs.getD i Value.none=.ref a:=by rw[←ea];simp[hi]
 have e2:vs.getD j Value.none=.ref a2:=by rw[←ea2];simp[hj]
 rw[e1,e2]
 refine kat_lt ho hd ho2 hd2 ?_
 have q:=UI (prog:=prog) (w:=w) (A:=A) (b:=b) (Q:=C) 0 hia hia2 (by
  unfold kLt at h
  rw[List.getD_eq_getElem?_getD,List.getD_eq_getElem?_getD,List.getElem?_eq_getElem (by omega),List.getElem?_eq_getElem (by omega)]at h
  exact h)
 simpa using q
end
section
variable{prog:Program}{w:World}{A:Around}{E:Value->Shared->Prop}{s:Shared}
def YK(ks:List (List Int)):List Nat:=(Yf (kLt ks) (kas_sort ks.length)).toList
theorem Vp{a:Addr}{vs:List Value}{ks:List (List Int)}{n:Nat}{P:PySem.Fin->Shared->Prop}(ho:s.heap.get? a=some (seqObj "list" vs.toArray n))(T:∀h':Heap,(∀b o,b≠a->s.heap.get? b=some o->h'.get? b=some o)->TupsAre h' vs ks)(h2:2<=vs.length)(h64:vs.length<64)
  (h:P (.done (.ret .none)) {s with heap:=sortedHeap s.heap a vs ((YK ks).map fun i=>vs.getD i Value.none).toArray}):wpAny (model prog w) A (Builtin.«list.sort» ⟨[.ref a],[]⟩) P E s:=by
 have ha:a<s.heap.objs.size:=Heap.lt_size ho
 obtain⟨e1,ho1⟩:∃e1,(s.heap.update a (Obj.mapSeq fun _=> #[])).get? a=some (seqObj "list" #[] e1):=⟨_,get?_update_seq ho (fun _=> #[])⟩
 rw[list_sort_plain]
 refine wpAny_bind (listItems_at ho rfl (wpAny_bind (listUpdate_at ho rfl ?_ (by rw[List.size_toArray,sizeLine_eq];omega) (Nat.zero_le _))))
 refine wpAny_bind (seqEpoch_at ho1 rfl (wpAny_bind (wpAny_newTuple ?_ (by show vs.length<=_;rw[sizeLine_eq];omega))))
 refine wpAny_bind (wpAny_newList (wpAny_holding ?_) (Nat.zero_le _))
 have kp:∀b o,b≠a->s.heap.get? b=some o->(((s.heap.update a (Obj.mapSeq fun _=> #[])).push (seqObj "tuple" vs.toArray 0)).push (seqObj "list" #[] 0)).get? b=some o:=fun b o nb e=>
  Heap.get?_push_of_some _ (Heap.get?_push_of_some _ ((Heap.get?_update_other _ _ (Ne.symm nb)).trans e))
 have ho6:(((s.heap.update a (Obj.mapSeq fun _=> #[])).push (seqObj "tuple" vs.toArray 0)).push (seqObj "list" #[] 0)).get? a=some (seqObj "list" #[] e1):=Heap.get?_push_of_some _ (Heap.get?_push_of_some _ ho1)
 have T6:=T _ kp
 dsimp only
 have hn2:¬vs.toArray.size<2:=by rw[List.size_toArray];omega
 rw[if_neg hn2,if_neg hn2]
 obtain⟨fs,q1,q2,q3⟩:=T6.kat
 refine wpAny_bind (kat_kind (T:=.type "int") (s:={s with heap:=((s.heap.update a (Obj.mapSeq fun _=> #[])).push (seqObj "tuple" vs.toArray 0)).push (seqObj "list" #[] 0)}) q1 (by omega) (fun v hv=> ?_) rfl ?_)
 ·obtain⟨z,t,rfl⟩:=q3 v hv
  exact PySem.W.Looks.of_pure rfl
 ·have hl:vs.length=ks.length:=T6.len
  refine wpAny_bind (wpAny_mono (kat_run (ks:=vs) (Q:=fun st' s'=>failedOf st'=none/\(arrOf st').map (·.2)=((YK ks).map fun i=>vs.getD i Value.none).toArray/\s'={s with heap:=((s.heap.update a (Obj.mapSeq fun _=> #[])).push (seqObj "tuple" vs.toArray 0)).push (seqObj "list" #[] 0)})
   (G:=fun p s'=>p=Yf (kLt ks) (kas_sort vs.length)/\s'={s with heap:=((s.heap.update a (Obj.mapSeq fun _=> #[])).push (seqObj "tuple" vs.toArray 0)).push (seqObj "list" #[] 0)}) rfl h2 h64 (fun p st' s' a1 a2 a3 ⟨a4,a5⟩=> ?_)
   (Vo (N:=vs.length) (lt:=kLt ks) (fun i j C hi hj hC=>Z2o T6 hi hj hC) (kas_sort vs.length) (Z3y (by omega)) ⟨rfl,rfl⟩)) ?_ fun _ _ e=>e)
  ·refine⟨a3,?_,a5⟩
   rw[kat_snds rfl a2,a4]
   unfold YK
   rw[hl]
  ·rintro⟨⟨⟩,st'⟩ s' ⟨hf,hout,rfl⟩
   dsimp only
   refine wpAny_bind (seqEpoch_at ho6 rfl (wpAny_bind (listUpdate_at ho6 rfl ?_ (Nat.zero_le _) ?_)))
   ·have hf':failedOf st'=none:=hf
    rw[hf']
    simp only[bne_self_eq_false,Bool.false_eq_true,if_false]
    have hout':(arrOf st').map (·.2)=((YK ks).map fun i=>vs.getD i Value.none).toArray:=hout
    rw[hout']
    exact wpAny_pure h
   ·have hout':(arrOf st').map (·.2)=((YK ks).map fun i=>vs.getD i Value.none).toArray:=hout
    show((arrOf st').map (·.2)).size<=_
    rw[hout',List.size_toArray,List.length_map]
    have:=(Qz (kLt ks) ks.length).size_eq
    unfold YK
    rw[Array.length_toList,this,List.size_toArray,List.length_range,sizeLine_eq]
    omega
end
end L3
namespace L3
open PySem PySem.Spec L2
open PyProof.Rows hiding St
section
variable{prog:Program}{w:World}{A:Around}{E:Value->Shared->Prop}{s:Shared}
theorem UJ{it:Addr}{T:String}{o:Obj}{items:Array Value}{n:Nat}{Q:Value->Shared->Prop}(hT:T="list"\/T="tuple")(ho:s.heap.get? it=some o)(hc:o.cls=.type T)(hd:o.data=.seq items n)(hsz:items.size<=sizeLine)
  (hs:∀(A':Around) (h':Heap),(∀b o',s.heap.get? b=some o'->h'.get? b=some o')->
   wpAny (model prog w) A' (Builtin.«list.sort» ⟨[.ref h'.objs.size],[]⟩) (fun fin s'=>∃v,fin=.done (.ret v)/\Q (.ref h'.objs.size) s') E {s with heap:=h'.push (seqObj "list" items.toList.toArray 0)}):wpAny (model prog w) A (call (.builtin "sorted") [.ref it]) Q E s:=by
 refine Calls.call_function_entry kind_sorted plain_sorted entry_sorted (args_sorted1 _) (show wpAny _ _ (Builtin.«sorted» _) _ _ _ from ?_)
 unfold Builtin.«sorted»
 refine wpAny_bind (m:=checkCount "sorted" 1 1 _) (wpAny_pure (wpAny_bind (wpAny_collect_seq it hT ho hc hd (fun h' kp=> ?_) hsz)))
 refine wpAny_bind (wpAny_newList ?_ (by show items.toList.length<=_;simpa using hsz))
 have hoL:(h'.push (seqObj "list" items.toList.toArray 0)).get? h'.objs.size=some (seqObj "list" items.toList.toArray 0):=Heap.get?_push_size _ rfl
 refine wpAny_bind (wpAny_holding (wpAny_call_entry slot_list_sort ⟨_,hoL,rfl⟩ entry_list_sort (wpAny_mono (hs _ h' kp) (fun fin s' ⟨v,e,q⟩=>⟨v,e,?_⟩) fun _ _ e=>e) (args_list_sort _)))
 exact wpAny_pure ⟨_,rfl,q⟩
theorem Wz{a:Addr}{vs:List Value}{n:Nat}{P:PySem.Fin->Shared->Prop}(ho:s.heap.get? a=some (seqObj "list" vs.toArray n))(h2:vs.length<2)
  (h:P (.done (.ret .none)) {s with heap:=sortedHeap s.heap a vs vs.toArray}):wpAny (model prog w) A (Builtin.«list.sort» ⟨[.ref a],[]⟩) P E s:=by
 obtain⟨e1,ho1⟩:∃e1,(s.heap.update a (Obj.mapSeq fun _=> #[])).get? a=some (seqObj "list" #[] e1):=⟨_,get?_update_seq ho (fun _=> #[])⟩
 rw[list_sort_plain]
 refine wpAny_bind (listItems_at ho rfl (wpAny_bind (listUpdate_at ho rfl ?_ (by rw[List.size_toArray,sizeLine_eq];omega) (Nat.zero_le _))))
 refine wpAny_bind (seqEpoch_at ho1 rfl (wpAny_bind (wpAny_newTuple ?_ (by show vs.length<=_;rw[sizeLine_eq];omega))))
 refine wpAny_bind (wpAny_newList (wpAny_holding ?_) (Nat.zero_le _))
 have ho6:(((s.heap.update a (Obj.mapSeq fun _=> #[])).push (seqObj "tuple" vs.toArray 0)).push (seqObj "list" #[] 0)).get? a=some (seqObj "list" #[] e1):=Heap.get?_push_of_some _ (Heap.get?_push_of_some _ ho1)
 dsimp only
 have hn2:vs.toArray.size<2:=by rw[List.size_toArray];omega
 rw[if_pos hn2,if_pos hn2]
 refine wpAny_bind (wpAny_pure ?_)
 rw[StateT.run_pure]
 refine wpAny_bind (wpAny_pure ?_)
 dsimp only
 have eo:(arrOf (SortSt.mk' general' (vs.toArray.zip vs.toArray) #[] 7 none)).map (·.2)=vs.toArray:=by
  show(vs.toArray.zip vs.toArray).map (·.2)=vs.toArray
  apply Array.toList_inj.mp
  rw[Array.toList_map,Array.toList_zip,List.map_snd_zip]
  exact Nat.le_refl _
 refine wpAny_bind (seqEpoch_at ho6 rfl (wpAny_bind (listUpdate_at ho6 rfl ?_ (Nat.zero_le _) ?_)))
 ·simp only[bne_self_eq_false,Bool.false_eq_true,if_false]
  rw[eo]
  exact wpAny_pure h
 ·show((arrOf (SortSt.mk' general' (vs.toArray.zip vs.toArray) #[] 7 none)).map (·.2)).size<=_
  rw[eo,List.size_toArray,sizeLine_eq]
  omega
end
def ZF:List D->Option (List Int)
 | []=>some []
 | .int i::ds=>(ZF ds).map (i:: ·)
 |_=>none
def Xj:List D->Option (List (List Int))
 | []=>some []
 | .tup xs::ds=>match ZF xs,Xj ds with
  |some (k::ks),some r=>some ((k::ks)::r)
  |_,_=>none
 |_=>none
def leB(a b:Int):Bool:=decide (a<=b)
def WA(xs:List D):R (List D):=if xs.length<64 then(match ZF xs with
 |some ns=>.ok ((ns.mergeSort leB).map .int)
 |none=>match Xj xs with
  |some ks=>if xs.length<2 then .ok xs else .ok ((YK ks).map fun i=>xs.getD i .non)
  |none=>.bad)else .bad
def JV:List D->R (List D)
 | [.lst xs]=>WA xs
 | [.tup xs]=>WA xs
 |_=>.bad
theorem Yt:∀{ds:List D} {ns:List Int},ZF ds=some ns->ds=ns.map .int
 | [],ns,e=>by cases e;rfl
 | .int i::ds,ns,e=>by
  simp only[ZF]at e
  cases h:ZF ds with
  |none=>rw[h]at e;cases e
  |some r=>rw[h]at e;cases e;rw[Yt h];rfl
 | .non::_,_,e=>by cases e
 | .bl _::_,_,e=>by cases e
 | .str _::_,_,e=>by cases e
 | .tup _::_,_,e=>by cases e
 | .lst _::_,_,e=>by cases e
section
variable{K:PySem.W.Frag}{G:Addr->Prop}{H:Hp}
theorem Yl:∀(ns:List Int) {xs:List V},RepL K G H (ns.map .int) xs->xs=ns.map .int
 | [],xs,r=>r.nil_of
 |n::ns,xs,r=>by
  obtain⟨x,t,rfl,h1,h2⟩:=r.uncons
  rw[h1.int_of,Yl ns h2];rfl
theorem WB(ns:List Int):RepL K G H (ns.map .int) (ns.map .int):=by
 induction ns with
 |nil=>exact RepL.nil
 |cons n r ih=>exact RepL.cons Rep.int ih
end
theorem JW{ns ns':List Int}(p:ns'.Perm ns)(h:ns'.Pairwise (· <= ·)):ns'=ns.mergeSort leB:=by
 refine List.Perm.eq_of_pairwise (le:=(· <= ·)) (fun a b _ _ h1 h2=>Int.le_antisymm h1 h2) h ?_ (p.trans (List.mergeSort_perm ns leB).symm)
 have q:=List.pairwise_mergeSort (le:=leB) (fun a b c h1 h2=>by simp only[leB,decide_eq_true_eq]at *;omega) (fun a b=>by simp only[leB,Bool.or_eq_true,decide_eq_true_eq];omega) ns
 exact q.imp fun{a b} z=>by simpa[leB]using z
section
variable{X:Cx}
theorem Q9{pins:List (Addr×Obj)}{σ:St}{H:Hp}{s:Shared}{G:Addr->Prop}(I:Inv X pins σ H s):∀{ds:List D} {ks:List (List Int)} {xs:List V} {us:List Value},Xj ds=some ks->RepL X.K G H ds xs->Vals xs us->TupsAre s.heap us ks
 | [],ks,xs,us,e,r,rv=>by
  cases e
  rw[r.nil_of]at rv
  cases rv
  exact⟨rfl,fun i v k h=>by simp at h⟩
 | .tup ys::ds,ks,xs,us,e,r,rv=>by
  obtain⟨x,t,rfl,h1,h2⟩:=r.uncons
  cases rv with
  |cons r1 r2=>
   simp only[Xj]at e
   split at e
   ·rename_i k kr rr e1 e2
    cases e
    have ih:=Q9 I e2 h2 r2
    obtain⟨a,vs,rfl,hq,rr'⟩:=h1.tup_of
    cases r1
    have hm:=Yt e1
    rw[hm]at rr'
    have hv:=Yl _ rr'
    obtain⟨its,rv',ht,_⟩:=I.tuple hq
    rw[hv]at rv'
    refine⟨by simp[ih.len],fun i v z g1 g2=> ?_⟩
    cases i with
    |zero=>
     simp at g1 g2
     subst g1 g2
     exact⟨by simp,a,its.toArray,rfl,ht,Yw rv'⟩
    |succ i=>exact ih.at_ i v z (by simpa using g1) (by simpa using g2)
   ·cases e
 | .non::_,_,_,_,e,_,_=>by cases e
 | .bl _::_,_,_,_,e,_,_=>by cases e
 | .int _::_,_,_,_,e,_,_=>by cases e
 | .str _::_,_,_,_,e,_,_=>by cases e
 | .lst _::_,_,_,_,e,_,_=>by cases e
theorem RepL.pick{K:PySem.W.Frag}{G:Addr->Prop}{H:Hp}{ds:List D}{xs:List V}(r:RepL K G H ds xs):∀(is:List Nat),(∀i∈is,i<ds.length)->RepL K G H (is.map fun i=>ds.getD i .non) (is.map fun i=>xs.getD i .non)
 | [],_=>RepL.nil
 |i::is,h=>by
  have hi:=h i List.mem_cons_self
  obtain⟨x,e1,e2⟩:=r.get (List.getElem?_eq_getElem hi)
  refine RepL.cons (show Rep K G H (ds.getD i .non) (xs.getD i .non)from ?_) (RepL.pick r is fun j hj=>h j (List.mem_cons_of_mem _ hj))
  rw[List.getD_eq_getElem?_getD,List.getD_eq_getElem?_getD,e1,List.getElem?_eq_getElem hi]
  exact e2
theorem Vals.pick{xs:List V}{us:List Value}(r:Vals xs us):∀(is:List Nat),(∀i∈is,i<xs.length)->Vals (is.map fun i=>xs.getD i .non) (is.map fun i=>us.getD i .none)
 | [],_=>.nil
 |i::is,h=>by
  have hi:=h i List.mem_cons_self
  obtain⟨u,e1,e2⟩:=L2.Vals.get r (List.getElem?_eq_getElem hi)
  refine .cons (show L2.RelV (xs.getD i .non) (us.getD i .none)from ?_) (Vals.pick r is fun j hj=>h j (List.mem_cons_of_mem _ hj))
  rw[List.getD_eq_getElem?_getD,List.getD_eq_getElem?_getD,e1,List.getElem?_eq_getElem hi]
  exact e2
theorem Xx{ks:List (List Int)}:∀i∈YK ks,i<ks.length:=fun i hi=>by
 unfold YK at hi
 have:=(Qz (kLt ks) ks.length).mem_iff.mp (by simpa using hi)
 simpa using this
theorem Xy(ks:List (List Int)):(YK ks).Perm (List.range ks.length):=by
 unfold YK
 have:=(Qz (kLt ks) ks.length).toList
 simpa using this
theorem JX(ds:List D):JV ds=.bad\/(∃ys,ds=[.tup ys]/\JV ds=WA ys)\/∃ys,ds=[.lst ys]/\JV ds=WA ys:=by
 unfold JV
 split
 ·exact .inr (.inr ⟨_,rfl,rfl⟩)
 ·exact .inr (.inl ⟨_,rfl,rfl⟩)
 ·exact .inl rfl
theorem Z3z:Uu X (.builtin "sorted") JV:=by
 intro pins s σ H xs us Q I r ⟨G,σ',ds,hG,rd,q⟩
 have core:∀(a:Addr) (ys:List D) (vs:List V) (its:List Value) (T:String) (o:Obj) (n:Nat),us=[.ref a]->Vals vs its->RepL X.K G H ys vs->vs.length<=sizeLine->(T="list"\/T="tuple")->s.heap.get? a=some o->o.cls=.type T->o.data=.seq its.toArray n->
   DQ X σ' (fun H' ds v=>∃p xs,v=.ref p/\H p=none/\H' p=some (.lst xs)/\RepL X.K (fun a=>G a/\a≠p) H' ds xs) H (WA ys) Q->wpAny (model X.prog X.w) X.A (call (.builtin "sorted") us) (EP X pins σ Q) X.xe s:=by
  intro a ys vs its T o n eu rv ry hz hT ho hc hd q
  subst eu
  have hl:=rv.length
  have hly:=ry.length
  refine UJ hT ho hc hd (by rw[List.size_toArray];omega) fun A' h' kp=> ?_
  have I1:Inv X pins σ H {s with heap:=h'}:=I.kept (t':=s.toks) kp
  have hf:H h'.objs.size=none:=I1.fresh
  have hoL:(h'.push (seqObj "list" its.toArray.toList.toArray 0)).get? h'.objs.size=some (seqObj "list" its.toArray 0):=by
   rw[show its.toArray.toList.toArray=its.toArray by simp]
   exact Heap.get?_push_size _ rfl
  have fin:∀(zs:List V) (ows:List Value) (out:List D),Vals zs ows->zs.length<=sizeLine->WA ys=.ok out->RepL X.K G H out zs->
    EP X pins σ Q (.ref h'.objs.size) {s with heap:=sortedHeap (h'.push (seqObj "list" its.toArray.toList.toArray 0)) h'.objs.size its ows.toArray}:=by
   intro zs ows out rz hzz eo ro
   rw[eo]at q
   obtain⟨e,he⟩:=sortedHeap_at (out:=ows.toArray) hoL
   have hk:∀b ob,h'.get? b=some ob->(sortedHeap (h'.push (seqObj "list" its.toArray.toList.toArray 0)) h'.objs.size its ows.toArray).get? b=some ob:=fun b ob eb=>by
    rw[sortedHeap_old (Nat.ne_of_lt (Heap.lt_size eb)) (by rw[size_push'];exact Nat.lt_succ_of_lt (Heap.lt_size eb))]
    exact Heap.get?_push_of_some _ eb
   have g:=Zv hf (.lst zs)
   exact⟨.ref _,_,I1.laid (t':=s.toks) (o:=.lst zs) hk (Nat.le_refl _) ⟨hzz,ows,e,rz,he⟩,rfl,q _ _ g ⟨_,zs,rfl,hf,Zi,(ro.off hf).same g⟩⟩
  unfold WA at q fin
  by_cases h64:ys.length<64
  ·rw[if_pos h64]at q fin
   cases hi:ZF ys with
   |some ns=>
    rw[hi]at q fin
    have hm:=Yt hi
    subst hm
    have hvs:=Yl _ ry
    subst hvs
    have hI:=Yw rv
    refine list_sort_tree (s:={s with heap:=h'.push (seqObj "list" its.toArray.toList.toArray 0)}) hoL hI (by rw[←hl];simpa using h64) fun out ns' a1 a2 a3=>⟨_,rfl,?_⟩
    have e:=JW a2 a3
    subst e
    have z:=fin ((ns.mergeSort leB).map .int) out.toList _ (Qs a1) (by simp only[List.length_map,List.length_mergeSort];rw[sizeLine_eq];simp at h64;omega) rfl (WB _)
    simpa using z
   |none=>
    rw[hi]at q fin
    cases ht:Xj ys with
    |none=>rw[ht]at q;exact q.elim
    |some ks=>
     rw[ht]at q fin
     by_cases h2:ys.length<2
     ·simp only[h2,if_true]at q fin
      refine Wz (s:={s with heap:=h'.push (seqObj "list" its.toArray.toList.toArray 0)}) hoL (by omega) ⟨_,rfl,?_⟩
      exact fin vs its ys rv hz rfl ry
     ·simp only[h2,if_false]at q fin
      have T0:=Q9 I1 ht ry rv
      have hkl:=T0.len
      refine Vp (ks:=ks) (s:={s with heap:=h'.push (seqObj "list" its.toArray.toList.toArray 0)}) hoL (fun h2 k2=>T0.keeps fun b ob eb=>k2 b ob (Nat.ne_of_lt (Heap.lt_size eb)) (Heap.get?_push_of_some _ eb)) (by omega) (by omega) ⟨_,rfl,?_⟩
      have lt1:∀i∈YK ks,i<vs.length:=fun i hi=>by have:=Xx i hi;omega
      have lt2:∀i∈YK ks,i<ys.length:=fun i hi=>by have:=Xx i hi;omega
      have hzl:((YK ks).map fun i=>vs.getD i V.non).length<=sizeLine:=by
       rw[List.length_map,(Xy ks).length_eq,List.length_range,sizeLine_eq];omega
      exact fin ((YK ks).map fun i=>vs.getD i .non) ((YK ks).map fun i=>its.getD i .none) _ (Vals.pick rv _ lt1) hzl rfl (RepL.pick ry _ lt2)
  ·rw[if_neg h64]at q;exact q.elim
 rcases JX ds with e|⟨ys,e0,e⟩|⟨ys,e0,e⟩<;>rw[e]at q
 ·exact q.elim
 ·rw[e0]at rd
  obtain⟨x,rfl,rx⟩:=ZY rd
  obtain⟨a,vs,rfl,h1,r1⟩:=rx.tup_of
  obtain⟨u,rfl,ru⟩:=YE r
  cases ru
  obtain⟨its,rv,⟨o,ho,hc,n,hd⟩,hz⟩:=I.tuple h1
  exact core a ys vs its "tuple" o n rfl rv r1 hz (.inr rfl) ho hc hd q
 ·rw[e0]at rd
  obtain⟨x,rfl,rx⟩:=ZY rd
  obtain⟨a,vs,rfl,h1,r1⟩:=rx.lst_of
  obtain⟨u,rfl,ru⟩:=YE r
  cases ru
  obtain⟨its,rv,⟨o,n,ho,hc,_,hd⟩,hz⟩:=I.list h1.sq
  exact core a ys vs its "list" o n rfl rv r1 hz (.inl rfl) ho hc hd q
end
end L3
namespace L3
open PySem PySem.Spec L2
open PyProof.Rows hiding St
abbrev isD(d:D):R D:=.ok (.bl (Ye d))
abbrev Z6l(d:D):R D:=.ok (.bl (!Ye d))
def negD:D->R D
 | .int i=>.ok (.int (-i))
 |_=>.bad
def repl(n:Rho->R (List D))(b:Rho->R D):Rho->R (List D):=fun ρ=>n ρ>>=fun ds=>nox (b ρ)>>=fun k=>match ds,k with
 | [d], .int i=>if i.natAbs<=1000 then .ok (List.replicate i.toNat d)else .bad
 |_,_=>.bad
def dd(ns:List Int):List Int:=ns.foldl (fun σ v=>if σ.any (· == v)then σ else σ++[v]) []
def W4:D->R D
 | .tup xs=>match ZF xs with|some ns=>if ns.length<1000 then .ok (.int (dd ns).length)else .bad|none=>.bad
 | .lst xs=>match ZF xs with|some ns=>if ns.length<1000 then .ok (.int (dd ns).length)else .bad|none=>.bad
 |_=>.bad
def enu(xs:List D):List D:=xs.zipIdx.map fun p=>.tup [.int (p.2:Int),p.1]
def XG(xs ys:List D):List D:=(xs.zip ys).map fun p=>.tup [p.1,p.2]
def WC:List D->R (List D)
 | [x,y]=>Ya x>>=fun xs=>Ya y>>=fun ys=>.ok (XG xs ys)
 |_=>.bad
def idx(xs:List D)(x:D):R D:=match ZF xs,x with
 |some ns, .int k=>if k∈ns then .ok (.int ((ns.idxOf k:Nat):Int))else .bad
 |_,_=>.bad
def bn(f:D->D->R D)(ma mb:Rho->R D):Rho->R D:=fun ρ=>ma ρ>>=fun x=>nox (mb ρ)>>=fun y=>f x y
def Yy:D->D->R D
 | .tup xs,x=>idx xs x
 | .lst xs,x=>idx xs x
 |_,_=>.bad
def VZ:List D->R D
 | [.lst xs]=>match ZF xs with|some ns=>.ok (.int ns.sum)|none=>.bad
 | [.tup xs]=>match ZF xs with|some ns=>.ok (.int ns.sum)|none=>.bad
 |_=>.bad
def Z6m:List D->R D
 | [.int i, .int j]=>.ok (.int (if i<j then j else i))
 |_=>.bad
def Zeg(i:Nat)(m:Rho->R D):Tau->Fl:=fun τ=>match τ[i]?,m (Zz τ)with
 |some (some (.ac ds)), .ok d=>if ds.length<sizeLine/\noL d=true then .nx (τ.set i (some (.ac (ds++[d]))))else .bad
 |_,_=>.bad
def QA(i:Nat)(m:Rho->R D):Tau->Fl:=fun τ=>match τ[i]?,m (ZH τ)with
 |some (some (.ac ds)), .ok (.lst es)=>if ds.length+es.length<=sizeLine then .nx (τ.set i (some (.ac (ds++es))))else .bad
 |_,_=>.bad
def sPut(i:Nat)(m v:Rho->R D):Tau->Fl:=fun τ=>match τ[i]?,v (Zz τ),m (Zz τ)with
 |some (some (.ac ds)), .ok d, .ok (.int k)=>match ixN ds.length k with
  |some j=>if noL d=true then .nx (τ.set i (some (.ac (ds.set j d))))else .bad
  |none=>.bad
 |_,_,_=>.bad
def QT(i:Nat)(m1 m2 v:Rho->R D):Tau->Fl:=fun τ=>match τ[i]?,v (Zz τ),m1 (Zz τ),m2 (Zz τ)with
 |some (some (.an dss)), .ok d, .ok (.int k1), .ok (.int k2)=>match ixN dss.length k1 with
  |some j1=>match dss[j1]? with
   |some ds=>match ixN ds.length k2 with
    |some j2=>if noL d=true then .nx (τ.set i (some (.an (dss.set j1 (ds.set j2 d)))))else .bad
    |none=>.bad
   |none=>.bad
  |none=>.bad
 |_,_,_,_=>.bad
def W1(n:Nat)(c:Rho->R Bool)(B:Tau->Fl):Tau->Fl:=match n with
 |0=>fun _=>.bad
 |n+1=>fun τ=>match c (Zz τ)with
  | .ok true=>match B τ with
   | .nx τ'=>W1 n c B τ'
   | .ct τ'=>W1 n c B τ'
   | .bk τ'=>.nx τ'
   | .rt d=>.rt d
   | .ex c τ'=>.ex c τ'
   | .bad=>.bad
  | .ok false=>.nx τ
  | .ex c=>.ex c τ
  | .bad=>.bad
def Z9g(i j:Nat)(a b:Rho->R D):Tau->Fl:=fun τ=>match a (Zz τ),b (Zz τ)with
 | .ok d, .ok e=>if noL d=true/\noL e=true then .nx ((τ.set i (some (.sh d))).set j (some (.sh e)))else .bad
 |_,_=>.bad
section
variable{X:Cx}{pos:Pos}
theorem Z6n{i:Nat}{x:Str}{e1 e2 ev:Expr}{m1 m2 v:Rho->R D}{p1 p2 p3:Pos}(h1:PD X e1 m1)(h2:PD X e2 m2)(hv:PD X ev v)(hi:X.N[i]? =some x:=by rfl)(hx:Vis X.env.scope x:=by first|exact Or.inl rfl|exact Or.inr (Or.inl rfl)|exact Or.inr (Or.inr rfl))
  (hd:(x == ("__debug__":Str))=false:=by decide) (hcd:(x == ("__classdict__":Str))=false:=by decide) (hp:W3 e1:=by intro _ _;rfl)
  (ha:∀v,assign (.Subscript (.Subscript (.Name x p1) e1 p2) e2 p3) X.env v=(do
   let ov←holding [v] (eval (.Subscript (.Name x p1) e1 p2) X.env)
   let iv←holding [v,ov] (eval e2 X.env)
   standAt p3
   holding [v,ov,iv] (setItem ov iv v)
   release [v,ov,iv] []):=by intro _;rfl)
  (hs:swapsWithSole [.Subscript (.Subscript (.Name x p1) e1 p2) e2 p3] ev pos.line X.env=pure false:=by rfl) (hw:swappedStores [.Subscript (.Subscript (.Name x p1) e1 p2) e2 p3] ev X.env=pure none:=by rfl)
  (hh:(assignEach [.Subscript (.Subscript (.Name x p1) e1 p2) e2 p3] X.env).map (·.2)=[assign (.Subscript (.Subscript (.Name x p1) e1 p2) e2 p3) X.env]:=by rfl):PSD X (.Assign [.Subscript (.Subscript (.Name x p1) e1 p2) e2 p3] ev pos) (QT i m1 m2 v):=
 (Zbl hv (Zbj (Z5q Z29 (Xm hi hx hd hcd) h1 hp) h2 Z5r ha) hs hw hh).imp fun E σ H ⟨G,O,τ,S,q⟩=>by
  unfold QT at q
  split at q
  ·rename_i dss d k1 k2 z1 z2 z3 z4
   split at q
   ·rename_i j1 ej1
    split at q
    ·rename_i ds eds
     split at q
     ·rename_i j2 ej2
      split at q
      ·rename_i hn
       obtain⟨p,a⟩:=S.an z1
       refine⟨G,Zz τ,S.free,S.vw,?_⟩
       rw[z2]
       intro u H1 g1 ru
       have S1:=S.same g1
       refine⟨.ref p,a,G,Zz τ,S1.free,S1.vw,?_⟩
       rw[z3]
       intro iv H2 g2 ri
       cases ri.int_of
       have S2:=S1.same g2
       obtain⟨qs,q',xs,b1,b2,b3,b4,b5,b6⟩:=S2.updN (es:=ds.set j2 d) z1 a eds
       have hat:atI (qs.map V.ref) k1=some (.ref q'):=by
        unfold atI
        rw[List.length_map,b5,ej1]
        show(qs.map V.ref)[j1]? =_
        rw[List.getElem?_map,b2];rfl
       refine⟨p,_,k1, .ref q',rfl,rfl,SqL.of b1,hat,G,Zz τ,S2.free,S2.vw,?_⟩
       rw[z4]
       intro iv2 H3 g3 ri2
       cases ri2.int_of
       have S3:=S2.same g3
       obtain⟨qs',q'',xs',d1,d2,d3,d4,d5,d6⟩:=S3.updN (es:=ds.set j2 d) z1 a eds
       have hq:q''=q':=by
        have w:=g3 _ _ b1
        rw[d1]at w
        have w2:qs'.map V.ref=qs.map V.ref:=by injection (Option.some.inj w)
        have w3:(qs'.map V.ref)[j1]? =(qs.map V.ref)[j1]? :=by rw[w2]
        rw[List.getElem?_map,List.getElem?_map,d2,b2]at w3
        injection (Option.some.inj w3)
       subst hq
       obtain⟨O',s4,t4⟩:=d6 _ (d4.set (Q8 d hn ((ru.same g2).same g3)) j2)
       exact⟨q'',xs',k2,j2,rfl,rfl,d3,by rw[d4.length];exact ej2,q O' _ _ ((Tr.of_same (g1.trans (g2.trans g3))).trans t4) s4⟩
      ·exact q.elim
     ·exact q.elim
    ·exact q.elim
   ·exact q.elim
  ·exact q.elim
theorem Z6o{c:Expr}{body:List Stmt}{mc:Rho->R Bool}{B:Tau->Fl}{n:Nat}(hc:PDT X c mc)(hb:PSS X body B)(hx:PassesOwn (model X.prog X.w) X.A X.env X.xe):PSD X (.While c body [] pos) (W1 n mc B):=
 (Z5d hx hc hb).imp fun E σ H ⟨G,O,τ,S,q⟩=>by
  generalize hr:W1 n mc B τ=r0 at q
  refine⟨fun m σ' H'=>∃(O':Addr->Prop) (τ':Tau),Tr O H O' H'/\StOk X.K G O' τ' σ' H'/\W1 m mc B τ'=r0,⟨n,O,τ,Tr.refl O H,S,hr⟩,?_⟩
  rintro m σ' H' ⟨O',τ',t',S',hr'⟩
  refine⟨G,Zz τ',S'.free,S'.vw,?_⟩
  cases m with
  |zero=>unfold W1 at hr';subst hr';exact q.elim
  |succ m=>
   unfold W1 at hr'
   cases hm:mc (Zz τ')with
   |ex c=>rw[hm]at hr';subst hr';exact EndsOk.xq (EndsOk.tr q t') S'
   |bad=>rw[hm]at hr';subst hr';exact q.elim
   |ok b=>
    rw[hm]at hr'
    intro b' H1 e1 rb
    cases rb
    have S1:=S'.same e1
    have t1:=t'.trans (Tr.of_same (O:=O') e1)
    cases b with
    |false=>
     simp only[Bool.false_eq_true,if_false]
     have hr':Fl.nx τ'=r0:=hr'
     subst hr'
     exact q O' σ' H1 t1 S1
    |true=>
     simp only[if_true]
     refine⟨fun σ2 H2=>∃(O2:Addr->Prop) (τ2:Tau),Tr O H O2 H2/\StOk X.K G O2 τ2 σ2 H2/\W1 m mc B τ2=r0,fun σ2 H2 h=>⟨m,Nat.lt_succ_self m,h⟩,G,O',τ',S1,?_⟩
     have hr':(match B τ' with
      | .nx τ'=>W1 m mc B τ'
      | .ct τ'=>W1 m mc B τ'
      | .bk τ'=>.nx τ'
      | .rt d=>.rt d
      | .ex c τ'=>.ex c τ'
      | .bad=>.bad)=r0:=hr'
     cases hB:B τ' with
     |nx τ3=>rw[hB]at hr';exact fun O3 σ3 H3 t3 s3=>⟨O3,τ3,t1.trans t3,s3,hr'⟩
     |ct τ3=>rw[hB]at hr';exact fun O3 σ3 H3 t3 s3=>⟨O3,τ3,t1.trans t3,s3,hr'⟩
     |bk τ3=>rw[hB]at hr';subst hr';exact fun O3 σ3 H3 t3 s3=>q O3 σ3 H3 (t1.trans t3) s3
     |rt d=>rw[hB]at hr';subst hr';exact fun O3 v H3 t3 r3=>q O3 v H3 (t1.trans t3) r3
     |ex c τ3=>rw[hB]at hr';subst hr';exact⟨q.1,fun O3 pins σ3 H3 e3 s3 t3=>q.2 O3 pins σ3 H3 e3 s3 (t1.trans t3)⟩
     |bad=>rw[hB]at hr';subst hr';exact q.elim
theorem Z9h{c:Expr}{body:List Stmt}{mc:Rho->R Bool}{B:Tau->Fl}{n:Nat}(hc:∀E,PDT (X.wish E) c mc)(hb:∀E,PSS (X.wish E) body B)(hst:X.stack=X.env::X.outer/\X.env.frame=some X.env.locals:=by exact⟨rfl,rfl⟩):
  PSD X (.While c body [] pos) (W1 n mc B):=JS fun G O H r=>Z6o (hc _) (hb _) (XE.passes hst)
theorem Z6p{i:Nat}{x:Str}{e:Expr}{m:Rho->R (List D)}{p1 apos cpos:Pos}(he:PN X e m)(hi:X.N[i]? =some x:=by rfl)(hv:Vis X.env.scope x:=by first|exact Or.inl rfl|exact Or.inr (Or.inl rfl)|exact Or.inr (Or.inr rfl))
  (hbase:attributeBase (.Name x p1) "extend" X.env (eval (.Name x p1) X.env)=eval (.Name x p1) X.env:=by rfl)
  (hfew:((backTo cpos (starEach [e] X.env)).all (fun x=> !x.1)&&(backToKw cpos (keywordEach [] X.env)).all (fun x=>x.1.isSome)&&decide ([e].length+([]:List Keyword).length+(if([]:List Keyword).isEmpty then 0 else 1)<30))=true:=by rfl)
  (hline:(apos.endLine == cpos.line)=true:=by rfl) (hs:starEach [e] X.env=(false,eval e X.env)::starEach [] X.env:=by rfl) (hd:(x == ("__debug__":Str))=false:=by decide) (hcd:(x == ("__classdict__":Str))=false:=by decide)
  (hsw:swapsWith (.Call (.Attribute (.Name x p1) "extend" apos) [e] [] cpos) none pos.line X.env=pure false:=by rfl):
  PSD X (.Expr (.Call (.Attribute (.Name x p1) "extend" apos) [e] [] cpos) pos) (QA i (asL m)):=
 (Q0 (Ur PySem.F.plainAttrs_list PySem.F.slot_list_extend PySem.F.type_list_extend Z3s (Xm hi hv hd hcd) (Yo he pa_nil hs) hbase hfew hline hs) hsw).imp fun E σ H ⟨G,O,τ,S,q⟩=>by
  unfold QA asL at q
  cases hm:m (ZH τ)with
  |ex c=>rw[hm]at q;simp only[R.ex_bind]at q;split at q<;>first|exact q.elim|(rename_i z;cases z)
  |bad=>rw[hm]at q;simp only[R.bad_bind]at q;split at q<;>first|exact q.elim|(rename_i z;cases z)
  |ok es=>
   rw[hm]at q
   simp only[R.ok_bind]at q
   split at q
   ·rename_i ds es' h1 h2
    cases h2
    obtain⟨p,xs,a,c,r⟩:=S.ac h1
    refine⟨.ref p,a, .inl ⟨rfl,_,SqL.of c⟩,_,ZH τ,S.hid.1,S.hid.2,?_⟩
    rw[hm]
    intro v H1 e1 ⟨p',ys,ev,hp,hp',rr⟩
    subst ev
    split at q
    ·rename_i hl
     obtain⟨O',s1,t1⟩:=(S.same e1).upd h1 a ((r.same e1).append (rr.wid fun a z=>z.1))
     exact⟨p,p',xs,ys,rfl,rfl,e1 _ _ c,hp',by rw[r.length,rr.length];exact hl,q O' _ _ ((Tr.of_same e1).trans t1) s1⟩
    ·exact q.elim
   ·exact q.elim
structure Callee(P:Program)(w:World)(K:PySem.W.Frag)(mg:Str->Option Value)(base:Heap)(k:Nat)(x:Str)(F:List D->R D):Prop where
 ex:∃f fd ps,FnOk P w K mg base (CXR P w) k f fd ps (spD K F)/\Binds K fd ps []/\PySem.W.keepIn K (.ref f)=true/\mg x=some (.ref f)
theorem Z5{x:Str}{p pos:Pos}{e:Expr}{es:List Expr}{k:Nat}{F:List D->R D}{n:Rho->R (List D)}(c:Callee X.prog X.w X.K X.mg X.base k x F)(hr:Room k X.A)(ha:PDA X (e::es) n)
  (hg:Gl X x:=by rfl) (hdb:(x == ("__debug__":Str))=false:=by decide) (he:starEach (e::es) X.env=(false,eval e X.env)::starEach es X.env:=by rfl) (hpl:(backTo pos (starEach es X.env)).any (·.1)=false:=by rfl):
  PD X (.Call (.Name x p) (e::es) [] pos) (ap F n):=by
 obtain⟨f,fd,ps,h1,h2,h3,h4⟩:=c.ex
 exact Zc6 h1 h2 h3 h4 hr ha hg hdb he hpl
end
end L3
namespace L3
open PySem PySem.Spec L2
open PyProof.Rows hiding St
section
variable{X:Cx}{pos:Pos}
theorem Vq{K:PySem.W.Frag}{G:Addr->Prop}{H:Hp}{ds:List D}{ns:List Int}{xs:List V}{us:List Value}(e:ZF ds=some ns)(r:RepL K G H ds xs)(v:Vals xs us):IntsAre us ns:=by
 have h:=Yt e
 subst h
 have hx:=Yl _ r
 subst hx
 exact Yw v
end
section
variable{prog:Program}{w:World}{A:Around}{E:Value->Shared->Prop}{s:Shared}
theorem Z40{vs:List Value}{ns:List Int}(h:IntsAre vs ns){i:Nat}{v:Value}(e:vs[i]? =some v):∃n t,ns[i]? =some n/\v=.int n t:=by
 induction h generalizing i with
 |nil=>simp at e
 |cons n t hr ih=>
  cases i with
  |zero=>simp at e;exact⟨n,t,rfl,e.symm⟩
  |succ i=>exact ih (by simpa using e)
theorem Z41{a:Addr}{its:List Value}{ns:List Int}{k:Int}{t:Tok}{Q:Value->Shared->Prop}(ht:IsTup s.heap a its.toArray)(hi:IntsAre its ns)(hk:k∈ns)(h:Q (.int (ns.idxOf k:Nat) s.toks) {s with toks:=s.toks+1}):
  wpAny (model prog w) A (call (.builtin "tuple.index") [.ref a, .int k t]) Q E s:=by
 obtain⟨o,ho,hc,n,hd⟩:=ht
 have hl:=hi.length
 have hj:ns.idxOf k<ns.length:=List.idxOf_lt_length_iff.mpr hk
 refine wpAny_call_entry PySem.F.slot_tuple_index ⟨o,ho,hc⟩ PySem.F.entry_tuple_index ?_ (PySem.F.args_tuple_index_2 _ _)
 unfold Builtin.«tuple.index»
 refine wpAny_bind (m:=selfAndSome "tuple.index" "index" 1 3 _) (wpAny_pure ?_)
 refine wpAny_bind (wpAny_tupleItemsOf ho hd ?_)
 simp only[pure_bind]
 refine wpAny_bind ?_
 rw[Std.Legacy.Range.forIn_eq_forIn_range']
 refine wpAny_forIn_list _ (fun Y4 b s'=>b.1=none/\s'=s/\∃i,Y4=List.range' i (its.length - i)/\i<=ns.idxOf k) _ ?_ ?_ _ _ ⟨rfl,rfl,0,by simp[Std.Legacy.Range.size],Nat.zero_le _⟩
 ·rintro x Y4 ⟨b,_⟩ s' ⟨hb,hs,i,hr,hle⟩
  simp only at hb
  subst hb hs
  have hlt:i<its.length:=by omega
  rw[show its.length - i=(its.length - (i+1))+1 by omega,List.range'_succ]at hr
  injection hr with hx hrest
  subst hx
  obtain⟨n',t',en,ev⟩:=Z40 hi (List.getElem?_eq_getElem hlt)
  have eg:its.toArray[x]? =some (.int n' t'):=by rw[List.getElem?_toArray,List.getElem?_eq_getElem hlt,ev]
  simp only[eg]
  refine wpAny_bind (wpAny_eqBool_int ?_)
  have hxn:x<ns.length:=by omega
  by_cases hkn:n'=k
  ·subst hkn
   have hix:ns.idxOf n'=x:=by
    apply Nat.le_antisymm ?_ hle
    apply Classical.byContradiction
    intro hgt
    have hlt2:x<ns.idxOf n':=by omega
    have:=List.getElem_of_getElem? en
    exact absurd (List.not_of_lt_findIdx (p:=(· == n')) (xs:=ns) (i:=x) (by simpa[List.idxOf]using hlt2)) (by
     obtain⟨hh,e⟩:=List.getElem?_eq_some_iff.mp en
     simp[e])
   simp only[beq_self_eq_true,if_true]
   unfold retInt
   refine wpAny_bind (wpAny_bind (wpAny_mkInt (wpAny_pure (wpAny_pure ?_))))
   show wpAny _ _ (pure _) _ _ _
   rw[hix]at h
   exact wpAny_pure ⟨_,rfl,h⟩
  ·have hb:(n' == k)=false:=by simpa using hkn
   simp only[hb,Bool.false_eq_true,if_false]
   refine wpAny_pure ⟨rfl,rfl,x+1,hrest,?_⟩
   have:x≠ns.idxOf k:=fun e=>by
    have:=List.getElem_idxOf hj
    obtain⟨hh,e2⟩:=List.getElem?_eq_some_iff.mp en
    simp only[←e]at this
    exact hkn (e2.symm.trans this)
   omega
 ·rintro⟨b,_⟩ s' ⟨hb,hs,i,hr,hle⟩
  exfalso
  have:(List.range' i (its.length - i)).length=0:=by rw[←hr];rfl
  rw[List.length_range']at this
  omega
end
section
variable{X:Cx}{pos:Pos}
theorem Z42{prog:Program}{w:World}{A:Around}{E:Value->Shared->Prop}{s:Shared}{l:Addr}{vs:List Value}{ns:List Int}{k:Int}{t:Tok}{Q:Value->Shared->Prop}(hl:s.heap.IsList l vs.toArray)(hi:IntsAre vs ns)(hz:ns.length<=sizeLine)(hk:k∈ns)
  (h:Q (.int (ns.idxOf k:Nat) s.toks) {s with toks:=s.toks+1}):wpAny (model prog w) A (call (.builtin "list.index") [.ref l, .int k t]) Q E s:=by
 obtain⟨⟨cls,dd,data,sl⟩,ho,hc,n,hd⟩:=id hl
 cases hc
 cases hd
 have hlen:=hi.length
 have hj:=List.idxOf_lt_length_iff.mpr hk
 rw[sizeLine_eq]at hz
 refine call_meets PySem.F.slot_list_index ⟨_,ho,rfl⟩ PySem.F.entry_list_index (PySem.F.args_list_index_2 _ _) (PySem.SeqAt.list_indexAt l vs.toArray n dd sl (.int k t) (isInt k) (ns.idxOf k) (by simpa[hlen]using hj) (by omega) ?_ fun j hjs hlt=> ?_)
  ⟨ho,fun y hy=>(eq_isInt k t hi y (by simpa using hy)).at _ _,h⟩
 ·have z:=isInt_at k hi (ns.idxOf k) (by omega) hj
  have z2:=List.getElem_idxOf hj
  exact z.trans (by simpa using z2)
 ·have z:=isInt_at k hi j (by simpa using hjs) (by omega)
  exact z.trans (ne_of_lt_idxOf hlt _)
theorem U0{k:Nat}{o e:Expr}{m n:Rho->R D}{apos cpos:Pos}(hr:Room k X.A)(ho:PD X o m)(he:PD X e n)(hbase:attributeBase o "index" X.env (eval o X.env)=eval o X.env:=by rfl)
  (hfew:((backTo cpos (starEach [e] X.env)).all (fun x=> !x.1)&&(backToKw cpos (keywordEach [] X.env)).all (fun x=>x.1.isSome)&&decide ([e].length+([]:List Keyword).length+(if([]:List Keyword).isEmpty then 0 else 1)<30))=true:=by rfl)
  (hline:(apos.endLine == cpos.line)=true:=by rfl) (hs:starEach [e] X.env=(false,eval e X.env)::starEach [] X.env:=by rfl) (hpl:(backTo cpos (starEach [] X.env)).any (·.1)=false:=by rfl):
  PD X (.Call (.Attribute o "index" apos) [e] [] cpos) (bn Yy m n):=by
 intro pins s σ H Q I ⟨G,ρ,hG,hρ,q⟩
 refine wpAny_Call_method_late hbase hfew hline rfl (thn (ho pins s σ H (fun x H1=>∃d,Same H H1/\Rep X.K G H1 d x/\DQ X σ (Rep X.K G) H1 (nox (n ρ)>>=fun y=>Yy d y) Q) I ⟨G,ρ,hG,hρ,(DQ.bind q).wk fun b H1 e1 ⟨d,_,_,rd,q1⟩=>⟨d,e1,rd,q1⟩⟩) fun v s1 ⟨x,H1,I1,r1,d,e1,rd,q1⟩=> ?_)
 have hA:=(Z0 he Z4 hs) cpos pins s1 σ H1 (fun xs H2=>∃y,n ρ=.ok y/\Same H1 H2/\RepL X.K G H2 [y] xs/\DQ X σ (Rep X.K G) H2 (Yy d y) Q) I1 ⟨G,ρ,hG.same e1,hρ.same e1,by
  unfold cs nl
  cases hn:n ρ with
  |ex c=>rw[hn]at q1;exact q1.elim
  |bad=>rw[hn]at q1;exact q1.elim
  |ok y=>
   rw[hn]at q1
   exact fun xs H2 e2 rl=>⟨y,rfl,e2,rl,DQ.mono (r:=Yy d y) q1 e2⟩⟩
 have fin:∀(ds:List D) (y:D) (H2:Hp) (s2:Shared) (us:List Value) (vs:List V),RepL X.K G H2 [y] vs->Vals vs us->DQ X σ (Rep X.K G) H2 (idx ds y) Q->Inv X pins σ H2 s2->
   ∃ns i t,ZF ds=some ns/\us=[.int i t]/\i∈ns/\EP X pins σ Q (.int (ns.idxOf i:Nat) s2.toks) {s2 with toks:=s2.toks+1}:=by
  intro ds y H2 s2 us vs rl rv q2 I2
  unfold idx at q2
  split at q2
  ·rename_i ns i en
   split at q2
   ·rename_i hm
    obtain⟨x',rfl,rx'⟩:=ZY rl
    cases rx'.int_of
    obtain⟨u,rfl,t,rfl⟩:=YE rv
    exact⟨ns,i,t,en,rfl,hm, .int _,H2,I2.tok _,⟨_,rfl⟩,q2 _ H2 (Same.refl H2) Rep.int⟩
   ·exact q2.elim
  ·exact q2.elim
 cases d with
 |tup ds=>
  obtain⟨a,xs,rfl,h1,rl⟩:=rd.tup_of
  cases r1
  obtain⟨its,rv,⟨o',eo,hc,nn,hd⟩,hz⟩:=I1.tuple h1
  refine⟨"tuple","tuple.index",PySem.F.plainAttrs_tuple,PySem.F.slot_tuple_index,PySem.F.type_tuple_index,⟨o',eo,hc⟩,fun a' e'=>by cases e';exact I1.tupleD h1,?_⟩
  rw[hs]at hA ⊢
  refine Calls.callWith_builtin (by show(false || (backTo cpos (starEach [] X.env)).any (·.1))=false;rw[hpl];rfl) (Calls.evalArgs_plain ?_)
  refine thn hA fun us s2 ⟨vs,H2,I2,r2,y,_,e2,rl2,q2⟩=> ?_
  obtain⟨ns,i,t,en,rfl,hm,ep⟩:=fin ds y H2 s2 us vs rl2 r2 q2 I2
  obtain⟨its2,rv2,p2,_⟩:=I2.tuple (Same.seqT e2 h1)
  exact Z41 p2 (Vq en (rl.same e2) rv2) hm ep
 |lst ds=>
  obtain⟨a,xs,rfl,h1,rl⟩:=rd.lst_of
  cases r1
  obtain⟨its,rv,pl,hz⟩:=I1.list h1.sq
  refine⟨"list","list.index",PySem.F.plainAttrs_list,PySem.F.slot_list_index,PySem.F.type_list_index,pl.isList.typeIs,fun a' e'=>by cases e';obtain⟨o,n,e,c,hd,_⟩:=pl;exact⟨o,e,hd⟩,?_⟩
  rw[hs]at hA ⊢
  refine Calls.callWith_builtin (by show(false || (backTo cpos (starEach [] X.env)).any (·.1))=false;rw[hpl];rfl) (Calls.evalArgs_plain ?_)
  refine thn hA fun us s2 ⟨vs,H2,I2,r2,y,_,e2,rl2,q2⟩=> ?_
  obtain⟨ns,i,t,en,rfl,hm,ep⟩:=fin ds y H2 s2 us vs rl2 r2 q2 I2
  obtain⟨its2,rv2,pl2,hz2⟩:=I2.list (h1.mono e2 (fun _ z=>z)).sq
  have hi2:=Vq en (rl.same e2) rv2
  exact Z42 pl2.isList hi2 (by rw[←hi2.length,←rv2.length];exact hz2) hm ep
 |non=>cases hn:n ρ<;>rw[hn]at q1<;>exact q1.elim
 |bl _=>cases hn:n ρ<;>rw[hn]at q1<;>exact q1.elim
 |int _=>cases hn:n ρ<;>rw[hn]at q1<;>exact q1.elim
 |str _=>cases hn:n ρ<;>rw[hn]at q1<;>exact q1.elim
 |exc _=>cases hn:n ρ<;>rw[hn]at q1<;>exact q1.elim
 |dct _=>cases hn:n ρ<;>rw[hn]at q1<;>exact q1.elim
end
end L3
namespace PySem
open PyProof.Rows in
theorem Z9i{prog:Program}{w:World}{A:Around}{E:Value->Shared->Prop}{s:Shared}{l:Addr}{items:Array Value}{ns:List Int}{Q:Value->Shared->Prop}(hh:A.handled=none)(ht:s.heap.IsTuple l items)(hi:IntsAre items.toList ns)(hb:items.size+1<scanBound)
  (h:∀(h':Heap) (tk:Nat),h'.SetOf (intKind prog w) s.heap.objs.size (fun k'=>(firstMet (fun i=>ns.getD i 0) items.size).any (· == k')) (firstMet (fun i=>ns.getD i 0) items.size).length->(∀b o,b<s.heap.objs.size->s.heap.get? b=some o->h'.get? b=some o)->Q (.ref s.heap.objs.size) {s with heap:=h',toks:=tk}):
  wpAny (model prog w) A (call (.type "set") [.ref l]) Q E s:=by
 obtain⟨c,tl,hmro⟩:=F.called_set.mro
 have hmade:=F.called_set.made;have hsub:=F.called_set.sub
 refine wpAny_call (codeAny_of_tree (show wpAny _ _ (callAny (.type "set") _) _ _ _ from wpAny_pure ⟨Code.quiet_builtin _ (by decide+kernel),codeAny_builtin F.entry_type_call ?_⟩))
 rw[Around.under_plain (weight_type_call_type "set" [.ref l] []) rfl]
 have q1:=F.called_set.notType;have q2:=F.called_set.canCreate;have q3:=F.typeCall_set_1 (.ref l)
 repeat (any_goals (first|assumption|wp_step))
 refine codeAny_mono (code_set_new_1 (.ref l) (E:=E) (Q₁:=fun obj z=>∃led:Bool,obj=.ref s.heap.objs.size/\z={s with heap:=s.heap.push {cls:=.type "set",dict:=none,data:=.set #[] 0 (.fresh 0 0 led)}}) fun led=>⟨led,rfl,rfl⟩) fun r z hr=> ?_
 cases r with
 |error e=>exact hr
 |ok fl=>
  cases fl with
  |ret obj=>
   obtain⟨led,rfl,rfl⟩:=hr
   generalize hob:({cls:=.type "set",dict:=none,data:=.set #[] 0 (.fresh 0 0 led)}:Obj)=ob
   have hS:(s.heap.push ob).get? s.heap.objs.size=some ob:=Heap.get?_push_size _ (by rw[←hob];rfl)
   have hT:Shared.TypeIs {s with heap:=s.heap.push ob} (.ref s.heap.objs.size) "set":=⟨ob,hS,by rw[←hob]⟩
   have hli:=F.called_set.init.lookup;have hbi:=F.called_set.init.bind (.ref s.heap.objs.size)
   repeat (any_goals (first|assumption|wp_step))
   refine codeAny_mono (codeAny_call_builtin (R:=wants (fun r z=>r=.none/\∃h' tk,z={s with heap:=h',toks:=tk}/\h'.SetOf (intKind prog w) s.heap.objs.size (fun k'=>(firstMet (fun i=>ns.getD i 0) items.size).any (· == k')) (firstMet (fun i=>ns.getD i 0) items.size).length/\
     (∀b o,b<s.heap.objs.size->s.heap.get? b=some o->h'.get? b=some o)) E) F.called_set.init.plain F.entry_set_init (check_set_init_1 hT ?_)) fun r' z' hr'=> ?_
   ·obtain⟨⟨ocls,odict,odata,oslots⟩,hol,hcl,nl,hdl⟩:=ht
    simp only at hcl hdl
    subst hcl hdl
    have hol':(s.heap.push ob).get? l=some {cls:=.type "tuple",dict:=odict,data:=.seq items nl,slots:=oslots}:=Heap.get?_push_of_some _ hol
    have u1:=F.sub_tuple_set;have u2:=F.sub_tuple_frozenset
    have u3:(Value.type "tuple" == Value.type "dict")=false:=by decide
    have ht1:(s.heap.push ob).IsTuple l items:=⟨_,hol',rfl,nl,rfl⟩
    subst hob
    unfold Builtin.«set.__init__» noKeywords Builtin.Frozenset.updateFrom
    generalize hPI:pyIter=PI
    wp_walk
    subst hPI
    refine wpAny_pyIter_tuple ht1 ?_
    generalize hob:({cls:=.type "set",dict:=none,data:=.set #[] 0 (.fresh 0 0 led)}:Obj)=ob at *
    refine wpAny_bind (wpAny_runValue ?_)
    have lS:l<s.heap.objs.size:=Heap.lt_size hol
    have esz:(s.heap.push ob).objs.size=s.heap.objs.size+1:=Heap.size_push _ _
    have h3:A.in1.in1.in1.handled=none:=by simp[hh]
    have nI:l≠(s.heap.push ob).objs.size:=by rw[esz];exact Nat.ne_of_lt (Nat.lt_succ_of_lt lS)
    have nS:s.heap.objs.size∉[(s.heap.push ob).objs.size,l]:=by
     rw[esz]
     simp only[List.mem_cons,List.not_mem_nil,or_false,not_or]
     exact⟨Nat.ne_of_lt (Nat.lt_succ_self _),Nat.ne_of_gt lS⟩
    have hval:∀(i:Nat) (v:Value),items[i]? =some v->∃t,v=.int ((fun i=>ns.getD i 0) i) t:=fun i v hv=>IntsAre.int_at hi i v (by rw[Array.getElem?_toList];exact hv)
    refine codeAny_set_update_loopS ((Walks.tuple h3 _ l nI items).toS) s.heap.objs.size nS (fun i=>ns.getD i 0) hval hb (items.size - 0) 0 _ (by omega) (Nat.zero_le _) ⟨⟨_,Heap.get?_push_size _ rfl,rfl,rfl⟩,ht1.at fun o e=>Heap.get?_push_of_some _ e⟩ ?hS0 ?hR
    case hS0=>
     have hg:((s.heap.push ob).push {cls:=.type "tuple_iterator",data:=.fields #[.ref l, .int 0 0]}).get? s.heap.objs.size=some ob:=Heap.get?_push_of_some _ hS
     rw[←hob]at hg ⊢
     exact SetOf_congr ((setObjOf_fresh (knd:=intKind prog w) led).setOf hg (by unfold scanBound;omega)) (fun _=>rfl) rfl
    case hR=>
     intro z hm hS'
     obtain⟨h',g',d',tk',os'⟩:=z
     have eg:g'=s.gens:=hm.gens
     have ed:d'=s.drawn:=hm.drawn
     have eo:os'=s.os:=hm.os
     subst eg ed eo
     refine(show wpAny _ _ _ _ _ _ from wpAny_pure (show wpAny _ _ (ret Value.none) _ _ _ from wpAny_pure ⟨rfl,h',tk',rfl,hS',fun b o hlt e=> ?_⟩))
     exact hm.heap b o (by rw[esz];simp only[List.mem_cons,List.not_mem_nil,or_false,not_or];exact⟨Nat.ne_of_lt hlt,Nat.ne_of_lt (Nat.lt_succ_of_lt hlt)⟩) (Heap.get?_push_of_some _ (Heap.get?_push_of_some _ e))
   ·cases r' with
    |error e=>exact hr'
    |ok fl'=>
     cases fl' with
     |ret r=>
      obtain⟨rfl,h',tk,rfl,hS',hk'⟩:=hr'
      repeat (any_goals (first|assumption|wp_step))
      exact h _ _ hS' hk'
     |_=>exact hr'.elim
  |_=>exact hr.elim
end PySem
namespace L3
open PySem PySem.Spec L2
open PyProof.Rows hiding St
theorem UK{α β:Type}(f:β->α->β)(d:α):∀(l:List α) (b:β),((List.range l.length).map fun i=>l.getD i d).foldl f b=l.foldl f b:=by
 intro l b
 congr 1
 apply List.ext_getElem?
 intro i
 rw[List.getElem?_map]
 by_cases h:i<l.length
 ·rw[List.getElem?_range h,List.getElem?_eq_getElem h]
  simp[h]
 ·rw[List.getElem?_eq_none (by simpa using h),List.getElem?_eq_none (by simpa using h)]
  rfl
theorem QU(ns:List Int):firstMet (fun i=>ns.getD i 0) ns.length=dd ns:=by
 unfold firstMet dd
 rw[UK]
 rfl
section
variable{X:Cx}{pos:Pos}
def rSet(K:PySem.W.Frag):List V->Hp->VK->Prop:=fun xs H Q=>∃(a:Addr) (ns:List Int),xs=[.ref a]/\(SqL K H a (ns.map V.int)\/SqT K H a (ns.map V.int))/\ns.length<1000/\∀p S,H p=none->Q (.ref p) (upd H p (.set S (dd ns).length))
theorem Z6q(hh:X.A.handled=none):X2 X (.type "set") (rSet X.K):=by
 intro pins s σ H xs us Q I r ⟨a,ns,e,hq,hl,q⟩
 subst e
 obtain⟨u,rfl,ru⟩:=YE r
 cases ru
 have hf:H s.heap.objs.size=none:=I.fresh
 have fin:∀(h':Heap) (tk:Nat) (n:Nat),n=ns.length->h'.SetOf (intKind X.prog X.w) s.heap.objs.size (fun k'=>(firstMet (fun i=>ns.getD i 0) n).any (· == k')) (firstMet (fun i=>ns.getD i 0) n).length->
   (∀b o,b<s.heap.objs.size->s.heap.get? b=some o->h'.get? b=some o)->EP X pins σ Q (.ref s.heap.objs.size) {s with heap:=h',toks:=tk}:=by
  intro h' tk n hn hS hk
  subst hn
  rw[QU]at hS
  exact⟨.ref _,_,I.laid (t':=tk) (o:=.set _ (dd ns).length) (fun b o e=>hk b o (Heap.lt_size e) e) (Nat.le_refl _) hS,rfl,q _ _ hf⟩
 rcases hq with hq|hq
 ·obtain⟨its,rv,pl,hz⟩:=I.list hq
  have hi:=Yw rv
  have hln:=hi.length
  refine call_set_list (items:=its.toArray) hh pl.isList (by simpa using hi) (by unfold scanBound;rw[List.size_toArray];omega) fun h' tk hS hk=> ?_
  exact fin h' tk _ (by rw[List.size_toArray];exact hln) hS hk
 ·obtain⟨its,rv,pt,hz⟩:=I.tuple hq
  have hi:=Yw rv
  have hln:=hi.length
  refine Z9i (items:=its.toArray) hh (show s.heap.IsTuple a its.toArray from pt) (by simpa using hi) (by unfold scanBound;rw[List.size_toArray];omega) fun h' tk hS hk=> ?_
  exact fin h' tk _ (by rw[List.size_toArray];exact hln) hS hk
theorem Z43:X2 X (.builtin "len") (fun xs H Q=>∃p S n,xs=[.ref p]/\H p=some (.set S n)/\n<1000/\Q (.int (n:Int)) H):=by
 intro pins s σ H xs us Q I r ⟨p,S,n,e,hp,hn,q⟩
 subst e
 obtain⟨u,rfl,ru⟩:=YE r
 cases ru
 have hS:s.heap.SetOf (intKind X.prog X.w) p S n:=I.hok p _ hp
 obtain⟨o,ho,hex,es,ep,t,hd,_,_,hn',hf⟩:=hS.objOf
 subst hn'
 exact call_len_set ho hex hd hf (by omega) ⟨.int _,H,I.tok _,⟨_,rfl⟩,q⟩
theorem Z6r{a:Expr}{m:Rho->R D}{p1 p2 pos2:Pos}(hh:X.A.handled=none)(hml:X.mg "len"=none)(hms:X.mg "set"=none)(ha:PD X a m)(hgl:Gl X "len":=by rfl)(hgs:Gl X "set":=by rfl)
  (hs:starEach [a] X.env=(false,eval a X.env)::starEach [] X.env:=by rfl) (hs2:starEach [.Call (.Name "set" p2) [a] [] pos2] X.env=(false,eval (.Call (.Name "set" p2) [a] [] pos2) X.env)::starEach [] X.env:=by rfl):
  PD X (.Call (.Name "len" p1) [.Call (.Name "set" p2) [a] [] pos2] [] pos) (un W4 m):=
 (Xn Z43 hgl hml PySem.boot_len (Yo (Qp (he:=hs) (Z6q hh) hgs hms boot_set (Yo ha pa_nil hs)) pa_nil hs2) (he:=hs2)).imp fun σ H Q ⟨G,ρ,hG,hρ,q⟩=>by
  refine⟨G,ρ,hG,hρ,(DQ.bind q).wk fun v H1 e ⟨d,_,_,rd,q1⟩=> ?_⟩
  have core:∀(b:Addr) (ys:List D) (vs:List V),RepL X.K G H1 ys vs->(SqL X.K H1 b vs\/SqT X.K H1 b vs)->DQ X σ (Rep X.K G) H1 (match ZF ys with|some ns=>if ns.length<1000 then .ok (.int (dd ns).length)else .bad|none=>.bad) Q->
    rSet X.K [.ref b] H1 fun x H2=>∃p S n,[x]=[.ref p]/\H2 p=some (.set S n)/\n<1000/\Q (.int (n:Int)) H2:=by
   intro b ys vs rl hq q2
   cases hi:ZF ys with
   |none=>rw[hi]at q2;exact q2.elim
   |some ns=>
    rw[hi]at q2
    simp only at q2
    split at q2
    ·rename_i hl
     have hm:=Yt hi
     subst hm
     have hv:=Yl _ rl
     subst hv
     have hle:(dd ns).length<=ns.length:=by
      have:=firstMet_length_le (fun i=>ns.getD i 0) ns.length
      rw[QU]at this;exact this
     refine⟨b,ns,rfl,hq,hl,fun p S hp=>⟨p,S,_,rfl,Zi,by omega,?_⟩⟩
     exact q2 _ _ (Zv hp _) Rep.int
    ·exact q2.elim
  cases d with
  |tup ys=>
   obtain⟨b,vs,rfl,h1,rl⟩:=rd.tup_of
   exact core b ys vs rl (.inr h1) q1
  |lst ys=>
   obtain⟨b,vs,rfl,h1,rl⟩:=rd.lst_of
   exact core b ys vs rl (.inl h1.sq) q1
  |_=>exact q1.elim
end
end L3
namespace L3
open PySem PySem.Spec L2
open PyProof.Rows hiding St
theorem Xc{X:Cx}{pins:List (Addr×Obj)}{σ:St}{H:Hp}{s:Shared}{h':Heap}{t':Nat}{fp:List Addr}(I:Inv X pins σ H s)(k:∀b o,b∉fp->s.heap.get? b=some o->h'.get? b=some o)(hf:∀b∈fp,X9 X pins H b):Inv X pins σ H {s with heap:=h',toks:=t'}:=by
 have nit:∀b u,H b=some u->b∉fp:=fun b u e z=>by rw[(hf b z).1]at e;cases e
 refine I.step (g':=s.gens) (d':=s.drawn) (ch:=fp) (fun b hb=> ?_) (fun b o _ _ hc e _=>k b o hc e) (fun b o _ _ hc e _=>⟨o.slots,k b o hc e⟩) (fun _ _ _ _ n=>n)
  (fun b o hc e=>⟨o,k b o hc e⟩) (fun _ _ e=>e) (fun _ _ _ e=>e) (fun b ps e=>⟨#[],by rw[e];simp⟩) (fun m hm=> ?_) (fun b u e=> ?_) I.bare
 ·obtain⟨_,f1,_,f3,f4,f5⟩:=hf b hb
  exact⟨f3,f1,f4,f5⟩
 ·obtain⟨o,es,ep,ho,r⟩:=hm
  exact⟨o,es,ep,k _ o (fun z=>(hf _ z).2.1 rfl) ho,r⟩
 ·refine(I.hok b u e).stay (fun c v hc q=>k c v ?_ q) (fun _ q=>q) fun _ _ q=>q
  rcases hc with z|z
  ·rw[z];exact nit b u e
  ·exact nit c _ z
theorem UL{h:Heap}{ob o:Obj}{b:Addr}(hb:b<h.objs.size)(e:(h.push ob).get? b=some o):h.get? b=some o:=by
 rw[Heap.get?_push_ne _ _ _ (Nat.ne_of_lt hb)]at e
 exact e
section
variable{X:Cx}
end
section
variable{es:List Expr}{env:Env}
theorem Zc{c j p}:starEach (.Constant c j p::es) env=(false,eval (.Constant c j p) env)::starEach es env:=rfl
theorem Z2{c p}:starEach (.Name c p::es) env=(false,eval (.Name c p) env)::starEach es env:=rfl
theorem ZR{c j p}:starEach (.Tuple c j p::es) env=(false,eval (.Tuple c j p) env)::starEach es env:=rfl
theorem Z9j{c p}:starEach (.List c p::es) env=(false,eval (.List c p) env)::starEach es env:=rfl
theorem Zp{c d j p}:starEach (.Call c d j p::es) env=(false,eval (.Call c d j p) env)::starEach es env:=rfl
theorem ZL{c d j p}:starEach (.BinOp c d j p::es) env=(false,eval (.BinOp c d j p) env)::starEach es env:=rfl
theorem Zd{c d p}:starEach (.Subscript c d p::es) env=(false,eval (.Subscript c d p) env)::starEach es env:=rfl
theorem Ze{c d j p}:starEach (.ListComp c d j p::es) env=(false,eval (.ListComp c d j p) env)::starEach es env:=rfl
end
def cns(ks:List Int):Rho->R (List D):=fun _=>.ok (ks.map .int)
def Z6s(e:Expr):Option Int:=match e with
 | .Constant (.int i) _ _=>some i
 |_=>none
theorem Z6t{e:Expr}{k:Int}(h:Z6s e=some k):∃j p,e=.Constant (.int k) j p:=by
 unfold Z6s at h
 split at h
 ·cases h;exact⟨_,_,rfl⟩
 ·cases h
def JY:List Expr->List Int->Bool
 | [],[]=>true
 |e::es,k::ks=>Z6s e == some k&&JY es ks
 |_,_=>false
theorem YI{X:Cx}:∀(es:List Expr) (ks:List Int),JY es ks=true->PDA X es (cns ks)
 | [],[],_=>Z4
 |e::es,k::ks,h=>by
  unfold JY at h
  rw[Bool.and_eq_true,beq_iff_eq]at h
  obtain⟨j,p,rfl⟩:=Z6t h.1
  exact Z0 Zb (YI es ks h.2) Zc
 | [],_::_,h=>by cases h
 |_::_,[],h=>by cases h
end L3
namespace L3
open PySem PySem.Spec L2
open PyProof.Rows hiding St
open PySem.W (findIn mroIn subIn kitOne Frag)
open PySem.Calls PySem.Builtin PySem.Builtin.ObjectAttr PySem.Builtin.Getset_descriptor PySem.W
section
variable{prog:Program}{w:World}{A:Around}{E:Value->Shared->Prop}{s:Shared}{K:Frag}{x C:Addr}{ox:Obj}
structure XcOk(K:Frag)(C:Addr):Prop where
 ga:findIn K (.ref C) "__getattribute__"=some (some (.builtin "BaseException.__getattribute__"))
 gt:findIn K (.ref C) "__getattr__"=some none
 cl:findIn K (.ref C) "__class__"=some (some (.builtin "object.__class__"))
 ob:mroIn K C (.type "object")=some true
 bx:subIn K (.ref C) (.type "BaseException")=some true
 ty:typeIn K (.ref C)=some (.type "type")
 ct:(clsIn K C).isSome=true
end
end L3
namespace L3
open PySem PySem.Spec L2
open PyProof.Rows hiding St
open PySem.W (findIn mroIn subIn kitOne Frag excIn nsIn exmOne)
def Zc7:List Value:=[.type "ValueError", .type "Exception", .type "BaseException", .type "object"]
def xcB(K:Frag)(C:Addr):Bool:=
 (findIn K (.ref C) "__getattribute__" == some (some (.builtin "BaseException.__getattribute__")))&&(findIn K (.ref C) "__getattr__" == some none)&&(findIn K (.ref C) "__class__" == some (some (.builtin "object.__class__")))&&
 (mroIn K C (.type "object") == some true)&&(subIn K (.ref C) (.type "BaseException") == some true)&&(PySem.W.typeIn K (.ref C) == some (.type "type"))&&(PySem.W.clsIn K C).isSome&&excIn K C Zc7 "ValueError.__new__"
theorem Zax{K:Frag}{C:Addr}(h:xcB K C=true):XcOk K C/\excIn K C Zc7 "ValueError.__new__"=true:=by
 unfold xcB at h
 simp only[Bool.and_eq_true,beq_iff_eq]at h
 obtain⟨⟨⟨⟨⟨⟨⟨a,b⟩,c⟩,d⟩,e⟩,f⟩,g⟩,i⟩:=h
 exact⟨⟨a,b,c,d,e,f,g⟩,i⟩
def V8(c d:Nat):Bool:=c == d || d == 0
def clsB(K:Frag)(cs:List Nat):Bool:=cs.all fun c=>(nsIn K mainGlobals (Z5z c) == some (some (.ref (Yn K c))))&&xcB K (Yn K c)&&(kitOne K (.ref (Yn K c)) (.type "ValueError") == some true)&&
 cs.all fun d=>(kitOne K (.ref (Yn K c)) (.ref (Yn K d)) == some (V8 c d))&&(exmOne K (.ref (Yn K c)) (.ref (Yn K d)) == some (V8 c d))
structure ClsOk(K:Frag)(mg:Str->Option Value)(cs:List Nat):Prop where
 mg:∀c∈cs,mg (Z5z c)=some (.ref (Yn K c))
 xc:∀c∈cs,XcOk K (Yn K c)
 ex:∀c∈cs,excIn K (Yn K c) Zc7 "ValueError.__new__"=true
 val:∀c∈cs,kitOne K (.ref (Yn K c)) (.type "ValueError")=some true
 kit:∀c∈cs,∀d∈cs,kitOne K (.ref (Yn K c)) (.ref (Yn K d))=some (V8 c d)
 exm:∀c∈cs,∀d∈cs,exmOne K (.ref (Yn K c)) (.ref (Yn K d))=some (V8 c d)
theorem Zc8{K:Frag}{h:Heap}{mg:Str->Option Value}{cs:List Nat}(X:K.In h)(G:h.Ns mainGlobals mg)(b:clsB K cs=true):ClsOk K mg cs:=by
 have z:∀c∈cs,(((nsIn K mainGlobals (Z5z c)=some (some (.ref (Yn K c)))/\xcB K (Yn K c)=true)/\kitOne K (.ref (Yn K c)) (.type "ValueError")=some true)/\
   ∀d∈cs,kitOne K (.ref (Yn K c)) (.ref (Yn K d))=some (V8 c d)/\exmOne K (.ref (Yn K c)) (.ref (Yn K d))=some (V8 c d)):=fun c hc=>by
  have y:=List.all_eq_true.mp b c hc
  simp only[Bool.and_eq_true,beq_iff_eq,List.all_eq_true]at y
  exact y
 exact⟨fun c hc=>PySem.W.mg_of X G (z c hc).1.1.1,fun c hc=>(Zax (z c hc).1.1.2).1,fun c hc=>(Zax (z c hc).1.1.2).2,fun c hc=>(z c hc).1.2,fun c hc d hd=>((z c hc).2 d hd).1,fun c hc d hd=>((z c hc).2 d hd).2⟩
theorem Z9k{K:Frag}{h:Heap}{C:Addr}{bl:List Value}{nid:String}(X:K.In h)(z:excIn K C bl nid=true):
  ∃bm N nm qn bs hd sn sb ab col dd k0 k1 k2 k3 k5 mN,h.get? C=some (excClassObj nm qn C N bs bm hd sn sb ab col dd k0 k1 k2 k3 k5 nid)/\h.Ns N mN/\mN "__init__"=none/\OwnTail h bl bm:=by
 unfold excIn at z
 split at z
 ·rename_i dd cd sl ho
  obtain⟨nm,bs,mro,ns,qn,hd,sn,sb,ab,col,del⟩:=cd
  obtain⟨l⟩:=sl
  dsimp only at z
  split at z
  ·rename_i bm k0 k1 k2 k3 n k5
   simp only[Bool.and_eq_true,beq_iff_eq,Bool.not_eq_true']at z
   obtain⟨⟨⟨⟨⟨rfl,rfl⟩,e3⟩,e4⟩,e5⟩,e6⟩:=z
   subst e3
   exact⟨bm,ns,nm,qn,bs,hd,sn,sb,ab,col,dd,k0,k1,k2,k3,k5,_,X _ _ ho, .of_isNs (PySem.W.isNs_of_in X e5),PySem.W.nsMap_none_of_in X e5 e6,PySem.W.tail_of_in X e4⟩
  ·cases z
 ·cases z
def Yz(c:Nat)(m:Rho->R D):Tau->Fl:=fun τ=>match m (Zz τ)with
 | .ok _=>.ex c τ
 | .ex c=>.ex c τ
 | .bad=>.bad
section
variable{X:Cx}{pos:Pos}
theorem YL{cs:List Nat}{c:Nat}{x:Str}{e:Expr}{m:Rho->R D}{np cpos:Pos}(K:ClsOk X.K X.mg cs)(hc:c∈cs)(he:PD X e m)(hx:Z5z c=x:=by rfl)(hcalm:X.calm=true:=by rfl)(hg:Gl X x:=by rfl)
  (hd:(x == ("__debug__":Str))=false:=by decide) (hs:starEach [e] X.env=(false,eval e X.env)::starEach [] X.env:=by rfl) (hp:(backTo cpos (starEach [] X.env)).any (·.1)=false:=by rfl):
  PSD X (.Raise (some (.Call (.Name x np) [e] [] cpos)) none pos) (Yz c m):=by
 intro pins s σ H E I ⟨G,O,τ,S,q⟩
 subst hx
 obtain⟨bm,N,nm,qn,bs,hdd,sn,sb,ab,col,dd,k0,k1,k2,k3,k5,mN,o1,o2,o3,o4⟩:=Z9k I.ok.mod.kin (K.ex c hc)
 refine wpAny_Raise_call_subU (C:=Yn X.K c) (nm:=nm) (q:=qn) (N:=N) (bs:=bs) (bm:=bm) (hdct:=hdd) (sn:=sn) (sub:=sb) (ab:=ab) (col:=col) (dd:=dd) (k0:=k0) (k1:=k1) (k2:=k2) (k3:=k3) (k5:=k5) (mN:=mN)
  F.excBase_ValueError (by decide) F.excBase_ValueError (o4.hasType (by decide)) (I.ok.hd hcalm) (by rw[hs];show(false || (backTo cpos (starEach [] X.env)).any (·.1))=false;rw[hp];rfl) o3 (VP I hg (K.mg c hc) ⟨rfl,?_⟩ hd)
 rw[hs]
 refine Calls.evalArgs_plain (Calls.spliced_cons (thn (he pins s σ H (fun v H1=>∃d,m (Zz τ)=.ok d/\Same H H1) I ⟨G,Zz τ,S.free,S.vw,?_⟩) fun v s1 ⟨y,H1,I1,r1,d,ed,e1⟩=>Calls.spliced_nil ?_))
 ·unfold Yz at q
  cases h:m (Zz τ)with
  |ok d=>exact fun b H' e' _=>⟨d,rfl,e'⟩
  |ex c=>rw[h]at q;exact EndsOk.xq q S
  |bad=>rw[h]at q;exact q.elim
 ·unfold Yz at q
  rw[ed]at q
  refine⟨rfl,by show 1<=sizeLine;decide,I1.bk _ _ o1,o2.keeps I1.bk,o4.keeps I1.bk,fun h' a mk=> ?_⟩
  obtain⟨I2,fl⟩:=Z92 I1 q.1 mk
  exact q.2 O pins σ H1 a _ (Tr.of_same e1) (S.same e1) I2 fl
end
end L3
namespace L3
open PySem PySem.Spec L2
open PyProof.Rows hiding St
open PySem.W (findIn mroIn subIn kitOne Frag excIn nsIn exmOne)
def isiE(cs:List Nat)(d:Nat):D->R D
 | .exc c=>if cs.contains c=true then .ok (.bl (V8 c d))else .bad
 |_=>.bad
def isiV(cs:List Nat):D->R D
 | .exc c=>if cs.contains c=true then .ok (.bl true)else .bad
 |_=>.bad
section
variable{X:Cx}{pos:Pos}
def Z9l(i:Nat):Fl->Fl
 | .nx τ=>.nx (τ.set i none)
 | .bk τ=>.bk (τ.set i none)
 | .ct τ=>.ct (τ.set i none)
 | .rt d=>.rt d
 |_=>.bad
def sTry(cs:List Nat)(d i:Nat)(M Mh:Tau->Fl):Tau->Fl:=fun τ=>match M τ with
 | .ex c τ'=>if cs.contains c=true/\V8 c d=true then Z9l i (Mh (τ'.set i (some (.sh (.exc c)))))else .bad
 |r=>r
end
end L3
namespace L3
open PySem PySem.Spec L2
open PyProof.Rows hiding St
section
variable{X:Cx}{pos:Pos}
theorem JZ(ds:List D):Z6m ds=.bad\/∃i j,ds=[.int i, .int j]:=by
 unfold Z6m
 split
 ·exact .inr ⟨_,_,rfl⟩
 ·exact .inl rfl
theorem Z6u{K:PySem.W.Frag}{G:Addr->Prop}{H:Hp}{i j:Int}{xs:List V}(r:RepL K G H [.int i, .int j] xs):xs=[.int i, .int j]:=by
 obtain⟨x,r1,rfl,h1,h2⟩:=r.uncons
 obtain⟨y,r2,rfl,h3,h4⟩:=h2.uncons
 cases h1.int_of
 cases h3.int_of
 cases h4.nil_of
 rfl
theorem Zc9{k:Nat}(hr:Room k X.A):Q4 X (.builtin "max") Z6m:=by
 intro pins s σ H xs us Q I r ⟨G,σ',ds,hG,rd,q⟩
 rcases JZ ds with h|⟨i,j,rfl⟩
 ·rw[h]at q;exact q.elim
 ·cases Z6u rd
  obtain⟨u,w',rfl,⟨t,rfl⟩,⟨t',rfl⟩⟩:=Z25 r
  refine max_two_ints hr.hd fun h' tk k=>⟨.int (if i<j then j else i),H,I.kept k,?_,q _ H (Same.refl H) Rep.int⟩
  by_cases hj:i<j
  ·rw[if_pos hj,if_pos hj];exact⟨_,rfl⟩
  ·rw[if_neg hj,if_neg hj];exact⟨_,rfl⟩
theorem Zca{i j:Nat}{x y:Str}{a b:Expr}{ma mb:Rho->R D}{px py pt:Pos}{kt k2 pt2}(ha:PD X a ma)(hb:PD X b mb)
  (h1:starEach (a::[b]) X.env=(false,eval a X.env)::starEach [b] X.env) (h2:starEach (b::[]) X.env=(false,eval b X.env)::starEach [] X.env)
  (hc:X.calm=true:=by rfl) (hN:ndB X.N=true:=by kernel_rfl) (hi:X.N[i]? =some x:=by rfl) (hj:X.N[j]? =some y:=by rfl) (hij:i≠j:=by decide)
  (hx:X.env.scope.names.lookup x=some .local:=by rfl) (hy:X.env.scope.names.lookup y=some .local:=by rfl)
  (hw:swappedStores [.Tuple [.Name x px, .Name y py] kt pt] (.Tuple [a,b] k2 pt2) X.env=pure (some [x,y]):=by rfl)
  (hs:swapsWithSole [.Tuple [.Name x px, .Name y py] kt pt] (.Tuple [a,b] k2 pt2) pos.line X.env=pure false:=by rfl):
  PSD X (.Assign [.Tuple [.Name x px, .Name y py] kt pt] (.Tuple [a,b] k2 pt2) pos) (Z9g i j ma mb):=
 (Zbm hc (XJ hN) hi hj hij hx hy (Z0 ha (Z0 hb Z4 h2) h1) hw hs).imp fun E σ H ⟨G,O,τ,S,q⟩=>by
  unfold Z9g at q
  refine⟨G,Zz τ,S.free,S.vw,?_⟩
  unfold cs nl
  cases e1:ma (Zz τ)with
  |ex c=>rw[e1]at q;exact q.elim
  |bad=>rw[e1]at q;exact q.elim
  |ok d=>
   rw[e1]at q
   cases e2:mb (Zz τ)with
   |ex c=>rw[e2]at q;exact q.elim
   |bad=>rw[e2]at q;exact q.elim
   |ok f=>
    rw[e2]at q
    simp only at q
    split at q
    ·rename_i hn
     intro vs H' e r
     obtain⟨v,w,rfl,r1,h2⟩:=r.uncons
     obtain⟨z,rfl,r3⟩:=ZY h2
     obtain⟨O1,_,s1,t1⟩:=(S.same e).set' (i:=i) (Q8 d hn.1 r1)
     obtain⟨O2,_,s2,t2⟩:=s1.set' (i:=j) (Q8 f hn.2 r3)
     exact⟨_,_,rfl,q _ _ _ ((Tr.of_same e).trans (t1.trans t2)) s2⟩
    ·exact q.elim
end
end L3
namespace PySem
open Sem (wp)
section
variable{P:Program}{w:World}{A:Around}{E:Value->Shared->Prop}{s:Shared}
theorem Zcb{j t:Addr}{k:Nat}{ws:Array Value}{y:Value}{Q:Value->Shared->Prop}(hj:s.heap.IsTupleIter j t k)(ht:s.heap.IsTuple t ws)(hy:ws[k]? =some y)
  (q:∀g,g.IsTupleIter j t (k+1)->Heap.SameBut j s.heap g->Q y {s with heap:=g}):wpAny (model P w) A (Builtin.SmallTypes.nextOf (.ref j)) Q E s:=by
 obtain⟨o,e1,e2,e3⟩:=id hj
 obtain⟨_,f1,_,m,f3⟩:=ht
 unfold Builtin.SmallTypes.nextOf
 refine wpAny_bind (wpAny_callSpecial?_slot (name:=Str.ofString "__next__") hj.typeIs F.slot_tuple_iterator_next (wpAny_call_entry F.slot_tuple_iterator_next hj.typeIs F.entry_tuple_iterator_next ?_ (F.args_tuple_iterator_next_1 _)))
 refine(show wpAny _ _ (field (.ref j) 0>>=_) _ _ s from wpAny_bind (wpAny_field e1 e3 (x:=.ref t) rfl ?_))
 refine(show wpAny _ _ (if(Value.ref t == Value.none)=true then _ else _) _ _ s from ?_)
 rw[if_neg (show¬((Value.ref t == Value.none)=true) by exact Bool.false_ne_true)]
 refine(show wpAny _ _ (field (.ref j) 1>>=_) _ _ s from wpAny_bind (wpAny_field e1 e3 (x:=.int k 0) rfl ?_))
 refine(show wpAny _ _ (seqItems? (.ref t)>>=_) _ _ s from wpAny_bind (wpAny_seqItems f1 f3 ?_))
 simp only[Int.toNat_natCast,hy]
 refine wpAny_bind (wpAny_setField e1 e3 (by simp) (wpAny_pure ⟨y,rfl,wpAny_pure (q _ ?_ (Heap.SameBut.update ..))⟩))
 exact⟨_,Heap.get?_update_self _ e1 (Obj.isFreed_of_fields (Obj.data_mapFields e3 _)),(Obj.cls_mapFields ..).trans e2,(Obj.data_mapFields e3 _).trans (by simp[rawInt])⟩
theorem WD{j t:Addr}{k:Nat}{ws:Array Value}{Q:Value->Shared->Prop}(hh:A.handled=none)(hj:s.heap.IsTupleIter j t k)(ht:s.heap.IsTuple t ws)(hy:ws[k]? =none)
  (q:∀g e,Heap.ExtBut j s.heap g->(∃o,g.get? e=some o/\o.cls=.type "StopIteration")->E (.ref e) {s with heap:=g}):wpAny (model P w) A (Builtin.SmallTypes.nextOf (.ref j)) Q E s:=by
 obtain⟨o,e1,e2,e3⟩:=id hj
 obtain⟨_,f1,_,m,f3⟩:=ht
 unfold Builtin.SmallTypes.nextOf
 refine wpAny_bind (wpAny_callSpecial?_slot (name:=Str.ofString "__next__") hj.typeIs F.slot_tuple_iterator_next (wpAny_call_entry F.slot_tuple_iterator_next hj.typeIs F.entry_tuple_iterator_next ?_ (F.args_tuple_iterator_next_1 _)))
 refine(show wpAny _ _ (field (.ref j) 0>>=_) _ _ s from wpAny_bind (wpAny_field e1 e3 (x:=.ref t) rfl ?_))
 refine(show wpAny _ _ (if(Value.ref t == Value.none)=true then _ else _) _ _ s from ?_)
 rw[if_neg (show¬((Value.ref t == Value.none)=true) by exact Bool.false_ne_true)]
 refine(show wpAny _ _ (field (.ref j) 1>>=_) _ _ s from wpAny_bind (wpAny_field e1 e3 (x:=.int k 0) rfl ?_))
 refine(show wpAny _ _ (seqItems? (.ref t)>>=_) _ _ s from wpAny_bind (wpAny_seqItems f1 f3 ?_))
 simp only[Int.toNat_natCast,hy]
 refine wpAny_bind (wpAny_rule (wpAny_bind (wpAny_setField e1 e3 (by simp) ((show wpAny _ _ (newExc (.type "StopIteration") []>>=_) _ _ _ from wpAny_bind ?_)))))
 simp only[newExc,newTuple]
 refine wpAny_bind (wpAny_newObj_type (wpAny_bind (m:=firstArgMember _ _) (wpAny_of_eq (a:=Value.none) (by first|rfl|(simp only[firstArgMember];rfl)) (wpAny_newObj_type ?_ (by size_fits)))) (by size_fits))
 simp only[raiseNew]
 refine wpAny_bind (wpAny_handled ?_)
 rw[show A.in1.handled=none from hh]
 exact wpAny_bind (wpAny_pure (wpAny_throw (q _ _ (((Heap.SameBut.update ..).extBut.push _).push _) ⟨_,Heap.get?_push_size _ rfl,rfl⟩)))
theorem Z44(hh:A.handled=none)(j t:Addr)(hne:t≠j)(ws:Array Value):Draws P w A j [j,t] ws.size (fun i v=>ws[i]? =some v) (fun i h=>h.IsTupleIter j t i/\h.IsTuple t ws) where
 live:=fun _ _ z=>let⟨o,ho,_⟩:=z.1;⟨o,ho⟩
 frame:=fun _ _ _ z k=>⟨z.1.at fun o e=>k j (by simp) o e,z.2.at fun o e=>k t (by simp) o e⟩
 item:=fun i s Q E hi z q=>Zcb z.1 z.2 (y:=ws[i]) (by simp[hi]) fun g a b=>q _ g s.toks (by simp[hi]) ⟨a,z.2.extBut b.extBut hne⟩ b
 done:=fun s Q E z q=>WD hh z.1 z.2 (by simp) q
structure ZAp(z TI TO i1 i2:Addr)(f1 f2:List Addr):Prop where
 a1:TI≠z
 a2:TO≠z
 a3:TI≠TO
 a4:TI≠i1
 a5:TI≠i2
 a6:TO≠i1
 a7:TO≠i2
 a8:i1≠z
 a9:i2≠z
 b1:z∉f1
 b2:z∉f2
 b3:TO∉f1
 b4:TO∉f2
 b5:i2∉f1
 b6:i1∉f2
structure ZSt(z TI TO i1 i2:Addr)(S1 S2:Nat->Heap->Prop)(f0:Value)(k1 k2:Nat)(h:Heap):Prop where
 zp:IsZip h z TI TO f0
 ti:IsPair h TI (.ref i1) (.ref i2)
 to:∃a b,IsPair h TO a b
 s1:S1 k1 h
 s2:S2 k2 h
theorem Draws.but{it x:Addr}{fp:List Addr}{n:Nat}{V:Nat->Value->Prop}{S:Nat->Heap->Prop}(D:Draws P w A it fp n V S){h h':Heap}{i:Nat}(e:Heap.SameBut x h h')(hx:x∉fp)(z:S i h):S i h':=
 D.frame i h h' z fun b hb o ho=>e.extBut _ _ (fun y=>hx (y▸hb)) ho
section
variable{z TI TO i1 i2:Addr}{f1 f2:List Addr}{n1 n2:Nat}{V1 V2:Nat->Value->Prop}{S1 S2:Nat->Heap->Prop}
theorem Zcc(D1:Draws P w A i1 f1 n1 V1 S1)(D2:Draws P w A i2 f2 n2 V2 S2)(Z:ZAp z TI TO i1 i2 f1 f2){k:Nat}{Q:Value->Shared->Prop}(st:ZSt z TI TO i1 i2 S1 S2 .none k k s.heap)(h1:k<n1)(h2:k<n2)
  (q:∀x y g tk,V1 k x->V2 k y->ZSt z TI TO i1 i2 S1 S2 (rawInt s.heap.objs.size) (k+1) (k+1) g->IsPair g s.heap.objs.size x y->g.objs.size=s.heap.objs.size+1->
   (∀c o,c≠z->c≠TO->c≠i1->c≠i2->s.heap.get? c=some o->g.get? c=some o)->Q (.ref s.heap.objs.size) {s with heap:=g,toks:=tk}):
  wpAny (model P w) A (Builtin.«zip.__next__» ⟨[.ref z],[]⟩) (fun r s'=>∃v,r=.done (.ret v)/\Q v s') E s:=by
 obtain⟨zz,ti,⟨a,b,to⟩,s1,s2⟩:=st
 refine(show wpAny _ _ (field (.ref z) 2>>=_) _ _ _ from wpAny_bind (wpAny_field zz rfl (x:=.bool false) rfl ?_))
 refine(show wpAny _ _ (field (.ref z) 3>>=_) _ _ _ from wpAny_bind (wpAny_field zz rfl (x:=.ref TI) rfl (wpAny_bind (wpAny_seqItems ti rfl ?_))))
 refine(show wpAny _ _ (Builtin.SmallTypes.ownedTupleIsFree (.ref z)>>=_) _ _ _ from wpAny_bind ?_)
 unfold Builtin.SmallTypes.ownedTupleIsFree
 refine wpAny_bind (wpAny_field zz rfl (x:=.none) rfl (wpAny_pure ?_))
 simp only[if_true]
 refine wpAny_bind (wpAny_rule (wpAny_bind (wpAny_field zz rfl (x:=.ref TO) rfl (wpAny_bind (wpAny_setField_rec zz (by simp) fun g1 z1 e1=> ?_)))))
 replace z1:IsZip g1 z TI TO .ellipsis:=z1
 refine wpAny_bind ?_
 simp only[List.zipIdx_cons,List.zipIdx_nil,List.forIn_cons,List.forIn_nil]
 refine wpAny_bind (wpAny_bind (wpAny_onRaise (show wpAny _ _ (Builtin.SmallTypes.nextOf (.ref i1)>>=_) _ _ _ from wpAny_bind ?_)))
 refine D1.item k _ _ _ h1 (D1.but e1 Z.b1 s1) fun x g2 t2 v1 s1' e2=>wpAny_pure ?_
 have to2:IsPair g2 TO a b:=e2.extBut _ _ Z.a6 (e1.extBut _ _ Z.a2 to)
 refine wpAny_bind (wpAny_seqItems to2 rfl (wpAny_bind (wpAny_updateSeq_pair to2 fun g3 to3 e3=>wpAny_bind (wpAny_letGo (wpAny_pure ?_)))))
 replace to3:IsPair g3 TO x b:=to3
 refine wpAny_bind (wpAny_bind (wpAny_onRaise (show wpAny _ _ (Builtin.SmallTypes.nextOf (.ref i2)>>=_) _ _ _ from wpAny_bind ?_)))
 refine D2.item k _ _ _ h2 (D2.but e3 Z.b4 (D2.but e2 Z.b6 (D2.but e1 Z.b2 s2))) fun y g4 t4 v2 s2' e4=>wpAny_pure ?_
 have to4:IsPair g4 TO x b:=e4.extBut _ _ Z.a7 to3
 refine wpAny_bind (wpAny_seqItems to4 rfl (wpAny_bind (wpAny_updateSeq_pair to4 fun g5 to5 e5=>wpAny_bind (wpAny_letGo (wpAny_pure (wpAny_pure ?_))))))
 replace to5:IsPair g5 TO x y:=to5
 refine wpAny_bind (wpAny_seqItems to5 rfl (wpAny_bind (wpAny_newTuple ?_)))
 have sz:g5.objs.size=s.heap.objs.size:=by rw[e5.1,e4.1,e3.1,e2.1,e1.1]
 have z5:IsZip g5 z TI TO .ellipsis:=e5.extBut _ _ Z.a2.symm (e4.extBut _ _ Z.a9.symm (e3.extBut _ _ Z.a2.symm (e2.extBut _ _ Z.a8.symm z1)))
 have k5:∀c o,c≠z->c≠TO->c≠i1->c≠i2->s.heap.get? c=some o->g5.get? c=some o:=fun c o c1 c2 c3 c4 e=>e5.extBut _ _ c2 (e4.extBut _ _ c4 (e3.extBut _ _ c2 (e2.extBut _ _ c3 (e1.extBut _ _ c1 e))))
 have p1:S1 (k+1) g5:=D1.but e5 Z.b3 (D1.but e4 Z.b5 (D1.but e3 Z.b3 s1'))
 have p2:S2 (k+1) g5:=D2.but e5 Z.b4 s2'
 refine(show wpAny _ _ (Builtin.SmallTypes.ownedTupleHandOut (.ref z) (.ref g5.objs.size)>>=_) _ _ _ from wpAny_bind ?_)
 unfold Builtin.SmallTypes.ownedTupleHandOut
 have z6:IsZip (g5.push {cls:=.type "tuple",data:=.seq #[x,y]}) z TI TO .ellipsis:=Heap.get?_push_of_some _ z5
 refine wpAny_bind (wpAny_setField_rec z6 (by simp) fun g7 z7 e7=> ?_)
 replace z7:IsZip g7 z TI TO (rawInt g5.objs.size):=z7
 refine wpAny_setField_rec z7 (by simp) fun g8 z8 e8=> ?_
 replace z8:IsZip g8 z TI TO (rawInt g5.objs.size):=z8
 have zl:z<g5.objs.size:=Heap.lt_size z5
 have up:∀c o,c≠z->g5.get? c=some o->g8.get? c=some o:=fun c o c1 e=>e8.extBut _ _ c1 (e7.extBut _ _ c1 (Heap.get?_push_of_some _ e))
 have pr:IsPair g8 g5.objs.size x y:=e8.extBut _ _ (Nat.ne_of_gt zl) (e7.extBut _ _ (Nat.ne_of_gt zl) (Heap.get?_push_size _ rfl))
 have s8:g8.objs.size=g5.objs.size+1:=by rw[e8.1,e7.1,Heap.size_push]
 rw[sz]at z8 pr s8
 refine wpAny_pure ⟨_,rfl,(show Q (.ref g5.objs.size) _ from ?_)⟩
 rw[sz]
 refine q x y g8 _ v1 v2 ⟨z8,up _ _ Z.a1 (k5 _ _ Z.a1 Z.a3 Z.a4 Z.a5 ti),⟨_,_,up _ _ Z.a2 to5⟩,?_,?_⟩ pr s8 fun c o c1 c2 c3 c4 e=>up c o c1 (k5 c o c1 c2 c3 c4 e)
 ·exact D1.frame _ _ _ p1 fun c hc o e=>up c o (fun y=>Z.b1 (y▸hc)) e
 ·exact D2.frame _ _ _ p2 fun c hc o e=>up c o (fun y=>Z.b2 (y▸hc)) e
theorem Zcd(D1:Draws P w A i1 f1 n1 V1 S1)(D2:Draws P w A i2 f2 n2 V2 S2)(Z:ZAp z TI TO i1 i2 f1 f2){k:Nat}{Q:Fin->Shared->Prop}(st:ZSt z TI TO i1 i2 S1 S2 .none k k s.heap)(h1:k=n1\/k<n1/\k=n2)
  (q:∀g e tk,(∀c o,c≠z->c≠TO->c≠i1->c≠i2->s.heap.get? c=some o->g.get? c=some o)->(∃o,g.get? e=some o/\o.cls=.type "StopIteration")->E (.ref e) {s with heap:=g,toks:=tk}):
  wpAny (model P w) A (Builtin.«zip.__next__» ⟨[.ref z],[]⟩) Q E s:=by
 obtain⟨zz,ti,⟨a,b,to⟩,s1,s2⟩:=st
 refine(show wpAny _ _ (field (.ref z) 2>>=_) _ _ _ from wpAny_bind (wpAny_field zz rfl (x:=.bool false) rfl ?_))
 refine(show wpAny _ _ (field (.ref z) 3>>=_) _ _ _ from wpAny_bind (wpAny_field zz rfl (x:=.ref TI) rfl (wpAny_bind (wpAny_seqItems ti rfl ?_))))
 refine(show wpAny _ _ (Builtin.SmallTypes.ownedTupleIsFree (.ref z)>>=_) _ _ _ from wpAny_bind ?_)
 unfold Builtin.SmallTypes.ownedTupleIsFree
 refine wpAny_bind (wpAny_field zz rfl (x:=.none) rfl (wpAny_pure ?_))
 simp only[if_true]
 refine wpAny_bind (wpAny_rule (wpAny_bind (wpAny_field zz rfl (x:=.ref TO) rfl (wpAny_bind (wpAny_setField_rec zz (by simp) fun g1 z1 e1=> ?_)))))
 replace z1:IsZip g1 z TI TO .ellipsis:=z1
 refine wpAny_bind ?_
 simp only[List.zipIdx_cons,List.zipIdx_nil,List.forIn_cons,List.forIn_nil]
 refine wpAny_bind (wpAny_bind (wpAny_onRaise (show wpAny _ _ (Builtin.SmallTypes.nextOf (.ref i1)>>=_) _ _ _ from wpAny_bind ?_)))
 rcases h1 with rfl|⟨h1,rfl⟩
 ·refine D1.done _ _ _ (D1.but e1 Z.b1 s1) fun g2 e e2 ⟨oe,he,hc⟩=> ?_
  have z2:IsZip g2 z TI TO .ellipsis:=e2 _ _ Z.a8.symm z1
  have ne:e≠z:=fun x=>by subst x;rw[z2]at he;cases he;simp at hc
  exact wpAny_setField_rec z2 (by simp) fun g3 _ e3=>q g3 e _ (fun c o c1 _ c3 _ x=>e3.extBut _ _ c1 (e2 _ _ c3 (e1.extBut _ _ c1 x))) ⟨oe,e3.extBut _ _ ne he,hc⟩
 ·refine D1.item k _ _ _ h1 (D1.but e1 Z.b1 s1) fun x g2 t2 v1 s1' e2=>wpAny_pure ?_
  have to2:IsPair g2 TO a b:=e2.extBut _ _ Z.a6 (e1.extBut _ _ Z.a2 to)
  refine wpAny_bind (wpAny_seqItems to2 rfl (wpAny_bind (wpAny_updateSeq_pair to2 fun g3 to3 e3=>wpAny_bind (wpAny_letGo (wpAny_pure ?_)))))
  refine wpAny_bind (wpAny_bind (wpAny_onRaise (show wpAny _ _ (Builtin.SmallTypes.nextOf (.ref i2)>>=_) _ _ _ from wpAny_bind ?_)))
  refine D2.done _ _ _ (D2.but e3 Z.b4 (D2.but e2 Z.b6 (D2.but e1 Z.b2 s2))) fun g4 e e4 ⟨oe,he,hc⟩=> ?_
  have z4:IsZip g4 z TI TO .ellipsis:=e4 _ _ Z.a9.symm (e3.extBut _ _ Z.a2.symm (e2.extBut _ _ Z.a8.symm z1))
  have ne:e≠z:=fun x=>by subst x;rw[z4]at he;cases he;simp at hc
  exact wpAny_setField_rec z4 (by simp) fun g5 _ e5=>q g5 e _ (fun c o c1 c2 c3 c4 x=>e5.extBut _ _ c1 (e4 _ _ c4 (e3.extBut _ _ c2 (e2.extBut _ _ c3 (e1.extBut _ _ c1 x))))) ⟨oe,e5.extBut _ _ ne he,hc⟩
theorem Zce(D1:Draws P w A.in1 i1 f1 n1 V1 S1)(D2:Draws P w A.in1 i2 f2 n2 V2 S2)(Z:ZAp z TI TO i1 i2 f1 f2){k:Nat}{Q:Option Value->Shared->Prop}(st:ZSt z TI TO i1 i2 S1 S2 .none k k s.heap)(h1:k<n1)(h2:k<n2)
  (q:∀x y g tk,V1 k x->V2 k y->ZSt z TI TO i1 i2 S1 S2 (rawInt s.heap.objs.size) (k+1) (k+1) g->IsPair g s.heap.objs.size x y->g.objs.size=s.heap.objs.size+1->
   (∀c o,c≠z->c≠TO->c≠i1->c≠i2->s.heap.get? c=some o->g.get? c=some o)->Q (some (.ref s.heap.objs.size)) {s with heap:=g,toks:=tk}):
  wpAny (model P w) A (pyNext (.ref z)) Q E s:=by
 have T:s.TypeIs (.ref z) "zip":=⟨_,st.zp,rfl⟩
 unfold pyNext
 exact wpAny_bind (wpAny_attempt (wpAny_callSpecial?_slot (name:=Str.ofString "__next__") T F.slot_zip_next (wpAny_call_entry F.slot_zip_next T F.entry_zip_next
  (Zcc D1 D2 Z st h1 h2 fun x y g tk c1 c2 c3 c4 c5 c6=>wpAny_pure (q x y g tk c1 c2 c3 c4 c5 c6)) (F.args_zip_next_1 _))))
theorem WE(D1:Draws P w A.in1 i1 f1 n1 V1 S1)(D2:Draws P w A.in1 i2 f2 n2 V2 S2)(Z:ZAp z TI TO i1 i2 f1 f2){k:Nat}{Q:Option Value->Shared->Prop}(st:ZSt z TI TO i1 i2 S1 S2 .none k k s.heap)(h1:k=n1\/k<n1/\k=n2)
  (q:∀g tk,(∀c o,c≠z->c≠TO->c≠i1->c≠i2->s.heap.get? c=some o->g.get? c=some o)->Q none {s with heap:=g,toks:=tk}):wpAny (model P w) A (pyNext (.ref z)) Q E s:=by
 have T:s.TypeIs (.ref z) "zip":=⟨_,st.zp,rfl⟩
 unfold pyNext
 refine wpAny_bind (wpAny_attempt (wpAny_callSpecial?_slot (name:=Str.ofString "__next__") T F.slot_zip_next (wpAny_call_entry F.slot_zip_next T F.entry_zip_next
  (Zcd D1 D2 Z st h1 fun g e tk hk ⟨o,ho,hc⟩=>wpAny_bind (wpAny_isInstance (T:="StopIteration") (b:=true) ⟨o,ho,hc⟩ isSubtype_stop (wpAny_pure (q g tk hk)))) (F.args_zip_next_1 _))))
end
def SqAt(b:Bool)(h:Heap)(l:Addr)(ws:Array Value):Prop:=if b=true then h.IsTuple l ws else h.IsList l ws
def ItAt(b:Bool)(h:Heap)(j l:Addr)(k:Nat):Prop:=if b=true then h.IsTupleIter j l k else h.IsListIter j l k
def itN(b:Bool):String:=if b=true then "tuple_iterator" else "list_iterator"
abbrev Xp(b:Bool)(l:Addr):Obj:={cls:=.type (itN b),data:=.fields #[.ref l, .int 0 0]}
theorem Zay{b:Bool}{l:Addr}{ws:Array Value}{Q:Value->Shared->Prop}(h:SqAt b s.heap l ws)(q:Q (.ref s.heap.objs.size) {s with heap:=s.heap.push (Xp b l)}):wpAny (model P w) A (pyIter (.ref l)) Q E s:=by
 cases b
 ·exact wpAny_pyIter_list h q
 ·exact wpAny_pyIter_tuple h q
theorem SqAt.push{b:Bool}{h:Heap}{l:Addr}{ws:Array Value}(x:SqAt b h l ws)(o:Obj):SqAt b (h.push o) l ws:=by
 cases b
 ·exact Heap.IsList.push x o
 ·obtain⟨p,e,r⟩:=(x:h.IsTuple l ws)
  exact⟨p,Heap.get?_push_of_some _ e,r⟩
theorem ItAt.new{b:Bool}{h:Heap}{j l:Addr}(e:h.get? j=some (Xp b l)):ItAt b h j l 0:=by
 cases b
 ·exact⟨_,e,rfl,rfl⟩
 ·exact⟨_,e,rfl,rfl⟩
abbrev zh(b c:Bool)(h:Heap)(l m:Addr):Heap:=((h.push (Xp b l)).push (Xp c m))
abbrev zh2(b c:Bool)(h:Heap)(l m:Addr):Heap:=((zh b c h l m).push {cls:=.type "tuple",data:=.seq #[.ref h.objs.size, .ref (h.push (Xp b l)).objs.size]}).push {cls:=.type "tuple",data:=.seq #[.none, .none]}
abbrev zh3(b c:Bool)(h:Heap)(l m:Addr):Heap:=(zh2 b c h l m).push {cls:=.type "zip",data:=.fields #[.none, .bool false, .bool false, .ref (zh b c h l m).objs.size, .ref ((zh b c h l m).push {cls:=.type "tuple",data:=.seq #[.ref h.objs.size, .ref (h.push (Xp b l)).objs.size]}).objs.size]}
theorem Z00(b c:Bool)(l m:Addr)(us ws:Array Value):
  Meets (Builtin.«zip.__new__» ⟨[.type "zip", .ref l, .ref m],[]⟩) (fun _ R s=>SqAt b s.heap l us/\SqAt c s.heap m ws/\R (.ok (.ret (.ref (zh2 b c s.heap l m).objs.size))) {s with heap:=zh3 b c s.heap l m}):=
 .of_wp fun prog w A R s h=>by
  obtain⟨hp,g,d,tk,os⟩:=s;obtain⟨h1,h2,h⟩:=h
  have hsub:=sub_zip
  have k1:SqAt b (Shared.heap ⟨hp,g,d,tk,os⟩) l us:=h1
  have k2:SqAt c (Shared.heap ⟨hp.push (Xp b l),g,d,tk,os⟩) m ws:=SqAt.push h2 _
  wp_walk using Zay k1,Zay k2
  exact⟨_,rfl,h⟩
theorem Z6v{b c:Bool}{l m:Addr}{us ws:Array Value}{Q:Value->Shared->Prop}(h1:SqAt b s.heap l us)(h2:SqAt c s.heap m ws)
  (q:∀g,IsZip g (s.heap.objs.size+4) (s.heap.objs.size+2) (s.heap.objs.size+3) .none->IsPair g (s.heap.objs.size+2) (.ref s.heap.objs.size) (.ref (s.heap.objs.size+1))->IsPair g (s.heap.objs.size+3) .none .none->
   ItAt b g s.heap.objs.size l 0->ItAt c g (s.heap.objs.size+1) m 0->g.objs.size=s.heap.objs.size+5->(∀x o,s.heap.get? x=some o->g.get? x=some o)->Q (.ref (s.heap.objs.size+4)) {s with heap:=g}):
  wpAny (model P w) A (call (.type "zip") [.ref l, .ref m]) Q E s:=by
 refine callType_new F.called_zip (by decide) (F.typeCall_zip_2 _ _) (F.newCall_zip_2 _ _) (fun obj=>F.args_object_init_3 obj _ _) F.entry_zip_new (Z00 b c l m us ws) ⟨h1,h2,?_⟩
 generalize hq:s.heap=h at *
 have z1:(h.push (Xp b l)).objs.size=h.objs.size+1:=Heap.size_push ..
 have z2:(zh b c h l m).objs.size=h.objs.size+2:=by rw[Heap.size_push,z1]
 have z3:((zh b c h l m).push {cls:=.type "tuple",data:=.seq #[.ref h.objs.size, .ref (h.push (Xp b l)).objs.size]}).objs.size=h.objs.size+3:=by rw[Heap.size_push,z2]
 have z4:(zh2 b c h l m).objs.size=h.objs.size+4:=by rw[Heap.size_push,z3]
 have z5:(zh3 b c h l m).objs.size=h.objs.size+5:=by rw[Heap.size_push,z4]
 have g5:(zh3 b c h l m).get? (zh2 b c h l m).objs.size=some _:=Heap.get?_push_size _ rfl
 have g4:(zh3 b c h l m).get? ((zh b c h l m).push {cls:=.type "tuple",data:=.seq #[.ref h.objs.size, .ref (h.push (Xp b l)).objs.size]}).objs.size=some _:=Heap.get?_push_of_some _ (Heap.get?_push_size _ rfl)
 have g3:(zh3 b c h l m).get? (zh b c h l m).objs.size=some _:=Heap.get?_push_of_some _ (Heap.get?_push_of_some _ (Heap.get?_push_size _ rfl))
 have g2:(zh3 b c h l m).get? (h.push (Xp b l)).objs.size=some (Xp c m):=Heap.get?_push_of_some _ (Heap.get?_push_of_some _ (Heap.get?_push_of_some _ (Heap.get?_push_size _ rfl)))
 have g1:(zh3 b c h l m).get? h.objs.size=some (Xp b l):=Heap.get?_push_of_some _ (Heap.get?_push_of_some _ (Heap.get?_push_of_some _ (Heap.get?_push_of_some _ (Heap.get?_push_size _ rfl))))
 show _/\_
 rw[z2,z3,z4]at g5
 rw[z1,z2]at g3
 rw[z3]at g4
 rw[z1]at g2
 rw[z4]
 exact⟨⟨_,g5,rfl⟩,q _ g5 g3 g4 (.new g1) (.new g2) z5 fun x o e=>Heap.get?_push_of_some _ (Heap.get?_push_of_some _ (Heap.get?_push_of_some _ (Heap.get?_push_of_some _ (Heap.get?_push_of_some _ e))))⟩
theorem Xq(hh:A.handled=none)(b:Bool)(j l:Addr)(hne:l≠j)(ws:Array Value):Draws P w A j [j,l] ws.size (fun i v=>ws[i]? =some v) (fun i h=>ItAt b h j l i/\SqAt b h l ws):=by
 cases b
 ·exact Draws.list hh j l hne ws
 ·exact Z44 hh j l hne ws
end
end PySem
namespace PySem
theorem QB{P:Program}{w:World}{A:Around}(hh:A.handled=none)(b:Bool)(j l:Addr)(ws:Array Value)(i:Nat)(hi:ws.size<=i):
  Draws P w A j [j,l] i (fun _ _=>True) (fun k h=>k=i/\ItAt b h j l k/\SqAt b h l ws):=by
 have e:ws[i]? =none:=by simp;exact hi
 cases b
 ·exact⟨fun _ _ z=>let⟨o,ho,_⟩:=(z.2.1:Heap.IsListIter _ _ _ _);⟨o,ho⟩,fun _ _ _ z k=>⟨z.1,Heap.IsListIter.at z.2.1 fun o e=>k j (by simp) o e,Heap.IsList.at z.2.2 fun o e=>k l (by simp) o e⟩,
   fun k _ _ _ hk z _=>absurd z.1 (Nat.ne_of_lt hk),fun s Q E z q=>wpAny_nextOf_list_end hh z.2.1 z.2.2 e q⟩
 ·exact⟨fun _ _ z=>let⟨o,ho,_⟩:=(z.2.1:Heap.IsTupleIter _ _ _ _);⟨o,ho⟩,fun _ _ _ z k=>⟨z.1,Heap.IsTupleIter.at z.2.1 fun o e=>k j (by simp) o e,Heap.IsTuple.at z.2.2 fun o e=>k l (by simp) o e⟩,
   fun k _ _ _ hk z _=>absurd z.1 (Nat.ne_of_lt hk),fun s Q E z q=>WD hh z.2.1 z.2.2 e q⟩
end PySem
namespace L3
open PySem PySem.Spec L2
open PyProof.Rows hiding St
def SqX(K:PySem.W.Frag)(b:Bool)(H:Hp)(a:Addr)(xs:List V):Prop:=if b=true then SqT K H a xs else SqL K H a xs
theorem Inv.sqx{X:Cx}{pins:List (Addr×Obj)}{σ:St}{H:Hp}{s:Shared}{b:Bool}{a:Addr}{xs:List V}(I:Inv X pins σ H s)(h:SqX X.K b H a xs):∃its:List Value,Vals xs its/\SqAt b s.heap a its.toArray/\xs.length<=sizeLine:=by
 cases b
 ·obtain⟨its,rv,pl,hz⟩:=I.list h
  exact⟨its,rv,pl.isList,hz⟩
 ·obtain⟨its,rv,pt,hz⟩:=I.tuple h
  exact⟨its,rv,(show s.heap.IsTuple a its.toArray from pt),hz⟩
theorem Inv.sqx_inj{X:Cx}{pins:List (Addr×Obj)}{σ:St}{H:Hp}{s:Shared}{b:Bool}{a:Addr}{xs ys:List V}(I:Inv X pins σ H s)(h:SqX X.K b H a xs)(h':SqX X.K b H a ys):ys=xs:=by
 cases b
 ·exact I.list_inj h' h
 ·exact I.tuple_inj h' h
theorem ItAt.at{b:Bool}{h h':Heap}{j l:Addr}{k:Nat}(x:ItAt b h j l k)(e:∀o,h.get? j=some o->h'.get? j=some o):ItAt b h' j l k:=by
 cases b
 ·exact Heap.IsListIter.at x e
 ·exact Heap.IsTupleIter.at x e
theorem ItAt.ob{b:Bool}{h:Heap}{j l:Addr}{k:Nat}(x:ItAt b h j l k):∃o,h.get? j=some o/\∀v,o.data≠ .cell v:=by
 cases b
 ·obtain⟨o,ho,_,hd⟩:=(x:Heap.IsListIter _ _ _ _);exact⟨o,ho,fun v z=>by rw[hd]at z;cases z⟩
 ·obtain⟨o,ho,_,hd⟩:=(x:Heap.IsTupleIter _ _ _ _);exact⟨o,ho,fun v z=>by rw[hd]at z;cases z⟩
def Itz(K:PySem.W.Frag)(b c:Bool)(l m:Addr):It:=
 ⟨fun i H=>∃xs ys x y,SqX K b H l xs/\SqX K c H m ys/\xs[i]? =some x/\ys[i]? =some y,
  fun i H x H'=>∃T p q,x=.ref T/\H T=none/\H'=upd H T (.tup [p,q])/\(∀xs,SqX K b H l xs->xs[i]? =some p)/\∀ys,SqX K c H m ys->ys[i]? =some q,
  fun i H=>∃xs ys,SqX K b H l xs/\SqX K c H m ys/\(xs.length<=i\/ys.length<=i)⟩
def zTn(b c:Bool)(z TI TO i1 i2 l m:Addr)(k:Nat)(h:Heap):Prop:=IsZip h z TI TO .none/\IsPair h TI (.ref i1) (.ref i2)/\(∃u v,IsPair h TO u v)/\ItAt b h i1 l k/\ItAt c h i2 m k
theorem Z6w{P:Program}{w:World}{K:PySem.W.Frag}{elts:List Expr}{x1:Nat}{tp:Pos}{b c:Bool}{z TI TO i1 i2 l m:Addr}(Z:ZAp z TI TO i1 i2 [i1,l] [i2,m])(n1:l≠i1)(n2:m≠i2)(n3:i1≠i2):
  Turn P w K (.Tuple elts x1 tp) (Itz K b c l m) [z,TI,TO,i1,i2] z (zTn b c z TI TO i1 i2 l m) where
 mem:=by simp
 obj:=fun i h ⟨a1,a2,⟨u,v,a3⟩,a4,a5⟩ q hq=>by
  simp only[List.mem_cons,List.not_mem_nil,or_false]at hq
  rcases hq with rfl|rfl|rfl|rfl|rfl
  ·exact⟨_,a1,fun v z=>by cases z⟩
  ·exact⟨_,a2,fun v z=>by cases z⟩
  ·exact⟨_,a3,fun v z=>by cases z⟩
  ·exact ItAt.ob a4
  ·exact ItAt.ob a5
 keep:=fun i h h' ⟨a1,a2,⟨u,v,a3⟩,a4,a5⟩ k=>⟨k _ (by simp) _ a1,k _ (by simp) _ a2,⟨u,v,k _ (by simp) _ a3⟩,ItAt.at a4 (fun o e=>k _ (by simp) o e),ItAt.at a5 (fun o e=>k _ (by simp) o e)⟩
 item:=by
  intro X hP hw hK hc i pins s σ H E I hf ⟨a1,a2,a3,a4,a5⟩ hg
  subst hP hw hK
  obtain⟨xs,ys,x,y,hq1,hq2,hx,hy⟩:=hg
  obtain⟨t1,rv1,p1,_⟩:=Inv.sqx I hq1
  obtain⟨t2,rv2,p2,_⟩:=Inv.sqx I hq2
  obtain⟨u,hu,ru⟩:=rv1.get hx
  obtain⟨v,hv,rv⟩:=rv2.get hy
  have l1:i<t1.toArray.size:=by simpa using(List.getElem?_eq_some_iff.mp hu).1
  have l2:i<t2.toArray.size:=by simpa using(List.getElem?_eq_some_iff.mp hv).1
  have hh:X.A.in1.handled=none:=by have:=I.ok.hd hc;simpa using this
  refine Zce (Xq (A:=X.A.in1) hh b i1 l n1 t1.toArray) (Xq (A:=X.A.in1) hh c i2 m n2 t2.toArray) Z ⟨a1,a2,a3,⟨a4,p1⟩,⟨a5,p2⟩⟩ l1 l2 fun x' y' g tk e1 e2 st pr sz hk=> ?_
  have hx':x'=u:=by rw[List.getElem?_toArray,hu]at e1;exact(Option.some.inj e1).symm
  have hy':y'=v:=by rw[List.getElem?_toArray,hv]at e2;exact(Option.some.inj e2).symm
  subst hx' hy'
  refine⟨_,rfl,wpAny_letOwnedTupleGo_zip st.zp fun h2 z2 s2=> ?_⟩
  have fT:H s.heap.objs.size=none:=I.fresh
  have lt:∀q∈[z,TI,TO,i1,i2],q<s.heap.objs.size:=fun q hq=>by
   simp only[List.mem_cons,List.not_mem_nil,or_false]at hq
   obtain⟨_,_,a3⟩:=a3
   rcases hq with rfl|rfl|rfl|rfl|rfl
   ·exact Heap.lt_size a1
   ·exact Heap.lt_size a2
   ·exact Heap.lt_size a3
   ·obtain⟨o,ho,_⟩:=ItAt.ob a4;exact Heap.lt_size ho
   ·obtain⟨o,ho,_⟩:=ItAt.ob a5;exact Heap.lt_size ho
  have I1:Inv X pins σ (upd H s.heap.objs.size (.tup [x,y])) {s with heap:=s.heap.push {cls:=.type "tuple",data:=.seq #[x',y']},toks:=s.toks}:=
   I.laid (fun q o e=>Heap.get?_push_of_some _ e) (Nat.le_refl _) ⟨by show 2<=sizeLine;decide,[x',y'], .cons ru (.cons rv .nil),TupN.new _ _⟩
  have ff:∀q∈[z,TI,TO,i1,i2],X9 X pins (upd H s.heap.objs.size (.tup [x,y])) q:=fun q hq=>⟨by rw[Zm (Nat.ne_of_lt (lt q hq))];exact(hf q hq).1,(hf q hq).2⟩
  have I2:=Xc (h':=h2) (t':=tk) I1 (fun q o hq e=>by
   have q1:q≠z:=fun w=>hq (by simp[w])
   have q2:q≠TO:=fun w=>hq (by simp[w])
   have q3:q≠i1:=fun w=>hq (by simp[w])
   have q4:q≠i2:=fun w=>hq (by simp[w])
   refine(s2.2 q q1).trans ?_
   by_cases hT:q=s.heap.objs.size
   ·subst hT
    rw[Heap.get?_push_size _ rfl]at e
    cases e
    exact pr
   ·have hl:q<s.heap.objs.size:=by
     have:=Heap.lt_size e
     rw[Heap.size_push]at this
     exact Nat.lt_of_le_of_ne (Nat.le_of_lt_succ this) hT
    exact hk q o q1 q2 q3 q4 (UL hl e)) ff
  refine⟨.ref s.heap.objs.size,_,I2,rfl,⟨_,x,y,rfl,fT,rfl,fun xs' h=>by rw[Inv.sqx_inj I hq1 h];exact hx,fun ys' h=>by rw[Inv.sqx_inj I hq2 h];exact hy⟩,?_,fun q hq=>(ff q hq).1⟩
  obtain⟨_,c2,⟨u',v',c3⟩,⟨c4,_⟩,⟨c5,_⟩⟩:=st
  exact⟨z2,s2.extBut _ _ Z.a1 c2,⟨u',v',s2.extBut _ _ Z.a2 c3⟩,ItAt.at c4 (fun o e=>s2.extBut _ _ Z.a8 e),ItAt.at c5 (fun o e=>s2.extBut _ _ Z.a9 e)⟩
 done:=by
  intro X hP hw hK hc i pins s σ H E I hf ⟨a1,a2,a3,a4,a5⟩ hg
  subst hP hw hK
  obtain⟨xs,ys,hq1,hq2,hx⟩:=hg
  obtain⟨t1,rv1,p1,_⟩:=Inv.sqx I hq1
  obtain⟨t2,rv2,p2,_⟩:=Inv.sqx I hq2
  have e1:=rv1.length
  have e2:=rv2.length
  have hh:X.A.in1.handled=none:=by have:=I.ok.hd hc;simpa using this
  have fin:∀(g:Heap) (tk:Nat),(∀q o,q≠z->q≠TO->q≠i1->q≠i2->s.heap.get? q=some o->g.get? q=some o)->(none:Option Value)=none/\Inv X pins σ H {s with heap:=g,toks:=tk}:=fun g tk hk=>
   ⟨rfl,Xc I (fun q o hq e=>hk q o (fun w=>hq (by simp[w])) (fun w=>hq (by simp[w])) (fun w=>hq (by simp[w])) (fun w=>hq (by simp[w])) e) hf⟩
  by_cases hl:xs.length<=i
  ·exact WE (QB (A:=X.A.in1) hh b i1 l t1.toArray i (by simp;omega)) (Xq (A:=X.A.in1) hh c i2 m n2 t2.toArray) Z ⟨a1,a2,a3,⟨rfl,a4,p1⟩,⟨a5,p2⟩⟩ (.inl rfl) fin
  ·have hl2:ys.length<=i:=by rcases hx with h|h;exact absurd h hl;exact h
   exact WE (Xq (A:=X.A.in1) hh b i1 l n1 t1.toArray) (QB (A:=X.A.in1) hh c i2 m t2.toArray i (by simp;omega)) Z ⟨a1,a2,a3,⟨a4,p1⟩,⟨rfl,a5,p2⟩⟩ (.inr ⟨by simp;omega,rfl⟩) fin
 self:=fun A i s Q E ⟨a1,_⟩ h=>wpAny_pyIter_zip a1 h
def sqK(d:D):Bool:=match d with| .tup _=>true|_=>false
def SqD(K:PySem.W.Frag)(G:Addr->Prop)(b:Bool)(H:Hp)(a:Addr)(ds:List D):Prop:=∃ys,SqX K b H a ys/\(b=false->LstAt K G H a ys)/\RepL K G H ds ys
theorem SqD.same{K:PySem.W.Frag}{G:Addr->Prop}{b:Bool}{H H':Hp}{a:Addr}{ds:List D}(h:SqD K G b H a ds)(e:Same H H'):SqD K G b H' a ds:=by
 obtain⟨ys,c1,c2,c3⟩:=h
 refine⟨ys,?_,fun z=>(c2 z).mono e fun _ x=>x,c3.same e⟩
 cases b
 ·exact((c2 rfl).mono e fun _ x=>x).sq
 ·exact Same.seqT e c1
theorem SqD.keep{K:PySem.W.Frag}{G:Addr->Prop}{b:Bool}{H H':Hp}{a:Addr}{ds:List D}(h:SqD K G b H a ds)(e:KeepG G H H'):SqD K G b H' a ds:=by
 obtain⟨ys,c1,c2,c3⟩:=h
 refine⟨ys,?_,fun z=>e.lstAt (c2 z),RepL.keep e _ c3⟩
 cases b
 ·exact(e.lstAt (c2 rfl)).sq
 ·exact e.seqT c1
theorem SqD.of{K:PySem.W.Frag}{G:Addr->Prop}{H:Hp}{d:D}{ds:List D}{v:V}(hi:Ya d=.ok ds)(r:Rep K G H d v):∃a,v=.ref a/\SqD K (fun a=>G a/\H a≠none) (sqK d) H a ds:=by
 cases d with
 |tup xs=>
  cases hi
  obtain⟨a,vs,rfl,h1,r1⟩:=r.tup_of
  exact⟨a,rfl,vs,h1,(fun z=>by cases z),RepL.there _ r1⟩
 |lst xs=>
  cases hi
  obtain⟨a,vs,rfl,h1,r1⟩:=r.lst_of
  refine⟨a,rfl,vs,h1.sq,fun _=> ?_,RepL.there _ r1⟩
  rcases h1 with⟨h1,ga⟩|h1
  ·exact .inl ⟨h1,ga,by rcases h1 with h1|⟨o,h1⟩<;>rw[h1]<;>simp⟩
  ·exact .inr h1
 |_=>cases hi
theorem Z01(es:List D):WC es=.bad\/∃x y xs ys,es=[x,y]/\Ya x=.ok xs/\Ya y=.ok ys/\WC es=.ok (XG xs ys):=by
 match es with
 | []=>exact .inl rfl
 | [_]=>exact .inl rfl
 |_::_::_::_=>exact .inl rfl
 | [x,y]=>
  have ir:∀d:D,Ya d=.bad\/∃xs,Ya d=.ok xs:=fun d=>by cases d<;>first|exact .inl rfl|exact .inr ⟨_,rfl⟩
  rcases ir x with h|⟨xs,h⟩
  ·exact .inl (by show(Ya x>>=fun xs=>Ya y>>=fun ys=>R.ok (XG xs ys))=_;rw[h];rfl)
  ·rcases ir y with h'|⟨ys,h'⟩
   ·exact .inl (by show(Ya x>>=fun xs=>Ya y>>=fun ys=>R.ok (XG xs ys))=_;rw[h,h'];rfl)
   ·exact .inr ⟨x,y,xs,ys,rfl,h,h',by show(Ya x>>=fun xs=>Ya y>>=fun ys=>R.ok (XG xs ys))=_;rw[h,h'];rfl⟩
theorem zAp{n l m:Addr}(h1:l<n)(h2:m<n):ZAp (n+4) (n+2) (n+3) n (n+1) [n,l] [n+1,m]:=by
 constructor<;>(simp only[ne_eq,List.mem_cons,List.not_mem_nil,or_false,not_or,Addr]at *;omega)
section
variable{X:Cx}
theorem Z2p{a b:Expr}{m:Rho->R (List D)}{elts:List Expr}{x1:Nat}{tp p pos:Pos}(hm:X.mg "zip"=none)(ha:PDA X [a,b] m)(hg:Gl X "zip":=by rfl)(hs:starEach (a::[b]) X.env=(false,eval a X.env)::starEach [b] X.env:=by rfl)
  (hp:(backTo pos (starEach [b] X.env)).any (·.1)=false:=by rfl):PID X (.Tuple elts x1 tp) (.Call (.Name "zip" p) [a,b] [] pos) (apL WC m):=by
 intro pins s σ H R0 I ⟨G,ρ,hG,hρ,q⟩
 unfold apL at q
 cases em:m ρ with
 |ex c=>
  rw[em]at q
  exact Call_ (X8 I hg hm boot_zip (callWith_type1 (thn (ha pos pins s σ H (fun _ _=>False) I ⟨G,ρ,hG,hρ,by rw[em];exact q⟩) fun us s1 ⟨vs,H1,I1,r1,z⟩=>z.elim) hs hp))
 |bad=>rw[em]at q;exact q.elim
 |ok es=>
  rw[em]at q
  rw[R.ok_bind]at q
  rcases Z01 es with h|⟨x,y,xs,ys,rfl,ex,ey,ez⟩
  ·rw[h]at q;exact q.elim
  rw[ez]at q
  refine Call_ (X8 I hg hm boot_zip (callWith_type1 (thn (ha pos pins s σ H (fun vs H1=>Same H H1/\RepL X.K G H1 [x,y] vs) I ⟨G,ρ,hG,hρ,by rw[em];exact fun vs H1 e1 rl=>⟨e1,rl⟩⟩) fun us s1 ⟨vs,H1,I1,r1,e1,rl⟩=> ?_) hs hp))
  obtain⟨v1,vr,rfl,rx,rl2⟩:=rl.uncons
  obtain⟨v2,rfl,ry⟩:=ZY rl2
  obtain⟨l,rfl,c1⟩:=SqD.of ex rx
  obtain⟨k,rfl,c2⟩:=SqD.of ey ry
  obtain⟨u1,u2,rfl,t1,t2⟩:=Z25 r1
  cases t1;cases t2
  obtain⟨ws1,s11,_,r11⟩:=id c1
  obtain⟨ws2,s21,_,r21⟩:=id c2
  obtain⟨i1,_,p1,z1⟩:=Inv.sqx I1 s11
  obtain⟨i2,_,p2,z2⟩:=Inv.sqx I1 s21
  have l1:l<s1.heap.objs.size:=by
   revert p1
   cases sqK x
   ·exact fun p1=>let⟨_,e,_⟩:=(p1:s1.heap.IsList _ _);Heap.lt_size e
   ·exact fun p1=>let⟨_,e,_⟩:=(p1:s1.heap.IsTuple _ _);Heap.lt_size e
  have l2:k<s1.heap.objs.size:=by
   revert p2
   cases sqK y
   ·exact fun p2=>let⟨_,e,_⟩:=(p2:s1.heap.IsList _ _);Heap.lt_size e
   ·exact fun p2=>let⟨_,e,_⟩:=(p2:s1.heap.IsTuple _ _);Heap.lt_size e
  refine Z6v p1 p2 fun g a1 a2 a3 a4 a5 a6 hk=>wpAny_pyIter_zip a1 ?_
  refine⟨_,_,_,Itz X.K (sqK x) (sqK y) l k,H1,rfl,I1.kept (t':=s1.toks) hk,Z6w (zAp l1 l2) (Nat.ne_of_lt l1) (Nat.ne_of_lt (Nat.lt_succ_of_lt l2)) (Nat.ne_of_lt (Nat.lt_succ_self _)),⟨a1,a2,⟨_,_,a3⟩,a4,a5⟩,fun c hc=> ?_,?_⟩
  ·have:s1.heap.objs.size<=c:=by
    simp only[List.mem_cons,List.not_mem_nil,or_false]at hc
    rcases hc with rfl|rfl|rfl|rfl|rfl
    ·exact Nat.le_add_right _ 4
    ·exact Nat.le_add_right _ 2
    ·exact Nat.le_add_right _ 3
    ·exact Nat.le_refl _
    ·exact Nat.le_add_right _ 1
   exact I1.fpOk this (I1.hok.fresh this)
  ·have lz:(XG xs ys).length=min xs.length ys.length:=by simp[XG]
   refine q (Itz X.K (sqK x) (sqK y) l k) H1 (fun H2=>SqD X.K (fun a=>G a/\H1 a≠none) (sqK x) H2 l xs/\SqD X.K (fun a=>G a/\H1 a≠none) (sqK y) H2 k ys) e1 ⟨fun i H2 hC hi=> ?_,fun i H2 hC hi=> ?_⟩ (fun H2 H3 hC e=>⟨hC.1.keep e,hC.2.keep e⟩) ⟨c1,c2⟩ (by rw[lz,←r11.length];exact Nat.le_trans (Nat.min_le_left _ _) z1)
   ·rw[lz]at hi
    obtain⟨⟨us,d1,_,d3⟩,⟨ws,f1,_,f3⟩⟩:=id hC
    have hu:i<us.length:=by rw[d3.length];omega
    have hw:i<ws.length:=by rw[f3.length];omega
    refine⟨⟨us,ws,us[i],ws[i],d1,f1,by simp[hu],by simp[hw]⟩,fun v H' ⟨T,p',q',ev,hT,eH,h1,h2⟩=> ?_⟩
    subst ev eH
    have gg:=Zv hT (.tup [p',q'])
    obtain⟨d,ed,rd⟩:=d3.get' (h1 us d1)
    obtain⟨f,ef,rf⟩:=f3.get' (h2 ws f1)
    refine⟨gg,⟨hC.1.same gg,hC.2.same gg⟩, .tup [d,f],?_,Rep.tup (SqT.of Zi) (RepL.cons (rd.same gg) (RepL.cons (rf.same gg) RepL.nil))⟩
    unfold XG
    rw[List.getElem?_map]
    have:(xs.zip ys)[i]? =some (d,f):=by simp[List.getElem?_zip_eq_some,ed,ef]
    rw[this];rfl
   ·rw[lz]at hi
    obtain⟨⟨us,d1,_,d3⟩,⟨ws,f1,_,f3⟩⟩:=id hC
    exact⟨us,ws,d1,f1,by rw[d3.length,f3.length];omega⟩
end
end L3
namespace L3
open PySem PySem.Spec L2
open PyProof.Rows hiding St
section
variable{X:Cx}{pos:Pos}
def Z02(x:Str):Bool:=decide (x.length<=1000000)&&PyData.strOk x
theorem Z9m{x:Str}(h:Z02 x=true):x.length<=sizeLine/\PyData.strOk x=true:=by
 unfold Z02 at h
 rw[Bool.and_eq_true,decide_eq_true_eq]at h
 exact⟨Nat.le_trans h.1 (by decide),h.2⟩
theorem Z2q{K:PySem.W.Frag}{G:Addr->Prop}{H:Hp}{x:Str}(h:Z02 x=true):Rep K G H (.str x) (.str x):=by
 simp only[Rep]
 simpa using Z9m h
theorem Z03{K:PySem.W.Frag}{G:Addr->Prop}{H:Hp}{x:Str}{v:V}(h:Rep K G H (.str x) v):v=.str x/\x.length<=sizeLine/\PyData.strOk x=true:=by simpa only[Rep]using h
def signs(x:Str):List D:=x.cps.toList.map fun c=>.str ⟨#[c]⟩
end
end L3
namespace L3
open PySem PySem.Spec L2
open PyProof.Rows hiding St
section
variable{X:Cx}{pos:Pos}
def fmtD:D->R D
 | .int i=>if i.natAbs<=1000000/\Z02 (Str.ofString (toString i))=true then .ok (.str (Str.ofString (toString i)))else .bad
 |_=>.bad
theorem Zeh{e:Expr}{m:Rho->R D}(h:PD X e m):PD X (.FormattedValue e (-1) none pos) (un fmtD m):=by
 intro pins s σ H Q I ⟨G,ρ,hG,hρ,q⟩
 refine FormattedValue_plain (thn (h pins s σ H _ I ⟨G,ρ,hG,hρ,DQ.bind q⟩) fun v s1 ⟨x,H1,I1,r1,d,_,_,rd,q1⟩=> ?_)
 cases d with
 |int i=>
  cases rd.int_of
  obtain⟨t,rfl⟩:=r1
  have q1:DQ X σ (Rep X.K G) H1 (if i.natAbs<=1000000/\Z02 (Str.ofString (toString i))=true then .ok (.str (Str.ofString (toString i)))else .bad) Q:=q1
  by_cases hi:i.natAbs<=1000000/\Z02 (Str.ofString (toString i))=true
  ·rw[if_pos hi]at q1
   refine formatField_int_small ?_ ⟨.str _,H1,I1.tok _,⟨_,rfl⟩,q1 _ H1 (Same.refl H1) (Z2q hi.2)⟩
   by_cases h0:i.natAbs=0
   ·rw[h0];decide
   ·exact Nat.lt_trans ((Nat.log2_lt (k:=20) h0).mpr (Nat.lt_of_le_of_lt hi.1 (by decide))) (by decide)
  ·rw[if_neg hi]at q1;exact q1.elim
 |_=>exact q1.elim
def jA(a:Str):D->R Str
 | .str y=>if(a++y).length<=1000000 then .ok (a++y)else .bad
 |_=>.bad
def jn3(ma mb mc:Rho->R D):Rho->R D:=fun ρ=>ma ρ>>=fun d=>jA Str.empty d>>=fun x=>mb ρ>>=fun e=>jA x e>>=fun y=>mc ρ>>=fun f=>jA y f>>=fun z=>if Z02 z=true then .ok (.str z)else .bad
theorem Z6x{a:Str}{d:D}{K:PySem.W.Frag}{G:Addr->Prop}{H:Hp}{x:V}{u:Value}{σ:St}{β γ:Type}{rep:Hp->β->γ->Prop}{k:Str->R β}{Q:γ->Hp->Prop}(rd:Rep K G H d x)(r:RelV x u)(q:DQ X σ rep H (jA a d>>=k) Q):
  ∃y t,d=.str y/\u=.str y t/\(a++y).length<=sizeLine/\DQ X σ rep H (k (a++y)) Q:=by
 cases d with
 |str y=>
  obtain⟨rfl,_⟩:=Z03 rd
  obtain⟨t,rfl⟩:=r
  have q:DQ X σ rep H ((if(a++y).length<=1000000 then R.ok (a++y)else .bad)>>=k) Q:=q
  by_cases h:(a++y).length<=1000000
  ·rw[if_pos h]at q
   exact⟨y,t,rfl,rfl,Nat.le_trans h (by decide),q⟩
  ·rw[if_neg h]at q;exact q.elim
 |_=>exact q.elim
theorem Z9n{a b c:Expr}{ma mb mc:Rho->R D}(ha:PD X a ma)(hb:PD X b mb)(hc:PD X c mc):PD X (.JoinedStr [a,b,c] pos) (jn3 ma mb mc):=by
 intro pins s σ H Q I ⟨G,ρ,hG,hρ,q⟩
 refine JoinedStr_many (joinParts_cons (thn (ha pins s σ H _ I ⟨G,ρ,hG,hρ,DQ.bind q⟩) fun v s1 ⟨x,H1,I1,r1,d,_,e1,rd,q1⟩=> ?_))
 obtain⟨y1,t1,rfl,rfl,l1,q1⟩:=Z6x rd r1 q1
 refine⟨l1,joinParts_cons (thn (hb pins s1 σ H1 _ I1 ⟨G,ρ,hG.same e1,hρ.same e1,DQ.bind q1⟩) fun v s2 ⟨x,H2,I2,r2,d,_,e2,rd,q2⟩=> ?_)⟩
 obtain⟨y2,t2,rfl,rfl,l2,q2⟩:=Z6x rd r2 q2
 refine⟨l2,joinParts_cons (thn (hc pins s2 σ H2 _ I2 ⟨G,ρ,(hG.same e1).same e2,(hρ.same e1).same e2,DQ.bind q2⟩) fun v s3 ⟨x,H3,I3,r3,d,_,e3,rd,q3⟩=> ?_)⟩
 obtain⟨y3,t3,rfl,rfl,l3,q3⟩:=Z6x rd r3 q3
 refine⟨l3,joinParts_nil ?_ l3⟩
 split at q3
 ·rename_i hs
  exact⟨.str _,H3,I3.tok _,⟨_,rfl⟩,q3 _ H3 (Same.refl H3) (Z2q hs)⟩
 ·exact q3.elim
end
end L3
namespace PySem
section
open AutoSeq1
theorem Z9o(l:Addr)(ws:Array Value)(k:Nat)(b:Addr)(us:Array Value)(k2:Nat)(dd:Option Addr)(sl:Array (Option Value))(c0:¬(!ws.isEmpty&&Builtin.List.listTooLong (ws.size+us.size))=true)(c1:ws.size<=sizeLine)(c2:ws.size+us.size<=sizeLine+1):
  Meets (Builtin.«list.extend» ⟨[.ref l, .ref b],[]⟩) (fun _ R s=>s.heap.get? l=some {cls:=.type "list",dict:=none,data:=.seq ws k,slots:= #[]}/\s.heap.get? b=some {cls:=.type "list",dict:=dd,data:=.seq us k2,slots:=sl}/\
   R (.ok (.ret .none)) {s with heap:=s.heap.update l (Obj.mapSeq fun x=>x++us)}):=
 .of_wp fun prog w A R s h=>by
  obtain⟨hp,g,d,tk,os⟩:=s;obtain⟨hl,hb,h⟩:=h
  have f1:=idx_int;have f2:=sub_tuple_tuple;have f3:=sub_list_list;have f4:=sub_tuple_list;have f5:=sub_list_tuple
  have hz':(ws++us).size<=sizeLine+1:=by rw[Array.size_append];exact c2
  wp_walk using(wpAny_updateSeq hl rfl (hz:=c1) (_hz':=hz')),wpAny_loadPart' hl,wpAny_loadPart' hb
  exact⟨_,rfl,h⟩
end
end PySem
namespace L3
open PySem PySem.Spec L2
open PyProof.Rows hiding St
section
variable{X:Cx}{pos:Pos}
theorem Z9p:MtM X "list.extend" (fun x vs H Q=>∃l b xs zs,x=.ref l/\vs=[.ref b]/\H l=some (.lst xs)/\SqL X.K H b zs/\xs.length+zs.length<=sizeLine/\Q .non (upd H l (.lst (xs++zs)))):=by
 intro pins s σ H x vs v us Q I rx rv ⟨l,b,xs,zs,e1,e2,hH,hB,hz,q⟩
 subst e1 e2
 cases rx
 obtain⟨u,rfl,ru⟩:=YE rv
 cases ru
 obtain⟨z,its,n,r,hl,e⟩:=I.lstM hH
 obtain⟨its2,r2,⟨⟨oc,od,odt,osl⟩,n2,f1,f2,f3,f4⟩,hz2⟩:=I.list hB
 have hl2:=r2.length
 simp only at f2 f4
 subst f2 f4
 have hsz:its.toArray.size+its2.toArray.size<=sizeLine:=by rw[List.size_toArray,List.size_toArray];omega
 have hlong:¬(!its.toArray.isEmpty&&Builtin.List.listTooLong (its.toArray.size+its2.toArray.size))=true:=by rw[Us hsz,Bool.and_false];exact Bool.false_ne_true
 refine call_meets F.slot_list_extend ⟨_,e,rfl⟩ F.entry_list_extend (F.args_list_extend_2 _ _) (Z9o l its.toArray n b its2.toArray n2 od osl hlong (by rw[List.size_toArray];omega) (by omega)) ⟨e,f1,?_⟩
 exact⟨.non,_,I.lset (its':=its++its2) hH e (by simp) (r.append r2) (by rw[List.length_append];omega),rfl,q⟩
theorem Zcf{i:Nat}{x:Str}{e:Expr}{m:Rho->R D}{p1 apos cpos:Pos}(he:PD X e m)(hi:X.N[i]? =some x:=by rfl)(hv:Vis X.env.scope x:=by first|exact Or.inl rfl|exact Or.inr (Or.inl rfl)|exact Or.inr (Or.inr rfl))
  (hbase:attributeBase (.Name x p1) "extend" X.env (eval (.Name x p1) X.env)=eval (.Name x p1) X.env:=by rfl)
  (hfew:((backTo cpos (starEach [e] X.env)).all (fun x=> !x.1)&&(backToKw cpos (keywordEach [] X.env)).all (fun x=>x.1.isSome)&&decide ([e].length+([]:List Keyword).length+(if([]:List Keyword).isEmpty then 0 else 1)<30))=true:=by rfl)
  (hline:(apos.endLine == cpos.line)=true:=by rfl) (hs:starEach [e] X.env=(false,eval e X.env)::starEach [] X.env:=by rfl) (hd:(x == ("__debug__":Str))=false:=by decide) (hcd:(x == ("__classdict__":Str))=false:=by decide)
  (hsw:swapsWith (.Call (.Attribute (.Name x p1) "extend" apos) [e] [] cpos) none pos.line X.env=pure false:=by rfl):
  PSD X (.Expr (.Call (.Attribute (.Name x p1) "extend" apos) [e] [] cpos) pos) (QA i m):=
 (Q0 (Ur PySem.F.plainAttrs_list PySem.F.slot_list_extend PySem.F.type_list_extend Z9p (Xm hi hv hd hcd) (Yo he pa_nil hs) hbase hfew hline hs) hsw).imp fun E σ H ⟨G,O,τ,S,q⟩=>by
  unfold QA at q
  split at q
  ·rename_i ds es h1 h2
   obtain⟨p,xs,a,c,r⟩:=S.ac h1
   refine⟨.ref p,a, .inl ⟨rfl,_,SqL.of c⟩,_,ZH τ,S.hid.1,S.hid.2,?_⟩
   rw[h2]
   intro v H1 e1 rv
   obtain⟨b,ys,rfl,hb,rr⟩:=rv.lst_of
   split at q
   ·rename_i hl
    obtain⟨O',s1,t1⟩:=(S.same e1).upd h1 a ((r.same e1).append rr)
    exact⟨p,b,xs,ys,rfl,rfl,e1 _ _ c,hb.sq,by rw[r.length,rr.length];exact hl,q O' _ _ ((Tr.of_same e1).trans t1) s1⟩
   ·exact q.elim
  ·exact q.elim
end
end L3
namespace PySem
open AutoSeq1 (wpAny_loadPart')
abbrev eh(b:Bool)(h:Heap)(l:Addr):Heap:=(h.push (Xp b l)).push {cls:=.type "enumerate",data:=.fields #[.none, .bool false, .ref h.objs.size,rawInt 0, .none, .none]}
theorem Z04(l:Addr)(ws:Array Value)(k:Nat)(dd:Option Addr)(sl:Array (Option Value)):
  Meets (Builtin.«enumerate.__new__» ⟨[.type "enumerate", .ref l],[]⟩) (fun _ R s=>s.heap.get? l=some {cls:=.type "tuple",dict:=dd,data:=.seq ws k,slots:=sl}/\
   R (.ok (.ret (.ref (s.heap.push (Xp true l)).objs.size))) {s with heap:=eh true s.heap l}):=
 .of_wp fun prog w A R s h=>by
  obtain⟨hp,g,d,tk,os⟩:=s;obtain⟨hl,h⟩:=h
  have hsub:=sub_enumerate
  have hL:Heap.IsTuple (Shared.heap ⟨hp,g,d,tk,os⟩) l ws:=⟨_,hl,rfl,k,rfl⟩
  wp_walk using wpAny_loadPart' hl
  refine wpAny_stack_any fun st=>wpAny_pure ?_
  split
  ·rename_i c _ _ _ _ _
   cases (c == Value.type "enumerate")
   ·wp_walk using wpAny_loadPart' hl,wpAny_pyIter_tuple hL
    exact⟨_,rfl,h⟩
   ·wp_walk using wpAny_loadPart' hl,wpAny_pyIter_tuple hL
    exact⟨_,rfl,h⟩
  ·wp_walk using wpAny_loadPart' hl,wpAny_pyIter_tuple hL
   exact⟨_,rfl,h⟩
section
variable{P:Program}{w:World}{A:Around}{E:Value->Shared->Prop}{s:Shared}
theorem Z45{b:Bool}{l:Addr}{ws:Array Value}{Q:Value->Shared->Prop}(hL:SqAt b s.heap l ws)
  (q:∀g,IsEnum g (s.heap.objs.size+1) s.heap.objs.size 0 .none->ItAt b g s.heap.objs.size l 0->(∀c o,s.heap.get? c=some o->g.get? c=some o)->Q (.ref (s.heap.objs.size+1)) {s with heap:=g}):
  wpAny (model P w) A (call (.type "enumerate") [.ref l]) Q E s:=by
 cases b
 ·exact call_enumerate_list hL fun g a1 a2 _ a4=>q g a1 a2 a4
 ·obtain⟨⟨c,dd,dt,sl⟩,hl,hc,k,hd⟩:=(hL:s.heap.IsTuple l ws)
  replace hc:c=.type "tuple":=hc
  replace hd:dt=.seq ws k:=hd
  subst hc hd
  refine callType_new F.called_enumerate (by decide) (F.typeCall_enumerate_1 _) (F.newCall_enumerate_1 _) (fun obj=>F.args_object_init_2 obj _) F.entry_enumerate_new (Z04 l ws k dd sl) ⟨hl,?_⟩
  have hz:(s.heap.push (Xp true l)).objs.size=s.heap.objs.size+1:=Heap.size_push ..
  have he:(eh true s.heap l).get? (s.heap.push (Xp true l)).objs.size=some _:=Heap.get?_push_size _ rfl
  show _/\_
  rw[hz]at he ⊢
  exact⟨⟨_,he,rfl⟩,q _ he (.new (Heap.get?_push_of_some _ (Heap.get?_push_size _ rfl))) fun c o x=>Heap.get?_push_of_some _ (Heap.get?_push_of_some _ x)⟩
end
end PySem
namespace L3
open PySem PySem.Spec L2
open PyProof.Rows hiding St
def Zcg(K:PySem.W.Frag)(b:Bool)(a:Addr):It:=
 ⟨fun i H=>∃xs x,SqX K b H a xs/\xs[i]? =some x,fun i H x H'=>∃T y,x=.ref T/\H T=none/\H'=upd H T (.tup [.int (i:Int),y])/\∀xs,SqX K b H a xs->xs[i]? =some y,fun i H=>∃xs,SqX K b H a xs/\xs.length<=i⟩
theorem Z6y{P:Program}{w:World}{K:PySem.W.Frag}{elts:List Expr}{x1:Nat}{tp:Pos}{b:Bool}{a e it:Addr}(hei:e≠it)(hea:e≠a)(hia:it≠a):
  Turn P w K (.Tuple elts x1 tp) (Zcg K b a) [e,it] e (fun i h=>(∃old,IsEnum h e it i old)/\ItAt b h it a i) where
 mem:=by simp
 obj:=fun i h ⟨⟨old,he⟩,hi⟩ c hc=>by
  rcases List.mem_cons.mp hc with z|hc
  ·rw[z];exact⟨_,he,fun v z=>by cases z⟩
  ·rw[List.mem_singleton.mp hc];exact ItAt.ob hi
 keep:=fun i h h' ⟨⟨old,he⟩,hit⟩ k=>⟨⟨old,k e (by simp) _ he⟩,ItAt.at hit (fun o z=>k it (by simp) o z)⟩
 item:=by
  intro X hP hw hK hc i pins s σ H E I hf ⟨⟨old,he⟩,hit⟩ hg
  subst hP hw hK
  obtain⟨xs,x,hq,hx⟩:=hg
  obtain⟨its,rv,pl,hz⟩:=Inv.sqx I hq
  obtain⟨u,hu,ru⟩:=rv.get hx
  have hlt:i<its.toArray.size:=by simpa using(List.getElem?_eq_some_iff.mp hu).1
  have hh:X.A.in1.handled=none:=by have:=I.ok.hd hc;simpa using this
  refine wpAny_pyNext_enum_itemD (Xq (A:=X.A.in1) hh b it a (Ne.symm hia) its.toArray) he ⟨hit,pl⟩ hlt hei (by simp[hei,hea]) fun x' h' tk hP ho' hs' hT hsz hk=> ?_
  have hx':x'=u:=by
   have z:its.toArray[i]? =some x':=hP
   rw[List.getElem?_toArray,hu]at z
   exact(Option.some.inj z).symm
  subst hx'
  refine⟨_,rfl,wpAny_letOwnedTupleGo_enum ho' fun h2 he2 hs2=> ?_⟩
  have fT:H s.heap.objs.size=none:=I.fresh
  have elt:e<s.heap.objs.size:=Heap.lt_size he
  have ilt:it<s.heap.objs.size:=by obtain⟨o,ho,_⟩:=ItAt.ob hit;exact Heap.lt_size ho
  have I1:Inv X pins σ (upd H s.heap.objs.size (.tup [.int (i:Int),x])) {s with heap:=s.heap.push {cls:=.type "tuple",data:=.seq #[.int (i:Int) tk,x']},toks:=tk+1}:=
   I.laid (fun b o z=>Heap.get?_push_of_some _ z) (Nat.le_refl _) ⟨by show 2<=sizeLine;decide,[.int (i:Int) tk,x'], .cons ⟨_,rfl⟩ (.cons ru .nil),TupN.new _ _⟩
  have ff:∀b∈[e,it],X9 X pins (upd H s.heap.objs.size (.tup [.int (i:Int),x])) b:=fun b hb=>by
   have hb':b≠s.heap.objs.size:=by
    rcases List.mem_cons.mp hb with z|hb
    ·rw[z];exact Nat.ne_of_lt elt
    ·rw[List.mem_singleton.mp hb];exact Nat.ne_of_lt ilt
   exact⟨by rw[Zm hb'];exact(hf b hb).1,(hf b hb).2⟩
  have I2:=Xc (h':=h2) (t':=tk+1) I1 (fun b o hb z=>by
   have hbe:b≠e:=fun w=>hb (by simp[w])
   have hbi:b≠it:=fun w=>hb (by simp[w])
   refine(hs2.2 b hbe).trans ?_
   by_cases hbT:b=s.heap.objs.size
   ·subst hbT
    rw[Heap.get?_push_size _ rfl]at z
    cases z
    exact hT
   ·have hbl:b<s.heap.objs.size:=by
     have:=Heap.lt_size z
     rw[Heap.size_push]at this
     exact Nat.lt_of_le_of_ne (Nat.le_of_lt_succ this) hbT
    exact hk b o hbe hbi (UL hbl z)) ff
  refine⟨.ref s.heap.objs.size,_,I2,rfl,⟨_,x,rfl,fT,rfl,fun ys hy=>by rw[Inv.sqx_inj I hq hy];exact hx⟩,⟨⟨x',?_⟩,?_⟩,fun b hb=>(ff b hb).1⟩
  ·have z:=he2
   rw[show((i:Int)+1)=((i+1:Nat):Int) by omega]at z
   exact z
  ·exact ItAt.at hs'.1 (fun o z=>(hs2.2 it (Ne.symm hei)).trans z)
 done:=by
  intro X hP hw hK hc i pins s σ H E I hf ⟨⟨old,he⟩,hit⟩ hg
  subst hP hw hK
  obtain⟨xs,hq,hx⟩:=hg
  obtain⟨its,rv,pl,hz⟩:=Inv.sqx I hq
  have hl:=rv.length
  have hh:X.A.in1.handled=none:=by have:=I.ok.hd hc;simpa using this
  exact wpAny_pyNext_enum_endD (QB (A:=X.A.in1) hh b it a its.toArray i (by simp;omega)) he ⟨rfl,hit,pl⟩ fun h' eb=>⟨rfl,Xc (t':=s.toks) I (fun b o hb z=>eb b o (fun w=>hb (by simp[w])) z) hf⟩
 self:=fun A i s Q E ⟨⟨old,he⟩,hit⟩ h=>wpAny_pyIter_enum he h
def Z6z:List D->R (List D)
 | [d]=>Ya d>>=fun xs=>.ok (enu xs)
 |_=>.bad
theorem Z05(es:List D):Z6z es=.bad\/∃x xs,es=[x]/\Ya x=.ok xs/\Z6z es=.ok (enu xs):=by
 match es with
 | []=>exact .inl rfl
 |_::_::_=>exact .inl rfl
 | [x]=>cases x<;>first|exact .inl rfl|exact .inr ⟨_,_,rfl,rfl,rfl⟩
section
variable{X:Cx}
theorem Z9q{a:Expr}{m:Rho->R (List D)}{elts:List Expr}{x1:Nat}{tp p pos:Pos}(hm:X.mg "enumerate"=none)(ha:PDA X [a] m)(hg:Gl X "enumerate":=by rfl)(hs:starEach [a] X.env=[(false,eval a X.env)]:=by rfl):
  PID X (.Tuple elts x1 tp) (.Call (.Name "enumerate" p) [a] [] pos) (apL Z6z m):=by
 intro pins s σ H R0 I ⟨G,ρ,hG,hρ,q⟩
 unfold apL at q
 cases em:m ρ with
 |ex c=>
  rw[em]at q
  exact Call_ (X8 I hg hm boot_enumerate (callWith_type1 (thn (ha pos pins s σ H (fun _ _=>False) I ⟨G,ρ,hG,hρ,by rw[em];exact q⟩) fun us s1 ⟨vs,H1,I1,r1,z⟩=>z.elim) hs rfl))
 |bad=>rw[em]at q;exact q.elim
 |ok es=>
  rw[em]at q
  rw[R.ok_bind]at q
  rcases Z05 es with h|⟨x,xs,rfl,ex,ez⟩
  ·rw[h]at q;exact q.elim
  rw[ez]at q
  refine Call_ (X8 I hg hm boot_enumerate (callWith_type1 (thn (ha pos pins s σ H (fun vs H1=>Same H H1/\RepL X.K G H1 [x] vs) I ⟨G,ρ,hG,hρ,by rw[em];exact fun vs H1 e1 rl=>⟨e1,rl⟩⟩) fun us s1 ⟨vs,H1,I1,r1,e1,rl⟩=> ?_) hs rfl))
  obtain⟨v1,rfl,rx⟩:=ZY rl
  obtain⟨l,rfl,c1⟩:=SqD.of ex rx
  obtain⟨u1,rfl,t1⟩:=YE r1
  cases t1
  obtain⟨ws1,s11,_,r11⟩:=id c1
  obtain⟨i1,_,p1,z1⟩:=Inv.sqx I1 s11
  have l1:l<s1.heap.objs.size:=by
   revert p1
   cases sqK x
   ·exact fun p1=>let⟨_,e,_⟩:=(p1:s1.heap.IsList _ _);Heap.lt_size e
   ·exact fun p1=>let⟨_,e,_⟩:=(p1:s1.heap.IsTuple _ _);Heap.lt_size e
  refine Z45 p1 fun g a1 a2 hk=>wpAny_pyIter_enum a1 ?_
  refine⟨_,_,_,Zcg X.K (sqK x) l,H1,rfl,I1.kept (t':=s1.toks) hk,Z6y (Nat.succ_ne_self _) (Nat.ne_of_gt (Nat.lt_succ_of_lt l1)) (Nat.ne_of_gt l1),⟨⟨.none,a1⟩,a2⟩,fun c hc=> ?_,?_⟩
  ·rcases List.mem_cons.mp hc with z|hc
   ·rw[z];exact I1.fpOk (Nat.le_succ _) (I1.hok.fresh (Nat.le_succ _))
   ·rw[List.mem_singleton.mp hc];exact I1.fpOk (Nat.le_refl _) (I1.hok.fresh (Nat.le_refl _))
  ·have lz:(enu xs).length=xs.length:=by simp[enu]
   refine q (Zcg X.K (sqK x) l) H1 (fun H2=>SqD X.K (fun a=>G a/\H1 a≠none) (sqK x) H2 l xs) e1 ⟨fun i H2 hC hi=> ?_,fun i H2 hC hi=> ?_⟩ (fun H2 H3 hC e=>hC.keep e) c1 (by rw[lz,←r11.length];exact z1)
   ·rw[lz]at hi
    obtain⟨us,d1,_,d3⟩:=id hC
    have hu:i<us.length:=by rw[d3.length];omega
    refine⟨⟨us,us[i],d1,by simp[hu]⟩,fun v H' ⟨T,p',ev,hT,eH,h1⟩=> ?_⟩
    subst ev eH
    have gg:=Zv hT (.tup [.int (i:Int),p'])
    obtain⟨d,ed,rd⟩:=d3.get' (h1 us d1)
    refine⟨gg,hC.same gg, .tup [.int (i:Int),d],?_,Rep.tup (SqT.of Zi) (RepL.cons Rep.int (RepL.cons (rd.same gg) RepL.nil))⟩
    unfold enu
    rw[List.getElem?_map,List.getElem?_zipIdx,ed]
    simp
   ·rw[lz]at hi
    obtain⟨us,d1,_,d3⟩:=id hC
    exact⟨us,d1,by rw[d3.length];exact hi⟩
end
end L3
namespace L3
open PySem PySem.Spec L2
open PyProof.Rows hiding St
section
variable{X:Cx}
theorem Zaz{a:Expr}{ma:Rho->R D}{j pos pos'}(ha:PD X a ma):PDT X (.Compare a [.Is] [.Constant .none j pos'] pos) (tst (un isD ma)):=
 (Z59 (Z58 ha)).imp fun σ H Q ⟨G,ρ,hG,hρ,q⟩=>⟨G,ρ,hG,hρ,by
  unfold tst un at q
  cases e:ma ρ with
  |ok d=>rw[e]at q;exact fun v H1 e1 rd=>⟨_,rfl,by rw[Wo rd];exact q _ H1 e1 rfl⟩
  |ex c=>rw[e]at q;exact q
  |bad=>rw[e]at q;exact q⟩
theorem Zch{a:Expr}{ma:Rho->R D}{j pos pos'}(ha:PD X a ma):PDT X (.Compare a [.IsNot] [.Constant .none j pos'] pos) (tst (un Z6l ma)):=
 (Z59 (Z8m ha)).imp fun σ H Q ⟨G,ρ,hG,hρ,q⟩=>⟨G,ρ,hG,hρ,by
  unfold tst un at q
  cases e:ma ρ with
  |ok d=>rw[e]at q;exact fun v H1 e1 rd=>⟨_,rfl,by rw[Wo rd];exact q _ H1 e1 rfl⟩
  |ex c=>rw[e]at q;exact q
  |bad=>rw[e]at q;exact q⟩
end
end L3
namespace L3
open PySem PySem.Spec L2
open PyProof.Rows hiding St
section
variable{X:Cx}{pos:Pos}
end
end L3
namespace L3
open PySem PySem.Spec L2
open PyProof.Rows hiding St
section
variable{X:Cx}
theorem Z06(ds:List D):VZ ds=.bad\/∃x xs ns,ds=[x]/\Ya x=.ok xs/\ZF xs=some ns/\VZ ds=.ok (.int ns.sum):=by
 unfold VZ
 split
 ·rename_i xs
  cases h:ZF xs with
  |none=>exact .inl rfl
  |some ns=>exact .inr ⟨_,_,_,rfl,rfl,h,rfl⟩
 ·rename_i xs
  cases h:ZF xs with
  |none=>exact .inl rfl
  |some ns=>exact .inr ⟨_,_,_,rfl,rfl,h,rfl⟩
 ·exact .inl rfl
theorem Z70{k:Nat}(hr:Room k X.A):Q4 X (.builtin "sum") VZ:=by
 intro pins s σ H xs us Q I r ⟨G,σ',ds,hG,rd,q⟩
 rcases Z06 ds with h|⟨x,ys,ns,rfl,hi,hn,e⟩
 ·rw[h]at q;exact q.elim
 rw[e]at q
 obtain⟨v,rfl,rx⟩:=ZY rd
 obtain⟨a,rfl,ws,s1,_,r1⟩:=SqD.of hi rx
 obtain⟨u,rfl,ru⟩:=YE r
 cases ru
 cases Yt hn
 cases Yl _ r1
 obtain⟨its,rv,pl,hz⟩:=Inv.sqx I s1
 have hia:=Yw rv
 have hln:=hia.length
 have hh:X.A.in1.handled=none:=by have:=hr.hd;simpa using this
 have val:∀i v,its.toArray[i]? =some v->∃t,v=Value.int ((fun i=>ns.getD i 0) i) t:=fun i v hv=>IntsAre.int_at hia i v (by simpa using hv)
 have sum:preSum (fun i=>ns.getD i 0) its.toArray.size=ns.sum:=by rw[preSum_getD,List.size_toArray,hln,List.take_length]
 have fin:∀(I0:Addr) (h':Heap) (tk:Nat) (t':Tok),(∀b o,s.heap.get? b=some o->h'.get? b=some o)->EP X pins σ Q (.int (preSum (fun i=>ns.getD i 0) its.toArray.size) t') {s with heap:=h',toks:=tk}:=fun I0 h' tk t' hk=>
  ⟨.int ns.sum,H,I.kept (t':=tk) hk,⟨t',by rw[sum]⟩,q _ H (Same.refl H) Rep.int⟩
 revert pl
 cases sqK x
 ·intro pl
  have hl:s.heap.IsList a its.toArray:=pl
  have hlt:a<s.heap.objs.size:=by obtain⟨_,e,_⟩:=hl;exact Heap.lt_size e
  refine call_sum_walkG (wpAny_pyIter_list hl ?_)
  refine⟨s.heap.objs.size,[s.heap.objs.size,a],[s.heap.objs.size],its.toArray.size,_,_,fun i=>ns.getD i 0,rfl,Walks.list (A:=X.A.in1) hh _ a (Nat.ne_of_lt hlt) its.toArray,⟨⟨_,Heap.get?_push_size _ rfl,rfl,rfl⟩,hl.push _⟩,fun b hb=> ?_,fun i v hP=>val i v hP,fun h' tk t' hk=>fin 0 h' tk t' (LSm.kept_iter hk)⟩
  rw[Heap.size_push]
  rcases List.mem_cons.mp hb with z|hb
  ·rw[z];exact Nat.lt_succ_self _
  ·rw[List.mem_singleton.mp hb];exact Nat.lt_succ_of_lt hlt
 ·intro pl
  have hl:s.heap.IsTuple a its.toArray:=pl
  have hlt:a<s.heap.objs.size:=by obtain⟨_,e,_⟩:=hl;exact Heap.lt_size e
  refine call_sum_walkG (wpAny_pyIter_tuple hl ?_)
  refine⟨s.heap.objs.size,[s.heap.objs.size,a],[s.heap.objs.size],its.toArray.size,_,_,fun i=>ns.getD i 0,rfl,Walks.tuple (A:=X.A.in1) hh _ a (Nat.ne_of_lt hlt) its.toArray,⟨⟨_,Heap.get?_push_size _ rfl,rfl,rfl⟩,SqAt.push (b:=true) pl _⟩,fun b hb=> ?_,fun i v hP=>val i v hP,fun h' tk t' hk=>fin 0 h' tk t' (LSm.kept_iter hk)⟩
  rw[Heap.size_push]
  rcases List.mem_cons.mp hb with z|hb
  ·rw[z];exact Nat.lt_succ_self _
  ·rw[List.mem_singleton.mp hb];exact Nat.lt_succ_of_lt hlt
end
theorem Z9r{α:Type}{l:List α}(h:l.length=1):∃a,l=[a]:=by
 cases l with
 |nil=>cases h
 |cons a t=>exact⟨a,by rw[List.eq_nil_of_length_eq_zero (Nat.succ.inj h)]⟩
theorem Z46{α:Type}{l:List α}{n:Nat}(h:l.length=n+1):∃a t,l=a::t/\t.length=n:=by
 cases l with
 |nil=>cases h
 |cons a t=>exact⟨a,t,rfl,Nat.succ.inj h⟩
theorem YA{K:PySem.W.Frag}{x qual:Str}{st:Stmt}{f:Addr}{fd:FuncData}{p0:Str}(F:Fun K x qual st f fd)
  (h:∀(kV doc pm:Value) (an:Option Addr) (cdv ct:Value) (u0:Value),bindArgs (PySem.W.fnOf x qual (Za st) (Z9 st) (Z3 st) .none kV doc pm an cdv ct) ⟨[u0],[]⟩=pure ([p0].zip [u0])):Binds K fd [p0] []:=
 F.binds fun k d q a c t us hl=>by
  obtain⟨u0,rfl⟩:=Z9r hl
  exact h k d q a c t u0
theorem ZA{K:PySem.W.Frag}{x qual:Str}{st:Stmt}{f:Addr}{fd:FuncData}{p0 p1:Str}(F:Fun K x qual st f fd)
  (h:∀(kV doc pm:Value) (an:Option Addr) (cdv ct:Value) (u0 u1:Value),bindArgs (PySem.W.fnOf x qual (Za st) (Z9 st) (Z3 st) .none kV doc pm an cdv ct) ⟨[u0,u1],[]⟩=pure ([p0,p1].zip [u0,u1])):Binds K fd [p0,p1] []:=
 F.binds fun k d q a c t us hl=>by
  obtain⟨u0,r0,rfl,h0⟩:=Z46 hl
  obtain⟨u1,rfl⟩:=Z9r h0
  exact h k d q a c t u0 u1
theorem QC{K:PySem.W.Frag}{x qual:Str}{st:Stmt}{f:Addr}{fd:FuncData}{p0 p1 p2:Str}(F:Fun K x qual st f fd)
  (h:∀(kV doc pm:Value) (an:Option Addr) (cdv ct:Value) (u0 u1 u2:Value),bindArgs (PySem.W.fnOf x qual (Za st) (Z9 st) (Z3 st) .none kV doc pm an cdv ct) ⟨[u0,u1,u2],[]⟩=pure ([p0,p1,p2].zip [u0,u1,u2])):Binds K fd [p0,p1,p2] []:=
 F.binds fun k d q a c t us hl=>by
  obtain⟨u0,r0,rfl,h0⟩:=Z46 hl
  obtain⟨u1,r1,rfl,h1⟩:=Z46 h0
  obtain⟨u2,rfl⟩:=Z9r h1
  exact h k d q a c t u0 u1 u2
theorem Z07{K:PySem.W.Frag}{x qual:Str}{st:Stmt}{f:Addr}{fd:FuncData}{p0 p1 p2 p3:Str}(F:Fun K x qual st f fd)
  (h:∀(kV doc pm:Value) (an:Option Addr) (cdv ct:Value) (u0 u1 u2 u3:Value),bindArgs (PySem.W.fnOf x qual (Za st) (Z9 st) (Z3 st) .none kV doc pm an cdv ct) ⟨[u0,u1,u2,u3],[]⟩=pure ([p0,p1,p2,p3].zip [u0,u1,u2,u3])):Binds K fd [p0,p1,p2,p3] []:=
 F.binds fun k d q a c t us hl=>by
  obtain⟨u0,r0,rfl,h0⟩:=Z46 hl
  obtain⟨u1,r1,rfl,h1⟩:=Z46 h0
  obtain⟨u2,r2,rfl,h2⟩:=Z46 h1
  obtain⟨u3,rfl⟩:=Z9r h2
  exact h k d q a c t u0 u1 u2 u3
end L3
namespace L3
open PySem PySem.Spec L2
open PyProof.Rows hiding St
open PySem.W (KasT kas_sort kas_rev kas_asc kas_desc kas_tail3 kas_descPart kas_count kas_place kas_bin)
def gP(p:Array Nat)(i:Nat):Nat:=p.getD i 0
def PerN(n:Nat)(p:Array Nat):Prop:=p.Perm (List.toArray (List.range n))
theorem PerN.size{n:Nat}{p:Array Nat}(h:PerN n p):p.size=n:=by
 have:=h.size_eq
 simpa using this
theorem PerN.low{n:Nat}{p:Array Nat}(h:PerN n p){i:Nat}(hi:i<n):gP p i<n:=by
 have hs:=h.size
 have e:gP p i=p[i]'(by omega):=by unfold gP;simp[hs,hi]
 rw[e]
 have:=(h.mem_iff (a:=p[i]'(by omega))).mp (Array.getElem_mem _)
 simpa using this
section
variable{lt:Nat->Nat->Bool}{n:Nat}(hT:∀i j,i<n->j<n->i≠j->lt i j=true\/lt j i=true)(hA:∀i j,lt i j=true->lt j i=false)(hTr:∀i j k,lt i j=true->lt j k=true->lt i k=true)
end
end L3
namespace L3
open PySem PySem.Spec L2
open PyProof.Rows hiding St
open PySem.W (KasT kas_sort KatLex KatGo kat_nil kat_cons kat_yes kat_no kat_lt kat_one KatTups kat_kind kat_run kat_snds kas_ask)
section
variable{prog:Program}{w:World}{A:Around}{E:Value->Shared->Prop}{s:Shared}{Q:Bool->Shared->Prop}
structure NestsAre(h:Heap)(vs:List Value)(ks:List (List (List Int))):Prop where
 len:vs.length=ks.length
 at_:∀(i:Nat) (v:Value) (k:List (List Int)),vs[i]? =some v->ks[i]? =some k->k≠[]/\∃a items,v=.ref a/\IsTup h a items/\TupsAre h items.toList k
end
section
variable{prog:Program}{w:World}{A:Around}{E:Value->Shared->Prop}{s:Shared}
end
section
variable{X:Cx}
end
end L3
namespace L3
open PySem PySem.Spec L2
open PyProof.Rows hiding St
section
variable{X:Cx}
end
end L3
namespace L3
open PySem PySem.Spec L2
open PyProof.Rows hiding St
section
variable{α:Type}[DecidableEq α]
def LtAt(A:Around)(s:Shared)(x y:Value)(b:Bool):Prop:=
 ∀(prog:Program) (w:World) (E Q:Value->Shared->Prop),Q (.bool b) s->wpAny (model prog w) A (richCompare .Lt x y) Q E s
theorem LtAt.int_int{A:Around}{s:Shared}(a:Int)(t:Tok)(c:Int)(u:Tok):LtAt A s (.int a t) (.int c u) (decide (a<c)):=fun prog w E Q h=>HT.rcLt_int A s a t c u prog w E Q h
inductive AllR(Rl:Value->α->Prop):List Value->List α->Prop
 |nil:AllR Rl [] []
 |cons {v:Value} {k:α} {vs:List Value} {ks:List α}:Rl v k->AllR Rl vs ks->AllR Rl (v::vs) (k::ks)
structure CmpR(A:Around)(s:Shared)(lt:α->α->Bool)(Rl:Value->α->Prop):Prop where
 eq:∀x y k m,Rl x k->Rl y m->SeqAt.EqAt A s x y (decide (k=m))
 lt:∀x y k m,Rl x k->Rl y m->LtAt A s x y (lt k m)
end
section
open PySem.SeqAt
open PySem.AutoSeq1 (wpAny_loadPart')
open PySem.MeetsSeq PySem.MeetsSeq2 PySem.MeetsSeq3
variable{α:Type}[DecidableEq α]{lt:α->α->Bool}{Rl:Value->α->Prop}
end
end L3
namespace L3
open PySem PySem.Spec L2
open PyProof.Rows hiding St
open PySem.W (KasT kas_sort KatLex KatGo kat_nil kat_cons kat_yes kat_no kat_lt kat_one KatTups kat_kind kat_run kat_snds kas_ask kas_kind)
section
variable{α:Type}[DecidableEq α]{A:Around}{s:Shared}{lt:α->α->Bool}{Rl:Value->α->Prop}
end
section
variable{X:Cx}{pins:List (Addr×Obj)}{σ:St}{H:Hp}{s:Shared}{G:Addr->Prop}
end
end L3
namespace L3
open PySem PySem.Spec L2
open PyProof.Rows hiding St
open PySem.W (KasT kas_sort kat_run kat_snds kas_ask kas_kind)
section
variable{prog:Program}{w:World}{A:Around}{E:Value->Shared->Prop}{s:Shared}
end
section
variable{X:Cx}
end
end L3
namespace L3
open PySem PySem.Spec L2
open PyProof.Rows hiding St
section
variable{prog:Program}{w:World}{A:Around}{R:Result->Shared->Prop}{I S:Addr}{fp wr:List Addr}{n:Nat}{P:Nat->Value->Prop}{St:Nat->Heap->Prop}{bt:Nat->Nat->Bool}{h0:Heap}
end
section
variable{prog:Program}{w:World}{A:Around}{E:Value->Shared->Prop}{s:Shared}{l:Addr}{its:Array Value}{bt:Nat->Nat->Bool}
end
section
variable{X:Cx}
end
end L3
namespace HT
open PySem PyProof.Rows
section
variable{prog:Program}{w:World}{A:Around}{E:Value->Shared->Prop}{s:Shared}
end
end HT
namespace L3
open PySem PySem.Spec L2
open PyProof.Rows hiding St
section
variable{X:Cx}
end
end L3
namespace L3
open PySem PySem.Spec L2
open PyProof.Rows hiding St
section
open PySem.AutoSeq1 (wpAny_loadPart')
end
section
variable{X:Cx}
end
end L3
namespace L3
open PySem PySem.Spec L2
open PyProof.Rows hiding St
theorem _root_.L2.Room.lo{k l:Nat}{A:Around}(hr:Room l A)(h:k<=l:=by first|decide|omega):Room k A:=hr.mono h
section
variable{prog:Program}{w:World}{A:Around}{E:Value->Shared->Prop}{s:Shared}{r:Addr}{a b c:Int}{t u v:Tok}{n:Nat}
end
section
variable{X:Cx}{pos:Pos}
def bx(f:D->D->R D)(m n:Rho->R D):Rho->R D:=fun ρ=>m ρ>>=fun d=>match d with| .str z=>n ρ>>=fun y=>f (.str z) y|_=>.bad
end
end L3
namespace PySem
open PySem.W PyProof.Rows
def RawD(h:Heap)(a:Addr)(es:Array DictEntry)(ep:Nat):Prop:=∃o,h.get? a=some o/\o.ExactDict/\o.data=.dict es ep
section
variable{prog:Program}{w:World}{A:Around}{E:Value->Shared->Prop}{s:Shared}{d it:Addr}{es:Array DictEntry}{ep i:Nat}
theorem RawD.ty(m:RawD s.heap d es ep):s.TypeIs (.ref d) "dict":=let⟨o,a,b,_⟩:=m;⟨o,a,b.1⟩
theorem RawD.lt{h:Heap}(m:RawD h d es ep):d<h.objs.size:=let⟨_,a,_⟩:=m;Heap.lt_size a
theorem Z47{Q:Value->Shared->Prop}(ns:(d == sysModules)=false)(m:RawD s.heap d es ep)
  (q:Q (.ref s.heap.objs.size) {s with heap:=s.heap.push {cls:=.type "dict_keyiterator",data:=.fields #[.ref d, .int 0 0, .int es.size 0, .int ep 0]}}):wpAny (model prog w) A (pyIter (.ref d)) Q E s:=by
 have T:=m.ty
 obtain⟨o,g,_,dt⟩:=m
 refine wpAny_pyIter_slot T F.slot_dict_iter ?_
 refine wpAny_call_entry F.slot_dict_iter T F.entry_dict_iter ?_ (F.args_dict_iter_1 _)
 unfold Builtin.«dict.__iter__»;refine wpAny_bind ?_
 unfold Builtin.Dict.dictSlotNone;refine wpAny_bind (wpAny_notOrdered_dict T ?_)
 refine(show wpAny _ _ (pure (Value.ref d)) _ _ s from wpAny_pure ?_)
 show wpAny _ _ (Builtin.Dict.showsAll d>>=_) _ _ s
 unfold Builtin.Dict.showsAll;rw[if_neg (by simp[ns])]
 refine wpAny_bind (wpAny_pure (wpAny_bind (wpAny_dictEntries g dt (wpAny_bind (wpAny_dictEpoch g dt ?_)))))
 refine wpAny_bind (wpAny_newObj_type (wpAny_pure ⟨_,rfl,"dict_keyiterator",_,⟨_,Heap.get?_push_size _ rfl,rfl⟩,F.slot_dict_keyiterator_next.lookup,?_⟩))
 simpa[rawInt]using q
theorem Z48{e:DictEntry}{Q:Option Value->Shared->Prop}(t:s.heap.IsKeyIter it d i es.size ep)(m:RawD s.heap d es ep)(x:es[i]? =some e)
  (q:∀h',h'.IsKeyIter it d (i+1) es.size ep->Heap.SameBut it s.heap h'->Q (some e.key) {s with heap:=h'}):wpAny (model prog w) A (pyNext (.ref it)) Q E s:=by
 have T:=t.typeIs
 obtain⟨o,g,gc,gd⟩:=t
 obtain⟨o2,g2,_,dt⟩:=m
 have own:Builtin.Dict_items.ownsTuple "dict_keyiterator"=false:=by decide
 unfold pyNext
 refine wpAny_bind (wpAny_attempt (wpAny_callSpecial?_slot (name:=Str.ofString "__next__") T F.slot_dict_keyiterator_next ?_))
 refine wpAny_call_entry F.slot_dict_keyiterator_next T F.entry_dict_keyiterator_next ?_ (F.args_dict_keyiterator_next_1 _)
 refine wpAny_bind (wpAny_pure (wpAny_bind (wpAny_bind ?_)))
 refine wpAny_bind (wpAny_typeNameOfWhole_keyiter T (wpAny_pure (wpAny_bind (wpAny_fieldsOf g gd ?_))))
 simp only[own,Bool.false_eq_true,if_false]
 show wpAny _ _ (if(Value.ref d == Value.none)=true then _ else _) _ _ s
 rw[if_neg (show¬((Value.ref d == Value.none)=true)from Bool.false_ne_true)]
 refine wpAny_bind (wpAny_pure (wpAny_bind (wpAny_dictEntries g2 dt ?_)))
 rw[if_neg (by simp)]
 refine wpAny_bind (wpAny_pure (wpAny_bind (wpAny_dictEpoch g2 dt ?_)))
 rw[if_neg (by simp)]
 refine wpAny_pure ?_
 simp only[show¬((i:Int)<0)from by omega,if_false,Int.toNat_natCast,x]
 refine wpAny_bind (wpAny_bind (wpAny_typeNameOfWhole_keyiter T (wpAny_pure (wpAny_bind (wpAny_isOneOf_keyiter T ?_)))))
 show wpAny _ _ (setField (.ref it) 1 (rawInt ((i:Int)+1))>>=_) _ _ s
 refine wpAny_bind (wpAny_setField g gd (by simp) ?_)
 have t2:(s.heap.update it (Obj.mapFields (·.setIfInBounds 1 (rawInt ((i:Int)+1))))).IsKeyIter it d (i+1) es.size ep:=by
  refine⟨_,Heap.get?_update_self _ g (Obj.isFreed_of_fields (Obj.data_mapFields gd _)),(Obj.cls_mapFields ..).trans gc,?_⟩
  rw[Obj.data_mapFields gd];simp[rawInt]
 refine wpAny_bind (wpAny_holding (wpAny_bind ?_))
 refine wpAny_isOneOf_keyiter (s:={s with heap:=s.heap.update it (Obj.mapFields (·.setIfInBounds 1 (rawInt ((i:Int)+1))))}) t2.typeIs ?_
 exact(show wpAny _ _ (pure e.key) _ _ _ from wpAny_pure (wpAny_pure ⟨_,rfl,wpAny_pure (q _ t2 (Heap.SameBut.update ..))⟩))
theorem Z71{Q:Option Value->Shared->Prop}(hh:A.handled=none)(t:s.heap.IsKeyIter it d i es.size ep)(m:RawD s.heap d es ep)(x:es[i]? =none)
  (q:∀h',Heap.ExtBut it s.heap h'->Q none {s with heap:=h'}):wpAny (model prog w) A (pyNext (.ref it)) Q E s:=by
 have T:=t.typeIs
 obtain⟨o,g,gc,gd⟩:=t
 obtain⟨o2,g2,_,dt⟩:=m
 have own:Builtin.Dict_items.ownsTuple "dict_keyiterator"=false:=by decide
 unfold pyNext
 refine wpAny_bind (wpAny_attempt (wpAny_callSpecial?_slot (name:=Str.ofString "__next__") T F.slot_dict_keyiterator_next ?_))
 refine wpAny_call_entry F.slot_dict_keyiterator_next T F.entry_dict_keyiterator_next ?_ (F.args_dict_keyiterator_next_1 _)
 refine wpAny_bind (wpAny_pure (wpAny_bind (wpAny_bind ?_)))
 refine wpAny_bind (wpAny_typeNameOfWhole_keyiter T (wpAny_pure (wpAny_bind (wpAny_fieldsOf g gd ?_))))
 simp only[own,Bool.false_eq_true,if_false]
 show wpAny _ _ (if(Value.ref d == Value.none)=true then _ else _) _ _ s
 rw[if_neg (show¬((Value.ref d == Value.none)=true)from Bool.false_ne_true)]
 refine wpAny_bind (wpAny_pure (wpAny_bind (wpAny_dictEntries g2 dt ?_)))
 rw[if_neg (by simp)]
 refine wpAny_bind (wpAny_pure (wpAny_bind (wpAny_dictEpoch g2 dt ?_)))
 rw[if_neg (by simp)]
 refine wpAny_pure ?_
 simp only[show¬((i:Int)<0)from by omega,if_false,Int.toNat_natCast,x]
 refine wpAny_bind (wpAny_bind (wpAny_typeNameOfWhole_keyiter T (wpAny_pure ?_)))
 show wpAny _ _ (setField (.ref it) 0 .none>>=_) _ _ s
 refine wpAny_bind (wpAny_setField g gd (by simp) ?_)
 show wpAny _ _ (newExc (.type "StopIteration") []>>=_) _ _ _
 refine wpAny_bind ?_
 simp only[newExc,newTuple]
 refine wpAny_bind (wpAny_newObj_type ?_ (by size_fits))
 refine wpAny_bind (m:=firstArgMember _ _) (wpAny_of_eq (a:=Value.none) (by first|rfl|(simp only[firstArgMember];rfl)) (wpAny_newObj_type ?_ (by size_fits)))
 simp only[raiseNew]
 refine wpAny_bind (wpAny_handled ?_)
 rw[show A.in1.handled=none from hh]
 refine wpAny_bind (wpAny_pure (wpAny_throw (wpAny_bind ?_)))
 refine wpAny_isInstance (T:="StopIteration") (b:=true) ⟨_,Heap.get?_push_size _ rfl,rfl⟩ isSubtype_stop ?_
 exact wpAny_pure (q _ (((Heap.SameBut.update ..).extBut.push _).push _))
theorem Z08(hh:A.handled=none)(I:Addr)(ne:d≠I):Walks prog w A I [I,d] [I] es.size (fun i v=>∃e,es[i]? =some e/\v=e.key) (fun i h=>h.IsKeyIter I d i es.size ep/\RawD h d es ep) where
 sub:=fun b hb=>by simp at hb;simp[hb]
 frame:=fun _ _ _ st k=>⟨st.1.at fun o e=>k I (by simp) o e,let⟨o,e,r⟩:=st.2;⟨o,k d (by simp) o e,r⟩⟩
 item:=fun i s Q E hi st q=>by
  refine Z48 st.1 st.2 (Array.getElem?_eq_getElem hi) fun h' t b=> ?_
  refine q _ h' s.toks ⟨_,Array.getElem?_eq_getElem hi,rfl⟩ ⟨t,let⟨o,e,r⟩:=st.2;⟨o,b.extBut _ _ ne e,r⟩⟩ fun c o hc e=>b.extBut c o (fun z=>hc (by simp[z])) e
 done:=fun s Q E st q=>Z71 hh st.1 st.2 (by simp) fun h' b=>q h' s.toks fun c o hc e=>b c o (fun z=>hc (by simp[z])) e
 self:=fun _ _ _ _ st q=>wpAny_pyIter_keyiter st.1 q
theorem Z72(ns:(d == sysModules)=false):KdlSrc prog w "dict" d d es.size (fun i v=>∃e,es[i]? =some e/\v=e.key) (fun h=>RawD h d es ep) where
 type:=fun _ m=>m.ty
 there:=fun _ m=>⟨m.lt,m.lt⟩
 keep:=fun _ _ m k=>let⟨o,e,r⟩:=m;⟨o,k d (.inl rfl) o e,r⟩
 notList:=by decide
 notTuple:=by decide
 hint:=fun _ _ _ _ m q=>kdl_hint_dict m.ty q
 iter:=fun _ _ hh m=>⟨_,_,(fun _ _ q=>Z47 ns m q),Z08 hh _ (Nat.ne_of_lt m.lt),⟨⟨_,Heap.get?_push_size _ rfl,rfl,rfl⟩,let⟨o,e,r⟩:=m;⟨o,Heap.get?_push_of_some _ e,r⟩⟩⟩
theorem Z09{acc:Array Value}(h:ItemsOf (fun i v=>∃e,es[i]? =some e/\v=e.key) acc es.size):acc.toList=es.toList.map (·.key):=by
 apply List.ext_getElem?
 intro j
 rw[List.getElem?_map,Array.getElem?_toList,Array.getElem?_toList]
 cases hj:acc[j]? with
 |some v=>
  obtain⟨e,h1,h2⟩:=h.2 j v hj
  rw[h1,h2];rfl
 |none=>
  have:acc.size<=j:=by simpa using hj
  rw[h.1]at this
  rw[Array.getElem?_eq_none this];rfl
theorem QV{Q:Value->Shared->Prop}(hh:A.handled=none)(ns:(d == sysModules)=false)(m:RawD s.heap d es ep)(hz:es.size<=sizeLine)
  (hs:∀(A':Around) (h':Heap) (tk:Nat),(∀b o',s.heap.get? b=some o'->h'.get? b=some o')->
   wpAny (model prog w) A' (Builtin.«list.sort» ⟨[.ref h'.objs.size],[]⟩) (fun fin s'=>∃v,fin=.done (.ret v)/\Q (.ref h'.objs.size) s') E {s with heap:=h'.push (seqObj "list" (es.toList.map (·.key)).toArray 0),toks:=tk}):wpAny (model prog w) A (call (.builtin "sorted") [.ref d]) Q E s:=by
 refine Calls.call_function_entry kind_sorted plain_sorted entry_sorted (args_sorted1 _) (show wpAny _ _ (Builtin.«sorted» _) _ _ _ from ?_)
 unfold Builtin.«sorted»
 refine wpAny_bind (m:=checkCount "sorted" 1 1 _) (wpAny_pure (wpAny_bind (kdu_collect (A:=A.in1) (Z72 ns) hh m hz fun h' tk acc hk hacc=> ?_)))
 rw[Z09 hacc]
 have hl:(es.toList.map (·.key)).length<=sizeLine:=by simpa using hz
 refine wpAny_bind (wpAny_newList ?_ hl)
 have hoL:(h'.push (seqObj "list" (es.toList.map (·.key)).toArray 0)).get? h'.objs.size=some (seqObj "list" (es.toList.map (·.key)).toArray 0):=Heap.get?_push_size _ rfl
 refine wpAny_bind (wpAny_holding (wpAny_call_entry slot_list_sort ⟨_,hoL,rfl⟩ entry_list_sort (wpAny_mono (hs _ h' tk hk) (fun fin s' ⟨v,e,q⟩=>⟨v,e,?_⟩) fun _ _ e=>e) (args_list_sort _)))
 exact wpAny_pure ⟨_,rfl,q⟩
end
end PySem
namespace PySem
open PySem.W PyProof.Rows
section
variable{prog:Program}{w:World}{K:Type}[DecidableEq K]{knd:HeapKind prog w K}{A:Around}{E:Value->Shared->Prop}{s:Shared}{d a:Addr}{xs:List (K×Addr×Value)}{k:K}{z:Value}
theorem Z73{Q:Value->Shared->Prop}(hu:knd.room A)(hk:knd.is s.heap k a)(hm:s.heap.DictOfH knd d xs)(q1:∀p,atKey xs k=some p->Q p.2 {s with toks:=s.toks+knd.draws k})
  (q2:atKey xs k=none->∀h',h'.DictOfH knd d (storedH xs k a z)->Heap.SameBut d s.heap h'->Q z {s with heap:=h',toks:=s.toks+knd.draws k}) (hz:xs.length<=sizeLine):
  wpAny (model prog w) A (dictSetDefault d (.ref a) z) Q E s:=by
 obtain⟨o,es,ep,g,gc,gd,ge,gi,gn⟩:=hm
 have hes:es.size<=sizeLine:=by have e:=size_of_entries ge;omega
 unfold dictSetDefault
 try with_reducible refine wpAny_holding ?_
 refine wpAny_bind (knd.pyHash hu hk (wpAny_bind (wpAny_dictFind_heap (s:={s with toks:=s.toks+knd.draws k}) hu hk g gd ge gi gn (fun no=> ?_) fun j p hj=> ?_)))
 ·have e0:=atKey_none_of_get no
  have out:k∉xs.map (·.1):=not_mem_keys_of_get no
  refine wpAny_bind (wpAny_rule (wpAny_bind (wpAny_updateDictKeys (hz:=hes) (s:={s with toks:=s.toks+knd.draws k}) g gd (wpAny_pure (q2 e0 _ ?_ (Heap.SameBut.update ..))))))
  refine⟨_,_,ep+1,Heap.get?_update_self _ g (Obj.isFreed_of_dict (Obj.data_mapDictKeys gd _)),gc.mapDictKeys _,Obj.data_mapDictKeys gd _,?_⟩
  rw[storedH_new e0]
  refine⟨by simp[ge,entryOfKey],fun x hx=> ?_,?_⟩
  ·have:knd.is s.heap x.1 x.2.1:=by
    rcases List.mem_append.mp hx with hx|hx
    ·exact gi x hx
    ·cases List.mem_singleton.mp hx;exact hk
   exact knd.keeps this g gd (Heap.SameBut.update ..)
  ·rw[List.map_append]
   refine List.nodup_append.mpr ⟨gn,by simp,fun x hx y hy e=>out ?_⟩
   have:y=k:=by simpa using hy
   rw[←this,←e];exact hx
 ·refine wpAny_bind (wpAny_dictEntries (s:={s with toks:=s.toks+knd.draws k}) g gd ?_)
  rw[entry_at ge j,hj]
  exact wpAny_bind (wpAny_rule (wpAny_pure (q1 p (atKey_of_get gn hj))))
theorem Z74{Q:Value->Shared->Prop}(hu:knd.room A.in1)(hk:knd.is s.heap k a)(ns:(d == sysModules)=false)(hm:s.heap.DictOfH knd d xs)(hargs:argsOk "dict.setdefault" ⟨[.ref d, .ref a,z],[]⟩)(q1:∀p,atKey xs k=some p->Q p.2 {s with toks:=s.toks+knd.draws k})
  (q2:atKey xs k=none->∀h',h'.DictOfH knd d (storedH xs k a z)->Heap.SameBut d s.heap h'->Q z {s with heap:=h',toks:=s.toks+knd.draws k}) (hz:xs.length<=sizeLine):
  wpAny (model prog w) A (call (.builtin "dict.setdefault") [.ref d, .ref a,z]) Q E s:=by
 refine wpAny_call_entry PySem.F.slot_dict_setdefault hm.typeIs PySem.F.entry_dict_setdefault ?_ hargs
 unfold Builtin.«dict.setdefault»;refine wpAny_bind ?_
 unfold Builtin.Dict.keyAndDefault;refine wpAny_bind (wpAny_notOrdered_dict hm.typeIs ?_)
 refine(show wpAny _ _ (pure (d,Value.ref a,some z)) _ _ s from wpAny_pure ?_)
 show wpAny _ _ (if(d == sysModules)=true then _ else(dictSetDefault d (.ref a) z>>=_)) _ _ s
 rw[if_neg (by simp[ns])]
 exact wpAny_bind (Z73 hu hk hm (fun p e=>wpAny_pure ⟨_,rfl,q1 p e⟩) (fun e h' m b=>wpAny_pure ⟨_,rfl,q2 e h' m b⟩) hz)
end
end PySem
namespace L3
open PySem PySem.Spec L2
open PyProof.Rows hiding St
abbrev KVs:=List (List Int×List (List Int))
def Y6(t:List Int):D:=.tup (t.map .int)
def lsI(ts:List (List Int)):D:=.lst (ts.map Y6)
def ZG(kvs:KVs)(k:List Int):Option (List (List Int)):=(kvs.find? fun p=>decide (p.1=k)).map (·.2)
def dgD:D->D->R D
 | .dct kvs, .tup xs=>match ZF xs with
  |some k=>match ZG kvs k with
   |some ts=>.ok (lsI ts)
   |none=>.bad
  |none=>.bad
 |_,_=>.bad
theorem Z49(d e:D):dgD d e=.bad\/∃kvs k ts,d=.dct kvs/\e=Y6 k/\ZG kvs k=some ts/\dgD d e=.ok (lsI ts):=by
 unfold dgD
 split
 ·rename_i kvs xs
  split
  ·rename_i k hk
   split
   ·rename_i ts ht
    exact .inr ⟨kvs,k,ts,rfl,by rw[Yt hk];rfl,ht,rfl⟩
   ·exact .inl rfl
  ·exact .inl rfl
 ·exact .inl rfl
section
variable{K:PySem.W.Frag}{G:Addr->Prop}{H:Hp}
theorem UM{k:List Int}{v:V}(h:Rep K G H (Y6 k) v):∃b,v=.ref b/\SqT K H b (k.map V.int):=by
 obtain⟨a,xs,rfl,s,r⟩:=h.tup_of
 rw[Yl _ r]at s
 exact⟨a,rfl,s⟩
theorem UN{k:List Int}{b:Addr}(s:SqT K H b (k.map V.int)):Rep K G H (Y6 k) (.ref b):=Rep.tup s (WB _)
theorem LTI.rep{ts:List (List Int)}{v:V}(h:LTI K G H ts v):Rep K G H (lsI ts) v:=by
 obtain⟨b,xs,rfl,l,p⟩:=h
 have r:RepL K G H (ts.map Y6) xs:=by
  clear l
  induction p with
  |nil=>exact RepL.nil
  |cons q _ ih=>
   obtain⟨c,rfl,s⟩:=q
   exact RepL.cons (UN s) ih
 unfold lsI
 simp only[Rep]
 exact⟨b,xs,rfl,l,r⟩
end
theorem Z0a(k:List Int):(k.map (Sum.inl:Int->Key)).map kV=k.map V.int:=by rw[List.map_map];rfl
theorem U1{k l:List Int}(h:k.map (Sum.inl:Int->Key)=l.map Sum.inl):k=l:=by
 have:=congrArg (List.map fun(x:Key)=>match x with| .inl i=>i| .inr _=>0) h
 simpa[List.map_map,Function.comp_def]using this
theorem Z9s{K:PySem.W.Frag}{G:Addr->Prop}{H:Hp}{k:List Int}:∀{kvs:KVs} {es:List (List Key×V)} {ts:List (List Int)},Paired (fun(p:List Int×List (List Int)) (q:List Key×V)=>q.1=p.1.map Sum.inl/\LTI K G H p.2 q.2) kvs es->ZG kvs k=some ts->∃v,YJ es (k.map Sum.inl)=some v/\LTI K G H ts v:=by
 intro kvs es ts p h
 induction p with
 |nil=>cases h
 | @cons a b as bs q _ ih=>
  unfold ZG at h
  rw[List.find?_cons]at h
  by_cases e:a.1=k
  ·rw[decide_eq_true e]at h
   cases h
   exact⟨b.2,Yp (by rw[q.1,e]),q.2⟩
  ·rw[decide_eq_false e]at h
   obtain⟨v,h1,h2⟩:=ih h
   exact⟨v,by rw[Yq (by rw[q.1];exact fun z=>e (U1 z))];exact h1,h2⟩
section
variable{X:Cx}
theorem Zci{pins:List (Addr×Obj)}{σ:St}{H:Hp}{s:Shared}{b:Addr}{k:List Int}(I:Inv X pins σ H s)(h:SqT X.K H b (k.map V.int)):(tupleKind (Yh X.prog X.w)).is s.heap (k.map Sum.inl) b:=by
 obtain⟨its,r,⟨o,e,c,n,d⟩,_⟩:=I.tuple h
 rw[←Z0a]at r
 exact⟨o,its.toArray,n,e,c,d,by simpa using Qt r⟩
theorem ixk(hu:X.A.units+1<cLine):IxD X dgD:=by
 intro value slice pins s σ H x y v u Q I rx ry ⟨G,σ',d,e,hG,rd,re,q⟩ hsub
 rcases Z49 d e with z|⟨kvs,k,ts,rfl,rfl,hf,z⟩
 ·rw[z]at q;exact q.elim
 ·rw[z]at q
  obtain⟨a,rfl,es,ha,ga,pp⟩:=rd.dct_of
  obtain⟨b,rfl,sb⟩:=UM re
  cases rx
  cases ry
  obtain⟨w',l,lt⟩:=Z9s pp hf
  obtain⟨_,_,xs,rel,dd⟩:=Z2b I.hok ha
  obtain⟨w2,hw,rw2⟩:=RelO.some_of (v:=w') (o:=(atKey xs (k.map Sum.inl)).map (·.2)) (by rw[←l];exact rel.val _)
  obtain⟨p,hp,hp2⟩:=Option.map_eq_some_iff.mp hw
  have fin:∀tk,EP X pins σ Q w2 {s with toks:=tk}:=fun tk=>⟨w',H,I.tok tk,rw2,q _ H (Same.refl H) lt.rep⟩
  refine subscriptTail_builtinR (x:=w2) dd.typeIs PySem.F.slot_dict_getitem.lookup ?_ hsub
  refine wpAny_getItem_heap (tupleKind_room_in1 hu) (Zci I sb) dd hp ?_
  rw[hp2]
  exact⟨rfl,fin _⟩
theorem QD{a b:Expr}{ma mb:Rho->R D}{pos:Pos}(hu:X.A.units+1<cLine)(ha:PD X a ma)(hb:PD X b mb)(hs:W3 b:=by intro _ _;rfl):PD X (.Subscript a b pos) (bi dgD ma mb):=
 (Z5q (ixk hu) ha hb hs).imp fun σ H Q h=>Wk h
def Yb(kvs:KVs):List D:=kvs.map fun p=>Y6 p.1
def Vr(kvs:KVs):R (List D):=if kvs.length<64 then(if kvs.length<2 then .ok (Yb kvs)else match Xj (Yb kvs)with
 |some ks=>.ok ((YK ks).map fun i=>(Yb kvs).getD i .non)
 |none=>.bad)else .bad
def Z0b:List D->R (List D)
 | [.dct kvs]=>Vr kvs
 |_=>.bad
theorem Z0c(ds:List D):Z0b ds=.bad\/∃kvs,ds=[.dct kvs]/\Z0b ds=Vr kvs:=by
 unfold Z0b
 split
 ·exact .inr ⟨_,rfl,rfl⟩
 ·exact .inl rfl
theorem UO{K:PySem.W.Frag}{G:Addr->Prop}{H:Hp}:∀{kvs:KVs} {es:List (List Key×V)} {xs:List (List Key×Addr×Value)},Paired (fun(p:List Int×List (List Int)) (q:List Key×V)=>q.1=p.1.map Sum.inl/\LTI K G H p.2 q.2) kvs es->KT H es xs->RepL K G H (Yb kvs) (xs.map fun x=>V.ref x.2.1):=by
 intro kvs es xs p r
 induction p generalizing xs with
 |nil=>cases r;exact RepL.nil
 | @cons a b as bs q _ ih=>
  cases r with
  |cons z t=>
   refine RepL.cons ?_ (ih t)
   refine UN (SqT.of ?_)
   rw[z.2.1,q.1,Z0a]
theorem QE:∀xs:List (List Key×Addr×Value),Vals (xs.map fun x=>V.ref x.2.1) (xs.map fun x=>Value.ref x.2.1)
 | []=>.nil
 |_::xs=>.cons rfl (QE xs)
theorem Z0d(hh:X.A.handled=none):Uu X (.builtin "sorted") Z0b:=by
 intro pins s σ H xs us Q I r ⟨G,σ',ds,hG,rd,q⟩
 rcases Z0c ds with e|⟨kvs,e0,e⟩<;>rw[e]at q
 ·exact q.elim
 rw[e0]at rd
 obtain⟨x,rfl,rx⟩:=ZY rd
 obtain⟨a,rfl,es,ha,ga,pp⟩:=rx.dct_of
 obtain⟨u,rfl,ru⟩:=YE r
 cases ru
 obtain⟨hz,ns,ks0,rel,dd⟩:=Z2b I.hok ha
 have ry:=UO pp rel
 have rv:=QE ks0
 obtain⟨o,ents,ep,g,gc,gd,ge,gi,gn⟩:=dd
 have ek:ents.toList.map (·.key)=ks0.map fun x=>Value.ref x.2.1:=by rw[ge,List.map_map];rfl
 have hsz:ents.size=ks0.length:=size_of_entries ge
 have hl0:=Paired.length rel
 have hly:=ry.length
 generalize hvs:(ks0.map fun x=>V.ref x.2.1)=vs at ry rv hly
 generalize hits:(ks0.map fun x=>Value.ref x.2.1)=its at rv ek
 have hl:=rv.length
 have hvl:vs.length=ks0.length:=by rw[←hvs];simp
 have hkl:(Yb kvs).length=kvs.length:=by simp[Yb]
 refine QV hh ns ⟨o,g,gc,gd⟩ (by omega) fun A' h' tk kp=> ?_
 rw[ek]
 have I1:Inv X pins σ H {s with heap:=h',toks:=tk}:=I.kept (t':=tk) kp
 have hf:H h'.objs.size=none:=I1.fresh
 have hoL:(h'.push (seqObj "list" its.toArray 0)).get? h'.objs.size=some (seqObj "list" its.toArray 0):=Heap.get?_push_size _ rfl
 have fin:∀(zs:List V) (ows:List Value) (out:List D),Vals zs ows->zs.length<=sizeLine->Vr kvs=.ok out->RepL X.K G H out zs->
   EP X pins σ Q (.ref h'.objs.size) {s with heap:=sortedHeap (h'.push (seqObj "list" its.toArray 0)) h'.objs.size its ows.toArray,toks:=tk}:=by
  intro zs ows out rz hzz eo ro
  rw[eo]at q
  obtain⟨e,he⟩:=sortedHeap_at (out:=ows.toArray) hoL
  have hk:∀b ob,h'.get? b=some ob->(sortedHeap (h'.push (seqObj "list" its.toArray 0)) h'.objs.size its ows.toArray).get? b=some ob:=fun b ob eb=>by
   rw[sortedHeap_old (Nat.ne_of_lt (Heap.lt_size eb)) (by rw[size_push'];exact Nat.lt_succ_of_lt (Heap.lt_size eb))]
   exact Heap.get?_push_of_some _ eb
  have gg:=Zv hf (.lst zs)
  exact⟨.ref _,_,I1.laid (t':=tk) (o:=.lst zs) hk (Nat.le_refl _) ⟨hzz,ows,e,rz,he⟩,rfl,q _ _ gg ⟨_,zs,rfl,hf,Zi,(ro.off hf).same gg⟩⟩
 unfold Vr at q fin
 by_cases h64:kvs.length<64
 ·rw[if_pos h64]at q fin
  by_cases h2:kvs.length<2
  ·simp only[h2,if_true]at q fin
   refine Wz (s:={s with heap:=h'.push (seqObj "list" its.toArray 0),toks:=tk}) hoL (by omega) ⟨_,rfl,?_⟩
   exact fin vs its _ rv (by rw[sizeLine_eq];omega) rfl ry
  ·simp only[h2,if_false]at q fin
   cases ht:Xj (Yb kvs)with
   |none=>rw[ht]at q;exact q.elim
   |some ks=>
    rw[ht]at q fin
    have T0:=Q9 I1 ht ry rv
    have hkl2:=T0.len
    refine Vp (ks:=ks) (s:={s with heap:=h'.push (seqObj "list" its.toArray 0),toks:=tk}) hoL (fun h2 k2=>T0.keeps fun b ob eb=>k2 b ob (Nat.ne_of_lt (Heap.lt_size eb)) (Heap.get?_push_of_some _ eb)) (by omega) (by omega) ⟨_,rfl,?_⟩
    have lt1:∀i∈YK ks,i<vs.length:=fun i hi=>by have:=Xx i hi;omega
    have lt2:∀i∈YK ks,i<(Yb kvs).length:=fun i hi=>by have:=Xx i hi;omega
    have hzl:((YK ks).map fun i=>vs.getD i V.non).length<=sizeLine:=by
     rw[List.length_map,(Xy ks).length_eq,List.length_range,sizeLine_eq];omega
    exact fin ((YK ks).map fun i=>vs.getD i .non) ((YK ks).map fun i=>its.getD i .none) _ (Vals.pick rv _ lt1) hzl rfl (RepL.pick ry _ lt2)
 ·rw[if_neg h64]at q;exact q.elim
end
end L3
namespace L3
open PySem PySem.Spec L2
open PyProof.Rows hiding St
def YG:KVs->List Int->List Int->KVs
 | [],k,t=>[(k,[t])]
 |p::r,k,t=>if p.1=k then(p.1,p.2++[t])::r else p::YG r k t
theorem UP{k t:List Int}:∀{kvs:KVs},ZG kvs k=none->YG (kvs++[(k,[])]) k t=YG kvs k t
 | [],_=>by simp[YG]
 |p::r,h=>by
  unfold ZG at h
  rw[List.find?_cons]at h
  by_cases e:p.1=k
  ·rw[decide_eq_true e]at h;cases h
  ·rw[decide_eq_false e]at h
   rw[List.cons_append]
   unfold YG
   rw[if_neg e,if_neg e,UP h]
theorem QF{k t:List Int}:∀(kvs:KVs),(YG kvs k t).map (·.1)=if(ZG kvs k).isSome=true then kvs.map (·.1)else kvs.map (·.1)++[k]
 | []=>rfl
 |p::r=>by
  unfold YG ZG
  rw[List.find?_cons]
  by_cases e:p.1=k
  ·rw[if_pos e,decide_eq_true e];rfl
  ·rw[if_neg e,decide_eq_false e,List.map_cons,QF r]
   unfold ZG
   split<;>rfl
theorem Xz{k:List Int}:∀(kvs:KVs),ZG kvs k=none->k∉kvs.map (·.1)
 | [],_,h=>by cases h
 |p::r,h,m=>by
  unfold ZG at h
  rw[List.find?_cons]at h
  by_cases e:p.1=k
  ·rw[decide_eq_true e]at h;cases h
  ·rw[decide_eq_false e]at h
   rcases List.mem_cons.mp m with z|z
   ·exact e z.symm
   ·exact Xz r h z
theorem UQ{k:List Int}{l:List (List Int)}(nd:l.Nodup)(h:k∉l):(l++[k]).Nodup:=by
 refine List.nodup_append.mpr ⟨nd,by simp,fun a ha b hb e=>h ?_⟩
 rw[←List.mem_singleton.mp hb,←e];exact ha
theorem Z9t{k t:List Int}{kvs:KVs}(nd:(kvs.map (·.1)).Nodup):((YG kvs k t).map (·.1)).Nodup:=by
 rw[QF]
 cases h:ZG kvs k with
 |some ts=>exact nd
 |none=>exact UQ nd (Xz kvs h)
theorem QW{α β:Type}{F:α->β->Prop}{a:α}{b:β}(h:F a b):∀{l:List α} {m:List β},Paired F l m->Paired F (l++[a]) (m++[b])
 |_,_, .nil=>.cons h .nil
 |_,_, .cons q t=>.cons q (QW h t)
section
variable{K:PySem.W.Frag}{H:Hp}
theorem Z0e{q:Addr}{xs ys:List V}(hq:H q=some (.lst xs)){a:Addr}{zs:List V}(h:SqT K H a zs):SqT K (L2.upd H q (.lst ys)) a zs:=by
 rcases h with(h|⟨o,h⟩)|h
 ·exact .inl (.inl (by rw[Zm (fun e=>by rw[e,hq]at h;cases h)];exact h))
 ·exact .inl (.inr ⟨o,by rw[Zm (fun e=>by rw[e,hq]at h;cases h)];exact h⟩)
 ·exact .inr h
theorem OwnK.upd{k:List Int}{v:V}:∀(kvs:KVs) {es:List (List Key×V)} {qs:List Addr},qs.Nodup->OwnK K H kvs es qs->YJ es (k.map Sum.inl)=some v->
  ∃q xs ts,v=.ref q/\q∈qs/\H q=some (.lst xs)/\Paired (TI K H) ts xs/\ZG kvs k=some ts/\∀t w,TI K H t w->OwnK K (L2.upd H q (.lst (xs++[w]))) (YG kvs k t) es qs
 | [],es,qs,_,h,e=>by rw[h.1]at e;cases e
 |(k',ts')::r,es,qs,nd,⟨q,t,xs,es',e1,e2,h1,h2,h3⟩,e=>by
  subst e1 e2
  by_cases hk:k'=k
  ·subst hk
   rw[Yp (p:=(k'.map Sum.inl,V.ref q)) rfl]at e
   cases e
   refine⟨q,xs,ts',rfl,List.mem_cons_self,h1,h2,by simp[ZG],fun tt w hw=> ?_⟩
   unfold YG
   rw[if_pos rfl]
   refine⟨q,t,xs++[w],es',rfl,rfl,Zi,?_,OwnK.mono (fun a zs z=>Z0e h1 z) r (fun z hz=> ?_) h3⟩
   ·exact Paired.imp' (fun _ _ ⟨c,e,s⟩=>⟨c,e,Z0e h1 s⟩) (QW hw h2)
   ·exact Zm fun e=>(List.nodup_cons.mp nd).1 (by rw[←e];exact hz)
  ·rw[Yq (p:=(k'.map Sum.inl,V.ref q)) (fun z=>hk (U1 z))]at e
   obtain⟨q2,ys,ts,ev,hm,g1,g2,g3,g4⟩:=OwnK.upd r (List.nodup_cons.mp nd).2 h3 e
   refine⟨q2,ys,ts,ev,List.mem_cons_of_mem _ hm,g1,g2,?_,fun tt w hw=> ?_⟩
   ·unfold ZG
    rw[List.find?_cons,decide_eq_false hk]
    exact g3
   ·unfold YG
    rw[if_neg hk]
    have ne:q≠q2:=fun e=>(List.nodup_cons.mp nd).1 (by rw[e];exact hm)
    exact⟨q,t,xs,es',rfl,rfl,by rw[Zm ne];exact h1,Paired.imp' (fun _ _ ⟨c,e,s⟩=>⟨c,e,Z0e g1 s⟩) h2,g4 tt w hw⟩
theorem OwnK.no{k:List Int}:∀(kvs:KVs) {es:List (List Key×V)} {qs:List Addr},OwnK K H kvs es qs->YJ es (k.map Sum.inl)=none->ZG kvs k=none
 | [],es,qs,_,_=>rfl
 |(k',ts')::r,es,qs,⟨q,t,xs,es',e1,e2,_,_,h3⟩,e=>by
  subst e1 e2
  by_cases hk:k'=k
  ·subst hk
   rw[Yp (p:=(k'.map Sum.inl,V.ref q)) rfl]at e
   cases e
  ·rw[Yq (p:=(k'.map Sum.inl,V.ref q)) (fun z=>hk (U1 z))]at e
   unfold ZG
   rw[List.find?_cons,decide_eq_false hk]
   exact OwnK.no r h3 e
theorem OwnK.snoc{k:List Int}{q:Addr}{H':Hp}(hq:H' q=some (.lst []))(ht:∀a xs,SqT K H a xs->SqT K H' a xs):∀(kvs:KVs) {es:List (List Key×V)} {qs:List Addr},(∀z∈qs,H' z=H z)->OwnK K H kvs es qs->OwnK K H' (kvs++[(k,[])]) (es++[(k.map Sum.inl, .ref q)]) (qs++[q])
 | [],es,qs,_,h=>by rw[h.1,h.2];exact⟨q,[],[],[],rfl,rfl,hq, .nil,rfl,rfl⟩
 |(k',ts')::r,es,qs,hz,⟨q',t,xs,es',e1,e2,h1,h2,h3⟩=>by
  subst e1 e2
  exact⟨q',t++[q],xs,es'++[(k.map Sum.inl, .ref q)],rfl,rfl,by rw[hz q' List.mem_cons_self];exact h1,Paired.imp' (fun _ _ ⟨c,e,s⟩=>⟨c,e,ht _ _ s⟩) h2,OwnK.snoc hq ht r (fun z y=>hz z (List.mem_cons_of_mem _ y)) h3⟩
end
section
variable{K:PySem.W.Frag}{G O:Addr->Prop}{τ:Tau}{σ:St}{H:Hp}
theorem StOk.newT(S:StOk K G O τ σ H){i:Nat}{p:Addr}(hn:H p=none):∃O',StOk K G O' (τ.set i (some (.dc []))) (σ.set i (some (.ref p))) (L2.upd H p (.dT []))/\Tr O H O' (L2.upd H p (.dT [])):=by
 obtain⟨F,P⟩:=S.fps
 have e:=Zv hn (.dT [])
 exact⟨_,S.step P (fun b o q _=>e b o q) (fun b q=>e.free q) (f:=[p]) (by simp) (fun q hq=>.inr (by rw[List.mem_singleton.mp hq];exact hn)) (sl:=.dc []) (v:=.ref p) ⟨p,[],[],rfl,rfl,Zi,⟨rfl,rfl⟩,List.nodup_nil⟩⟩
theorem StOk.newK(S:StOk K G O τ σ H){i:Nat}{p:Addr}{k:List Int}(hn:H p=none):∃O',StOk K G O' (τ.set i (some (.tk k))) (σ.set i (some (.ref p))) (L2.upd H p (.tup (k.map V.int)))/\Tr O H O' (L2.upd H p (.tup (k.map V.int))):=by
 obtain⟨F,P⟩:=S.fps
 have e:=Zv hn (.tup (k.map V.int))
 exact⟨_,S.step P (fun b o q _=>e b o q) (fun b q=>e.free q) (f:=[]) (by simp) (fun q hq=>by cases hq) (sl:=.tk k) (v:=.ref p) ⟨p,rfl,rfl,Zi⟩⟩
theorem UR{i:Nat}{v:V}(h:σ[i]? =some (some v)):σ.set i (some v)=σ:=by
 apply List.ext_getElem?
 intro j
 by_cases hij:i=j
 ·subst hij
  rw[List.getElem?_set_self (List.getElem?_eq_some_iff.mp h).1,h]
 ·rw[List.getElem?_set_ne hij]
theorem StOk.dc(S:StOk K G O τ σ H){i:Nat}{kvs:KVs}(h:τ[i]? =some (some (.dc kvs))):∃p qs es,σ[i]? =some (some (.ref p))/\H p=some (.dT es)/\(p::qs).Nodup/\OwnK K H kvs es qs/\(kvs.map (·.1)).Nodup:=by
 obtain⟨F,P⟩:=S.fps
 obtain⟨v,h1,p,qs,es,rfl,ef,h2,h3⟩:=P.at_ i _ h
 have:=P.nd i
 rw[ef]at this
 exact⟨p,qs,es,h1,h2,this,h3⟩
theorem StOk.tk(S:StOk K G O τ σ H){i:Nat}{k:List Int}(h:τ[i]? =some (some (.tk k))):∃p,σ[i]? =some (some (.ref p))/\H p=some (.tup (k.map V.int)):=by
 obtain⟨F,P⟩:=S.fps
 obtain⟨v,h1,p,rfl,_,h2⟩:=P.at_ i _ h
 exact⟨p,h1,h2⟩
theorem StOk.appK(S:StOk K G O τ σ H){i:Nat}{kvs:KVs}{k t:List Int}{w v:V}{p:Addr}{es:List (List Key×V)}(h:τ[i]? =some (some (.dc kvs)))(hp:σ[i]? =some (some (.ref p)))(he:H p=some (.dT es))(hv:YJ es (k.map Sum.inl)=some v)(hw:TI K H t w):
  ∃q xs,v=.ref q/\H q=some (.lst xs)/\∃O',StOk K G O' (τ.set i (some (.dc (YG kvs k t)))) σ (L2.upd H q (.lst (xs++[w])))/\Tr O H O' (L2.upd H q (.lst (xs++[w]))):=by
 obtain⟨F,P⟩:=S.fps
 obtain⟨v',h1,p',qs,es',ev,ef,h2,h3,kn⟩:=P.at_ i _ h
 rw[hp]at h1
 cases h1
 cases ev
 rw[he]at h2
 cases h2
 have nd:=P.nd i
 rw[ef]at nd
 obtain⟨q,xs,ts,rfl,hm,g1,g2,g3,g4⟩:=OwnK.upd kvs (List.nodup_cons.mp nd).2 h3 hv
 have hqF:q∈F i:=by rw[ef];exact List.mem_cons_of_mem _ hm
 have hqp:p≠q:=fun e=>(List.nodup_cons.mp nd).1 (by rw[e];exact hm)
 refine⟨q,xs,rfl,g1,?_⟩
 have z:=S.step P (H':=L2.upd H q (.lst (xs++[w]))) (i:=i) (f:=p::qs) (sl:=.dc (YG kvs k t)) (v:=.ref p) (fun b o e nb=>by
   rw[Zm]
   ·exact e
   ·intro z;subst z;exact nb hqF) (fun b e=>by
   by_cases z:b=q
   ·subst z;rw[Zi]at e;cases e
   ·rw[Zm z]at e;exact e) nd (fun c hc=>.inl (by rw[ef];exact hc)) ⟨p,qs,es,rfl,rfl,by rw[Zm hqp];exact he,g4 t w hw,Z9t kn⟩
 rw[UR hp]at z
 exact⟨_,z⟩
theorem StOk.sdf(S:StOk K G O τ σ H){i:Nat}{kvs:KVs}{k:List Int}{p q:Addr}{es:List (List Key×V)}(h:τ[i]? =some (some (.dc kvs)))(hp:σ[i]? =some (some (.ref p)))(he:H p=some (.dT es))(hq:H q=none)(no:ZG kvs k=none):
  ∃O',StOk K G O' (τ.set i (some (.dc (kvs++[(k,[])])))) σ (L2.upd (L2.upd H q (.lst [])) p (.dT (es++[(k.map Sum.inl, .ref q)])))/\Tr O H O' (L2.upd (L2.upd H q (.lst [])) p (.dT (es++[(k.map Sum.inl, .ref q)]))):=by
 obtain⟨F,P⟩:=S.fps
 obtain⟨v',h1,p',qs,es',ev,ef,h2,h3,kn⟩:=P.at_ i _ h
 rw[hp]at h1
 cases h1
 cases ev
 rw[he]at h2
 cases h2
 have nd:=P.nd i
 rw[ef]at nd
 have hqp:q≠p:=fun e=>by rw[e,he]at hq;cases hq
 have hqs:q∉qs:=fun z=>by
  obtain⟨xs,y⟩:=OwnK.isL kvs h3 q z
  rw[hq]at y;cases y
 have same:∀b o,H b=some o->b≠p->L2.upd (L2.upd H q (.lst [])) p (.dT (es++[(k.map Sum.inl, .ref q)])) b=some o:=fun b o e nb=>by
  rw[Zm nb,Zm (fun z=>by rw[z,hq]at e;cases e)];exact e
 have z:=S.step P (H':=L2.upd (L2.upd H q (.lst [])) p (.dT (es++[(k.map Sum.inl, .ref q)]))) (i:=i) (f:=p::(qs++[q])) (sl:=.dc (kvs++[(k,[])])) (v:=.ref p) (fun b o e nb=>same b o e fun z=>nb (by rw[ef,z];exact List.mem_cons_self)) (fun b e=>by
   by_cases z:b=p
   ·subst z;rw[Zi]at e;cases e
   ·rw[Zm z]at e
    by_cases y:b=q
    ·subst y;exact hq
    ·rw[Zm y]at e;exact e) (by
   rw[List.nodup_cons]at nd ⊢
   refine⟨fun z=> ?_,List.nodup_append.mpr ⟨nd.2,by simp,fun a ha b hb e=>hqs ?_⟩⟩
   ·rcases List.mem_append.mp z with z|z
    ·exact nd.1 z
    ·exact hqp (List.mem_singleton.mp z).symm
   ·rw[←List.mem_singleton.mp hb,←e];exact ha) (fun c hc=>by
   rcases List.mem_cons.mp hc with rfl|hc
   ·exact .inl (by rw[ef];exact List.mem_cons_self)
   ·rcases List.mem_append.mp hc with hc|hc
    ·exact .inl (by rw[ef];exact List.mem_cons_of_mem _ hc)
    ·rw[List.mem_singleton.mp hc];exact .inr hq) ⟨p,qs++[q],_,rfl,rfl,Zi,OwnK.snoc (H':=L2.upd (L2.upd H q (.lst [])) p (.dT (es++[(k.map Sum.inl, .ref q)]))) (by rw[Zm hqp];exact Zi) (fun a zs s=> ?_) kvs (fun c hc=> ?_) h3,by rw[List.map_append];exact UQ kn (Xz kvs no)⟩
 ·rw[UR hp]at z
  exact⟨_,z⟩
 ·rcases s with(s|⟨o,s⟩)|s
  ·exact .inl (.inl (same _ _ s fun e=>by rw[e,he]at s;cases s))
  ·exact .inl (.inr ⟨o,same _ _ s fun e=>by rw[e,he]at s;cases s⟩)
  ·exact .inr s
 ·obtain⟨xs,y⟩:=OwnK.isL kvs h3 c hc
  rw[y,same c _ y fun e=>(List.nodup_cons.mp nd).1 (by rw[←e];exact hc)]
end
end L3
namespace L3
open PySem PySem.Spec L2
open PyProof.Rows hiding St
section
variable{X:Cx}{pos:Pos}
def Z75(i:Nat):Tau->Fl:=fun τ=>.nx (τ.set i (some (.dc [])))
theorem Zcj{i:Nat}{x:Str}{pos' p:Pos}(hN:ndB X.N=true:=by kernel_rfl)(hi:X.N[i]? =some x:=by rfl)(hx:Loc X.env.scope x:=by first|exact Or.inl rfl|exact Or.inr rfl)(hs:swapsWith (.Dict [] [] p) (some (.Name x pos')) pos.line X.env=pure false:=by rfl)
  (hf:X.fn x=true\/X.env.scope.names.lookup x=some .local:=by first|exact .inl rfl|exact .inr rfl):PSD X (.Assign [.Name x pos'] (.Dict [] [] p) pos) (Z75 i):=
 (Wc (XJ hN) hi hx Z5w hs hf).imp fun E σ H ⟨G,O,τ,S,q⟩ a ha=>by
  obtain⟨O',s1,t1⟩:=S.newT (i:=i) ha
  exact q O' _ _ t1 s1
def Vs(j:Nat)(m:Rho->R (List D)):Tau->Fl:=fun τ=>match m (ZH τ)with
 | .ok ds=>match ZF ds with
  |some k=>if k.length<=sizeLine then .nx (τ.set j (some (.tk k)))else .bad
  |none=>.bad
 | .ex c=>.ex c τ
 | .bad=>.bad
theorem Zck{j:Nat}{x:Str}{es:List Expr}{m:Rho->R (List D)}{pos' p:Pos}{x1}(h:PDA X es m)(hN:ndB X.N=true:=by kernel_rfl)(hi:X.N[j]? =some x:=by rfl)(hx:Loc X.env.scope x:=by first|exact Or.inl rfl|exact Or.inr rfl)
  (hs:swapsWith (.Tuple es x1 p) (some (.Name x pos')) pos.line X.env=pure false:=by rfl) (hf:X.fn x=true\/X.env.scope.names.lookup x=some .local:=by first|exact .inl rfl|exact .inr rfl):PSD X (.Assign [.Name x pos'] (.Tuple es x1 p) pos) (Vs j m):=
 (Wc (XJ hN) hi hx (Z5m h) hs hf).imp fun E σ H ⟨G,O,τ,S,q⟩=>by
  refine⟨_,ZH τ,S.hid.1,S.hid.2,?_⟩
  unfold Vs at q
  cases hm:m (ZH τ)with
  |ok ds=>
   rw[hm]at q
   dsimp only at q
   intro vs H1 e rl
   cases hk:ZF ds with
   |none=>rw[hk]at q;exact q.elim
   |some k=>
    rw[hk]at q
    have em:=Yt hk
    subst em
    have ev:=Yl _ rl
    subst ev
    by_cases hl:k.length<=sizeLine
    ·simp only[hl,if_true]at q
     refine⟨by simpa using hl,fun a ha=> ?_⟩
     obtain⟨O',s1,t1⟩:=(S.same e).newK (i:=j) (k:=k) ha
     exact q O' _ _ ((Tr.of_same e).trans t1) s1
    ·simp only[hl,if_false]at q;exact q.elim
  |ex c=>rw[hm]at q;exact EndsOk.xq q S
  |bad=>rw[hm]at q;exact q.elim
def rSdf:V->List V->Hp->VK->Prop:=fun x xs H Q=>∃(a b:Addr) (z:V) (kvs:List (List Key×V)) (k:List Key),x=.ref a/\xs=[.ref b,z]/\H a=some (.dT kvs)/\H b=some (.tup (k.map kV))/\kvs.length<sizeLine/\(∀v,YJ kvs k=some v->Q v H)/\(YJ kvs k=none->Q z (L2.upd H a (.dT (kvs++[(k,z)]))))
theorem Z4a(hu:X.A.units+1<cLine):MtR X "dict.setdefault" rSdf:=by
 intro pins s σ H x xs v us Q I rx rv h
 obtain⟨a,b,z,kvs,k,rfl,rfl,ha,hb,hl,q1,q2⟩:=h
 cases rx
 obtain⟨u,w',rfl,ru,rz⟩:=Z25 rv
 cases ru
 obtain⟨hz,ns,ks0,rel,dd⟩:=Z2b I.hok ha
 have val:=rel.val k
 have hlen:=Paired.length rel
 refine Z74 (tupleKind_room_in1 hu) (Z5u I.hok hb) ns dd (PySem.F.args_dict_setdefault_3 _ _ _) (fun p hp=> ?_) (fun hn h' dd' hs=> ?_) (by omega)
 ·rw[hp]at val
  cases hv:YJ kvs k with
  |none=>rw[hv]at val;exact val.elim
  |some v=>rw[hv]at val;exact⟨v,H,I.tok _,val,q1 v hv⟩
 ·rw[hn]at val
  cases hv:YJ kvs k with
  |some v=>rw[hv]at val;exact val.elim
  |none=>
   refine⟨z,_,?_,rz,q2 hv⟩
   rw[←Z5t z hv]
   have hl2:(Wg kvs k z).length<=sizeLine:=by have:=Ut kvs k z;omega
   obtain⟨o,es,ep,hq,h2,h3,h4,_,h5⟩:=dd'
   refine Z8z I (by rw[ha];exact True.intro) hs ⟨o,hq⟩ ⟨hl2,ns,_,(rel.put k hb rz).keeps fun c ys ec=> ?_,o,es,ep,hq,h2,h3,h4,h5⟩
   exact(Zm (Zdo ec ha (fun z=>nomatch z))).trans ec
end
end L3
namespace L3
open PySem PySem.Spec L2
open PyProof.Rows hiding St
def Z76:D->Option (List Int)
 | .tup xs=>ZF xs
 |_=>none
theorem Z9u{d:D}{t:List Int}(h:Z76 d=some t):d=Y6 t:=by
 unfold Z76 at h
 split at h
 ·rw[Yt h];rfl
 ·cases h
def Xd(kvs:KVs):Bool:=decide (kvs.length<1000)&&kvs.all fun p=>decide (p.2.length<1000)
theorem US{kvs:KVs}{k:List Int}{ts:List (List Int)}(h:Xd kvs=true)(f:ZG kvs k=some ts):ts.length<1000:=by
 unfold Xd at h
 rw[Bool.and_eq_true]at h
 obtain⟨p,hp,rfl⟩:=Option.map_eq_some_iff.mp f
 exact of_decide_eq_true (List.all_eq_true.mp h.2 p (List.mem_of_find?_eq_some hp))
theorem WF{k:List Int}:∀{kvs:KVs},ZG kvs k=none->ZG (kvs++[(k,[])]) k=some []
 | [],_=>by simp[ZG]
 |p::r,h=>by
  unfold ZG at h ⊢
  rw[List.cons_append,List.find?_cons]
  rw[List.find?_cons]at h
  by_cases e:p.1=k
  ·rw[decide_eq_true e]at h;cases h
  ·rw[decide_eq_false e]at h ⊢
   exact WF h
theorem OwnK.len{K:PySem.W.Frag}{H:Hp}:∀(kvs:KVs) {es:List (List Key×V)} {qs:List Addr},OwnK K H kvs es qs->es.length=kvs.length
 | [],es,qs,h=>by rw[h.1];rfl
 |_::r,es,qs,⟨q,t,xs,es',e1,e2,_,_,h3⟩=>by
  subst e1 e2
  simp[OwnK.len r h3]
theorem Z4b:1000<=sizeLine:=by rw[sizeLine_eq];decide
def Vt(i j:Nat)(m:Rho->R D):Tau->Fl:=fun τ=>match τ[i]?,τ[j]?,m (ZH τ)with
 |some (some (.dc kvs)),some (some (.tk k)), .ok d=>match Z76 d with
  |some t=>if Xd kvs=true then .nx (τ.set i (some (.dc (YG kvs k t))))else .bad
  |none=>.bad
 |_,_,_=>.bad
theorem Z77{τ:Tau}{i:Nat}{a b:KVs}(h:τ[i]? =some (some (.dc a))):ZH (τ.set i (some (.dc b)))=ZH τ:=by
 unfold ZH
 apply List.ext_getElem?
 intro j
 rw[List.getElem?_map,List.getElem?_map]
 by_cases e:i=j
 ·subst e
  rw[List.getElem?_set_self (List.getElem?_eq_some_iff.mp h).1,h]
  rfl
 ·rw[List.getElem?_set_ne e]
theorem Z78{τ:Tau}{i:Nat}{s:Sl}(h:τ[i]? =some (some s)):τ.set i (some s)=τ:=by
 apply List.ext_getElem?
 intro j
 by_cases hij:i=j
 ·subst hij
  rw[List.getElem?_set_self (List.getElem?_eq_some_iff.mp h).1,h]
 ·rw[List.getElem?_set_ne hij]
section
variable{X:Cx}{pos:Pos}
theorem Zei{i j:Nat}{x y:Str}{e:Expr}{m:Rho->R D}{p1 p2 p3 a1 c1 a2 c2:Pos}(hu:X.A.units+1<cLine)(he:PD X e m)(hi:X.N[i]? =some x:=by rfl)(hj:X.N[j]? =some y:=by rfl)
  (hv:Vis X.env.scope x:=by first|exact Or.inl rfl|exact Or.inr (Or.inl rfl)|exact Or.inr (Or.inr rfl)) (hvy:Vis X.env.scope y:=by first|exact Or.inl rfl|exact Or.inr (Or.inl rfl)|exact Or.inr (Or.inr rfl))
  (hb1:attributeBase (.Name x p1) "setdefault" X.env (eval (.Name x p1) X.env)=eval (.Name x p1) X.env:=by rfl)
  (hb2:attributeBase (.Call (.Attribute (.Name x p1) "setdefault" a1) [.Name y p2, .List [] p3] [] c1) "append" X.env (eval (.Call (.Attribute (.Name x p1) "setdefault" a1) [.Name y p2, .List [] p3] [] c1) X.env)=eval (.Call (.Attribute (.Name x p1) "setdefault" a1) [.Name y p2, .List [] p3] [] c1) X.env:=by rfl)
  (hf1:((backTo c1 (starEach [.Name y p2, .List [] p3] X.env)).all (fun x=> !x.1)&&(backToKw c1 (keywordEach [] X.env)).all (fun x=>x.1.isSome)&&decide ([Expr.Name y p2, .List [] p3].length+([]:List Keyword).length+(if([]:List Keyword).isEmpty then 0 else 1)<30))=true:=by rfl)
  (hf2:((backTo c2 (starEach [e] X.env)).all (fun x=> !x.1)&&(backToKw c2 (keywordEach [] X.env)).all (fun x=>x.1.isSome)&&decide ([e].length+([]:List Keyword).length+(if([]:List Keyword).isEmpty then 0 else 1)<30))=true:=by rfl)
  (hl1:(a1.endLine == c1.line)=true:=by rfl) (hl2:(a2.endLine == c2.line)=true:=by rfl) (hs1:starEach [.Name y p2, .List [] p3] X.env=(false,eval (.Name y p2) X.env)::starEach [.List [] p3] X.env:=by rfl)
  (hs2:starEach [.List [] p3] X.env=(false,eval (.List [] p3) X.env)::starEach [] X.env:=by rfl) (hs:starEach [e] X.env=(false,eval e X.env)::starEach [] X.env:=by rfl) (hp1:(backTo c1 (starEach [.List [] p3] X.env)).any (·.1)=false:=by rfl)
  (hd:(x == ("__debug__":Str))=false:=by decide) (hcd:(x == ("__classdict__":Str))=false:=by decide) (hdy:(y == ("__debug__":Str))=false:=by decide) (hcy:(y == ("__classdict__":Str))=false:=by decide)
  (hsw:swapsWith (.Call (.Attribute (.Call (.Attribute (.Name x p1) "setdefault" a1) [.Name y p2, .List [] p3] [] c1) "append" a2) [e] [] c2) none pos.line X.env=pure false:=by rfl):
  PSD X (.Expr (.Call (.Attribute (.Call (.Attribute (.Name x p1) "setdefault" a1) [.Name y p2, .List [] p3] [] c1) "append" a2) [e] [] c2) pos) (Vt i j m):=
 (Q0 (Ur PySem.F.plainAttrs_list PySem.F.slot_list_append PySem.F.type_list_append Qr
  (Ur PySem.F.plainAttrs_dict PySem.F.slot_dict_setdefault PySem.F.type_dict_setdefault (Z4a hu) (Xm hi hv hd hcd) (Yo (Xm hj hvy hdy hcy) (Yo (Z5n pa_nil) pa_nil hs2) hs1) hb1 hf1 hl1 hs1 hp1)
  (Yo he pa_nil hs) hb2 hf2 hl2 hs) hsw).imp fun E σ H ⟨G,O,τ,S,q⟩=>by
  unfold Vt at q
  split at q
  ·rename_i kvs k d h1 h2 h3
   cases ht:Z76 d with
   |none=>rw[ht]at q;exact q.elim
   |some t=>
   rw[ht]at q
   dsimp only at q
   by_cases hsm:Xd kvs=true
   ·rw[if_pos hsm]at q
    have dt:=Z9u ht
    subst dt
    obtain⟨p,qs,es,hp,hes,nd,own,kn⟩:=S.dc h1
    obtain⟨b,hb,htb⟩:=S.tk h2
    have l0:=Z4b
    have lk:es.length<sizeLine:=by
     have a:=OwnK.len kvs own
     unfold Xd at hsm
     rw[Bool.and_eq_true]at hsm
     have:=of_decide_eq_true hsm.1
     omega
    have lt:i<τ.length:=(List.getElem?_eq_some_iff.mp h1).1
    have cont:∀(O1:Addr->Prop) (H1:Hp) (kvs1:KVs) (es1:List (List Key×V)) (v:V),StOk X.K G O1 (τ.set i (some (.dc kvs1))) σ H1->Tr O H O1 H1->H1 p=some (.dT es1)->YJ es1 (k.map Sum.inl)=some v->YG kvs1 k t=YG kvs k t->(∀ts,ZG kvs1 k=some ts->ts.length<1000)->
      tyV X.K "list" v H1/\∃(G':Addr->Prop) (ρ:Rho),Free G' H1/\RepS X.K G' H1 ρ σ/\DQ X σ (Rep X.K G') H1 (m ρ) fun w H2=>Z2a v [w] H2 fun _ H'=>E.nx σ H':=by
     intro O1 H1 kvs1 es1 v S1 T1 e1 hv1 hu1 sm1
     have hS1:(τ.set i (some (.dc kvs1)))[i]? =some (some (.dc kvs1)):=List.getElem?_set_self lt
     obtain⟨p',qs1,es2,hp',he2,nd1,own1,_⟩:=S1.dc hS1
     rw[hp]at hp'
     cases hp'
     rw[e1]at he2
     cases he2
     obtain⟨q1,xs1,ts1,rfl,hm1,g1,g2,g3,_⟩:=OwnK.upd kvs1 (List.nodup_cons.mp nd1).2 own1 hv1
     have hid:=S1.hid
     rw[Z77 h1]at hid
     refine⟨.inl ⟨rfl,xs1,SqL.of g1⟩,_,ZH τ,hid.1,hid.2,?_⟩
     rw[h3]
     intro w H2 e2 rw2
     obtain⟨c,rfl,sc⟩:=UM rw2
     obtain⟨q2,xs2,eq,g4,O',s2,t2⟩:=(S1.same e2).appK hS1 hp (e2 _ _ e1) hv1 ⟨c,rfl,sc⟩
     cases eq
     have ex:xs2=xs1:=by
      have:=e2 _ _ g1
      rw[g4]at this
      cases this;rfl
     subst ex
     have:=sm1 _ g3
     have:=Paired.length g2
     rw[List.set_set,hu1]at s2
     exact⟨q1,xs2,_,rfl,rfl,g4,by omega,q O' _ _ ((T1.trans (Tr.of_same e2)).trans t2) s2⟩
    refine⟨.ref p,hp, .inr (.inr (.inl ⟨rfl, .inr ⟨es,hes⟩⟩)), .ref b,hb,Nat.zero_le _,fun q0 hq0=> ?_⟩
    have n1:p≠q0:=fun z=>by rw[z,hq0]at hes;cases hes
    have n2:b≠q0:=fun z=>by rw[z,hq0]at htb;cases htb
    refine⟨p,b, .ref q0,es,k.map Sum.inl,rfl,rfl,(Zm n1).trans hes,?_,lk,fun v hv=> ?_,fun hv=> ?_⟩
    ·rw[Zm n2,Z0a];exact htb
    ·have sm:=Zv hq0 (.lst [])
     have S1:StOk X.K G O (τ.set i (some (.dc kvs))) σ (L2.upd H q0 (.lst [])):=by rw[Z78 h1];exact S.same sm
     exact cont O _ kvs es v S1 (Tr.of_same sm) ((Zm n1).trans hes) hv rfl fun ts f=>US hsm f
    ·have no:=OwnK.no kvs own hv
     obtain⟨O1,S1,T1⟩:=S.sdf (k:=k) h1 hp hes hq0 no
     refine cont O1 _ _ _ (.ref q0) S1 T1 Zi ?_ (UP no) fun ts f=> ?_
     ·rw[Vi _ _ _ _ hv,if_pos rfl]
     ·rw[WF no]at f
      cases f
      decide
   ·rw[if_neg hsm]at q;exact q.elim
  ·exact q.elim
end
end L3
namespace L3
open PySem PySem.Spec L2
open PyProof.Rows hiding St
def pk(es:List (List Key×V))(k:List Key)(v:V):List (List Key×V):=match es with
 | []=>[(k,v)]
 |p::r=>if p.1=k then(p.1,v)::r else p::pk r k v
section
variable{K:PySem.W.Frag}{H H':Hp}
end
section
variable{K:PySem.W.Frag}{G O:Addr->Prop}{τ:Tau}{σ:St}{H:Hp}
end
section
variable{X:Cx}{pos:Pos}
end
theorem u1{n c:Nat}(h:n+64<c):n+1<c:=by omega
end L3
namespace L3
open PySem PySem.Spec L2
open PyProof.Rows hiding St
section
variable{X:Cx}{pos:Pos}
end
end L3
namespace L3
open PySem PySem.Spec L2
open PyProof.Rows hiding St
def spT(K:PySem.W.Frag)(F:List D->R D):Sp:=fun vs H Q _=>∃(G:Addr->Prop) (ds:List D),Free G H/\RepL K G H ds vs/\match F ds with
 | .ok d=>∀v H',Same H H'->Rep K (fun a=>H a=none) H' d v->Q v H'
 |_=>False
structure CalleeT(P:Program)(w:World)(K:PySem.W.Frag)(mg:Str->Option Value)(base:Heap)(k:Nat)(x:Str)(F:List D->R D):Prop where
 ex:∃f fd ps,FnOk P w K mg base (CXR P w) k f fd ps (spT K F)/\Binds K fd ps []/\PySem.W.keepIn K (.ref f)=true/\mg x=some (.ref f)
section
variable{X:Cx}
variable{scope:Scope}{k:Nat}{js is:List Nat}{f:D->R (List D)}{mt:Rho->R Bool}{me:Rho->R D}
end
section
variable{P:Program}{w:World}{K:PySem.W.Frag}{mg:Str->Option Value}{base:Heap}
end
end L3
namespace L3
open PySem PySem.Spec L2
open PyProof.Rows hiding St
def NonL(K:PySem.W.Frag)(H:Hp)(v:V):Prop:=∃d,Rep K (fun _=>False) H d v/\noL d=true/\opq d=false
def Em(K:PySem.W.Frag)(f:Addr->Prop)(H:Hp):Nat->V->Prop
 |0,_=>False
 |n+1,v=>NonL K H v\/∃a xs,v=.ref a/\f a/\H a=some (.lst xs)/\∀x∈xs,Em K f H n x
def Clr(f:Addr->Prop)(H H':Hp):Prop:=∀b o,H b=some o->H' b=some o\/(f b/\(∃xs,o=.lst xs)/\H' b=some (.lst []))
section
variable{K:PySem.W.Frag}{f f' G:Addr->Prop}{H H' H1 H2:Hp}
end
def spE(K:PySem.W.Frag)(n:Nat):Sp:=fun vs H Q _=>∃(f:Addr->Prop) (v:V),vs=[v]/\Em K f H n v/\∀H',Clr f H H'->Q .non H'
structure CalleeE(P:Program)(w:World)(K:PySem.W.Frag)(mg:Str->Option Value)(base:Heap)(k:Nat)(x:Str)(n:Nat):Prop where
 ex:∃f fd ps,FnOk P w K mg base (CXR P w) k f fd ps (spE K n)/\Binds K fd ps []/\PySem.W.keepIn K (.ref f)=true/\mg x=some (.ref f)
section
variable{X:Cx}
end
section
variable{P:Program}{w:World}{K:PySem.W.Frag}{mg:Str->Option Value}{base:Heap}
end
end L3
namespace L3
open PySem PySem.Spec L2
open PyProof.Rows hiding St
def thaw(H H1:Hp):Hp:=fun a=>match H a,H1 a with
 |none,some (.frz _ (.lst xs))=>some (.lst xs)
 |_,x=>x
section
variable{K:PySem.W.Frag}{G:Addr->Prop}{H H1:Hp}{a:Addr}{o:HO}
theorem XV(H H1:Hp)(a:Addr):thaw H H1 a=H1 a\/∃ob xs,H a=none/\H1 a=some (.frz ob (.lst xs))/\thaw H H1 a=some (.lst xs):=by
 unfold thaw
 cases h:H a with
 |some o=>exact .inl rfl
 |none=>
  cases h1:H1 a with
  |none=>exact .inl rfl
  |some o=>
   cases o with
   |frz ob u=>
    cases u with
    |lst xs=>exact .inr ⟨ob,xs,rfl,rfl,rfl⟩
    |_=>exact .inl rfl
   |_=>exact .inl rfl
theorem XA(h:H1 a=some o)(nf:∀ob u,o≠ .frz ob u):thaw H H1 a=some o:=by
 rcases XV H H1 a with z|⟨ob,xs,_,h1,_⟩
 ·rw[z,h]
 ·rw[h]at h1;exact absurd (Option.some.inj h1) (nf ob _)
theorem Vu{xs:List V}(h:SqT K H1 a xs):SqT K (thaw H H1) a xs:=by
 rcases h with(h|⟨o,h⟩)|h
 ·exact .inl (.inl (XA h (by intro _ _ z;cases z)))
 ·refine .inl (.inr ⟨o,?_⟩)
  rcases XV H H1 a with z|⟨ob,xs,_,h1,_⟩
  ·rw[z,h]
  ·rw[h]at h1;cases h1
 ·exact .inr h
theorem WG{xs:List V}(h:LstAt K G H1 a xs):LstAt K G (thaw H H1) a xs:=by
 rcases h with⟨h|⟨o,h⟩,g⟩|h
 ·exact .inl ⟨.inl (XA h (by intro _ _ z;cases z)),g⟩
 ·rcases XV H H1 a with z|⟨ob,ys,_,h1,h2⟩
  ·exact .inl ⟨.inr ⟨o,by rw[z,h]⟩,g⟩
  ·rw[h]at h1;cases h1
   exact .inl ⟨.inl h2,g⟩
 ·exact .inr h
mutual
theorem Rep.thaw:∀(d:D) {v:V},Rep K G H1 d v->Rep K G (L3.thaw H H1) d v
 | .non,_,h=>by simpa only[Rep]using h
 | .bl _,_,h=>by simpa only[Rep]using h
 | .int _,_,h=>by simpa only[Rep]using h
 | .str _,_,h=>by simpa only[Rep]using h
 | .tup ds,v,h=>by
  obtain⟨a,xs,rfl,s,r⟩:=h.tup_of
  exact Rep.tup (Vu s) (RepL.thaw ds r)
 | .lst ds,v,h=>by
  obtain⟨a,xs,rfl,s,r⟩:=h.lst_of
  simp only[Rep]
  exact⟨a,xs,rfl,WG s,RepL.thaw ds r⟩
 | .exc c,v,h=>by
  obtain⟨a,rfl,q⟩:=h.exc_of
  simp only[Rep]
  exact⟨a,rfl,XA q (by intro _ _ z;cases z)⟩
 | .dct kvs,v,h=>by
  obtain⟨a,rfl,q⟩:=h.dct_of
  simp only[Rep]
  exact⟨a,rfl,q.imp (fun es z y=>⟨XA z (by intro _ _ z;cases z),y⟩) (fun _ _ z=>WG z) fun _ _ z=>Vu z⟩
theorem RepL.thaw:∀(ds:List D) {xs:List V},RepL K G H1 ds xs->RepL K G (L3.thaw H H1) ds xs
 | [],_,h=>by simpa only[RepL]using h
 |d::ds,xs,h=>by
  obtain⟨x,r,rfl,h1,h2⟩:=h.uncons
  exact RepL.cons (Rep.thaw d h1) (RepL.thaw ds h2)
end
end
section
variable{X:Cx}
end
section
variable{K:PySem.W.Frag}{G O:Addr->Prop}{τ:Tau}{σ:St}{H:Hp}
theorem StOk.sub(S:StOk K G O τ σ H){τ':Tau}{σ':St}(hl:τ'.length=σ'.length)(h:∀(q:Nat) (sl:Sl),τ'[q]? =some (some sl)->τ[q]? =some (some sl)/\σ'[q]? =σ[q]?):StOk K G O τ' σ' H:=by
 obtain⟨F,P⟩:=S.fps
 exact⟨S.free,S.own,hl,F,fun q sl hq=>by obtain⟨a,b⟩:=h q sl hq;rw[b];exact P.at_ q sl a,P.sub,P.nd,P.dj⟩
end
theorem UU{τ:Tau}{i q:Nat}{sl:Sl}(h:(τ.set i none)[q]? =some (some sl)):q≠i/\τ[q]? =some (some sl):=by
 by_cases hq:i=q
 ·subst hq
  rw[List.getElem?_set]at h
  simp only[if_true]at h
  split at h<;>cases h
 ·rw[List.getElem?_set_ne hq]at h
  exact⟨fun z=>hq z.symm,h⟩
section
variable{X:Cx}
end
end L3
namespace PyProof.Rows
open PySem
def YV:Bool->Keyed->Array Keyed->Nat->Nat->Nat->StateT SortSt Sem (Option Nat):=sortPriv%PySem.Builtin.gallop
def Y7:Nat->StateT SortSt Sem Unit:=sortPriv%PySem.Builtin.setMinGallop
def WH:Array Keyed->Array Keyed->StateT SortSt Sem (Array Keyed):=sortPriv%PySem.Builtin.mergeLo
def WI:Array Keyed->Array Keyed->StateT SortSt Sem (Array Keyed):=sortPriv%PySem.Builtin.mergeHi
def XB(left:Bool)(key:Keyed)(arr:Array Keyed)(base i:Nat):StateT SortSt Sem (Option Bool):=do
  let x←elem' arr (base+i)
  if left then lt' x key else return(←lt' key x).map (!·)
theorem Z0f(left:Bool)(key:Keyed)(arr:Array Keyed)(base n hint:Nat):YV left key arr base n hint=(do
 let mut lastofs:=0
 let mut ofs:=1
 let mut lo:=0
 let mut hi:=0
 let some right←XB left key arr base hint|return none
 if right then
  let maxofs:=n - hint
  for _ in [0:n]do
   if ofs≥maxofs then break
   let some more←XB left key arr base (hint+ofs)|return none
   if !more then break
   lastofs:=ofs
   ofs:=2 * ofs+1
  lo:=hint+lastofs+1
  hi:=hint+min ofs maxofs
 else
  let maxofs:=hint+1
  for _ in [0:n]do
   if ofs≥maxofs then break
   let some found←XB left key arr base (hint - ofs)|return none
   if found then break
   lastofs:=ofs
   ofs:=2 * ofs+1
  lo:=hint+1 - min ofs maxofs
  hi:=hint - lastofs
 for _ in [0:n]do
  if lo≥hi then break
  let m:=lo+(hi - lo) / 2
  let some more←XB left key arr base m|return none
  if more then lo:=m+1 else hi:=m
 return some hi):=rfl
theorem QG(g:Nat):Y7 g=modify fun s=>SortSt.mk' (kindOf s) (arrOf s) (pendingOf s) g (failedOf s):=rfl
def WJ(prog:Program)(w:World)(A:Around)(s:Shared)(a₀:Array Keyed)(κ:SortKind):Prop:=
 ∀x∈a₀.toList,∀y∈a₀.toList,∃b,∀Q:Bool->Shared->Prop,Q b s->wpAny (model prog w) A (keyLt' κ x.1 y.1) Q (fun _ _=>False) s
section
variable{prog:Program}{w:World}{A:Around}{E:Value->Shared->Prop}{s:Shared}{a₀:Array Keyed}{κ:SortKind}{st:SortSt}
theorem Qa{x y:Keyed}{Q:Option Bool->SortSt->Prop}(hL:WJ prog w A s a₀ κ)(hk:kindOf st=κ)(hx:x∈a₀.toList)(hy:y∈a₀.toList)(h:∀b,Q (some b) st):wpS (model prog w) A E s (lt' x y) Q st:=by
 obtain⟨b,hb⟩:=hL x hx y hy
 rw[lt'_eq]
 refine wpS_bind (wpS_get ?_)
 rw[hk]
 refine wpS_bind (wpS_lift (wpAny_attempt (wpAny_mono (hb (fun c s'=>c=b/\s'=s) ⟨rfl,rfl⟩) (fun c s' hc=> ?_) fun _ _ hF=>hF.elim)))
 obtain⟨rfl,rfl⟩:=hc
 exact⟨rfl,wpS_pure (h _)⟩
theorem Zq{arr:Array Keyed}{i:Nat}{Q:Keyed->SortSt->Prop}(hi:i<arr.size)(h:∀p,p∈arr.toList->arr[i]? =some p->Q p st):wpS (model prog w) A E s (elem' arr i) Q st:=by
 rw[elem'_eq]
 have e:arr[i]? =some arr[i]:=getElem?_pos _ i hi
 rw[e]
 exact wpS_pure (h _ (by simp) e)
theorem YQ{left:Bool}{key:Keyed}{arr:Array Keyed}{base i:Nat}{Q:Option Bool->SortSt->Prop}(hL:WJ prog w A s a₀ κ)(hk:kindOf st=κ)(hkey:key∈a₀.toList)(ha:∀z∈arr.toList,z∈a₀.toList)(hi:base+i<arr.size)(h:∀b,Q (some b) st):
  wpS (model prog w) A E s (XB left key arr base i) Q st:=by
 unfold XB
 refine wpS_bind (Zq hi fun p hp _=> ?_)
 cases left with
 |true=>simp only[if_true];exact Qa hL hk (ha p hp) hkey h
 |false=>simp only[Bool.false_eq_true,if_false];exact wpS_bind (Qa hL hk hkey (ha p hp) fun b=>wpS_pure (h (!b)))
theorem YB{left:Bool}{key:Keyed}{arr:Array Keyed}{base n hint:Nat}{Q:Option Nat->SortSt->Prop}(hL:WJ prog w A s a₀ κ)(hk:kindOf st=κ)(hkey:key∈a₀.toList)(ha:∀z∈arr.toList,z∈a₀.toList)(hn:base+n<=arr.size)(hh:hint<n)(h:∀k,k<=n->Q (some k) st):
  wpS (model prog w) A E s (YV left key arr base n hint) Q st:=by
 rw[Z0f]
 dsimp only
 refine wpS_bind (YQ hL hk hkey ha (by omega) fun right=> ?_)
 dsimp only
 cases right with
 |true=>
  simp only[if_true]
  refine wpS_bind (wpS_mono (wpS_forRange (I:=fun _ c st'=>st=st'/\c.1=none) (Q:=fun c st'=>st=st'/\c.1=none) ?_ (fun _ _ q=>q) ⟨rfl,rfl⟩) fun c st' ⟨e1,e2⟩=> ?_)
  ·rintro i ⟨c1,lastofs,ofs⟩ st' _ _ ⟨rfl,rfl⟩
   dsimp only
   by_cases hge:ofs≥n - hint
   ·rw[if_pos hge];exact wpS_pure ⟨rfl,rfl⟩
   ·rw[if_neg hge]
    refine wpS_bind (YQ hL hk hkey ha (by omega) fun more=> ?_)
    dsimp only
    cases more with
    |true=>exact wpS_pure ⟨rfl,rfl⟩
    |false=>exact wpS_pure ⟨rfl,rfl⟩
  ·subst e1
   obtain⟨c1,lastofs,ofs⟩:=c
   dsimp only at e2 ⊢
   subst e2
   dsimp only
   have hhi:hint+min ofs (n - hint)<=n:=by omega
   refine wpS_bind (wpS_mono (wpS_forRange (I:=fun _ c st'=>st=st'/\c.1=none/\c.2.2<=n) (Q:=fun c st'=>st=st'/\c.1=none/\c.2.2<=n) ?_ (fun _ _ q=>q) ⟨rfl,rfl,hhi⟩) fun c st' ⟨e1,e2,e3⟩=> ?_)
   ·rintro i ⟨c1,lo,hi⟩ st' _ _ ⟨e1,e2,h3⟩
    subst e1
    dsimp only at e2 h3 ⊢
    subst e2
    by_cases hge:lo≥hi
    ·rw[if_pos hge];exact wpS_pure ⟨rfl,rfl,h3⟩
    ·rw[if_neg hge]
     refine wpS_bind (YQ hL hk hkey ha (by omega) fun more=> ?_)
     dsimp only
     cases more with
     |true=>exact wpS_pure ⟨rfl,rfl,h3⟩
     |false=>exact wpS_pure ⟨rfl,rfl,by show lo+(hi - lo) / 2<=n;omega⟩
   ·subst e1
    obtain⟨c1,lo,hi⟩:=c
    dsimp only at e2 e3 ⊢
    subst e2
    exact wpS_pure (h _ e3)
 |false=>
  simp only[Bool.false_eq_true,if_false]
  refine wpS_bind (wpS_mono (wpS_forRange (I:=fun _ c st'=>st=st'/\c.1=none) (Q:=fun c st'=>st=st'/\c.1=none) ?_ (fun _ _ q=>q) ⟨rfl,rfl⟩) fun c st' ⟨e1,e2⟩=> ?_)
  ·rintro i ⟨c1,lastofs,ofs⟩ st' _ _ ⟨rfl,rfl⟩
   dsimp only
   by_cases hge:ofs≥hint+1
   ·rw[if_pos hge];exact wpS_pure ⟨rfl,rfl⟩
   ·rw[if_neg hge]
    refine wpS_bind (YQ hL hk hkey ha (by omega) fun more=> ?_)
    dsimp only
    cases more with
    |true=>exact wpS_pure ⟨rfl,rfl⟩
    |false=>exact wpS_pure ⟨rfl,rfl⟩
  ·subst e1
   obtain⟨c1,lastofs,ofs⟩:=c
   dsimp only at e2 ⊢
   subst e2
   dsimp only
   have hhi:hint - lastofs<=n:=by omega
   refine wpS_bind (wpS_mono (wpS_forRange (I:=fun _ c st'=>st=st'/\c.1=none/\c.2.2<=n) (Q:=fun c st'=>st=st'/\c.1=none/\c.2.2<=n) ?_ (fun _ _ q=>q) ⟨rfl,rfl,hhi⟩) fun c st' ⟨e1,e2,e3⟩=> ?_)
   ·rintro i ⟨c1,lo,hi⟩ st' _ _ ⟨e1,e2,h3⟩
    subst e1
    dsimp only at e2 h3 ⊢
    subst e2
    by_cases hge:lo≥hi
    ·rw[if_pos hge];exact wpS_pure ⟨rfl,rfl,h3⟩
    ·rw[if_neg hge]
     refine wpS_bind (YQ hL hk hkey ha (by omega) fun more=> ?_)
     dsimp only
     cases more with
     |true=>exact wpS_pure ⟨rfl,rfl,h3⟩
     |false=>exact wpS_pure ⟨rfl,rfl,by show lo+(hi - lo) / 2<=n;omega⟩
   ·subst e1
    obtain⟨c1,lo,hi⟩:=c
    dsimp only at e2 e3 ⊢
    subst e2
    exact wpS_pure (h _ e3)
theorem UV(a b:Array Keyed):WH a b=(do
 rule "list.sort.merge-lo"
 let total:=a.size+b.size
 let done (out:Array Keyed) (ia ib:Nat):=out++a.extract ia a.size++b.extract ib b.size
 let lastOfA (out:Array Keyed) (ia ib:Nat):=out++b.extract ib b.size++a.extract ia a.size
 let mut out:Array Keyed:= #[←elem' b 0]
 let mut ia:=0
 let mut ib:=1
 if ib == b.size then return done out ia ib
 if ia+1 == a.size then return lastOfA out ia ib
 let mut minGallop:=gallopOf (←get)
 for _ in [0:total]do
  let mut acount:=0
  let mut bcount:=0
  for _ in [0:total]do
   let some bWins←lt' (←elem' b ib) (←elem' a ia)|return done out ia ib
   if bWins then
    out:=out.push (←elem' b ib);ib:=ib+1;bcount:=bcount+1;acount:=0
    if ib == b.size then return done out ia ib
    if bcount≥minGallop then break
   else
    out:=out.push (←elem' a ia);ia:=ia+1;acount:=acount+1;bcount:=0
    if ia+1 == a.size then return lastOfA out ia ib
    if acount≥minGallop then break
  rule "list.sort.gallop"
  minGallop:=minGallop+1
  for _ in [0:total]do
   if minGallop>1 then minGallop:=minGallop - 1
   Y7 minGallop
   let some k←YV false (←elem' b ib) a ia (a.size - ia) 0|return done out ia ib
   acount:=k
   if k>0 then
    out:=out++a.extract ia (ia+k);ia:=ia+k
    if ia+1 == a.size then return lastOfA out ia ib
    if ia == a.size then return done out ia ib
   out:=out.push (←elem' b ib);ib:=ib+1
   if ib == b.size then return done out ia ib
   let some k←YV true (←elem' a ia) b ib (b.size - ib) 0|return done out ia ib
   bcount:=k
   if k>0 then
    out:=out++b.extract ib (ib+k);ib:=ib+k
    if ib == b.size then return done out ia ib
   out:=out.push (←elem' a ia);ia:=ia+1
   if ia+1 == a.size then return lastOfA out ia ib
   if acount<7&&bcount<7 then break
  minGallop:=minGallop+1
  Y7 minGallop
 unsupported "internal:list.sort.merge-bound"):=rfl
section
variable{α:Type}
theorem YR(A B X:List α):(A++B++X).Perm (A++X++B):=by
 rw[List.append_assoc,List.append_assoc];exact List.Perm.append_left A List.perm_append_comm
def PM(a b out:Array α)(ia ib:Nat):Prop:=out.toList.Perm (a.toList.take ia++b.toList.take ib)
variable{a b out:Array α}{ia ib:Nat}
theorem UW(a:Array α)(i k:Nat):(a.extract i (i+k)).toList=(a.toList.drop i).take k:=by
 rw[Array.toList_extract,List.extract_eq_take_drop]
 congr 1;omega
theorem Z2r(a:Array α)(i:Nat):(a.extract i a.size).toList=a.toList.drop i:=by
 rw[Array.toList_extract,List.extract_eq_take_drop]
 apply List.take_of_length_le
 simp
theorem PM.done(h:PM a b out ia ib):(out++a.extract ia a.size++b.extract ib b.size).toList.Perm (a.toList++b.toList):=by
 rw[Array.toList_append,Array.toList_append,Z2r,Z2r]
 have h1:(out.toList++a.toList.drop ia++b.toList.drop ib).Perm ((a.toList.take ia++b.toList.take ib)++a.toList.drop ia++b.toList.drop ib):=(h.append_right _).append_right _
 refine h1.trans ?_
 have h2:=(YR (a.toList.take ia) (b.toList.take ib) (a.toList.drop ia)).append_right (b.toList.drop ib)
 refine h2.trans ?_
 rw[List.take_append_drop,List.append_assoc,List.take_append_drop]
theorem PM.last(h:PM a b out ia ib):(out++b.extract ib b.size++a.extract ia a.size).toList.Perm (a.toList++b.toList):=by
 have h1:=h.done
 rw[Array.toList_append,Array.toList_append]at h1 ⊢
 exact(YR _ _ _).trans h1
theorem PM.as{k:Nat}(h:PM a b out ia ib):PM a b (out++a.extract ia (ia+k)) (ia+k) ib:=by
 unfold PM
 rw[Array.toList_append,UW,List.take_add]
 exact(h.append_right _).trans (YR _ _ _)
theorem PM.bs{k:Nat}(h:PM a b out ia ib):PM a b (out++b.extract ib (ib+k)) ia (ib+k):=by
 unfold PM
 rw[Array.toList_append,UW,List.take_add,←List.append_assoc]
 exact h.append_right _
theorem XW{l:List α}{i:Nat}{p:α}(e:l[i]? =some p):l.take (i+1)=l.take i++[p]:=by
 rw[List.take_succ,e];rfl
theorem PM.ap{p:α}(h:PM a b out ia ib)(e:a[ia]? =some p):PM a b (out.push p) (ia+1) ib:=by
 unfold PM
 rw[Array.toList_push,XW (by simpa using e)]
 exact(h.append_right _).trans (YR _ _ _)
theorem PM.bp{p:α}(h:PM a b out ia ib)(e:b[ib]? =some p):PM a b (out.push p) ia (ib+1):=by
 unfold PM
 rw[Array.toList_push,XW (by simpa using e),←List.append_assoc]
 exact h.append_right _
end
structure Gs(st st':SortSt):Prop where
 kind:kindOf st'=kindOf st
 arr:arrOf st'=arrOf st
 pend:pendingOf st'=pendingOf st
 failed:failedOf st'=failedOf st
theorem Gs.refl(st:SortSt):Gs st st:=⟨rfl,rfl,rfl,rfl⟩
theorem Qb{g:Nat}{Q:Unit->SortSt->Prop}{st0 st':SortSt}(hG:Gs st0 st')(h:∀st2,Gs st0 st2->Q () st2):wpS (model prog w) A E s (Y7 g) Q st':=by
 rw[QG]
 exact wpS_modify (h _ ⟨hG.kind,hG.arr,hG.pend,hG.failed⟩)
theorem YH{x y:Nat}(h:¬(x == y)=true):x≠y:=by simpa using h
theorem UX {a b : Array Keyed} {Q : Array Keyed -> SortSt -> Prop} (hL : WJ prog w A s a₀ κ) (hk : kindOf st = κ) (ha : ∀ z ∈ a.toList, z ∈ a₀.toList) (hb : ∀ z ∈ b.toList, z ∈ a₀.toList) (a1 : 1 <= a.size) (b1 : 1 <= b.size)
    (h : ∀ out st', out.toList.Perm (a.toList ++ b.toList) -> Gs st st' -> Q out st') : wpS (model prog w) A E s (WH a b) Q st := by
  rw [UV]
  refine wpS_bind (wpS_lift (wpAny_rule ⟨rfl, ?_⟩))
  dsimp only
  refine wpS_bind (Zq (by omega) fun p0 hp0 e0 => ?_)
  have pm0 : PM a b #[p0] 0 1 := by
    unfold PM
    rw [XW (i := 0) (by simpa using e0)]
    simp
  by_cases c1 : ((1 : Nat) == b.size) = true
  · rw [if_pos c1]; exact wpS_pure (h _ _ pm0.done (Gs.refl st))
  rw [if_neg c1]
  by_cases c2 : (0 + 1 == a.size) = true
  · rw [if_pos c2]; exact wpS_pure (h _ _ pm0.last (Gs.refl st))
  rw [if_neg c2]
  have b2 : 1 < b.size := by have : ¬ (1 = b.size) := by simpa using c1
                             omega
  have a2 : 0 + 1 < a.size := by have : ¬ (0 + 1 = a.size) := by simpa using c2
                                 omega
  refine wpS_bind (wpS_get ?_)
  refine wpS_bind (wpS_mono (wpS_forRange
    (I := fun i (c : Option (Array Keyed) × Array Keyed × Nat × Nat × Nat) st' => Gs st st' /\ ∃ out ia ib mg, c = (none, out, ia, ib, mg) /\ PM a b out ia ib /\ ia + 1 < a.size /\ ib < b.size /\ 1 + i <= ia + ib)
    (Q := fun c st' => Gs st st' /\ ∃ r t, c = (some r, t) /\ r.toList.Perm (a.toList ++ b.toList)) ?step ?fin ⟨Gs.refl st, _, _, _, _, rfl, pm0, a2, b2, by omega⟩) ?post)
  case fin =>
    rintro c st' ⟨_, out, ia, ib, mg, rfl, _, h1, h2, h3⟩
    exfalso; omega
  case post =>
    rintro c st' ⟨hG, r, t, rfl, hp⟩
    exact wpS_pure (h r st' hp hG)
  case step =>
    rintro i c st' _ hi ⟨hG, out, ia, ib, mg, rfl, pm, h1, h2, h3⟩
    dsimp only
    refine wpS_bind (wpS_mono (wpS_forRange
      (I := fun x (c : Option (Array Keyed) × Array Keyed × Nat × Nat × Nat × Nat) st' => Gs st st' /\ ∃ out ia ib ac bc, c = (none, out, ia, ib, ac, bc) /\ PM a b out ia ib /\ ia + 1 < a.size /\ ib < b.size /\ 1 + i + x <= ia + ib)
      (Q := fun c st' => Gs st st' /\ ((∃ r t, c = (some r, t) /\ r.toList.Perm (a.toList ++ b.toList)) \/ ∃ out ia ib ac bc, c = (none, out, ia, ib, ac, bc) /\ PM a b out ia ib /\ ia + 1 < a.size /\ ib < b.size /\ 1 + i + 1 <= ia + ib)) ?step1 ?fin1 ⟨hG, _, _, _, _, _, rfl, pm, h1, h2, by omega⟩) ?post1)
    case fin1 =>
      rintro c st' ⟨hG, out, ia, ib, ac, bc, rfl, pm, h1, h2, h3⟩
      exact ⟨hG, .inr ⟨_, _, _, _, _, rfl, pm, h1, h2, by omega⟩⟩
    case step1 =>
      rintro x c st' _ hx ⟨hG, out, ia, ib, ac, bc, rfl, pm, h1, h2, h3⟩
      dsimp only
      refine wpS_bind (Zq h2 fun pb hpb eb => wpS_bind (Zq (by omega) fun pa hpa ea => wpS_bind (Qa hL (hG.kind.trans hk) (hb pb hpb) (ha pa hpa) fun bw => ?_)))
      dsimp only
      cases bw with
      | true =>
        simp only [if_true]
        refine wpS_bind (Zq h2 fun pb' _ eb' => ?_)
        have pm' := pm.bp eb'
        by_cases d1 : (ib + 1 == b.size) = true
        · rw [if_pos d1]; exact wpS_pure ⟨hG, .inl ⟨_, _, rfl, pm'.done⟩⟩
        · rw [if_neg d1]
          have d2 : ib + 1 < b.size := by have : ¬ (ib + 1 = b.size) := by simpa using d1
                                          omega
          by_cases d3 : bc + 1 ≥ mg
          · rw [if_pos d3]; exact wpS_pure ⟨hG, .inr ⟨_, _, _, _, _, rfl, pm', h1, d2, by omega⟩⟩
          · rw [if_neg d3]; exact wpS_pure ⟨hG, _, _, _, _, _, rfl, pm', h1, d2, by omega⟩
      | false =>
        simp only [Bool.false_eq_true, if_false]
        refine wpS_bind (Zq (by omega) fun pa' _ ea' => ?_)
        have pm' := pm.ap ea'
        by_cases d1 : (ia + 1 + 1 == a.size) = true
        · rw [if_pos d1]; exact wpS_pure ⟨hG, .inl ⟨_, _, rfl, pm'.last⟩⟩
        · rw [if_neg d1]
          have d2 : ia + 1 + 1 < a.size := by have : ¬ (ia + 1 + 1 = a.size) := by simpa using d1
                                              omega
          by_cases d3 : ac + 1 ≥ mg
          · rw [if_pos d3]; exact wpS_pure ⟨hG, .inr ⟨_, _, _, _, _, rfl, pm', d2, h2, by omega⟩⟩
          · rw [if_neg d3]; exact wpS_pure ⟨hG, _, _, _, _, _, rfl, pm', d2, h2, by omega⟩
    case post1 =>
      rintro c st' ⟨hG, ⟨r, ⟨o, u, v, x1, x2⟩, rfl, hp⟩ | ⟨out, ia, ib, ac, bc, rfl, pm, h1, h2, h3⟩⟩
      · exact wpS_pure ⟨hG, r, _, rfl, hp⟩
      dsimp only
      refine wpS_bind (wpS_lift (wpAny_rule ⟨rfl, ?_⟩))
      refine wpS_bind (wpS_mono (wpS_forRange
        (I := fun x (c : Option (Array Keyed) × Array Keyed × Nat × Nat × Nat × Nat × Nat) st' => Gs st st' /\ ∃ out ia ib mg ac bc, c = (none, out, ia, ib, mg, ac, bc) /\ PM a b out ia ib /\ ia + 1 < a.size /\ ib < b.size /\ 1 + i + 1 <= ia + ib)
        (Q := fun c st' => Gs st st' /\ ((∃ r t, c = (some r, t) /\ r.toList.Perm (a.toList ++ b.toList)) \/ ∃ out ia ib mg ac bc, c = (none, out, ia, ib, mg, ac, bc) /\ PM a b out ia ib /\ ia + 1 < a.size /\ ib < b.size /\ 1 + i + 1 <= ia + ib)) ?step2 ?fin2 ⟨hG, _, _, _, _, _, _, rfl, pm, h1, h2, h3⟩) ?post2)
      case fin2 =>
        rintro c st' ⟨hG, out, ia, ib, mg, ac, bc, rfl, pm, h1, h2, h3⟩
        exact ⟨hG, .inr ⟨_, _, _, _, _, _, rfl, pm, h1, h2, h3⟩⟩
      case post2 =>
        rintro c st' ⟨hG, ⟨r, ⟨o, u, v, x1, x2, x3⟩, rfl, hp⟩ | ⟨out, ia, ib, mg, ac, bc, rfl, pm, h1, h2, h3⟩⟩
        · exact wpS_pure ⟨hG, r, _, rfl, hp⟩
        dsimp only
        refine wpS_bind (Qb hG fun st2 hG2 => ?_)
        exact wpS_pure ⟨hG2, _, _, _, _, rfl, pm, h1, h2, by omega⟩
      case step2 =>
        rintro x c st' _ hx ⟨hG, out, ia, ib, mg, ac, bc, rfl, pm, h1, h2, h3⟩
        dsimp only
        by_cases hmg : mg > 1
        case' pos => rw [if_pos hmg]
        case' neg => rw [if_neg hmg]
        all_goals
          refine wpS_bind (Qb hG fun st2 hG2 => ?_)
          refine wpS_bind (Zq h2 fun pb hpb eb => wpS_bind (YB hL (hG2.kind.trans hk) (hb pb hpb) ha (by omega) (by omega) fun k hk' => ?_))
          dsimp only
          by_cases hk0 : k > 0
          case' pos =>
            rw [if_pos hk0]
            by_cases e1 : (ia + k + 1 == a.size) = true
            · rw [if_pos e1]; exact wpS_pure ⟨hG2, .inl ⟨_, _, rfl, (pm.as (k := k)).last⟩⟩
            rw [if_neg e1]
            by_cases e2 : (ia + k == a.size) = true
            · rw [if_pos e2]; exact wpS_pure ⟨hG2, .inl ⟨_, _, rfl, (pm.as (k := k)).done⟩⟩
            rw [if_neg e2]
            have e1' := YH e1
            have e2' := YH e2
            have pm' := pm.as (k := k)
          case' neg =>
            rw [if_neg hk0]
            have pm' := pm
          all_goals
            refine wpS_bind (Zq h2 fun pb2 _ eb2 => ?_)
            have pmb := pm'.bp eb2
            split
            · exact wpS_pure ⟨hG2, .inl ⟨_, _, rfl, pmb.done⟩⟩
            rename_i d1
            have d1' := YH d1
            refine wpS_bind (Zq (by omega) fun pa2 hpa2 ea2 => wpS_bind (YB hL (hG2.kind.trans hk) (ha pa2 hpa2) hb (by omega) (by omega) fun k2 hk2 => ?_))
            dsimp only
            by_cases kz : k2 > 0
            case' pos =>
              rw [if_pos kz]
              by_cases d4 : (ib + 1 + k2 == b.size) = true
              · rw [if_pos d4]; exact wpS_pure ⟨hG2, .inl ⟨_, _, rfl, (pmb.bs (k := k2)).done⟩⟩
              rw [if_neg d4]
              have d4' := YH d4
              have pmx := pmb.bs (k := k2)
            case' neg =>
              rw [if_neg kz]
              have pmx := pmb
            all_goals
              refine wpS_bind (Zq (by omega) fun pa3 _ ea3 => ?_)
              have pme := pmx.ap ea3
              split
              · exact wpS_pure ⟨hG2, .inl ⟨_, _, rfl, pme.last⟩⟩
              rename_i d5
              have d5' := YH d5
              split
              · exact wpS_pure ⟨hG2, .inr ⟨_, _, _, _, _, _, rfl, pme, by omega, by omega, by omega⟩⟩
              · exact wpS_pure ⟨hG2, _, _, _, _, _, _, rfl, pme, by omega, by omega, by omega⟩
theorem UY(a b:Array Keyed):WI a b=(do
 rule "list.sort.merge-hi"
 let total:=a.size+b.size
 let done (out:Array Keyed) (na nb:Nat):=a.extract 0 na++b.extract 0 nb++out.reverse
 let firstOfB (out:Array Keyed) (na nb:Nat):=b.extract 0 nb++a.extract 0 na++out.reverse
 let mut na:=a.size - 1
 let mut nb:=b.size
 let mut out:Array Keyed:= #[←elem' a na]
 if na == 0 then return done out na nb
 if nb == 1 then return firstOfB out na nb
 let mut minGallop:=gallopOf (←get)
 for _ in [0:total]do
  let mut acount:=0
  let mut bcount:=0
  for _ in [0:total]do
   let some aWins←lt' (←elem' b (nb - 1)) (←elem' a (na - 1))|return done out na nb
   if aWins then
    na:=na - 1;out:=out.push (←elem' a na);acount:=acount+1;bcount:=0
    if na == 0 then return done out na nb
    if acount≥minGallop then break
   else
    nb:=nb - 1;out:=out.push (←elem' b nb);bcount:=bcount+1;acount:=0
    if nb == 1 then return firstOfB out na nb
    if bcount≥minGallop then break
  rule "list.sort.gallop"
  minGallop:=minGallop+1
  for _ in [0:total]do
   if minGallop>1 then minGallop:=minGallop - 1
   Y7 minGallop
   let some at_←YV false (←elem' b (nb - 1)) a 0 na (na - 1)|return done out na nb
   let k:=na - at_
   acount:=k
   if k>0 then
    out:=out++(a.extract at_ na).reverse;na:=at_
    if na == 0 then return done out na nb
   nb:=nb - 1;out:=out.push (←elem' b nb)
   if nb == 1 then return firstOfB out na nb
   let some at_←YV true (←elem' a (na - 1)) b 0 nb (nb - 1)|return done out na nb
   let k:=nb - at_
   bcount:=k
   if k>0 then
    out:=out++(b.extract at_ nb).reverse;nb:=at_
    if nb == 1 then return firstOfB out na nb
    if nb == 0 then return done out na nb
   na:=na - 1;out:=out.push (←elem' a na)
   if na == 0 then return done out na nb
   if acount<7&&bcount<7 then break
  minGallop:=minGallop+1
  Y7 minGallop
 unsupported "internal:list.sort.merge-bound"):=rfl
section
variable{α:Type}
def PH(a b out:Array α)(na nb:Nat):Prop:=out.toList.Perm (a.toList.drop na++b.toList.drop nb)
variable{a b out:Array α}{na nb:Nat}
theorem Z2s(a:Array α)(n:Nat):(a.extract 0 n).toList=a.toList.take n:=by
 rw[Array.toList_extract,List.extract_eq_take_drop];simp
theorem PH.done(h:PH a b out na nb):(a.extract 0 na++b.extract 0 nb++out.reverse).toList.Perm (a.toList++b.toList):=by
 rw[Array.toList_append,Array.toList_append,Z2s,Z2s,Array.toList_reverse]
 have h1:(a.toList.take na++b.toList.take nb++out.toList.reverse).Perm (a.toList.take na++b.toList.take nb++(a.toList.drop na++b.toList.drop nb)):=List.Perm.append_left _ ((List.reverse_perm _).trans h)
 refine h1.trans ?_
 rw[←List.append_assoc]
 refine((YR (a.toList.take na) (b.toList.take nb) (a.toList.drop na)).append_right _).trans ?_
 rw[List.take_append_drop,List.append_assoc,List.take_append_drop]
theorem PH.first(h:PH a b out na nb):(b.extract 0 nb++a.extract 0 na++out.reverse).toList.Perm (a.toList++b.toList):=by
 have h1:=h.done
 rw[Array.toList_append,Array.toList_append]at h1 ⊢
 exact(List.perm_append_comm.append_right _).trans h1
theorem Xe(l:List α){i j:Nat}(h:i<=j):l.drop i=(l.drop i).take (j - i)++l.drop j:=by
 have e:=(List.take_append_drop (j - i) (l.drop i)).symm
 rw[List.drop_drop]at e
 have:i+(j - i)=j:=by omega
 rw[this]at e
 exact e
theorem PH.as{k:Nat}(h:PH a b out na nb)(hk:k<=na):PH a b (out++(a.extract k na).reverse) k nb:=by
 have e:=Xe a.toList hk
 have g:(out.toList++((a.toList.drop k).take (na - k)).reverse).Perm ((a.toList.drop k).take (na - k)++a.toList.drop na++b.toList.drop nb):=by
  refine((List.Perm.append_left _ (List.reverse_perm _)).trans (h.append_right _)).trans ?_
  refine List.perm_append_comm.trans ?_
  rw[List.append_assoc]
 rw[←e]at g
 unfold PH
 rw[Array.toList_append,Array.toList_reverse,Array.toList_extract,List.extract_eq_take_drop]
 exact g
theorem PH.bs{k:Nat}(h:PH a b out na nb)(hk:k<=nb):PH a b (out++(b.extract k nb).reverse) na k:=by
 have e:=Xe b.toList hk
 have g:(out.toList++((b.toList.drop k).take (nb - k)).reverse).Perm (a.toList.drop na++((b.toList.drop k).take (nb - k)++b.toList.drop nb)):=by
  refine((List.Perm.append_left _ (List.reverse_perm _)).trans (h.append_right _)).trans ?_
  rw[←List.append_assoc]
  exact YR _ _ _
 rw[←e]at g
 unfold PH
 rw[Array.toList_append,Array.toList_reverse,Array.toList_extract,List.extract_eq_take_drop]
 exact g
theorem Vv{l:List α}{i:Nat}{p:α}(h:1<=i)(e:l[i - 1]? =some p):l.drop (i - 1)=p::l.drop i:=by
 obtain⟨hlt,rfl⟩:=List.getElem?_eq_some_iff.mp e
 rw[List.drop_eq_getElem_cons hlt]
 congr 2;omega
theorem PH.ap{p:α}(h:PH a b out na nb)(h1:1<=na)(e:a[na - 1]? =some p):PH a b (out.push p) (na - 1) nb:=by
 unfold PH
 rw[Array.toList_push,Vv h1 (by simpa using e)]
 refine(h.append_right _).trans ?_
 exact List.perm_append_comm
theorem PH.bp{p:α}(h:PH a b out na nb)(h1:1<=nb)(e:b[nb - 1]? =some p):PH a b (out.push p) na (nb - 1):=by
 unfold PH
 rw[Array.toList_push,Vv h1 (by simpa using e)]
 refine(h.append_right _).trans ?_
 exact YR _ _ [p] |>.trans (by rw[List.append_assoc];exact List.Perm.refl _)
end
theorem UZ{a b:Array Keyed}{Q:Array Keyed->SortSt->Prop}(hL:WJ prog w A s a₀ κ)(hk:kindOf st=κ)(ha:∀z∈a.toList,z∈a₀.toList)(hb:∀z∈b.toList,z∈a₀.toList)(a1:1<=a.size)(b1:1<=b.size)
  (h:∀out st',out.toList.Perm (a.toList++b.toList)->Gs st st'->Q out st'):wpS (model prog w) A E s (WI a b) Q st:=by
 rw[UY]
 refine wpS_bind (wpS_lift (wpAny_rule ⟨rfl,?_⟩))
 dsimp only
 refine wpS_bind (Zq (by omega) fun p0 hp0 e0=> ?_)
 have pm0:PH a b #[p0] (a.size - 1) b.size:=by
  have e:PH a b #[] a.size b.size:=by
   unfold PH
   rw[List.drop_eq_nil_of_le (by simp),List.drop_eq_nil_of_le (by simp)]
   exact List.Perm.refl _
  exact e.ap a1 e0
 by_cases c1:(a.size - 1 == 0)=true
 ·rw[if_pos c1];exact wpS_pure (h _ _ pm0.done (Gs.refl st))
 rw[if_neg c1]
 by_cases c2:(b.size == 1)=true
 ·rw[if_pos c2];exact wpS_pure (h _ _ pm0.first (Gs.refl st))
 rw[if_neg c2]
 have b2:=YH c2
 have a2:=YH c1
 refine wpS_bind (wpS_get ?_)
 refine wpS_bind (wpS_mono (wpS_forRange
  (I:=fun i (c:Option (Array Keyed)×Nat×Nat×Array Keyed×Nat) st'=>Gs st st'/\∃out na nb mg,c=(none,na,nb,out,mg)/\PH a b out na nb/\1<=na/\2<=nb/\na<=a.size/\nb<=b.size/\na+nb+i+1<=a.size+b.size)
  (Q:=fun c st'=>Gs st st'/\∃r t,c=(some r,t)/\r.toList.Perm (a.toList++b.toList)) ?step ?fin ⟨Gs.refl st,_,_,_,_,rfl,pm0,by omega,by omega,by omega,by omega,by omega⟩) ?post)
 case fin=>
  rintro c st' ⟨_,out,na,nb,mg,rfl,_,h1,h2,h3,h4,h5⟩
  exfalso;omega
 case post=>
  rintro c st' ⟨hG,r,t,rfl,hp⟩
  exact wpS_pure (h r st' hp hG)
 case step=>
  rintro i c st' _ hi ⟨hG,out,na,nb,mg,rfl,pm,h1,h2,h3,h4,h5⟩
  dsimp only
  refine wpS_bind (wpS_mono (wpS_forRange
   (I:=fun x (c:Option (Array Keyed)×Nat×Nat×Array Keyed×Nat×Nat) st'=>Gs st st'/\∃out na nb ac bc,c=(none,na,nb,out,ac,bc)/\PH a b out na nb/\1<=na/\2<=nb/\na<=a.size/\nb<=b.size/\na+nb+i+x+1<=a.size+b.size)
   (Q:=fun c st'=>Gs st st'/\((∃r t,c=(some r,t)/\r.toList.Perm (a.toList++b.toList))\/∃out na nb ac bc,c=(none,na,nb,out,ac,bc)/\PH a b out na nb/\1<=na/\2<=nb/\na<=a.size/\nb<=b.size/\na+nb+i+1+1<=a.size+b.size)) ?step1 ?fin1 ⟨hG,_,_,_,_,_,rfl,pm,h1,h2,h3,h4,by omega⟩) ?post1)
  case fin1=>
   rintro c st' ⟨hG,out,na,nb,ac,bc,rfl,pm,h1,h2,h3,h4,h5⟩
   exact⟨hG, .inr ⟨_,_,_,_,_,rfl,pm,h1,h2,h3,h4,by omega⟩⟩
  case step1=>
   rintro x c st' _ hx ⟨hG,out,na,nb,ac,bc,rfl,pm,h1,h2,h3,h4,h5⟩
   dsimp only
   refine wpS_bind (Zq (by omega) fun pb hpb eb=>wpS_bind (Zq (by omega) fun pa hpa ea=>wpS_bind (Qa hL (hG.kind.trans hk) (hb pb hpb) (ha pa hpa) fun bw=> ?_)))
   dsimp only
   cases bw with
   |true=>
    simp only[if_true]
    refine wpS_bind (Zq (by omega) fun pb' _ eb'=> ?_)
    have pm':=pm.ap h1 eb'
    by_cases d1:(na - 1 == 0)=true
    ·rw[if_pos d1];exact wpS_pure ⟨hG, .inl ⟨_,_,rfl,pm'.done⟩⟩
    ·rw[if_neg d1]
     have d2:=YH d1
     by_cases d3:ac+1≥mg
     ·rw[if_pos d3];exact wpS_pure ⟨hG, .inr ⟨_,_,_,_,_,rfl,pm',by omega,by omega,by omega,by omega,by omega⟩⟩
     ·rw[if_neg d3];exact wpS_pure ⟨hG,_,_,_,_,_,rfl,pm',by omega,by omega,by omega,by omega,by omega⟩
   |false=>
    simp only[Bool.false_eq_true,if_false]
    refine wpS_bind (Zq (by omega) fun pa' _ ea'=> ?_)
    have pm':=pm.bp (by omega) ea'
    by_cases d1:(nb - 1 == 1)=true
    ·rw[if_pos d1];exact wpS_pure ⟨hG, .inl ⟨_,_,rfl,pm'.first⟩⟩
    ·rw[if_neg d1]
     have d2:=YH d1
     by_cases d3:bc+1≥mg
     ·rw[if_pos d3];exact wpS_pure ⟨hG, .inr ⟨_,_,_,_,_,rfl,pm',by omega,by omega,by omega,by omega,by omega⟩⟩
     ·rw[if_neg d3];exact wpS_pure ⟨hG,_,_,_,_,_,rfl,pm',by omega,by omega,by omega,by omega,by omega⟩
  case post1=>
   rintro c st' ⟨hG,⟨r,⟨o,u,v,x1,x2⟩,rfl,hp⟩|⟨out,na,nb,ac,bc,rfl,pm,h1,h2,h3,h4,h5⟩⟩
   ·exact wpS_pure ⟨hG,r,_,rfl,hp⟩
   dsimp only
   refine wpS_bind (wpS_lift (wpAny_rule ⟨rfl,?_⟩))
   refine wpS_bind (wpS_mono (wpS_forRange
    (I:=fun x (c:Option (Array Keyed)×Nat×Nat×Array Keyed×Nat×Nat×Nat) st'=>Gs st st'/\∃out na nb mg ac bc,c=(none,na,nb,out,mg,ac,bc)/\PH a b out na nb/\1<=na/\2<=nb/\na<=a.size/\nb<=b.size/\na+nb+i+1+1<=a.size+b.size)
    (Q:=fun c st'=>Gs st st'/\((∃r t,c=(some r,t)/\r.toList.Perm (a.toList++b.toList))\/∃out na nb mg ac bc,c=(none,na,nb,out,mg,ac,bc)/\PH a b out na nb/\1<=na/\2<=nb/\na<=a.size/\nb<=b.size/\na+nb+i+1+1<=a.size+b.size)) ?step2 ?fin2 ⟨hG,_,_,_,_,_,_,rfl,pm,h1,h2,h3,h4,h5⟩) ?post2)
   case fin2=>
    rintro c st' ⟨hG,out,na,nb,mg,ac,bc,rfl,pm,h1,h2,h3,h4,h5⟩
    exact⟨hG, .inr ⟨_,_,_,_,_,_,rfl,pm,h1,h2,h3,h4,h5⟩⟩
   case post2=>
    rintro c st' ⟨hG,⟨r,⟨o,u,v,x1,x2,x3⟩,rfl,hp⟩|⟨out,na,nb,mg,ac,bc,rfl,pm,h1,h2,h3,h4,h5⟩⟩
    ·exact wpS_pure ⟨hG,r,_,rfl,hp⟩
    dsimp only
    refine wpS_bind (Qb hG fun st2 hG2=> ?_)
    exact wpS_pure ⟨hG2,_,_,_,_,rfl,pm,h1,h2,h3,h4,by omega⟩
   case step2=>
    rintro x c st' _ hx ⟨hG,out,na,nb,mg,ac,bc,rfl,pm,h1,h2,h3,h4,h5⟩
    dsimp only
    by_cases hmg:mg>1
    case' pos=>rw[if_pos hmg]
    case' neg=>rw[if_neg hmg]
    all_goals
     refine wpS_bind (Qb hG fun st2 hG2=> ?_)
     refine wpS_bind (Zq (by omega) fun pb hpb eb=>wpS_bind (YB hL (hG2.kind.trans hk) (hb pb hpb) ha (by omega) (by omega) fun k hk'=> ?_))
     dsimp only
     by_cases hk0:na - k>0
     case' pos=>
      rw[if_pos hk0]
      have pm':=pm.as hk'
      by_cases e1:(k == 0)=true
      ·rw[if_pos e1];exact wpS_pure ⟨hG2, .inl ⟨_,_,rfl,pm'.done⟩⟩
      rw[if_neg e1]
      have e1':=YH e1
     case' neg=>
      rw[if_neg hk0]
      have pm':=pm
     all_goals
      refine wpS_bind (Zq (by omega) fun pb2 _ eb2=> ?_)
      have pmb:=pm'.bp (by omega) eb2
      by_cases d1:(nb - 1 == 1)=true
      ·rw[if_pos d1];exact wpS_pure ⟨hG2, .inl ⟨_,_,rfl,pmb.first⟩⟩
      rw[if_neg d1]
      have d1':=YH d1
      refine wpS_bind (Zq (by omega) fun pa2 hpa2 ea2=>wpS_bind (YB hL (hG2.kind.trans hk) (ha pa2 hpa2) hb (by omega) (by omega) fun k2 hk2=> ?_))
      dsimp only
      by_cases kz:nb - 1 - k2>0
      case' pos=>
       rw[if_pos kz]
       have pmx:=pmb.bs hk2
       by_cases d4:(k2 == 1)=true
       ·rw[if_pos d4];exact wpS_pure ⟨hG2, .inl ⟨_,_,rfl,pmx.first⟩⟩
       rw[if_neg d4]
       by_cases d6:(k2 == 0)=true
       ·rw[if_pos d6];exact wpS_pure ⟨hG2, .inl ⟨_,_,rfl,pmx.done⟩⟩
       rw[if_neg d6]
       have d4':=YH d4
       have d6':=YH d6
      case' neg=>
       rw[if_neg kz]
       have pmx:=pmb
      all_goals
       refine wpS_bind (Zq (by omega) fun pa3 _ ea3=> ?_)
       have pme:=pmx.ap (by omega) ea3
       split
       ·exact wpS_pure ⟨hG2, .inl ⟨_,_,rfl,pme.done⟩⟩
       rename_i d5
       have d5':=YH d5
       split
       ·exact wpS_pure ⟨hG2, .inr ⟨_,_,_,_,_,_,rfl,pme,by omega,by omega,by omega,by omega,by omega⟩⟩
       ·exact wpS_pure ⟨hG2,_,_,_,_,_,_,rfl,pme,by omega,by omega,by omega,by omega,by omega⟩
end
end PyProof.Rows
namespace PyProof.Rows
open PySem
structure PB(a₀:Array Keyed)(κ:SortKind)(st:SortSt):Prop where
 perm:(arrOf st).Perm a₀
 kind:kindOf st=κ
 failed:failedOf st=none
section
variable{prog:Program}{w:World}{A:Around}{E:Value->Shared->Prop}{s:Shared}{a₀:Array Keyed}{κ:SortKind}{st:SortSt}
theorem PB.size(h:PB a₀ κ st):(arrOf st).size=a₀.size:=h.perm.size_eq
theorem PB.mem(h:PB a₀ κ st):∀z∈(arrOf st).toList,z∈a₀.toList:=fun z hz=>(Array.perm_iff_toList_perm.mp h.perm).mem_iff.mp hz
theorem PB.setArr(h:PB a₀ κ st){xs:Array Keyed}(hp:xs.Perm (arrOf st)):PB a₀ κ (setArr st xs):=⟨hp.trans h.perm,h.kind,h.failed⟩
theorem YO{i j:Nat}{Q:Option Bool->SortSt->Prop}(hL:WJ prog w A s a₀ κ)(hB:PB a₀ κ st)(hi:i<a₀.size)(hj:j<a₀.size)(h:∀b,Q (some b) st):wpS (model prog w) A E s (ltAt' i j) Q st:=by
 rw[ltAt'_eq]
 refine wpS_bind (wpS_get ?_)
 refine wpS_bind (Zq (by rw[hB.size];exact hi) fun x hx _=>wpS_bind (Zq (by rw[hB.size];exact hj) fun y hy _=> ?_))
 exact Qa hL hB.kind (hB.mem x hx) (hB.mem y hy) h
theorem Qc{i j:Nat}{Q:Unit->SortSt->Prop}(hB:PB a₀ κ st)(h:∀st',PB a₀ κ st'->pendingOf st'=pendingOf st->Q () st'):wpS (model prog w) A E s (reverseSlice' i j) Q st:=by
 rw[reverseSlice'_eq]
 exact wpS_modify (h _ (hB.setArr (mirror_perm _ _ _ _)) rfl)
theorem Z4c{i j:Nat}{Q:Unit->SortSt->Prop}(hB:PB a₀ κ st)(h:∀st',PB a₀ κ st'->pendingOf st'=pendingOf st->Q () st'):wpS (model prog w) A E s (moveDown' i j) Q st:=by
 rw[moveDown'_eq]
 exact wpS_modify (h _ (hB.setArr (bubble_perm _ _ _)) rfl)
theorem Z79{lo n ok:Nat}{Q:Bool->SortSt->Prop}(hL:WJ prog w A s a₀ κ)(hB:PB a₀ κ st)(hn:lo+n<=a₀.size)(h:∀st',PB a₀ κ st'->pendingOf st'=pendingOf st->Q true st'):wpS (model prog w) A E s (binarySort' lo n ok) Q st:=by
 rw[binarySort'_eq]
 refine wpS_bind (wpS_mono (wpS_forRange (I:=fun k c st'=>c=(none,())/\PB a₀ κ st'/\pendingOf st'=pendingOf st) (Q:=fun c st'=>c=(none,())/\PB a₀ κ st'/\pendingOf st'=pendingOf st) ?step (fun _ _ q=>q) ⟨rfl,hB,rfl⟩) ?post)
 case post=>
  rintro c st' ⟨rfl,hB',hp⟩
  exact wpS_pure (h st' hB' hp)
 case step=>
  rintro k c st' _ hk ⟨rfl,hB',hp⟩
  refine wpS_bind (wpS_mono (wpS_forRange (I:=fun x c st''=>st'=st''/\∃l r,c=(none,l,r)/\r<=k) (Q:=fun c st''=>st'=st''/\∃l r,c=(none,l,r)/\r<=k) ?istep (fun _ _ q=>q) ⟨rfl,0,k,rfl,Nat.le_refl _⟩) ?ipost)
  case ipost=>
   rintro c st'' ⟨e,l,r,rfl,hr⟩
   subst e
   exact wpS_bind (Z4c hB' fun st3 h3 p3=>wpS_pure ⟨rfl,h3,p3.trans hp⟩)
  case istep=>
   rintro x c st'' _ hx ⟨e,l,r,rfl,hr⟩
   subst e
   dsimp only
   by_cases hge:l≥r
   ·rw[if_pos hge];exact wpS_pure ⟨rfl,l,r,rfl,hr⟩
   ·rw[if_neg hge]
    refine wpS_bind (YO hL hB' (by omega) (by omega) fun b=> ?_)
    cases b with
    |true=>exact wpS_pure ⟨rfl,_,_,rfl,by omega⟩
    |false=>exact wpS_pure ⟨rfl,_,_,rfl,hr⟩
theorem Z0g{lo nrem:Nat}{Q:Option Nat->SortSt->Prop}(hL:WJ prog w A s a₀ κ)(hB:PB a₀ κ st)(h1:1<=nrem)(hn:lo+nrem<=a₀.size)(h:∀m st',PB a₀ κ st'->pendingOf st'=pendingOf st->1<=m->m<=nrem->Q (some m) st'):
  wpS (model prog w) A E s (countRun' lo nrem) Q st:=by
 rw[countRun'_eq]
 refine wpS_bind (wpS_mono (wpS_forRange (I:=fun x c st'=>st=st'/\c=(none,x)) (Q:=fun c st'=>st=st'/\∃m,c=(none,m)/\1<=m/\m<=nrem) ?s1 ?f1 ⟨rfl,rfl⟩) ?p1)
 case f1=>
  rintro c st' ⟨e,rfl⟩
  exact⟨e,_,rfl,by omega,by omega⟩
 case s1=>
  rintro x c st' hx1 hx2 ⟨e,rfl⟩
  subst e
  dsimp only
  refine wpS_bind (YO hL hB (by omega) (by omega) fun b=> ?_)
  cases b with
  |true=>exact wpS_pure ⟨rfl,_,rfl,by omega,by omega⟩
  |false=>exact wpS_pure ⟨rfl,rfl⟩
 case p1=>
  rintro c st' ⟨e,n,rfl,hn1,hn2⟩
  subst e
  dsimp only
  by_cases c1:(n == nrem)=true
  ·rw[if_pos c1];exact wpS_pure (h n st hB rfl hn1 hn2)
  ·rw[if_neg c1]
   have c1':=YH c1
   by_cases c2:n>1
   case' pos=>
    rw[if_pos c2]
    refine wpS_bind (YO hL hB (by omega) (by omega) fun b=> ?_)
    cases b
    case' true=>exact wpS_pure (h n st hB rfl hn1 hn2)
    dsimp only
    rw[if_neg (by decide)]
    refine wpS_bind (Qc hB fun st2 hB2 p2=> ?_)
   case' neg=>
    rw[if_neg c2]
    have hB2:=hB
    have p2:pendingOf st=pendingOf st:=rfl
   all_goals
    refine wpS_bind (wpS_lift (wpAny_rule ⟨rfl,?_⟩))
    refine wpS_bind (wpS_mono (wpS_forRange (I:=fun x c st'=>PB a₀ κ st'/\pendingOf st'=pendingOf st/\∃neq,c=(none,x,neq)) (Q:=fun c st'=>PB a₀ κ st'/\pendingOf st'=pendingOf st/\∃m neq,c=(none,m,neq)/\n+1<=m/\m<=nrem) ?s2 ?f2 ⟨hB2,p2,_,rfl⟩) ?p2)
    case f2=>
     rintro c st' ⟨hB',hp',neq,rfl⟩
     exact⟨hB',hp',_,_,rfl,by omega,by omega⟩
    case s2=>
     rintro x c st' hx1 hx2 ⟨hB',hp',neq,rfl⟩
     dsimp only
     refine wpS_bind (YO hL hB' (by omega) (by omega) fun b=> ?_)
     cases b with
     |true=>
      dsimp only
      rw[if_pos rfl]
      by_cases hq:neq>0
      ·rw[if_pos hq]
       exact wpS_bind (Qc hB' fun st4 hB4 p4=>wpS_pure ⟨hB4,p4.trans hp',_,rfl⟩)
      ·rw[if_neg hq]
       exact wpS_pure ⟨hB',hp',_,rfl⟩
     |false=>
      dsimp only
      rw[if_neg (by decide)]
      refine wpS_bind (YO hL hB' (by omega) (by omega) fun b=> ?_)
      cases b with
      |true=>exact wpS_pure ⟨hB',hp',_,_,rfl,by omega,by omega⟩
      |false=>exact wpS_pure ⟨hB',hp',_,rfl⟩
    case p2=>
     rintro c st3 ⟨hB3,p3,m,neq,rfl,hm1,hm2⟩
     dsimp only
     by_cases hq:neq>0
     case' pos=>
      rw[if_pos hq]
      refine wpS_bind (Qc hB3 fun st4 hB4 p4'=> ?_)
      have p4:=p4'.trans p3
     case' neg=>
      rw[if_neg hq]
      have hB4:=hB3
      have p4:=p3
     all_goals
      refine wpS_bind (Qc hB4 fun st5 hB5 p5=> ?_)
      refine wpS_bind (wpS_mono (wpS_forRange (I:=fun x c st'=>st5=st'/\c=(none,x)) (Q:=fun c st'=>st5=st'/\∃m,c=(none,m)/\1<=m/\m<=nrem) ?s3 ?f3 ⟨rfl,rfl⟩) ?p3)
      case f3=>
       rintro c st' ⟨e,rfl⟩
       exact⟨e,_,rfl,by omega,by omega⟩
      case s3=>
       rintro x c st' hx1 hx2 ⟨e,rfl⟩
       subst e
       dsimp only
       refine wpS_bind (YO hL hB5 (by omega) (by omega) fun b=> ?_)
       cases b with
       |true=>exact wpS_pure ⟨rfl,_,rfl,by omega,by omega⟩
       |false=>exact wpS_pure ⟨rfl,rfl⟩
      case p3=>
       rintro c st' ⟨e,m,rfl,hm1,hm2⟩
       subst e
       exact wpS_pure (h m st5 hB5 (by rw[p5,p4]) hm1 hm2)
end
end PyProof.Rows
namespace PyProof.Rows
open PySem
theorem J0(i:Nat):mergeAt' i=(do
 let s←get
 let(some (sa,na,power),some (sb,nb,_)):=((pendingOf s)[i]?,(pendingOf s)[i+1]?)|unsupported "internal:list.sort.pending"
 set (setPending s (((pendingOf s).setIfInBounds i (sa,na+nb,power)).eraseIdxIfInBounds (i+1)))
 let some k←YV false (←elem' (arrOf s) sb) (arrOf s) sa na 0|return false
 let(sa,na):=(sa+k,na - k)
 if na == 0 then return true
 let some nb←YV true (←elem' (arrOf s) (sa+na - 1)) (arrOf s) sb nb (nb - 1)|return false
 if nb == 0 then return true
 let x:=(arrOf s).extract sa sb
 let y:=(arrOf s).extract sb (sb+nb)
 let merged←if na<=nb then WH x y else WI x y
 modify fun s=>setArr s (merged.toList.zipIdx.foldl (fun a (p,j)=>a.setIfInBounds (sa+j) p) (arrOf s))
 return(failedOf (←get)).isNone):=rfl
def Ch:List (Nat×Nat×Nat)->Nat->Nat->Prop
 | [],x,y=>x=y
 |(st,n,_)::r,x,y=>st=x/\1<=n/\Ch r (x+n) y
theorem Ch.app:∀{l r:List (Nat×Nat×Nat)} {x z:Nat},Ch (l++r) x z↔∃y,Ch l x y/\Ch r y z
 | [],r,x,z=>⟨fun h=>⟨x,rfl,h⟩,fun⟨y,e,h⟩=>by cases e;exact h⟩
 |(s,n,_)::l,r,x,z=>by
  constructor
  ·rintro⟨h1,h2,h3⟩
   obtain⟨y,h4,h5⟩:=Ch.app.mp h3
   exact⟨y,⟨h1,h2,h4⟩,h5⟩
  ·rintro⟨y,⟨h1,h2,h3⟩,h4⟩
   exact⟨h1,h2,Ch.app.mpr ⟨y,h3,h4⟩⟩
theorem Ch.le:∀{l:List (Nat×Nat×Nat)} {x z:Nat},Ch l x z->x<=z
 | [],x,z,h=>Nat.le_of_eq h
 |(s,n,_)::l,x,z,⟨_,_,h⟩=>by have:=Ch.le h;omega
theorem Ch.mod(f:Nat×Nat×Nat->Nat×Nat×Nat)(hf:∀p,(f p).1=p.1/\(f p).2.1=p.2.1):∀{l:List (Nat×Nat×Nat)} {i x z:Nat},Ch l x z->Ch (l.modify i f) x z
 | [],i,x,z,h=>by rw[List.modify_nil];exact h
 |(s,n,q)::l,0,x,z,⟨h1,h2,h3⟩=>by
  rw[List.modify_zero_cons]
  obtain⟨e1,e2⟩:=hf (s,n,q)
  generalize f (s,n,q)=p at e1 e2
  obtain⟨s',n',q'⟩:=p
  dsimp only at e1 e2
  subst e1 e2
  exact⟨h1,h2,h3⟩
 |(s,n,q)::l,i+1,x,z,⟨h1,h2,h3⟩=>by
  rw[List.modify_succ_cons]
  exact⟨h1,h2,Ch.mod f hf h3⟩
theorem Zcl{α:Type}{l:List α}{i:Nat}(h:i+1<l.length):∃l1 x y l2,l=l1++x::y::l2/\l1.length=i:=by
 refine⟨l.take i,l[i],l[i+1],l.drop (i+2),?_,by simp;omega⟩
 have e1:l.drop i=l[i]::l.drop (i+1):=List.drop_eq_getElem_cons (by omega)
 have e2:l.drop (i+1)=l[i+1]::l.drop (i+1+1):=List.drop_eq_getElem_cons h
 rw[←e2,←e1,List.take_append_drop]
theorem J1{α:Type}(sa:Nat):∀(ms:List α) (n:Nat) (arr:Array α),sa+n+ms.length<=arr.size->
  ((ms.zipIdx n).foldl (fun a (p:α×Nat)=>a.setIfInBounds (sa+p.2) p.1) arr).toList=arr.toList.take (sa+n)++ms++arr.toList.drop (sa+n+ms.length)
 | [],n,arr,_=>by simp
 |m::ms,n,arr,h=>by
  rw[List.zipIdx_cons,List.foldl_cons]
  have hl:(m::ms).length=ms.length+1:=rfl
  rw[J1 sa ms (n+1) _ (by rw[Array.size_setIfInBounds];omega)]
  rw[Array.toList_setIfInBounds]
  have e1:(arr.toList.set (sa+n) m).take (sa+(n+1))=arr.toList.take (sa+n)++[m]:=by
   rw[show sa+(n+1)=(sa+n)+1 by omega,List.take_succ,List.take_set_of_le (Nat.le_refl _),List.getElem?_set_self (by simp;omega)]
   rfl
  have e2:(arr.toList.set (sa+n) m).drop (sa+(n+1)+ms.length)=arr.toList.drop (sa+n+(m::ms).length):=by
   rw[List.drop_set_of_lt (by omega)]
   congr 1
   omega
  rw[e1,e2]
  simp
section
variable{prog:Program}{w:World}{A:Around}{E:Value->Shared->Prop}{s:Shared}{a₀:Array Keyed}{κ:SortKind}{st:SortSt}
theorem Z9v{σ:Type}{M:Model}{Q:PUnit->σ->Prop}{st st':σ}(h:Q ⟨⟩ st'):wpS M A E s (set st':StateT σ Sem PUnit) Q st:=by
 unfold wpS;rw[StateT.run_set];exact wpAny_pure ⟨rfl,h⟩
theorem QX{i lo:Nat}{Q:Bool->SortSt->Prop}(hL:WJ prog w A s a₀ κ)(hB:PB a₀ κ st)(hC:Ch (pendingOf st).toList 0 lo)(hlo:lo<=a₀.size)(hi:i+1<(pendingOf st).size)
  (h:∀st',PB a₀ κ st'->Ch (pendingOf st').toList 0 lo->(pendingOf st').size+1=(pendingOf st).size->Q true st'):wpS (model prog w) A E s (mergeAt' i) Q st:=by
 obtain⟨l1,⟨sa,na,pw⟩,⟨sb,nb,pv⟩,l2,el,hl1⟩:=Zcl (l:=(pendingOf st).toList) (by simpa using hi)
 have ei:(pendingOf st)[i]? =some (sa,na,pw):=by
  rw[←Array.getElem?_toList,el,←hl1];simp
 have ej:(pendingOf st)[i+1]? =some (sb,nb,pv):=by
  rw[←Array.getElem?_toList,el,←hl1,List.getElem?_append_right (by omega)]
  simp
 have hC0:=hC
 rw[el]at hC0
 obtain⟨y,c1,c2,c3,c4,c5,c6⟩:=Ch.app.mp hC0
 have c7:=c6.le
 subst c2
 subst c4
 have newL:(((pendingOf st).setIfInBounds i (sa,na+nb,pw)).eraseIdxIfInBounds (i+1)).toList=l1++(sa,na+nb,pw)::l2:=by
  rw[Array.toList_eraseIdxIfInBounds,Array.toList_setIfInBounds,el,←hl1]
  simp[List.eraseIdx_append_of_length_le]
 have newC:Ch (((pendingOf st).setIfInBounds i (sa,na+nb,pw)).eraseIdxIfInBounds (i+1)).toList 0 lo:=by
  rw[newL]
  exact Ch.app.mpr ⟨sa,c1,rfl,by omega,by rw[←Nat.add_assoc];exact c6⟩
 have newS:(((pendingOf st).setIfInBounds i (sa,na+nb,pw)).eraseIdxIfInBounds (i+1)).size+1=(pendingOf st).size:=by
  rw[←Array.length_toList,newL,←Array.length_toList,el]
  simp
  omega
 have sz:=hB.size
 rw[J0]
 refine wpS_bind (wpS_get ?_)
 rw[ei,ej]
 dsimp only
 refine wpS_bind (Z9v ?_)
 refine wpS_bind (Zq (by omega) fun p1 hp1 _=>wpS_bind (YB hL hB.kind (hB.mem _ hp1) hB.mem (by omega) (by omega) fun k hk=> ?_))
 dsimp only
 by_cases z1:(na - k == 0)=true
 ·rw[if_pos z1];exact wpS_pure (h _ ⟨hB.perm,hB.kind,hB.failed⟩ newC newS)
 rw[if_neg z1]
 have z1':=YH z1
 refine wpS_bind (Zq (by omega) fun p2 hp2 _=>wpS_bind (YB hL hB.kind (hB.mem _ hp2) hB.mem (by omega) (by omega) fun nb' hnb=> ?_))
 dsimp only
 by_cases z2:(nb' == 0)=true
 ·rw[if_pos z2];exact wpS_pure (h _ ⟨hB.perm,hB.kind,hB.failed⟩ newC newS)
 rw[if_neg z2]
 have z2':=YH z2
 have sx:((arrOf st).extract (sa+k) (sa+na)).size=na - k:=by rw[Array.size_extract];omega
 have sy:((arrOf st).extract (sa+na) (sa+na+nb')).size=nb':=by rw[Array.size_extract];omega
 have mx:∀z∈((arrOf st).extract (sa+k) (sa+na)).toList,z∈a₀.toList:=fun z hz=>hB.mem z (by
  rw[Array.toList_extract,List.extract_eq_take_drop]at hz
  exact List.mem_of_mem_drop (List.mem_of_mem_take hz))
 have my:∀z∈((arrOf st).extract (sa+na) (sa+na+nb')).toList,z∈a₀.toList:=fun z hz=>hB.mem z (by
  rw[Array.toList_extract,List.extract_eq_take_drop]at hz
  exact List.mem_of_mem_drop (List.mem_of_mem_take hz))
 by_cases z3:na - k<=nb'
 case' pos=>
  rw[if_pos z3]
  refine wpS_bind (UX hL hB.kind mx my (by omega) (by omega) ?_)
 case' neg=>
  rw[if_neg z3]
  refine wpS_bind (UZ hL hB.kind mx my (by omega) (by omega) ?_)
 all_goals
  intro out st3 hp hG3
  refine wpS_bind (wpS_modify ?_)
  refine wpS_bind (wpS_get ?_)
  have ln:out.toList.length=na - k+nb':=by
   have:=hp.length_eq
   simp only[List.length_append,Array.length_toList,sx,sy]at this ⊢
   exact this
  have fo:failedOf st3=none:=hG3.failed.trans hB.failed
  have ar:arrOf st3=arrOf st:=hG3.arr
  have pe:pendingOf st3=_:=hG3.pend
  refine wpS_pure ?_
  show Q (failedOf st3).isNone _
  rw[fo]
  refine h _ ⟨?_,hG3.kind.trans hB.kind,fo⟩ ?_ ?_
  ·show Array.Perm (out.toList.zipIdx.foldl _ (arrOf st3)) a₀
   rw[ar]
   refine Array.Perm.trans (Array.perm_iff_toList_perm.mpr ?_) hB.perm
   rw[J1 (sa+k) out.toList 0 (arrOf st) (by rw[ln,hB.size];omega),ln,Nat.add_zero]
   have e0:(arrOf st).toList=(arrOf st).toList.take (sa+k)++(((arrOf st).toList.drop (sa+k)).take (na - k)++((arrOf st).toList.drop (sa+na)).take nb')++(arrOf st).toList.drop (sa+k+(na - k+nb')):=by
    have q1:=(List.take_append_drop (sa+k) (arrOf st).toList).symm
    have q2:=Xe (arrOf st).toList (show sa+k<=sa+na by omega)
    have q3:=Xe (arrOf st).toList (show sa+na<=sa+na+nb' by omega)
    rw[show sa+na - (sa+k)=na - k by omega]at q2
    rw[show sa+na+nb' - (sa+na)=nb' by omega]at q3
    rw[show sa+k+(na - k+nb')=sa+na+nb' by omega,List.append_assoc,List.append_assoc,←q3,←q2]
    exact q1
   have e1:((arrOf st).extract (sa+k) (sa+na)).toList=((arrOf st).toList.drop (sa+k)).take (na - k):=by
    rw[Array.toList_extract,List.extract_eq_take_drop,show sa+na - (sa+k)=na - k by omega]
   have e2:((arrOf st).extract (sa+na) (sa+na+nb')).toList=((arrOf st).toList.drop (sa+na)).take nb':=by
    rw[Array.toList_extract,List.extract_eq_take_drop,show sa+na+nb' - (sa+na)=nb' by omega]
   rw[e1,e2]at hp
   have g:=List.Perm.append_right ((arrOf st).toList.drop (sa+k+(na - k+nb'))) (List.Perm.append_left ((arrOf st).toList.take (sa+k)) hp)
   rw[←e0]at g
   exact g
  ·show Ch (pendingOf st3).toList 0 lo
   rw[pe];exact newC
  ·show(pendingOf st3).size+1=_
   rw[pe];exact newS
theorem V9{Q:Unit->SortSt->Prop}(hL:WJ prog w A s a₀ κ)(hB:PB a₀ κ st)(hp:pendingOf st= #[])(h:∀st',(arrOf st').Perm a₀->failedOf st'=none->Q () st'):wpS (model prog w) A E s sortRuns' Q st:=by
 rw[sortRuns'_eq]
 refine wpS_bind (wpS_get ?_)
 dsimp only
 have sz:=hB.size
 rw[sz]
 refine wpS_bind (wpS_mono (wpS_forRange
  (I:=fun x c st'=>∃lo,c=(none,lo)/\PB a₀ κ st'/\Ch (pendingOf st').toList 0 lo/\lo<=a₀.size)
  (Q:=fun c st'=>∃lo,c=(none,lo)/\PB a₀ κ st'/\Ch (pendingOf st').toList 0 lo/\lo<=a₀.size) ?step (fun _ _ q=>q) ⟨0,rfl,hB,by rw[hp];rfl,Nat.zero_le _⟩) ?post)
 case post=>
  rintro c st' ⟨lo,rfl,hB',hC,hlo⟩
  try dsimp only
  refine wpS_bind (wpS_mono (wpS_forRange (I:=fun _ c st''=>c=(none,())/\PB a₀ κ st''/\Ch (pendingOf st'').toList 0 lo) (Q:=fun c st''=>c=(none,())/\PB a₀ κ st''/\Ch (pendingOf st'').toList 0 lo) ?s2 (fun _ _ q=>q) ⟨rfl,hB',hC⟩) ?p2)
  case p2=>
   rintro c st'' ⟨rfl,hB2,_⟩
   exact wpS_pure (h st'' hB2.perm hB2.failed)
  case s2=>
   rintro x c st'' _ _ ⟨rfl,hB2,hC2⟩
   refine wpS_bind (wpS_get ?_)
   try dsimp only
   by_cases z1:(pendingOf st'').size<=1
   ·rw[if_pos z1];exact wpS_pure ⟨rfl,hB2,hC2⟩
   rw[if_neg z1]
   refine wpS_bind (QX hL hB2 hC2 hlo ?_ fun st3 hB3 hC3 _=> ?_)
   ·have q:∀(b:Bool) (n:Nat),(if b=true then n - 1 else n)<=n:=fun b n=>by cases b<;>simp
    exact Nat.lt_of_le_of_lt (Nat.add_le_add_right (q _ _) 1) (by omega)
   ·simp only[Bool.not_true,Bool.false_eq_true,if_false]
    exact wpS_pure ⟨rfl,hB3,hC3⟩
 case step=>
  rintro x c st' _ _ ⟨lo,rfl,hB',hC,hlo⟩
  dsimp only
  by_cases z1:lo≥a₀.size
  ·rw[if_pos z1];exact wpS_pure ⟨lo,rfl,hB',hC,hlo⟩
  rw[if_neg z1]
  refine wpS_bind (Z0g hL hB' (by omega) (by omega) fun n st2 hB2 p2 hn1 hn2=> ?_)
  dsimp only
  by_cases z2:n<minRun' a₀.size a₀.size 0
  case' pos=>
   rw[if_pos z2]
   refine wpS_bind (wpS_lift (wpAny_rule ⟨rfl,?_⟩))
   refine wpS_bind (Z79 hL hB2 (by omega) fun st3 hB3 p3=> ?_)
   simp only[Bool.not_true,Bool.false_eq_true,if_false]
   have hC3:Ch (pendingOf st3).toList 0 lo:=by rw[p3,p2];exact hC
   have m1:1<=min (a₀.size - lo) (minRun' a₀.size a₀.size 0):=by omega
   have m2:lo+min (a₀.size - lo) (minRun' a₀.size a₀.size 0)<=a₀.size:=by omega
   generalize min (a₀.size - lo) (minRun' a₀.size a₀.size 0)=n' at m1 m2
  case' neg=>
   rw[if_neg z2]
   have hB3:=hB2
   have hC3:Ch (pendingOf st2).toList 0 lo:=by rw[p2];exact hC
   have m1:=hn1
   have m2:lo+n<=a₀.size:=by omega
  all_goals
   refine wpS_bind (wpS_get ?_)
   split
   ·rename_i s1 n1 _ hback
    try dsimp only
    refine wpS_bind (wpS_mono (wpS_forRange (I:=fun _ c st''=>c=(none,())/\PB a₀ κ st''/\Ch (pendingOf st'').toList 0 lo) (Q:=fun c st''=>c=(none,())/\PB a₀ κ st''/\Ch (pendingOf st'').toList 0 lo) ?s4 (fun _ _ q=>q) ⟨rfl,hB3,hC3⟩) ?p4)
    case p4=>
     rintro c st'' ⟨rfl,hB5,hC5⟩
     refine wpS_bind (wpS_modify ?_)
     refine wpS_bind (wpS_modify (wpS_pure ⟨_,rfl,⟨hB5.perm,hB5.kind,hB5.failed⟩,?_,m2⟩))
     show Ch (Array.push (Array.modify (pendingOf st'') _ _) _).toList 0 _
     rw[Array.toList_push,Array.toList_modify]
     exact Ch.app.mpr ⟨lo,Ch.mod _ (fun p=>by obtain⟨a,b,c⟩:=p;exact⟨rfl,rfl⟩) hC5,rfl,m1,rfl⟩
    case s4=>
     rintro y c st'' _ _ ⟨rfl,hB5,hC5⟩
     refine wpS_bind (wpS_get ?_)
     try dsimp only
     split
     ·rename_i older hold
      split
      ·exact wpS_pure ⟨rfl,hB5,hC5⟩
      ·have hs:1<(pendingOf st'').size:=by
        by_cases hs:(pendingOf st'').size>1
        ·exact hs
        ·rw[if_neg hs]at hold;cases hold
       refine wpS_bind (QX hL hB5 hC5 hlo (by omega) fun st6 hB6 hC6 _=> ?_)
       simp only[Bool.not_true,Bool.false_eq_true,if_false]
       exact wpS_pure ⟨rfl,hB6,hC6⟩
     ·exact wpS_pure ⟨rfl,hB5,hC5⟩
   ·refine wpS_bind (wpS_modify (wpS_pure ⟨_,rfl,⟨hB3.perm,hB3.kind,hB3.failed⟩,?_,m2⟩))
    rename_i hback
    show Ch (Array.push (pendingOf _) _).toList 0 _
    rw[Array.toList_push]
    exact Ch.app.mpr ⟨lo,hC3,rfl,m1,rfl⟩
end
end PyProof.Rows
namespace L3
open PySem PySem.Spec L2
open PyProof.Rows hiding St
theorem Z7a{α β:Type}(f:α->β){l' l:List β}(h:l'.Perm l):∀is:List α,l=is.map f->∃is':List α,is'.Perm is/\l'=is'.map f:=by
 induction h with
 |nil=>intro is e;exact⟨is,List.Perm.refl _,e⟩
 |cons x _ ih=>
  intro is e
  cases is with
  |nil=>cases e
  |cons i r=>
   rw[List.map_cons]at e
   injection e with e1 e2
   obtain⟨r',p,e'⟩:=ih r e2
   exact⟨i::r',p.cons i,by rw[List.map_cons,e1,e']⟩
 |swap x y l=>
  intro is e
  match is,e with
  |i::j::r,e=>
   simp only[List.map_cons]at e
   injection e with e1 e2
   injection e2 with e2 e3
   exact⟨j::i::r,List.Perm.swap ..,by simp only[List.map_cons,e1,e2,e3]⟩
 |trans _ _ ih1 ih2=>
  intro is e
  obtain⟨is2,p2,e2⟩:=ih2 is e
  obtain⟨is1,p1,e1⟩:=ih1 is2 e2
  exact⟨is1,p1.trans p2,e1⟩
theorem Vw{α:Type}(l:List α)(d:α):l=(List.range l.length).map fun i=>l.getD i d:=by
 apply List.ext_getElem (by simp)
 intro i h1 h2
 simp[h1]
section
variable{prog:Program}{w:World}{A:Around}{E:Value->Shared->Prop}{s:Shared}
theorem Z0h{a:Addr}{vs:List Value}{ks:List (List Int)}{n:Nat}{P:PySem.Fin->Shared->Prop}(ho:s.heap.get? a=some (seqObj "list" vs.toArray n))(T:∀h':Heap,(∀b o,b≠a->s.heap.get? b=some o->h'.get? b=some o)->TupsAre h' vs ks)(h2:2<=vs.length)(hz:vs.length<=1000000)
  (h:∀is:List Nat,is.Perm (List.range vs.length)->P (.done (.ret .none)) {s with heap:=sortedHeap s.heap a vs (is.map fun i=>vs.getD i Value.none).toArray}):wpAny (model prog w) A (Builtin.«list.sort» ⟨[.ref a],[]⟩) P E s:=by
 have ha:a<s.heap.objs.size:=Heap.lt_size ho
 obtain⟨e1,ho1⟩:∃e1,(s.heap.update a (Obj.mapSeq fun _=> #[])).get? a=some (seqObj "list" #[] e1):=⟨_,get?_update_seq ho (fun _=> #[])⟩
 have hzl:vs.length<=sizeLine:=Nat.le_trans hz (by decide)
 rw[list_sort_plain]
 refine wpAny_bind (listItems_at ho rfl (wpAny_bind (listUpdate_at ho rfl ?_ (by rw[List.size_toArray];exact hzl) (Nat.zero_le _))))
 refine wpAny_bind (seqEpoch_at ho1 rfl (wpAny_bind (wpAny_newTuple ?_ hzl)))
 refine wpAny_bind (wpAny_newList (wpAny_holding ?_) (Nat.zero_le _))
 have kp:∀b o,b≠a->s.heap.get? b=some o->(((s.heap.update a (Obj.mapSeq fun _=> #[])).push (seqObj "tuple" vs.toArray 0)).push (seqObj "list" #[] 0)).get? b=some o:=fun b o nb e=>
  Heap.get?_push_of_some _ (Heap.get?_push_of_some _ ((Heap.get?_update_other _ _ (Ne.symm nb)).trans e))
 have ho6:(((s.heap.update a (Obj.mapSeq fun _=> #[])).push (seqObj "tuple" vs.toArray 0)).push (seqObj "list" #[] 0)).get? a=some (seqObj "list" #[] e1):=Heap.get?_push_of_some _ (Heap.get?_push_of_some _ ho1)
 have T6:=T _ kp
 dsimp only
 have hn2:¬vs.toArray.size<2:=by rw[List.size_toArray];omega
 rw[if_neg hn2,if_neg hn2]
 obtain⟨fs,q1,q2,q3⟩:=T6.kat
 refine wpAny_bind (PySem.W.kat_kind (T:=.type "int") (s:={s with heap:=((s.heap.update a (Obj.mapSeq fun _=> #[])).push (seqObj "tuple" vs.toArray 0)).push (seqObj "list" #[] 0)}) q1 (by omega) (fun v hv=> ?_) rfl ?_)
 ·obtain⟨z,t,rfl⟩:=q3 v hv
  exact PySem.W.Looks.of_pure rfl
 ·have hz2:∀z∈(vs.toArray.zip vs.toArray).toList,∃i,i<vs.length/\z.1=vs.getD i Value.none:=fun z hz=>by
   rw[Array.toList_zip]at hz
   obtain⟨i,hi⟩:=List.getElem?_of_mem hz
   have hi':=List.getElem?_zip_eq_some.mp hi
   have hlt:i<vs.length:=(List.getElem?_eq_some_iff.mp hi'.1).1
   exact⟨i,hlt,by rw[List.getD_eq_getElem?_getD,hi'.1];rfl⟩
  have hL:WJ prog w A {s with heap:=((s.heap.update a (Obj.mapSeq fun _=> #[])).push (seqObj "tuple" vs.toArray 0)).push (seqObj "list" #[] 0)} (vs.toArray.zip vs.toArray) (tuples' (Value.type "int" != Value.type "tuple")):=by
   intro x hx y hy
   obtain⟨i,hi,ei⟩:=hz2 x hx
   obtain⟨j,hj,ej⟩:=hz2 y hy
   refine⟨kLt ks i j,fun Q hQ=> ?_⟩
   rw[ei,ej]
   exact Z2o T6 hi hj hQ
  refine wpAny_bind (wpAny_mono (V9 (a₀:=vs.toArray.zip vs.toArray) (st:=SortSt.mk' (tuples' (Value.type "int" != Value.type "tuple")) (vs.toArray.zip vs.toArray) #[] 7 none)
   (Q:=fun _ st'=>(arrOf st').Perm (vs.toArray.zip vs.toArray)/\failedOf st'=none) hL ⟨Array.Perm.refl _,rfl,rfl⟩ rfl fun st' a1 a2=>⟨a1,a2⟩) ?_ fun _ _ e=>e)
  rintro⟨⟨⟩,st'⟩ s' ⟨rfl,hp,hf⟩
  have hp:(arrOf st').Perm (vs.toArray.zip vs.toArray):=hp
  have hf:failedOf st'=none:=hf
  have pl:((arrOf st').map (·.2)).toList.Perm vs:=by
   have e:=(Array.perm_iff_toList_perm.mp hp).map (·.2)
   rw[Array.toList_map]
   refine e.trans ?_
   rw[Array.toList_zip]
   have:(vs.toArray.toList.zip vs.toArray.toList).map (·.2)=vs:=by
    rw[List.map_snd_zip (by simp)]
   rw[this]
  obtain⟨is,pi,ei⟩:=Z7a (fun i=>vs.getD i Value.none) pl (List.range vs.length) (Vw vs _)
  have hout:(arrOf st').map (·.2)=(is.map fun i=>vs.getD i Value.none).toArray:=by
   rw[←ei]
  dsimp only
  refine wpAny_bind (seqEpoch_at ho6 rfl (wpAny_bind (listUpdate_at ho6 rfl ?_ (Nat.zero_le _) ?_)))
  ·rw[hf]
   simp only[bne_self_eq_false,Bool.false_eq_true,if_false]
   rw[hout]
   exact wpAny_pure (h is pi)
  ·show((arrOf st').map (·.2)).size<=_
   rw[hout,List.size_toArray,List.length_map,pi.length_eq,List.length_range]
   exact Nat.le_succ_of_le hzl
end
end L3
namespace L3
open PySem PySem.Spec L2
open PyProof.Rows hiding St
def Z7b(kvs:KVs):Prop:=2<=kvs.length/\kvs.length<=1000/\(Xj (Yb kvs)).isSome=true
section
variable{X:Cx}{pos:Pos}
def Zej(X:Cx):List V->Hp->VK->Prop:=fun xs H Q=>∃(G:Addr->Prop) (kvs:KVs),Free G H/\RepL X.K G H [.dct kvs] xs/\Z7b kvs/\
 ∀ds,ds.Perm (Yb kvs)->∀p zs,H p=none->RepL X.K (fun a=>G a/\a≠p) (upd H p (.lst zs)) ds zs->zs.length<=sizeLine->Q (.ref p) (upd H p (.lst zs))
theorem Z4d(hh:X.A.handled=none):X2 X (.builtin "sorted") (Zej X):=by
 intro pins s σ H xs us Q I r ⟨G,kvs,hG,rd,⟨h2,hz1,ht⟩,q⟩
 obtain⟨x,rfl,rx⟩:=ZY rd
 obtain⟨a,rfl,es,ha,ga,pp⟩:=rx.dct_of
 obtain⟨u,rfl,ru⟩:=YE r
 cases ru
 obtain⟨hz,ns,ks0,rel,dd⟩:=Z2b I.hok ha
 have ry:=UO pp rel
 have rv:=QE ks0
 obtain⟨o,ents,ep,g,gc,gd,ge,gi,gn⟩:=dd
 have ek:ents.toList.map (·.key)=ks0.map fun x=>Value.ref x.2.1:=by rw[ge,List.map_map];rfl
 have hsz:ents.size=ks0.length:=size_of_entries ge
 have hl0:=Paired.length rel
 have hly:=ry.length
 generalize hvs:(ks0.map fun x=>V.ref x.2.1)=vs at ry rv hly
 generalize hits:(ks0.map fun x=>Value.ref x.2.1)=its at rv ek
 have hl:=rv.length
 have hvl:vs.length=ks0.length:=by rw[←hvs];simp
 have hkl:(Yb kvs).length=kvs.length:=by simp[Yb]
 refine QV hh ns ⟨o,g,gc,gd⟩ (by omega) fun A' h' tk kp=> ?_
 rw[ek]
 have I1:Inv X pins σ H {s with heap:=h',toks:=tk}:=I.kept (t':=tk) kp
 have hf:H h'.objs.size=none:=I1.fresh
 have hoL:(h'.push (seqObj "list" its.toArray 0)).get? h'.objs.size=some (seqObj "list" its.toArray 0):=Heap.get?_push_size _ rfl
 obtain⟨ks,hks⟩:=Option.isSome_iff_exists.mp ht
 have T0:=Q9 I1 hks ry rv
 have hkl2:=T0.len
 refine Z0h (ks:=ks) (s:={s with heap:=h'.push (seqObj "list" its.toArray 0),toks:=tk}) hoL (fun h2 k2=>T0.keeps fun b ob eb=>k2 b ob (Nat.ne_of_lt (Heap.lt_size eb)) (Heap.get?_push_of_some _ eb)) (by omega) (by omega) fun is pi=>⟨_,rfl,?_⟩
 have ltI:∀i∈is,i<its.length:=fun i hi=>by simpa using pi.mem_iff.mp hi
 have lt1:∀i∈is,i<vs.length:=fun i hi=>by have:=ltI i hi;omega
 have lt2:∀i∈is,i<(Yb kvs).length:=fun i hi=>by have:=ltI i hi;omega
 have rz:=Vals.pick rv is lt1
 have ro:=RepL.pick ry is lt2
 have pd:(is.map fun i=>(Yb kvs).getD i .non).Perm (Yb kvs):=by
  have e:=Vw (Yb kvs) .non
  have:its.length=(Yb kvs).length:=by omega
  rw[this]at pi
  have pm:=pi.map fun i=>(Yb kvs).getD i .non
  rw[←e]at pm
  exact pm
 have hzz:(is.map fun i=>vs.getD i V.non).length<=sizeLine:=by
  rw[List.length_map,pi.length_eq,List.length_range,sizeLine_eq];omega
 obtain⟨e,he⟩:=sortedHeap_at (out:=(is.map fun i=>its.getD i Value.none).toArray) hoL
 have hk:∀b ob,h'.get? b=some ob->(sortedHeap (h'.push (seqObj "list" its.toArray 0)) h'.objs.size its (is.map fun i=>its.getD i Value.none).toArray).get? b=some ob:=fun b ob eb=>by
  rw[sortedHeap_old (Nat.ne_of_lt (Heap.lt_size eb)) (by rw[size_push'];exact Nat.lt_succ_of_lt (Heap.lt_size eb))]
  exact Heap.get?_push_of_some _ eb
 have gg:=Zv hf (.lst (is.map fun i=>vs.getD i V.non))
 exact⟨.ref _,_,I1.laid (t':=tk) (o:=.lst (is.map fun i=>vs.getD i V.non)) hk (Nat.le_refl _) ⟨hzz,_,e,rz,he⟩,rfl,q _ pd _ _ hf ((ro.off hf).same gg) hzz⟩
def tIN(X:Cx)(S:Rho->List D->Prop):L2.TI:=fun σ H Q=>∃(G:Addr->Prop) (ρ:Rho),Free G H/\RepS X.K G H ρ σ/\(∃ds,S ρ ds)/\∀ds,S ρ ds->
 ∀(J:It) (H1:Hp) (C:Hp->Prop),Same H H1->ItD X.K (fun a=>G a/\H1 a≠none) J ds C->(∀H2 H3,C H2->KeepG (fun a=>G a/\H1 a≠none) H2 H3->C H3)->C H1->ds.length<=sizeLine->Q J H1
def Zb0(m:Rho->R D):Rho->List D->Prop:=fun ρ ds=>∃kvs,m ρ=.ok (.dct kvs)/\Z7b kvs/\ds.Perm (Yb kvs)
theorem Z4e{tg e:Expr}{m:Rho->R D}{p:Pos}(hh:X.A.handled=none)(hm:X.mg "sorted"=none)(he:PD X e m)(hg:Gl X "sorted":=by rfl)(hs:starEach [e] X.env=(false,eval e X.env)::starEach [] X.env:=by rfl)(hpl:(backTo pos (starEach [] X.env)).any (·.1)=false:=by rfl):
  PI X tg (.Call (.Name "sorted" p) [e] [] pos) (tIN X (Zb0 m)):=
 (Z6f (Xn (Z4d hh) hg hm boot_sorted (Z0 he Z4 hs) (by decide) (by decide) hs hpl)).imp fun σ H R ⟨G,ρ,hG,hρ,⟨_,kvs,em,ok,_⟩,q⟩=>by
  refine⟨G,ρ,hG,hρ,?_⟩
  have ec:cs m nl ρ=.ok [.dct kvs]:=by unfold cs nl;rw[em];rfl
  rw[ec]
  intro vs H1 e1 rl
  refine⟨G,kvs,hG.same e1,rl,ok,fun ds pd pa zs hp rz hzz=>.inl ⟨pa,zs,rfl,SqL.of Zi,fun hz=> ?_⟩⟩
  have sm:=e1.trans (Zv hp (.lst zs))
  have gp:G pa:=hG pa (e1.free hp)
  have hne:upd H1 pa (.lst zs) pa≠none:=by rw[Zi];simp
  refine q ds ⟨kvs,em,ok,pd⟩ (Itl X.K pa) (upd H1 pa (.lst zs)) (fun H2=>∃ys,LstAt X.K (fun a=>G a/\upd H1 pa (.lst zs) a≠none) H2 pa ys/\RepL X.K (fun a=>G a/\upd H1 pa (.lst zs) a≠none) H2 ds ys) sm
   ⟨fun i H2 ⟨ys,c1,c2⟩ hi=> ?_,fun i H2 ⟨ys,c1,c2⟩ hi=>⟨ys,c1.sq,by rw[c2.length];exact hi⟩⟩ (fun H2 H3 ⟨ys,c1,c2⟩ hk=>⟨ys,hk.lstAt c1,RepL.keep hk _ c2⟩) ⟨zs,LstAt.of Zi ⟨gp,hne⟩,RepL.there ds (rz.wid fun a z=>z.1)⟩ (by rw[←rz.length];exact hzz)
  have hl:i<ys.length:=by rw[c2.length];exact hi
  refine⟨⟨ys,ys[i],c1.sq,by simp[hl]⟩,fun x H' ⟨e,y⟩=> ?_⟩
  subst e
  exact⟨Same.refl _,⟨ys,c1,c2⟩,c2.get' (y ys c1.sq)⟩
def nrm(is:List Nat):Fl->Fl
 | .nx τ=>.nx (is.foldl (fun t i=>t.set i none) τ)
 |r=>r
theorem StOk.dropAll{K:PySem.W.Frag}{G O:Addr->Prop}{σ:St}{H:Hp}:∀(is:List Nat) {τ:Tau},StOk K G O τ σ H->StOk K G O (is.foldl (fun t i=>t.set i none) τ) σ H
 | [],_,S=>S
 |i::is,τ,S=>StOk.dropAll is (S.sub (τ':=τ.set i none) (by simpa using S.len) fun q sl hq=>⟨(UU hq).2,rfl⟩)
theorem EndsOk.nrm{G O:Addr->Prop}{H:Hp}{E:Ends}{is:List Nat}{r:Fl}(h:EndsOk X G O H E (L3.nrm is r)):EndsOk X G O H E r:=by
 cases r with
 |nx τ=>exact fun O' σ' H' t S=>h O' σ' H' t (S.dropAll is)
 |rt d=>exact h
 |bk τ=>exact h
 |ct τ=>exact h
 |ex c τ=>exact h
 |bad=>exact h
open Classical in
noncomputable def Vx(S:Rho->List D->Prop)(is:List Nat)(f:D->R (List D))(B:Tau->Fl):Tau->Fl:=fun τ=>
 if h:(∃ds,S (ZH τ) ds)/\∃r,∀ds,S (ZH τ) ds->nrm is (ZP is f B ds τ)=r then h.2.choose else .bad
theorem Z9w{S:Rho->List D->Prop}{is:List Nat}{f:D->R (List D)}{B:Tau->Fl}{τ:Tau}{r:Fl}(h:∃ds,S (ZH τ) ds)(hr:∀ds,S (ZH τ) ds->nrm is (ZP is f B ds τ)=r):Vx S is f B τ=r:=by
 have hh:(∃ds,S (ZH τ) ds)/\∃r,∀ds,S (ZH τ) ds->nrm is (ZP is f B ds τ)=r:=⟨h,r,hr⟩
 unfold Vx
 rw[dif_pos hh]
 obtain⟨ds,hds⟩:=h
 exact(hh.2.choose_spec ds hds).symm.trans (hr ds hds)
theorem Z9x{tg iter:Expr}{body:List Stmt}{S:Rho->List D->Prop}{is:List Nat}{f:D->R (List D)}{B:Tau->Fl}(hi:PI X tg iter (tIN X S))(hg:PGD X tg is f)(hb:PSS X body B)(hx:PassesOwn (model X.prog X.w) X.A X.env X.xe)(hc:X.calm=true:=by rfl)
  (hs:∀x,foldedSetIterable iter X.env x=pure x:=by intro _;rfl):PSD X (.For tg iter body [] pos) (Vx S is f B):=
 (Z5f hx hc hi hg hb hs).imp fun E σ H ⟨G,O,τ,S0,q⟩=>by
  unfold Vx at q
  split at q
  ·rename_i hh
   have hr:=hh.2.choose_spec
   refine⟨_,ZH τ,S0.hid.1,S0.hid.2,hh.1,fun ds hds=> ?_⟩
   have q:EndsOk X G O H E (ZP is f B ds τ):=EndsOk.nrm (is:=is) (by rw[hr ds hds];exact q)
   clear hr
   intro J H1 C e1 hJ hk c0 hz
   generalize hr0:ZP is f B ds τ=r0 at q
   have q1:=EndsOk.tr q (Tr.of_same e1)
   refine⟨fun i m σ' H'=>∃(O':Addr->Prop) (τ':Tau),Tr O H1 O' H'/\StOk X.K G O' τ' σ' H'/\C H'/\ZP is f B (ds.drop i) τ'=r0/\i<=ds.length/\m=ds.length - i,⟨ds.length,O,τ,Tr.refl O H1,S0.same e1,c0,hr0,Nat.zero_le _,rfl⟩,?_⟩
   rintro i m σ' H' ⟨O',τ',t',S',c',hr,hi,rfl⟩
   have noO:∀a,((G a/\¬O a)/\H1 a≠none)->G a/\¬O' a:=fun a ⟨⟨g,n⟩,y⟩=>⟨g,fun z=>(t'.own a z).elim n y⟩
   by_cases hlt:i<ds.length
   ·obtain⟨go,yl⟩:=hJ.1 i H' c' hlt
    have hd:ds.drop i=ds[i]::ds.drop (i+1):=List.drop_eq_getElem_cons hlt
    rw[hd]at hr
    refine .inr ⟨go,fun σ2 H2=>∃(O2:Addr->Prop) (τ2:Tau),Tr O H1 O2 H2/\StOk X.K G O2 τ2 σ2 H2/\C H2/\ZP is f B (ds.drop (i+1)) τ2=r0,fun σ2 H2 ⟨O2,τ2,a1,a2,a3,a4⟩=>⟨ds.length - (i+1),by omega,O2,τ2,a1,a2,a3,a4,hlt,rfl⟩,fun x H2 y=> ?_⟩
    obtain⟨e2,c2,d,ed,rd⟩:=yl x H2 y
    rw[List.getElem?_eq_getElem hlt]at ed
    cases ed
    have S2:=S'.same e2
    have t2:=t'.trans (Tr.of_same (O:=O') e2)
    have rd':=rd.wid noO
    unfold ZP at hr
    cases hf:f ds[i]with
    |ex c=>rw[hf]at hr;subst hr;exact q1.elim
    |bad=>rw[hf]at hr;subst hr;exact q1.elim
    |ok vs=>
     rw[hf]at hr
     refine⟨_,ds[i],vs,rd',hf,fun us ru _=> ?_⟩
     obtain⟨O3',S3,t3'⟩:=S2.setM is vs us ru
     have hr:(match B (XS τ' is vs)with
      | .nx τ'=>ZP is f B (ds.drop (i+1)) τ'
      | .ct τ'=>ZP is f B (ds.drop (i+1)) τ'
      | .bk τ'=>.nx τ'
      | .rt d=>.rt d
      | .ex c τ'=>.ex c τ'
      | .bad=>.bad)=r0:=hr
     refine⟨G,O3',_,S3,?_⟩
     have t2:=t2.trans t3'
     have cK:∀{O3:Addr->Prop} {H3:Hp},Tr O3' H2 O3 H3->C H3:=fun{O3 H3} t3=>hk _ _ c2 fun b o e hb=>t3.keep b o e fun z=>by
      rcases hb with hb|hb
      ·rcases t3'.own b z with w|w
       ·exact(noO b hb).2 w
       ·rw[e]at w;cases w
      ·obtain⟨_,xs,ex⟩:=S3.own b z
       rw[e]at ex;cases ex
       exact hb xs.2
     cases hB:B (XS τ' is vs)with
     |nx τ3=>rw[hB]at hr;exact fun O3 σ3 H3 t3 s3=>⟨O3,τ3,t2.trans t3,s3,cK t3,hr⟩
     |ct τ3=>rw[hB]at hr;exact fun O3 σ3 H3 t3 s3=>⟨O3,τ3,t2.trans t3,s3,cK t3,hr⟩
     |bk τ3=>rw[hB]at hr;subst hr;exact fun O3 σ3 H3 t3 s3=>q1 O3 σ3 H3 (t2.trans t3) s3
     |rt d=>rw[hB]at hr;subst hr;exact fun O3 v H3 t3 r3=>q1 O3 v H3 (t2.trans t3) r3
     |ex c τ3=>rw[hB]at hr;subst hr;exact⟨q1.1,fun O3 pins σ3 H3 e3 s3 t3=>q1.2 O3 pins σ3 H3 e3 s3 (t2.trans t3)⟩
     |bad=>rw[hB]at hr;subst hr;exact q1.elim
   ·have hie:i=ds.length:=by omega
    subst hie
    rw[List.drop_length]at hr
    subst hr
    exact .inl ⟨hJ.2 _ _ c' (Nat.le_refl _),q1 O' σ' H' t' S'⟩
  ·exact q.elim
theorem Zcm{tg iter:Expr}{body:List Stmt}{S:Rho->List D->Prop}{is:List Nat}{f:D->R (List D)}{B:Tau->Fl}(hi:∀E,PI (X.wish E) tg iter (tIN (X.wish E) S))(hg:∀E,PGD (X.wish E) tg is f)(hb:∀E,PSS (X.wish E) body B)(hc:X.calm=true:=by rfl)
  (hst:X.stack=X.env::X.outer/\X.env.frame=some X.env.locals:=by exact⟨rfl,rfl⟩) (hs:∀x,foldedSetIterable iter X.env x=pure x:=by intro _;rfl):PSD X (.For tg iter body [] pos) (Vx S is f B):=
 JS fun G O H r=>Z9x (hi _) (hg _) (hb _) (XE.passes hst) hc hs
def few(i:Nat)(τ:Tau):Bool:=match(ZH τ)[i]? with
 |some (some (.dct kvs))=>decide (kvs.length<64)
 |_=>true
def Z7c(c:Tau->Bool)(M N:Tau->Fl):Tau->Fl:=fun τ=>if c τ=true then M τ else N τ
theorem Zek{c:Tau->Bool}{st:Stmt}{M N:Tau->Fl}(h1:PSD X st M)(h2:PSD X st N):PSD X st (Z7c c M N):=fun pins s σ H D I ⟨G,O,τ,S,q⟩=>by
 unfold Z7c at q
 split at q
 ·exact h1 pins s σ H D I ⟨G,O,τ,S,q⟩
 ·exact h2 pins s σ H D I ⟨G,O,τ,S,q⟩
end
end L3
namespace L3
open PySem PySem.Spec L2
open PyProof.Rows hiding St
def Z7d:List D->R D
 | [.int i]=>.ok (.int (if i<0 then -i else i))
 |_=>.bad
theorem Z0i(ds:List D):Z7d ds=.bad\/∃i,ds=[.int i]:=by
 unfold Z7d
 split
 ·exact .inr ⟨_,rfl⟩
 ·exact .inl rfl
section
variable{X:Cx}
theorem Zcn{k:Nat}(hr:Room k X.A):Q4 X (.builtin "abs") Z7d:=by
 intro pins s σ H xs us Q I r ⟨G,σ',ds,hG,rd,q⟩
 rcases Z0i ds with h|⟨i,rfl⟩
 ·rw[h]at q;exact q.elim
 ·obtain⟨x,rfl,rx⟩:=ZY rd
  cases rx.int_of
  exact Z5l pins s σ H _ us Q I r ⟨i,rfl,q _ H (Same.refl H) Rep.int⟩
end
end L3
namespace L3
open PySem PySem.Spec L2
open PyProof.Rows hiding St
abbrev M_0:Tau->Fl:=
 sq (sIf (tst (bi (Xk fun i j=>decide (i<j)) (vr 1) (ap ZN (cs (vr 0) (nl))))) (Zr (bi ixD (vr 0) (vr 1))) (sk))
 (Zr (cn (.int 0)))
def F_0:List D->R D:=fnF 2 2 M_0
abbrev M_1:Tau->Fl:=
 sq (sIf (Wq (tst (bi eqD (vr 0) (cn (.int 5)))) (tst (bi eqD (bi Yr (vr 1) (cn (.int 2))) (cn (.int 1))))) (Zr (tpl (cs (tpl (cns [0,1,2,3,4])) (cs (tpl (cns [1,0,3,4,2])) (cs (tpl (cns [2,3,4,0,1])) (cs (tpl (cns [3,4,1,2,0])) (cs (tpl (cns [4,2,0,1,3])) (nl)))))))) (sk))
 (sq (sIf (Wq (tst (bi eqD (vr 0) (cn (.int 4)))) (tst (bi eqD (bi Yr (vr 1) (cn (.int 2))) (cn (.int 1))))) (Zr (tpl (cs (tpl (cns [0,1,2,3])) (cs (tpl (cns [1,0,3,2])) (cs (tpl (cns [2,3,0,1])) (cs (tpl (cns [3,2,1,0])) (nl))))))) (sk))
 (Zr (ap Yx (cs (asL (cmp (apL rg1 (cs (vr 0) (nl))) 1 [0] [0] one (yes) (ap Yx (cs (asL (cmp (apL rg1 (cs (vr 1) (nl))) 1 [0,1] [0] one (yes) (bi Yr (bi ZM (vr 1) (vr 0)) (vr 2)))) (nl))))) (nl)))))
def F_1:List D->R D:=fnF 2 2 M_1
abbrev M_2:Tau->Fl:=
 Zr (ap Yx (cs (asL (cmp (Y1 (vr 1)) 1 [2,3,0] [0] one (yes) (ap Yx (cs (asL (cmp (Y1 (vr 1)) 1 [2,3,0] [0] one (yes) (bi ixD (vr 1) (bi ixD (bi ixD (vr 2) (vr 3)) (vr 0))))) (nl))))) (nl)))
def F_2:List D->R D:=fnF 4 4 M_2
abbrev M_3:Tau->Fl:=
 Zr (bi Yr (bi Yr (bi X0 (vr 0) (cn (.int 48271))) (vr 1)) (vr 2))
def F_3:List D->R D:=fnF 3 3 M_3
abbrev M_4:Tau->Fl:=
 sq (UC 1 (lim (nl)))
 (sq (ZX 2 (ap ZN (cs (vr 0) (nl))))
 (sq (Yj (apL rg1 (cs (vr 2) (nl))) [3] one (Yj (apL rg2 (cs (bi ZM (vr 3) (cn (.int 1))) (cs (vr 2) (nl)))) [4] one (Yj (apL rg1 (cs (vr 2) (nl))) [5] one (Yj (apL rg2 (cs (bi ZM (vr 5) (cn (.int 1))) (cs (vr 2) (nl)))) [6] one (sIf (Wq (tst (bi eqD (bi ixD (bi ixD (vr 0) (vr 3)) (vr 5)) (bi ixD (bi ixD (vr 0) (vr 4)) (vr 6)))) (tst (bi eqD (bi ixD (bi ixD (vr 0) (vr 3)) (vr 6)) (bi ixD (bi ixD (vr 0) (vr 4)) (vr 5))))) (UE 1 (tpl (cs (vr 3) (cs (vr 4) (cs (vr 5) (cs (vr 6) (nl))))))) (sk))))))
 (Zr (vr 1))))
def F_4:List D->R D:=fnF 1 7 M_4
abbrev M_5:Tau->Fl:=
 sq (ZX 2 (asL (cmp (apL rg1 (cs (vr 1) (nl))) 1 [0] [0] one (yes) (tpl (cs (ap F_3 (cs (bi ZM (bi ZM (vr 1) (bi X0 (bi X0 (cn (.int 29)) (vr 0)) (vr 0))) (bi X0 (cn (.int 3)) (vr 0))) (cs (cn (.int 9973)) (cs (cn (.int 997)) (nl))))) (cs (vr 0) (nl)))))))
 (Zr (ap Yx (cs (asL (cmp (Y1 (asL (apN JV (cs (vr 2) (nl))))) 1 [] [0] one (yes) (bi ixD (vr 0) (cn (.int 1))))) (nl))))
def F_5:List D->R D:=fnF 2 3 M_5
abbrev M_6:Tau->Fl:=
 sq (Z2n 2 (cmp (Y1 (vr 0)) 1 [] [0] one (yes) (apN VX (cs (vr 0) (nl)))))
 (sq (Yj (Y1 (sli (vr 1) noP (soP (cn (.int 2))))) [3] one (sq (UB 4 (bi ixD (bi ixD (vr 2) (vr 3)) (bi ixD (vr 1) (cn (.int 2)))))
 (sq (QT 2 (vr 3) (bi ixD (vr 1) (cn (.int 2))) (bi ixD (bi ixD (vr 2) (vr 3)) (bi ixD (vr 1) (cn (.int 3)))))
 (QT 2 (vr 3) (bi ixD (vr 1) (cn (.int 3))) (vr 4)))))
 (Zr (ap Yx (cs (asL (cmp (Y1 (vr 2)) 1 [] [0] one (yes) (ap Yx (cs (vr 0) (nl))))) (nl)))))
def F_6:List D->R D:=fnF 2 5 M_6
abbrev M_7:Tau->Fl:=
 sq (ZX 3 (ap F_0 (cs (vr 0) (cs (vr 1) (nl)))))
 (sq (ZX 4 (ap F_1 (cs (vr 2) (cs (bi Z60 (vr 3) (cn (.int 7))) (nl)))))
 (sq (Yj (apL rg1 (cs (ap F_3 (cs (vr 3) (cs (cn (.int 9949)) (cs (cn (.int 4)) (nl))))) (nl))) [5] one (sq (ZX 6 (ap F_4 (cs (vr 4) (nl))))
 (sIf (tst (bi neD (vr 6) (asL (lim (nl))))) (ZX 4 (ap F_6 (cs (vr 4) (cs (bi ixD (vr 6) (ap F_3 (cs (bi ZM (ap F_0 (cs (vr 0) (cs (bi ZM (vr 1) (cn (.int 1))) (nl)))) (bi X0 (cn (.int 31)) (vr 5))) (cs (cn (.int 9941)) (cs (ap ZN (cs (vr 6) (nl))) (nl)))))) (nl))))) (sk))))
 (sq (ZX 7 (asL (cmp (apL rg1 (cs (cn (.int 3)) (nl))) 1 [0,1,2] [0] one (yes) (ap F_5 (cs (bi ZM (ap F_0 (cs (vr 1) (cs (bi ZM (vr 2) (cn (.int 1))) (nl)))) (bi X0 (cn (.int 101)) (vr 0))) (cs (vr 3) (nl)))))))
 (Zr (ap F_2 (cs (vr 4) (cs (bi ixD (vr 7) (cn (.int 0))) (cs (bi ixD (vr 7) (cn (.int 1))) (cs (bi ixD (vr 7) (cn (.int 2))) (nl))))))))))
def F_7:List D->R D:=fnF 3 8 M_7
abbrev M_8:Tau->Fl:=
 sq (sIf (orT (tst (un (Q6 .bool) (vr 1))) (YU (tst (un (Q6 .int) (vr 1))))) (Zr (cn (.bl false))) (sk))
 (Zr (chn (Xk fun i j=>decide (i<=j)) (Xk fun i j=>decide (i<j)) (cn (.int 0)) (vr 1) (vr 0)))
def F_8:List D->R D:=fnF 2 2 M_8
abbrev M_9:Tau->Fl:=
 sq (sIf (YU (tst (un (Q6 .tuple) (vr 1)))) (Zr (cn (.bl false))) (sk))
 (sq (sIf (YU (tst (ap Q5 (cs (asL (cmp (Y1 (vr 1)) 1 [0] [0] one (yes) (ap F_8 (cs (vr 1) (cs (vr 0) (nl)))))) (nl))))) (Zr (cn (.bl false))) (sk))
 (Zr (bi eqD (un W4 (vr 1)) (ap ZN (cs (vr 1) (nl))))))
def F_9:List D->R D:=fnF 2 2 M_9
abbrev M_10:Tau->Fl:=
 Zr (Z65 (ap F_9 (cs (vr 0) (cs (vr 1) (nl)))) (bi eqD (ap ZN (cs (vr 1) (nl))) (vr 0)))
def Vb:List D->R D:=fnF 2 2 M_10
abbrev M_11:Tau->Fl:=
 Zr (ap Yx (cs (asL (cmp (Y1 (vr 0)) 1 [1] [0] one (yes) (bi ixD (vr 0) (vr 1)))) (nl)))
def U2:List D->R D:=fnF 2 2 M_11
abbrev M_12:Tau->Fl:=
 Zr (ap Yx (cs (asL (cmp (apL rg1 (cs (ap ZN (cs (bi ixD (vr 0) (cn (.int 0))) (nl))) (nl))) 1 [0] [0] one (yes) (ap U2 (cs (vr 1) (cs (vr 0) (nl)))))) (nl)))
def Z7e:List D->R D:=fnF 1 1 M_12
abbrev M_13:Tau->Fl:=
 sq (sIf (orT (YU (tst (un (Q6 .tuple) (vr 0)))) (YU (tst (chn (Xk fun i j=>decide (i<=j)) (Xk fun i j=>decide (i<=j)) (cn (.int 1)) (ap ZN (cs (vr 0) (nl))) (cn (.int 9)))))) (Zr (cn (.bl false))) (sk))
 (sq (ZX 1 (ap ZN (cs (vr 0) (nl))))
 (sq (sIf (YU (tst (ap Q5 (cs (asL (cmp (Y1 (vr 0)) 1 [1] [0] one (yes) (ap Vb (cs (vr 1) (cs (vr 0) (nl)))))) (nl))))) (Zr (cn (.bl false))) (sk))
 (Zr (ap Q5 (cs (asL (cmp (Y1 (ap Z7e (cs (vr 0) (nl)))) 1 [1] [0] one (yes) (ap Vb (cs (vr 1) (cs (vr 0) (nl)))))) (nl))))))
def Z7f:List D->R D:=fnF 1 2 M_13
abbrev M_14:Tau->Fl:=
 sq (sIf (YU (tst (ap Z7f (cs (vr 0) (nl))))) (Yz 1 (cn (.str "this is no square of a size from 1 to 9"))) (sk))
 (Zr (vr 0))
def QH:List D->R D:=fnF 1 1 M_14
abbrev M_15:Tau->Fl:=
 sIf (tst (bi (Xk fun i j=>decide (j<i)) (ap ZN (cs (ap QH (cs (vr 0) (nl))) (nl))) (vr 1))) (Yz 7 (jn3 (cn (.str "this is told of squares of a size up to ")) (un fmtD (vr 1)) (cn (.str " only")))) (sk)
def Z4f:List D->R D:=fnF 2 2 M_15
abbrev M_16:Tau->Fl:=
 Zr (un Z67 (ap Uv (cs (asL (cmp (apL WC (cs (vr 0) (cs (vr 1) (nl)))) 2 [] [0,1] (W0 2) (yes) (bi eqD (vr 0) (vr 1)))) (nl))))
def Z0j:List D->R D:=fnF 2 2 M_16
abbrev Z4g(Fr:List D->R D):Tau->Fl:=
 sq (sIf (tst (bi eqD (ap ZN (cs (vr 1) (nl))) (vr 0))) (Zr (vr 1)) (sk))
 (sq (Yj (Y1 (vr 2)) [3] one (sIf (tst (bi eqD (bi ixD (vr 3) (cn (.int 0))) (ap ZN (cs (vr 1) (nl))))) (sq (ZX 4 (asL (cmp (Y1 (vr 2)) 1 [3] [0] one (tst (ap Z0j (cs (vr 1) (cs (vr 0) (nl))))) (vr 0))))
 (sq (ZX 5 (ap Fr (cs (vr 0) (cs (bi ZM (vr 1) (asL (lim (cs (vr 3) (nl))))) (cs (vr 4) (nl))))))
 (sIf (tst (un Z6l (vr 5))) (Zr (vr 5)) (sk)))) (sk)))
 (Zr (cn .non)))
def XX:Nat->List D->R D
 |0=>fun _=>.bad
 |n+1=>fnF 3 6 (Z4g (XX n))
abbrev M_18:Tau->Fl:=
 Zr (ap Yx (cs (asL (cmp (apL WC (cs (vr 0) (cs (vr 1) (nl)))) 2 [] [0,1] (W0 2) (yes) (bi ixD (vr 0) (vr 1)))) (nl)))
def Z4h:List D->R D:=fnF 2 2 M_18
abbrev M_19(Fr:List D->R D):Tau->Fl:=
 sq (sIf (tst (bi eqD (ap ZN (cs (vr 1) (nl))) (ap ZN (cs (vr 0) (nl))))) (Zr (asL (lim (cs (vr 1) (nl))))) (sk))
 (sq (ZX 2 (ap Z4h (cs (vr 0) (cs (vr 1) (nl)))))
 (sq (UC 3 (lim (nl)))
 (sq (Yj (apL Z6z (cs (bi ixD (vr 0) (ap ZN (cs (vr 1) (nl)))) (nl))) [4,5] (W0 2) (sIf (Wq (tst (bi QZ (vr 4) (vr 1))) (tst (bi QZ (vr 5) (vr 2)))) (QA 3 (ap Fr (cs (vr 0) (cs (bi ZM (vr 1) (tpl (cs (vr 4) (nl)))) (nl))))) (sk)))
 (Zr (vr 3)))))
def WK:Nat->List D->R D
 |0=>fun _=>.bad
 |n+1=>fnF 2 6 (M_19 (WK n))
abbrev M_20:Tau->Fl:=
 sq (Xi (ap Z4f (cs (vr 0) (cs (cn (.int 7)) (nl)))))
 (Zr (ap (WK 9) (cs (vr 0) (cs (tpl (nl)) (nl)))))
def Z4i:List D->R D:=fnF 1 1 M_20
abbrev M_21:Tau->Fl:=
 sq (Xi (ap Z4f (cs (vr 0) (cs (cn (.int 7)) (nl)))))
 (Zr (ap (XX 9) (cs (ap ZN (cs (vr 0) (nl))) (cs (asL (lim (nl))) (cs (ap Z4i (cs (vr 0) (nl))) (nl))))))
def Z0k:List D->R D:=fnF 1 1 M_21
abbrev M_22:Tau->Fl:=
 sq (ZX 2 (ap U2 (cs (vr 0) (cs (vr 1) (nl)))))
 (Zr (ap Yx (cs (asL (cmp (apL rg1 (cs (ap ZN (cs (vr 2) (nl))) (nl))) 1 [2] [0] one (yes) (bn Yy (vr 1) (vr 0)))) (nl))))
def Z4j:List D->R D:=fnF 2 3 M_22
abbrev M_23:Tau->Fl:=
 sq (ZX 1 (ap Z0k (cs (vr 0) (nl))))
 (sq (sIf (tst (un isD (vr 1))) (Zr (cn .non)) (sk))
 (Zr (ap Yx (cs (asL (cmp (apL rg1 (cs (ap ZN (cs (vr 0) (nl))) (nl))) 1 [1] [0] one (yes) (ap Z4j (cs (vr 1) (cs (vr 0) (nl)))))) (nl)))))
def Z4k:List D->R D:=fnF 1 2 M_23
abbrev M_24:Tau->Fl:=
 sIf (YU (tst (ap Vb (cs (vr 0) (cs (vr 1) (nl)))))) (Yz 5 (cn (.str "this is no order of so many numbers"))) (sk)
def Z7g:List D->R D:=fnF 2 2 M_24
abbrev M_25:Tau->Fl:=
 Zr (ap Yx (cs (asL (cmp (Y1 (vr 1)) 1 [2,0] [0] one (yes) (bi ixD (vr 1) (bi ixD (vr 2) (vr 0))))) (nl)))
def Z7h:List D->R D:=fnF 3 3 M_25
abbrev M_26:Tau->Fl:=
 sq (ZX 4 (ap ZN (cs (ap QH (cs (vr 0) (nl))) (nl))))
 (sq (Yj (Y1 (tpl (cs (vr 1) (cs (vr 2) (cs (vr 3) (nl)))))) [5] one (Xi (ap Z7g (cs (vr 4) (cs (vr 5) (nl))))))
 (Zr (ap Yx (cs (asL (cmp (Y1 (vr 1)) 1 [0,2,3] [0] one (yes) (ap Z7h (cs (bi ixD (vr 1) (vr 0)) (cs (vr 2) (cs (vr 3) (nl))))))) (nl)))))
def Z4l:List D->R D:=fnF 4 6 M_26
abbrev M_27:Tau->Fl:=
 sIf (tst (bi neD (ap ZN (cs (ap QH (cs (vr 0) (nl))) (nl))) (ap ZN (cs (ap QH (cs (vr 1) (nl))) (nl))))) (Yz 1 (cn (.str "these squares are not of one size"))) (sk)
def Z7i:List D->R D:=fnF 2 2 M_27
abbrev M_28:Tau->Fl:=
 sq (Z75 2)
 (sq (Yj (apL rg1 (cs (ap ZN (cs (vr 0) (nl))) (nl))) [3] one (Yj (apL rg1 (cs (ap ZN (cs (vr 0) (nl))) (nl))) [4] one (sq (Vs 5 (cs (bi ixD (bi ixD (vr 0) (vr 3)) (vr 4)) (cs (bi ixD (bi ixD (vr 1) (vr 3)) (vr 4)) (nl))))
 (Vt 2 5 (tpl (cs (vr 3) (cs (vr 4) (nl))))))))
 (Zr (vr 2)))
def Z7j:List D->R D:=fnF 2 6 M_28
noncomputable abbrev M_29:Tau->Fl:=
 sq (Xi (ap Z7i (cs (vr 0) (cs (vr 1) (nl)))))
 (sq (ZX 2 (ap Z7j (cs (vr 0) (cs (vr 1) (nl)))))
 (sq (Z7c (few 2) (Yj (Y1 (asL (apN Z0b (cs (vr 2) (nl))))) [3] one (sIf (tst (bi (Xk fun i j=>decide (j<i)) (ap ZN (cs (bi dgD (vr 2) (vr 3)) (nl))) (cn (.int 1)))) (Zr (tpl (cs (vr 3) (cs (bi ixD (bi dgD (vr 2) (vr 3)) (cn (.int 0))) (cs (bi ixD (bi dgD (vr 2) (vr 3)) (cn (.int 1))) (nl)))))) (sk))) (Vx (Zb0 (vr 2)) [3] one (sIf (tst (bi (Xk fun i j=>decide (j<i)) (ap ZN (cs (bi dgD (vr 2) (vr 3)) (nl))) (cn (.int 1)))) (Zr (tpl (cs (vr 3) (cs (bi ixD (bi dgD (vr 2) (vr 3)) (cn (.int 0))) (cs (bi ixD (bi dgD (vr 2) (vr 3)) (cn (.int 1))) (nl)))))) (sk))))
 (Zr (cn .non))))
noncomputable def Z4m:List D->R D:=fnF 2 4 M_29
noncomputable abbrev M_30:Tau->Fl:=
 Zr (un isD (ap Z4m (cs (vr 0) (cs (vr 1) (nl)))))
noncomputable def Qd:List D->R D:=fnF 2 2 M_30
abbrev M_31:Tau->Fl:=
 sIf (YU (tst (ap F_8 (cs (vr 0) (cs (vr 1) (nl)))))) (Yz 2 (cn (.str "this is no number of a row, a column or a letter of the square"))) (sk)
def Z7k:List D->R D:=fnF 2 2 M_31
abbrev M_32:Tau->Fl:=
 sq (Xi (ap Z7k (cs (ap ZN (cs (ap QH (cs (vr 0) (nl))) (nl))) (cs (vr 1) (nl)))))
 (Zr (ap Yx (cs (asL (cmp (Y1 (vr 0)) 1 [1] [0] one (yes) (bn Yy (vr 0) (vr 1)))) (nl))))
def Z4n:List D->R D:=fnF 2 2 M_32
noncomputable abbrev M_33:Tau->Fl:=
 sq (sIf (YU (tst (ap Qd (cs (vr 0) (cs (vr 1) (nl)))))) (Yz 1 (cn (.str "these squares are no mates"))) (sk))
 (Zr (asL (cmp (apL rg1 (cs (ap ZN (cs (vr 1) (nl))) (nl))) 1 [1] [0] one (yes) (ap Z4n (cs (vr 1) (cs (vr 0) (nl)))))))
noncomputable def Z4o:List D->R D:=fnF 2 2 M_33
abbrev M_34:Tau->Fl:=
 sIf (orT (YU (tst (ap F_8 (cs (bi ZM (cn (.int 9)) (cn (.int 1))) (cs (vr 0) (nl)))))) (tst (bi eqD (vr 0) (cn (.int 0))))) (Yz 6 (cn (.str "this is no size from 1 to 9"))) (sk)
def Z7l:List D->R D:=fnF 1 1 M_34
abbrev M_35:Tau->Fl:=
 Zr (ap Uv (cs (asL (cmp (apL rg2 (cs (cn (.int 2)) (cs (bi ZM (vr 0) (cn (.int 1))) (nl)))) 1 [0,1] [0] one (yes) (Z65 (bi eqD (bi Yr (vr 1) (vr 0)) (cn (.int 0))) (bi eqD (bi Yr (vr 2) (vr 0)) (cn (.int 0)))))) (nl)))
def Z9y:List D->R D:=fnF 2 2 M_35
abbrev M_36:Tau->Fl:=
 sq (sIf (orT (YU (tst (ap F_8 (cs (ap Z6m (cs (vr 0) (cs (cn (.int 2)) (nl)))) (cs (vr 1) (nl)))))) (tst (bi eqD (vr 1) (cn (.int 0))))) (Zr (cn (.bl false))) (sk))
 (Zr (un Z67 (ap Z9y (cs (vr 0) (cs (vr 1) (nl))))))
def Z0l:List D->R D:=fnF 2 2 M_36
abbrev M_37:Tau->Fl:=
 Zr (ap Yx (cs (asL (cmp (apL rg1 (cs (vr 0) (nl))) 1 [1,0] [0] one (yes) (bi Yr (bi ZM (vr 0) (vr 1)) (vr 2)))) (nl)))
def Z4p:List D->R D:=fnF 2 2 M_37
abbrev M_38:Tau->Fl:=
 sq (Xi (ap Z7l (cs (vr 0) (nl))))
 (sq (sIf (YU (tst (ap Z0l (cs (vr 0) (cs (vr 1) (nl)))))) (Yz 6 (cn (.str "this is no step of the size"))) (sk))
 (Zr (ap Yx (cs (asL (cmp (apL rg1 (cs (vr 0) (nl))) 1 [0,1] [0] one (yes) (ap Z4p (cs (vr 1) (cs (bi X0 (vr 2) (vr 0)) (nl)))))) (nl)))))
def W2:List D->R D:=fnF 2 2 M_38
abbrev M_39:Tau->Fl:=
 sq (UC 2 (lim (nl)))
 (sq (Yj (Y1 (vr 0)) [3] one (QA 2 (asL (cmp (Y1 (vr 1)) 1 [3,1] [0] one (yes) (bi ZM (bi X0 (vr 1) (ap ZN (cs (vr 2) (nl)))) (vr 0))))))
 (Zr (ap Yx (cs (vr 2) (nl)))))
def Z4q:List D->R D:=fnF 2 4 M_39
abbrev M_40:Tau->Fl:=
 sq (sIf (tst (bi (Xk fun i j=>decide (j<i)) (bi X0 (ap ZN (cs (ap QH (cs (vr 0) (nl))) (nl))) (ap ZN (cs (ap QH (cs (vr 1) (nl))) (nl)))) (cn (.int 9)))) (Yz 7 (cn (.str "put in one another, these squares come beyond size 9"))) (sk))
 (sq (UC 2 (lim (nl)))
 (sq (Yj (Y1 (vr 0)) [3] one (QA 2 (asL (cmp (Y1 (vr 1)) 1 [3] [0] one (yes) (ap Z4q (cs (vr 1) (cs (vr 0) (nl))))))))
 (Zr (ap Yx (cs (vr 2) (nl))))))
def J3:List D->R D:=fnF 2 4 M_40
abbrev M_41:Tau->Fl:=
 sq (W1 64 (tst (bi neD (vr 1) (cn (.int 0)))) (Z9g 0 1 (vr 1) (bi Yr (vr 0) (vr 1))))
 (Zr (vr 0))
def U3:List D->R D:=fnF 2 2 M_41
abbrev M_42:Tau->Fl:=
 sq (ZX 2 (ap ZN (cs (ap QH (cs (vr 0) (nl))) (nl))))
 (Zr (Z65 (ap Vb (cs (vr 2) (cs (vr 1) (nl)))) (ap Vb (cs (vr 2) (cs (ap Z4h (cs (vr 0) (cs (vr 1) (nl)))) (nl))))))
def U4:List D->R D:=fnF 2 3 M_42
abbrev Zco(Fr:List D->R D):Tau->Fl:=
 sq (sIf (tst (bi eqD (vr 0) (cn (.int 0)))) (Zr (asL (lim (cs (tpl (nl)) (nl))))) (sk))
 (sq (ZX 1 (ap Fr (cs (bi Z94 (vr 0) (cn (.int 1))) (nl))))
 (Zr (bi ZM (asL (cmp (Y1 (vr 1)) 1 [] [0] one (yes) (bi ZM (tpl (cs (cn (.int 0)) (nl))) (vr 0)))) (asL (cmp (Y1 (vr 1)) 1 [] [0] one (yes) (bi ZM (tpl (cs (cn (.int 1)) (nl))) (vr 0)))))))
def U5:Nat->List D->R D
 |0=>fun _=>.bad
 |n+1=>fnF 1 2 (Zco (U5 n))
abbrev Zcp:Tau->Fl:=
 sq (ZX 3 (ap U2 (cs (vr 0) (cs (cn (.int 0)) (nl)))))
 (sq (ZX 4 (ap Yx (cs (asL (cmp (apL rg1 (cs (ap ZN (cs (vr 0) (nl))) (nl))) 1 [1,3,2] [0] one (yes) (bi Yr (bi ZM (bi ixD (vr 1) (bn Yy (vr 2) (vr 0))) (vr 3)) (cn (.int 2))))) (nl))))
 (sq (ZX 5 (ap Yx (cs (asL (cmp (Y1 (bi ixD (vr 0) (cn (.int 0)))) 1 [1,4] [0] one (yes) (bi Yr (bi ZM (bi ixD (vr 1) (cn (.int 0))) (bi ixD (vr 2) (vr 0))) (cn (.int 2))))) (nl))))
 (Zr (tpl (cs (vr 1) (cs (vr 5) (cs (vr 4) (nl))))))))
def U6:List D->R D:=fnF 3 6 Zcp
abbrev M_45:Tau->Fl:=
 Zr (ap Q5 (cs (asL (cmp (apL WC (cs (vr 2) (cs (vr 0) (nl)))) 2 [1,3] [0,1] (W0 2) (yes) (bi eqD (bi Yr (bi ZM (bi ZM (vr 2) (vr 0)) (bi ixD (vr 3) (vr 1))) (cn (.int 2))) (cn (.int 0))))) (nl)))
def Z4r:List D->R D:=fnF 4 4 M_45
abbrev Zcq:Tau->Fl:=
 Zr (ap Q5 (cs (asL (cmp (apL WC (cs (vr 0) (cs (bi ixD (vr 1) (cn (.int 0))) (nl)))) 2 [1] [0,1] (W0 2) (yes) (ap Z4r (cs (vr 0) (cs (vr 1) (cs (bi ixD (vr 2) (cn (.int 1))) (cs (bi ixD (vr 2) (cn (.int 2))) (nl)))))))) (nl)))
def Ja:List D->R D:=fnF 2 2 Zcq
abbrev Zcr:Tau->Fl:=
 sq (UC 1 (lim (nl)))
 (sq (Yj (Y1 (ap (U5 10) (cs (ap ZN (cs (ap QH (cs (vr 0) (nl))) (nl))) (nl)))) [2] one (sq (ZX 3 (asL (cmp (Y1 (tpl (cs (cn (.int 0)) (cs (cn (.int 1)) (nl))))) 1 [0,2] [0] one (yes) (ap U6 (cs (vr 1) (cs (vr 2) (cs (vr 0) (nl))))))))
 (QA 1 (asL (cmp (Y1 (vr 3)) 1 [0] [0] one (tst (ap Ja (cs (vr 1) (cs (vr 0) (nl))))) (vr 0))))))
 (Zr (vr 1)))
def Z4s:List D->R D:=fnF 1 4 Zcr
abbrev Zcs:Tau->Fl:=
 Zr (bi eqD (bi Yr (ap VZ (cs (asL (cmp (Y1 (vr 0)) 1 [] [0] one (yes) (ap VZ (cs (vr 0) (nl))))) (nl))) (cn (.int 2))) (cn (.int 1)))
def Z0m:List D->R D:=fnF 1 1 Zcs
abbrev Z9z:Tau->Fl:=
 sq (ZX 1 (asL (cmp (Y1 (ap Z4s (cs (vr 0) (nl)))) 1 [] [0] one (tst (ap Z0m (cs (vr 0) (nl)))) (vr 0))))
 (Zr (ifV (tst (vr 1)) (bi ixD (vr 1) (cn (.int 0))) (cn .non)))
def Z4t:List D->R D:=fnF 1 2 Z9z
noncomputable abbrev M_50:Tau->Fl:=
 sq (ZX 1 (bi ixD (asL (lim (cns [3,5,7,9,4,8,5,7]))) (bi Yr (ap F_0 (cs (vr 0) (cs (cn (.int 0)) (nl)))) (cn (.int 8)))))
 (sq (ZX 2 (asL (cmp (apL rg2 (cs (cn (.int 1)) (cs (vr 1) (nl)))) 1 [1] [0] one (tst (bi eqD (ap U3 (cs (vr 1) (cs (vr 0) (nl)))) (cn (.int 1)))) (vr 0))))
 (sq (ZX 3 (bi ixD (vr 2) (bi Yr (ap F_0 (cs (vr 0) (cs (cn (.int 1)) (nl)))) (ap ZN (cs (vr 2) (nl))))))
 (sq (ZX 4 (bi ixD (vr 2) (bi Yr (ap F_0 (cs (vr 0) (cs (cn (.int 2)) (nl)))) (ap ZN (cs (vr 2) (nl))))))
 (sq (sIf (tst (bi neD (ap Qd (cs (ap W2 (cs (vr 1) (cs (vr 3) (nl)))) (cs (ap W2 (cs (vr 1) (cs (vr 4) (nl)))) (nl)))) (bi eqD (ap U3 (cs (vr 1) (cs (ap Z7d (cs (bi Z94 (vr 3) (vr 4)) (nl))) (nl)))) (cn (.int 1))))) (Zr (cn (.bl false))) (sk))
 (sq (ZX 5 (ap F_7 (cs (vr 0) (cs (cn (.int 3)) (cs (bi ixD (asL (lim (cns [4,3,5,4]))) (bi Yr (ap F_0 (cs (vr 0) (cs (cn (.int 0)) (nl)))) (cn (.int 4)))) (nl))))))
 (sq (ZX 6 (ap Z4k (cs (vr 5) (nl))))
 (sq (sIf (tst (un isD (vr 6))) (Zr (orV (un isD (ap Z4t (cs (vr 5) (nl)))) (bi eqD (ap Z4i (cs (vr 5) (nl))) (asL (lim (nl)))))) (sk))
 (sq (ZX 7 (ap ZN (cs (vr 5) (nl))))
 (sq (ZX 8 (asL (cmp (apL rg1 (cs (cn (.int 4)) (nl))) 1 [0,7] [0] one (yes) (ap F_5 (cs (bi ZM (ap F_0 (cs (vr 1) (cs (cn (.int 2)) (nl)))) (bi X0 (cn (.int 61)) (vr 0))) (cs (vr 2) (nl)))))))
 (sq (ZX 9 (ap Z4l (cs (vr 5) (cs (bi ixD (vr 8) (cn (.int 0))) (cs (bi ixD (vr 8) (cn (.int 1))) (cs (bi ixD (vr 8) (cn (.int 2))) (nl)))))))
 (sq (ZX 10 (ap Z4l (cs (vr 6) (cs (bi ixD (vr 8) (cn (.int 0))) (cs (bi ixD (vr 8) (cn (.int 1))) (cs (bi ixD (vr 8) (cn (.int 3))) (nl)))))))
 (sq (sIf (orT (YU (tst (ap Qd (cs (vr 9) (cs (vr 10) (nl)))))) (YU (tst (ap Qd (cs (vr 10) (cs (vr 9) (nl))))))) (Zr (cn (.bl false))) (sk))
 (sq (Yj (Y1 (ap Z4o (cs (vr 9) (cs (vr 10) (nl))))) [11] one (sIf (YU (tst (ap U4 (cs (vr 9) (cs (vr 11) (nl)))))) (Zr (cn (.bl false))) (sk)))
 (sq (Yj (Y1 (ap Z4o (cs (vr 10) (cs (vr 9) (nl))))) [11] one (sIf (YU (tst (ap U4 (cs (vr 10) (cs (vr 11) (nl)))))) (Zr (cn (.bl false))) (sk)))
 (sq (ZX 12 (ap W2 (cs (cn (.int 3)) (cs (cn (.int 1)) (nl)))))
 (sq (sIf (tst (bi (Xk fun i j=>decide (i<j)) (vr 7) (cn (.int 4)))) (sIf (YU (tst (ap Qd (cs (ap J3 (cs (vr 5) (cs (vr 12) (nl)))) (cs (ap J3 (cs (vr 6) (cs (ap W2 (cs (cn (.int 3)) (cs (cn (.int 2)) (nl)))) (nl)))) (nl)))))) (Zr (cn (.bl false))) (sk)) (sk))
 (Zr (ap Qd (cs (ap J3 (cs (vr 5) (cs (tpl (cs (tpl (cs (cn (.int 0)) (nl))) (nl))) (nl)))) (cs (ap J3 (cs (vr 6) (cs (tpl (cs (tpl (cs (cn (.int 0)) (nl))) (nl))) (nl)))) (nl)))))))))))))))))))))
noncomputable def Zct:List D->R D:=fnF 1 13 M_50
end L3
namespace L3
open PySem L2
section
variable{α β:Type}{ρ:Rho}{τ:Tau}
@[simp] theorem z_okb(a:α)(k:α->R β):(R.ok a>>=k)=k a:=rfl
@[simp] theorem z_badb(k:α->R β):((R.bad:R α)>>=k)=R.bad:=rfl
@[simp] theorem z_exb(c:Nat)(k:α->R β):((R.ex c:R α)>>=k)=R.ex c:=rfl
@[simp] theorem z_vr(i:Nat):vr i ρ=match ρ[i]? with
 |some (some d)=>.ok d
 |_=>.bad:=rfl
@[simp] theorem z_cn(d:D):cn d ρ=.ok d:=rfl
@[simp] theorem z_bi(op:D->D->R D)(a b:Rho->R D):bi op a b ρ=(a ρ>>=fun x=>b ρ>>=fun y=>op x y):=rfl
@[simp] theorem z_un(f:D->R D)(a:Rho->R D):un f a ρ=(a ρ>>=f):=rfl
@[simp] theorem z_add(i j:Int):ZM (.int i) (.int j)=.ok (.int (i+j)):=rfl
@[simp] theorem z_sub(i j:Int):Z94 (.int i) (.int j)=.ok (.int (i - j)):=rfl
@[simp] theorem z_cmp(p:Int->Int->Bool)(i j:Int):Xk p (.int i) (.int j)=.ok (.bl (p i j)):=rfl
@[simp] theorem z_tst(m:Rho->R D):tst m ρ=(m ρ>>=VW):=rfl
@[simp] theorem z_andT(m n:Rho->R Bool):Wq m n ρ=(m ρ>>=fun c=>if c=true then n ρ else .ok false):=rfl
@[simp] theorem z_orT(m n:Rho->R Bool):orT m n ρ=(m ρ>>=fun c=>if c=true then .ok true else n ρ):=rfl
@[simp] theorem z_notT(m:Rho->R Bool):YU m ρ=(m ρ>>=fun c=>.ok (!c)):=rfl
@[simp] theorem z_andV(m n:Rho->R D):Z65 m n ρ=(m ρ>>=fun d=>blR d>>=fun c=>if c=true then n ρ else .ok (.bl false)):=rfl
@[simp] theorem z_orV(m n:Rho->R D):orV m n ρ=(m ρ>>=fun d=>blR d>>=fun c=>if c=true then .ok (.bl true)else n ρ):=rfl
@[simp] theorem z_blR(b:Bool):blR (.bl b)=.ok b:=rfl
@[simp] theorem z_ifV(c:Rho->R Bool)(m n:Rho->R D):ifV c m n ρ=(c ρ>>=fun b=>if b=true then m ρ else n ρ):=rfl
@[simp] theorem z_chn(f g:D->D->R D)(ma mb mc:Rho->R D):chn f g ma mb mc ρ=(ma ρ>>=fun x=>mb ρ>>=fun y=>f x y>>=fun z=>blR z>>=fun k=>if k=true then mc ρ>>=fun w=>g y w else .ok (.bl false)):=rfl
@[simp] theorem z_nl:nl ρ=.ok []:=rfl
@[simp] theorem z_cs(m:Rho->R D)(n:Rho->R (List D)):cs m n ρ=(m ρ>>=fun d=>n ρ>>=fun ds=>.ok (d::ds)):=rfl
@[simp] theorem z_cns(ks:List Int):cns ks ρ=.ok (ks.map .int):=rfl
@[simp] theorem z_tpl(n:Rho->R (List D)):tpl n ρ=(n ρ>>=fun ds=>if ds.length<=sizeLine then .ok (.tup ds)else .bad):=rfl
@[simp] theorem z_lim(n:Rho->R (List D)):lim n ρ=(n ρ>>=fun ds=>if ds.length<=sizeLine then .ok ds else .bad):=rfl
@[simp] theorem z_asL(m:Rho->R (List D)):asL m ρ=(m ρ>>=fun ds=>.ok (.lst ds)):=rfl
@[simp] theorem z_ap(g:List D->R D)(n:Rho->R (List D)):ap g n ρ=(n ρ>>=g):=rfl
@[simp] theorem z_apN(g:List D->R (List D))(n:Rho->R (List D)):apN g n ρ=(n ρ>>=g):=rfl
@[simp] theorem z_apL(g:List D->R (List D))(n:Rho->R (List D)):apL g n ρ=(n ρ>>=g):=rfl
@[simp] theorem z_srcD(m:Rho->R D):Y1 m ρ=(m ρ>>=Ya):=rfl
@[simp] theorem z_itsT(xs:List D):Ya (.tup xs)=.ok xs:=rfl
@[simp] theorem z_itsL(xs:List D):Ya (.lst xs)=.ok xs:=rfl
@[simp] theorem z_lenT(xs:List D):ZN [.tup xs]=.ok (.int xs.length):=rfl
@[simp] theorem z_lenL(xs:List D):ZN [.lst xs]=.ok (.int xs.length):=rfl
@[simp] theorem z_tupT(xs:List D):Yx [.tup xs]=.ok (.tup xs):=rfl
@[simp] theorem z_tupL(xs:List D):Yx [.lst xs]=.ok (.tup xs):=rfl
@[simp] theorem z_lisT(xs:List D):VX [.tup xs]=.ok xs:=rfl
@[simp] theorem z_lisL(xs:List D):VX [.lst xs]=.ok xs:=rfl
@[simp] theorem z_one(d:D):one d=.ok [d]:=rfl
@[simp] theorem z_yes:yes ρ=.ok true:=rfl
@[simp] theorem z_cmpr(src:Rho->R (List D))(k:Nat)(js is:List Nat)(f:D->R (List D))(mt:Rho->R Bool)(me:Rho->R α):cmp src k js is f mt me ρ=(src ρ>>=fun ds=>nox (ZO f (bro k js ρ) is mt me ds)):=rfl
@[simp] theorem z_truBl(b:Bool):VW (.bl b)=.ok b:=rfl
@[simp] theorem z_truL(xs:List D):VW (.lst xs)=.ok (!xs.isEmpty):=rfl
@[simp] theorem z_truT(xs:List D):VW (.tup xs)=.ok (!xs.isEmpty):=rfl
@[simp] theorem z_truN:VW .non=.ok false:=rfl
@[simp] theorem z_nox{α:Type}(a:α):nox (.ok a)=.ok a:=rfl
@[simp] theorem z_bn(op:D->D->R D)(a b:Rho->R D):bn op a b ρ=(a ρ>>=fun x=>nox (b ρ)>>=fun y=>op x y):=rfl
@[simp] theorem z_noP:noP ρ=.ok none:=rfl
@[simp] theorem z_soP(m:Rho->R D):soP m ρ=(m ρ>>=fun d=>match d with| .int i=>.ok (some i)|_=>.bad):=rfl
@[simp] theorem z_sli(m:Rho->R D)(l h:Rho->R (Option Int)):sli m l h ρ=(m ρ>>=fun d=>l ρ>>=fun lo=>h ρ>>=fun hi=>slD d lo hi):=rfl
@[simp] theorem z_setD0:Qx ρ [] []=ρ:=rfl
@[simp] theorem z_setD1(i:Nat)(is:List Nat)(d:D)(ds:List D):Qx ρ (i::is) (d::ds)=Qx (ρ.set i (some d)) is ds:=rfl
@[simp] theorem z_bro(k:Nat)(js:List Nat):bro k js ρ=List.replicate k none++js.map fun j=>(ρ[j]?).join:=rfl
@[simp] theorem z_viewN:Zz []=[]:=rfl
@[simp] theorem z_view(o:Option Sl)(t:Tau):Zz (o::t)=o.map Sl.d::Zz t:=rfl
@[simp] theorem z_hideN:ZH []=[]:=rfl
@[simp] theorem z_hide(o:Option Sl)(t:Tau):ZH (o::t)=o.bind Sl.h::ZH t:=rfl
@[simp] theorem z_dsh(d:D):Sl.d (.sh d)=d:=rfl
@[simp] theorem z_dac(d:List D):Sl.d (.ac d)=.lst d:=rfl
@[simp] theorem z_dan(d:List (List D)):Sl.d (.an d)=.lst (d.map .lst):=rfl
@[simp] theorem z_hsh(d:D):Sl.h (.sh d)=some d:=rfl
@[simp] theorem z_hac(d:List D):Sl.h (.ac d)=none:=rfl
@[simp] theorem z_han(d:List (List D)):Sl.h (.an d)=none:=rfl
@[simp] theorem z_sq(M N:Tau->Fl):sq M N τ=match M τ with
 | .nx τ'=>N τ'
 |r=>r:=rfl
@[simp] theorem z_sk:sk τ=.nx τ:=rfl
@[simp] theorem z_sno:sno τ=.bad:=rfl
@[simp] theorem z_ret(m:Rho->R D):Zr m τ=match m (Zz τ)with
 | .ok d=>.rt d
 | .ex c=>.ex c τ
 | .bad=>.bad:=rfl
@[simp] theorem z_set(i:Nat)(m:Rho->R D):ZX i m τ=match m (ZH τ)with
 | .ok d=>.nx (τ.set i (some (.sh d)))
 | .ex c=>.ex c τ
 | .bad=>.bad:=rfl
@[simp] theorem z_setF(i:Nat)(m:Rho->R D):UB i m τ=match m (Zz τ)with
 | .ok d=>if noL d=true then .nx (τ.set i (some (.sh d)))else .bad
 | .ex c=>.ex c τ
 | .bad=>.bad:=rfl
@[simp] theorem z_new(i:Nat)(m:Rho->R (List D)):UC i m τ=match m (ZH τ)with
 | .ok ds=>.nx (τ.set i (some (.ac ds)))
 | .ex c=>.ex c τ
 | .bad=>.bad:=rfl
@[simp] theorem z_newN(i:Nat)(m:Rho->R (List (List D))):Z2n i m τ=match m (ZH τ)with
 | .ok ds=>.nx (τ.set i (some (.an ds)))
 | .ex c=>.ex c τ
 | .bad=>.bad:=rfl
@[simp] theorem z_cmpV(i:Nat)(m:Rho->R (List D)):Zef i m τ=match m (Zz τ)with
 | .ok ds=>if noL.noLs ds=true then .nx (τ.set i (some (.ac ds)))else .bad
 | .ex c=>.ex c τ
 | .bad=>.bad:=rfl
@[simp] theorem z_if(c:Rho->R Bool)(M N:Tau->Fl):sIf c M N τ=match c (Zz τ)with
 | .ok b=>if b=true then M τ else N τ
 | .ex c=>.ex c τ
 | .bad=>.bad:=rfl
@[simp] theorem z_drop(m:Rho->R D):Xi m τ=match m (Zz τ)with
 | .ok _=>.nx τ
 | .ex c=>.ex c τ
 | .bad=>.bad:=rfl
@[simp] theorem z_app(i:Nat)(m:Rho->R D):UE i m τ=match τ[i]?,m (ZH τ)with
 |some (some (.ac ds)), .ok d=>if ds.length<sizeLine then .nx (τ.set i (some (.ac (ds++[d]))))else .bad
 |some (some (.ac _)), .ex c=>.ex c τ
 |_,_=>.bad:=rfl
@[simp] theorem z_raise(c:Nat)(m:Rho->R D):Yz c m τ=match m (Zz τ)with
 | .ok _=>.ex c τ
 | .ex c=>.ex c τ
 | .bad=>.bad:=rfl
@[simp] theorem z_try(cs:List Nat)(d i:Nat)(M Mh:Tau->Fl):sTry cs d i M Mh τ=match M τ with
 | .ex c τ'=>if cs.contains c=true/\V8 c d=true then Z9l i (Mh (τ'.set i (some (.sh (.exc c)))))else .bad
 |r=>r:=rfl
@[simp] theorem z_goesR(i:Nat)(d:D):Z9l i (.rt d)=.rt d:=rfl
@[simp] theorem z_goesN(i:Nat)(t:Tau):Z9l i (.nx t)=.nx (t.set i none):=rfl
@[simp] theorem z_isiE(cs:List Nat)(d c:Nat):isiE cs d (.exc c)=if cs.contains c=true then .ok (.bl (V8 c d))else .bad:=rfl
@[simp] theorem z_isiV(cs:List Nat)(c:Nat):isiV cs (.exc c)=if cs.contains c=true then .ok (.bl true)else .bad:=rfl
@[simp] theorem z_two(i j:Nat)(a b:Rho->R D):Z9g i j a b τ=match a (Zz τ),b (Zz τ)with
 | .ok d, .ok e=>if noL d=true/\noL e=true then .nx ((τ.set i (some (.sh d))).set j (some (.sh e)))else .bad
 |_,_=>.bad:=rfl
@[simp] theorem z_max(i j:Int):Z6m [.int i, .int j]=.ok (.int (if i<j then j else i)):=rfl
@[simp] theorem z_neg(i:Int):negD (.int i)=.ok (.int (-i)):=rfl
@[simp] theorem z_notBl(b:Bool):Z67 (.bl b)=.ok (.bl (!b)):=rfl
@[simp] theorem z_appF(i:Nat)(m:Rho->R D):Zeg i m τ=match τ[i]?,m (Zz τ)with
 |some (some (.ac ds)), .ok d=>if ds.length<sizeLine/\noL d=true then .nx (τ.set i (some (.ac (ds++[d]))))else .bad
 |_,_=>.bad:=rfl
@[simp] theorem z_ext(i:Nat)(m:Rho->R D):QA i m τ=match τ[i]?,m (ZH τ)with
 |some (some (.ac ds)), .ok (.lst es)=>if ds.length+es.length<=sizeLine then .nx (τ.set i (some (.ac (ds++es))))else .bad
 |_,_=>.bad:=rfl
@[simp] theorem z_put(i:Nat)(m v:Rho->R D):sPut i m v τ=match τ[i]?,v (Zz τ),m (Zz τ)with
 |some (some (.ac ds)), .ok d, .ok (.int k)=>match ixN ds.length k with
  |some j=>if noL d=true then .nx (τ.set i (some (.ac (ds.set j d))))else .bad
  |none=>.bad
 |_,_,_=>.bad:=rfl
@[simp] theorem z_putN(i:Nat)(m1 m2 v:Rho->R D):QT i m1 m2 v τ=match τ[i]?,v (Zz τ),m1 (Zz τ),m2 (Zz τ)with
 |some (some (.an dss)), .ok d, .ok (.int k1), .ok (.int k2)=>match ixN dss.length k1 with
  |some j1=>match dss[j1]? with
   |some ds=>match ixN ds.length k2 with
    |some j2=>if noL d=true then .nx (τ.set i (some (.an (dss.set j1 (ds.set j2 d)))))else .bad
    |none=>.bad
   |none=>.bad
  |none=>.bad
 |_,_,_,_=>.bad:=rfl
@[simp] theorem z_for(src:Rho->R (List D))(is:List Nat)(f:D->R (List D))(B:Tau->Fl):Yj src is f B τ=match src (ZH τ)with
 | .ok ds=>ZP is f B ds τ
 | .ex c=>.ex c τ
 | .bad=>.bad:=rfl
@[simp] theorem z_fornil(is:List Nat)(f:D->R (List D))(B:Tau->Fl):ZP is f B [] τ=.nx τ:=rfl
@[simp] theorem z_setT0:XS τ [] []=τ:=rfl
@[simp] theorem z_setT1(i:Nat)(is:List Nat)(d:D)(ds:List D):XS τ (i::is) (d::ds)=XS (τ.set i (some (.sh d))) is ds:=rfl
end
theorem Zo{n nl:Nat}{M:Tau->Fl}{ds:List D}{r:R D}(hl:ds.length=n)(h:(match M (ds.map (fun d=>some (.sh d))++List.replicate (nl - n) none)with
 | .rt d=>R.ok d
 | .nx _=>.ok .non
 | .ex c _=>.ex c
 |_=>.bad)=r):fnF n nl M ds=r:=by unfold fnF;rw[if_pos hl];exact h
theorem Vy{n nl:Nat}{M:Tau->Fl}{ds:List D}{d:D}(hl:ds.length=n)(h:M (ds.map (fun d=>some (.sh d))++List.replicate (nl - n) none)=.rt d):fnF n nl M ds=.ok d:=Zo hl (by rw[h])
theorem YW{n:Nat}(h:n<=1000000):n<=sizeLine:=Nat.le_trans h (by decide)
@[simp] theorem sl_le(n:Nat)(h:n<=1000000):(n<=sizeLine)=True:=eq_true (YW h)
@[simp] theorem sl_lt(n:Nat)(h:n<=1000000):(n<sizeLine)=True:=eq_true (Nat.lt_of_le_of_lt h (by decide))
theorem WL(i j:Int)(h:j.natAbs<=1000000000000):X0 (.int i) (.int j)=.ok (.int (i * j)):=by
 show(if i.natAbs<=1000000000000\/j.natAbs<=1000000000000 then R.ok (D.int (i * j))else .bad)=_
 rw[if_pos (.inr h)]
theorem Z0n(i j:Int)(h:i.natAbs<=1000000000000):X0 (.int i) (.int j)=.ok (.int (i * j)):=by
 show(if i.natAbs<=1000000000000\/j.natAbs<=1000000000000 then R.ok (D.int (i * j))else .bad)=_
 rw[if_pos (.inl h)]
theorem YX(i j:Int)(h:0<j):Yr (.int i) (.int j)=.ok (.int (i%j)):=by
 show(if 0<j then R.ok (D.int (i%j))else .bad)=_
 rw[if_pos h]
theorem Zel(i j:Int)(h:0<j/\j.natAbs<=1000000):Z60 (.int i) (.int j)=.ok (.int (i / j)):=by
 show(if 0<j/\j.natAbs<=1000000 then R.ok (D.int (i / j))else .bad)=_
 rw[if_pos h]
theorem YS(n:Nat)(h:n<=1000000):rg1 [.int (n:Int)]=.ok ((List.range n).map fun(i:Nat)=>D.int (i:Int)):=by
 show(if(n:Int).natAbs<=1000000 then R.ok (XR 0 (n:Int).toNat)else .bad)=_
 rw[if_pos (by omega),Int.toNat_natCast]
 unfold XR
 simp
theorem Zb1(m n:Nat)(hn:n<=1000000)(hm:m<=1000000):rg2 [.int (m:Int), .int (n:Int)]=.ok ((List.range (n - m)).map fun(i:Nat)=>D.int ((m+i:Nat):Int)):=by
 show(if(m:Int).natAbs<=1000000/\(n:Int).natAbs<=1000000 then R.ok (XR m ((n:Int) - m).toNat)else .bad)=_
 rw[if_pos (by omega)]
 unfold XR
 have:((n:Int) - (m:Int)).toNat=n - m:=by omega
 rw[this]
 simp
@[simp] theorem dep_int(i:Int):dep (.int i)=0:=rfl
@[simp] theorem dep_bl(i:Bool):dep (.bl i)=0:=rfl
theorem z_eq{x y:D}(h:dep x<=40/\dep y<=40):eqD x y=.ok (.bl (eqB x y)):=by
 unfold eqD Z96
 rw[if_pos (by rw[decide_eq_true_eq];omega)]
theorem Zcu{x y:D}(h:dep x<=40/\dep y<=40):neD x y=.ok (.bl (!eqB x y)):=by
 unfold neD Z96
 rw[if_pos (by rw[decide_eq_true_eq];omega)]
@[simp] theorem eqB_int(i j:Int):eqB (.int i) (.int j)=decide (i=j):=by
 show(i == j)=_
 by_cases h:i=j
 ·simp[h]
 ·rw[beq_eq_false_iff_ne.mpr h,decide_eq_false h]
@[simp] theorem z_eqI(i j:Int):eqD (.int i) (.int j)=.ok (.bl (decide (i=j))):=by rw[z_eq ⟨by simp,by simp⟩,eqB_int]
@[simp] theorem z_neI(i j:Int):neD (.int i) (.int j)=.ok (.bl (!decide (i=j))):=by rw[Zcu ⟨by simp,by simp⟩,eqB_int]
@[simp] theorem z_isiI(T:Ty)(x:Int):Q6 T (.int x)=.ok (.bl (isT T (.int x))):=rfl
@[simp] theorem z_isiB(T:Ty)(x:Bool):Q6 T (.bl x)=.ok (.bl (isT T (.bl x))):=rfl
@[simp] theorem z_isiT(T:Ty)(x:List D):Q6 T (.tup x)=.ok (.bl (isT T (.tup x))):=rfl
@[simp] theorem z_isiL(T:Ty)(x:List D):Q6 T (.lst x)=.ok (.bl (isT T (.lst x))):=rfl
@[simp] theorem z_isiS(T:Ty)(x:Str):Q6 T (.str x)=.ok (.bl (isT T (.str x))):=rfl
@[simp] theorem z_isiN(T:Ty):Q6 T .non=.ok (.bl (isT T .non)):=rfl
def Z8(n:Nat)(p:Nat->Nat):D:=.tup ((List.range n).map fun i=>.int (p i:Int))
def sqD(n:Nat)(g:Nat->Nat->Nat):D:=.tup ((List.range n).map fun r=>Z8 n (g r))
@[simp] theorem z_isiRow(T:Ty)(n:Nat)(p:Nat->Nat):Q6 T (Z8 n p)=.ok (.bl (isT T (Z8 n p))):=rfl
@[simp] theorem z_isiSq(T:Ty)(n:Nat)(g:Nat->Nat->Nat):Q6 T (sqD n g)=.ok (.bl (isT T (sqD n g))):=rfl
theorem WM{α:Type}(xs:List α)(i:Nat)(h:i<xs.length):atI xs (i:Int)=xs[i]? :=by
 unfold atI ixN
 rw[if_pos (by omega),if_pos (by omega),Int.toNat_natCast]
 rfl
@[simp] theorem z_row{n:Nat}{p:Nat->Nat}{i:Nat}(h:i<n):ixD (Z8 n p) (.int (i:Int))=.ok (.int (p i:Int)):=by
 unfold Z8
 show(match atI ((List.range n).map fun i=>D.int (p i:Int)) (i:Int)with|some d=>R.ok d|none=>.bad)=_
 rw[WM _ _ (by simpa using h)]
 simp[h]
@[simp] theorem z_sqr{n:Nat}{g:Nat->Nat->Nat}{i:Nat}(h:i<n):ixD (sqD n g) (.int (i:Int))=.ok (Z8 n (g i)):=by
 unfold sqD
 show(match atI ((List.range n).map fun r=>Z8 n (g r)) (i:Int)with|some d=>R.ok d|none=>.bad)=_
 rw[WM _ _ (by simpa using h)]
 simp[h]
@[simp] theorem len_row(n:Nat)(p:Nat->Nat):ZN [Z8 n p]=.ok (.int (n:Int)):=by simp[Z8]
@[simp] theorem len_sq(n:Nat)(g:Nat->Nat->Nat):ZN [sqD n g]=.ok (.int (n:Int)):=by simp[sqD]
theorem Zn{α β:Type}{ρ0:Rho}{me:Rho->R α}(e:β->D)(g:β->α):∀(l:List β),(∀b∈l,me (Qx ρ0 [0] [e b])=.ok (g b))->ZO one ρ0 [0] yes me (l.map e)=.ok (l.map g)
 | [],_=>rfl
 |b::l,h=>by
  have h1:=h b List.mem_cons_self
  have ih:=Zn e g l fun c hc=>h c (List.mem_cons_of_mem _ hc)
  rw[List.map_cons,ZO]
  simp only[z_one,z_okb,z_yes,h1,ih,if_true,List.map_cons]
theorem XC{α β:Type}{ρ0:Rho}{mt:Rho->R Bool}{me:Rho->R α}(e:β->D)(p:β->Bool)(g:β->α):∀(l:List β),(∀b∈l,mt (Qx ρ0 [0] [e b])=.ok (p b)/\(p b=true->me (Qx ρ0 [0] [e b])=.ok (g b)))->ZO one ρ0 [0] mt me (l.map e)=.ok ((l.filter p).map g)
 | [],_=>rfl
 |b::l,h=>by
  obtain⟨h1,h2⟩:=h b List.mem_cons_self
  have ih:=XC e p g l fun c hc=>h c (List.mem_cons_of_mem _ hc)
  rw[List.map_cons,ZO]
  cases hb:p b with
  |true=>simp only[z_one,z_okb,h1,hb,h2 hb,ih,if_true,List.filter_cons_of_pos,List.map_cons]
  |false=>simp only[z_one,z_okb,h1,hb,ih,Bool.false_eq_true,if_false,not_false_eq_true,List.filter_cons_of_neg]
theorem Z2t{is:List Nat}{f:D->R (List D)}{B:Tau->Fl}(P:Nat->Tau->Prop):∀(ds:List D) (k:Nat) (τ:Tau),P k τ->(∀i d τ,ds[i]? =some d->P (k+i) τ->∃vs τ',f d=.ok vs/\B (XS τ is vs)=.nx τ'/\P (k+i+1) τ')->∃τ',ZP is f B ds τ=.nx τ'/\P (k+ds.length) τ'
 | [],k,τ,h,_=>⟨τ,rfl,h⟩
 |d::ds,k,τ,h,st=>by
  obtain⟨vs,τ1,h1,h2,h3⟩:=st 0 d τ rfl h
  obtain⟨τ2,h4,h5⟩:=Z2t P ds (k+1) τ1 h3 fun i d' τ' e p=>by
   have:=st (i+1) d' τ' (by simpa using e) (by rw[show k+(i+1)=k+1+i by omega];exact p)
   obtain⟨vs,τ3,a,b,c⟩:=this
   exact⟨vs,τ3,a,b,by rw[show k+1+i+1=k+(i+1)+1 by omega];exact c⟩
  refine⟨τ2,?_,by rw[List.length_cons,show k+(ds.length+1)=k+1+ds.length by omega];exact h5⟩
  rw[ZP]
  simp only[h1,h2,h4]
theorem Z2u{i:Nat}{B:Tau->Fl}(P:Nat->Tau->Prop)(n m:Nat)(τ:Tau)(h0:P 0 τ)(st:∀j τ,j<n->P j τ->∃τ',B (τ.set i (some (.sh (.int ((m+j:Nat):Int)))))=.nx τ'/\P (j+1) τ'):
  ∃τ',ZP [i] one B ((List.range n).map fun(j:Nat)=>D.int ((m+j:Nat):Int)) τ=.nx τ'/\P n τ':=by
 have:=Z2t (is:=[i]) (f:=one) (B:=B) P ((List.range n).map fun(j:Nat)=>D.int ((m+j:Nat):Int)) 0 τ h0 fun j d τ e p=>by
  rw[List.getElem?_map]at e
  cases hj:(List.range n)[j]? with
  |none=>rw[hj]at e;cases e
  |some q=>
   have hlt:j<n:=by have:=(List.getElem?_eq_some_iff.mp hj).1;simpa using this
   rw[List.getElem?_range hlt]at hj
   cases hj
   rw[List.getElem?_range hlt]at e
   cases e
   obtain⟨τ',a,b⟩:=st j τ hlt (by simpa using p)
   exact⟨_,τ',rfl,a,by simpa using b⟩
 simpa using this
theorem WN{i:Nat}{B:Tau->Fl}(P:Nat->Tau->Prop)(n:Nat)(τ:Tau)(h0:P 0 τ)(st:∀j τ,j<n->P j τ->∃τ',B (τ.set i (some (.sh (.int (j:Int)))))=.nx τ'/\P (j+1) τ'):
  ∃τ',ZP [i] one B ((List.range n).map fun(j:Nat)=>D.int (j:Int)) τ=.nx τ'/\P n τ':=by
 have:=Z2u (i:=i) (B:=B) P n 0 τ h0 fun j τ hj p=>by
  obtain⟨τ',a,b⟩:=st j τ hj p
  exact⟨τ',by rw[Nat.zero_add];exact a,b⟩
 simpa using this
theorem Yc{is:List Nat}{f:D->R (List D)}{B:Tau->Fl}{d:D}{ds:List D}{τ τ':Tau}{vs:List D}(h1:f d=.ok vs)(h2:B (XS τ is vs)=.nx τ'):ZP is f B (d::ds) τ=ZP is f B ds τ':=by
 rw[ZP];simp only[h1,h2]
theorem Z2v{α:Type}(n:Nat)(f:Nat->α)(a:Nat)(x:α):((List.range n).map f).set a x=(List.range n).map fun i=>if i=a then x else f i:=by
 apply List.ext_getElem?
 intro i
 by_cases hi:i<n
 ·by_cases ha:a=i
  ·subst ha
   rw[List.getElem?_set_self (by simpa using hi),List.getElem?_map,List.getElem?_range hi]
   simp
  ·rw[List.getElem?_set_ne ha,List.getElem?_map,List.getElem?_map,List.getElem?_range hi]
   simp[Ne.symm ha]
 ·rw[List.getElem?_eq_none (by simpa using hi),List.getElem?_eq_none (by simpa using hi)]
theorem Z2w{α:Type}(n:Nat)(f:Nat->α){a:Nat}(h:a<n):((List.range n).map f)[a]? =some (f a):=by
 rw[List.getElem?_map,List.getElem?_range h];rfl
theorem Z2x{n i:Nat}(h:i<n):ixN n (i:Int)=some i:=by
 unfold ixN
 rw[if_pos (by omega),if_pos (by omega),Int.toNat_natCast]
theorem Xr(xs:List D)(i:Nat)(d:D)(h:xs[i]? =some d):ixD (.lst xs) (.int (i:Int))=.ok d:=by
 show(match atI xs (i:Int)with|some d=>R.ok d|none=>.bad)=_
 rw[WM _ _ (List.getElem?_eq_some_iff.mp h).1,h]
theorem ix_tup(xs:List D)(i:Nat)(d:D)(h:xs[i]? =some d):ixD (.tup xs) (.int (i:Int))=.ok d:=by
 show(match atI xs (i:Int)with|some d=>R.ok d|none=>.bad)=_
 rw[WM _ _ (List.getElem?_eq_some_iff.mp h).1,h]
@[simp] theorem ix_tup0(d:D)(xs:List D):ixD (.tup (d::xs)) (.int 0)=.ok d:=ix_tup _ 0 _ rfl
@[simp] theorem ix_tup1(d e:D)(xs:List D):ixD (.tup (d::e::xs)) (.int 1)=.ok e:=ix_tup _ 1 _ rfl
@[simp] theorem ix_tup2(d e f:D)(xs:List D):ixD (.tup (d::e::f::xs)) (.int 2)=.ok f:=ix_tup _ 2 _ rfl
@[simp] theorem ix_tup3(d e f g:D)(xs:List D):ixD (.tup (d::e::f::g::xs)) (.int 3)=.ok g:=ix_tup _ 3 _ rfl
@[simp] theorem ix_lst0(d:D)(xs:List D):ixD (.lst (d::xs)) (.int 0)=.ok d:=Xr _ 0 _ rfl
@[simp] theorem ix_lst1(d e:D)(xs:List D):ixD (.lst (d::e::xs)) (.int 1)=.ok e:=Xr _ 1 _ rfl
@[simp] theorem ix_lst2(d e f:D)(xs:List D):ixD (.lst (d::e::f::xs)) (.int 2)=.ok f:=Xr _ 2 _ rfl
@[simp] theorem noL_int(i:Int):noL (.int i)=true:=by unfold noL;rfl
theorem Z7m(xs:List D):eqB (.lst xs) (.lst [])=xs.isEmpty:=by
 cases xs with
 |nil=>rfl
 |cons x r=>rfl
@[simp] theorem dep_lnil:dep (.lst [])=1:=rfl
theorem Z0o{α:Type}(h:Nat->List α)(k:Nat):∀n,(∀j,j<n->(h j).length<=k)->((List.range n).flatMap h).length<=n * k
 |0,_=>by simp
 |n+1,hk=>by
  have h1:=Z0o h k n fun j hj=>hk j (Nat.lt_succ_of_lt hj)
  have h2:=hk n (Nat.lt_succ_self n)
  have e:(List.range (n+1)).flatMap h=(List.range n).flatMap h++h n:=by rw[List.range_succ,List.flatMap_append];simp
  rw[e,List.length_append,Nat.succ_mul]
  omega
theorem WO{i:Nat}{B:Tau->Fl}(S:List D->Tau->Prop)(h:Nat->List D)(k L n m:Nat)(acc:List D)(τ:Tau)(hk:∀j,j<n->(h j).length<=k)(hL:acc.length<=L)(h0:S acc τ)
  (st:∀j acc τ,j<n->acc.length<=L+j * k->S acc τ->∃τ',B (τ.set i (some (.sh (.int ((m+j:Nat):Int)))))=.nx τ'/\S (acc++h j) τ'):
  ∃τ',ZP [i] one B ((List.range n).map fun(j:Nat)=>D.int ((m+j:Nat):Int)) τ=.nx τ'/\S (acc++(List.range n).flatMap h) τ':=
 Z2u (fun j τ=>S (acc++(List.range j).flatMap h) τ) n m τ (by simpa using h0) fun j τ hj p=>by
  have hl:(acc++(List.range j).flatMap h).length<=L+j * k:=by
   rw[List.length_append]
   have:=Z0o h k j fun i hi=>hk i (Nat.lt_trans hi hj)
   omega
  obtain⟨τ',a,b⟩:=st j _ τ hj hl p
  refine⟨τ',a,?_⟩
  rw[List.range_succ,List.flatMap_append,←List.append_assoc]
  simpa using b
theorem Vz{i:Nat}{B:Tau->Fl}(S:List D->Tau->Prop)(h:Nat->List D)(k L n:Nat)(acc:List D)(τ:Tau)(hk:∀j,j<n->(h j).length<=k)(hL:acc.length<=L)(h0:S acc τ)
  (st:∀j acc τ,j<n->acc.length<=L+j * k->S acc τ->∃τ',B (τ.set i (some (.sh (.int (j:Int)))))=.nx τ'/\S (acc++h j) τ'):
  ∃τ',ZP [i] one B ((List.range n).map fun(j:Nat)=>D.int (j:Int)) τ=.nx τ'/\S (acc++(List.range n).flatMap h) τ':=by
 have:=WO (i:=i) (B:=B) S h k L n 0 acc τ hk hL h0 fun j acc τ hj hl p=>by
  obtain⟨τ',a,b⟩:=st j acc τ hj hl p
  exact⟨τ',by rw[Nat.zero_add];exact a,b⟩
 simpa using this
theorem Qe{β:Type}{i:Nat}{B:Tau->Fl}(S:List D->Tau->Prop)(e:β->D)(h:β->List D)(k M:Nat):∀(l:List β) (acc:List D) (τ:Tau),(∀b∈l,(h b).length<=k)->acc.length+l.length * k<=M->S acc τ->
  (∀b∈l,∀acc τ,acc.length+k<=M->S acc τ->∃τ',B (τ.set i (some (.sh (e b))))=.nx τ'/\S (acc++h b) τ')->∃τ',ZP [i] one B (l.map e) τ=.nx τ'/\S (acc++l.flatMap h) τ'
 | [],acc,τ,_,_,h0,_=>⟨τ,rfl,by simpa using h0⟩
 |b::l,acc,τ,hk,hM,h0,st=>by
  rw[List.length_cons,Nat.succ_mul]at hM
  obtain⟨τ1,a1,s1⟩:=st b List.mem_cons_self acc τ (by omega) h0
  have hb:=hk b List.mem_cons_self
  obtain⟨τ2,a2,s2⟩:=Qe S e h k M l (acc++h b) τ1 (fun c hc=>hk c (List.mem_cons_of_mem _ hc)) (by rw[List.length_append];omega) s1 fun c hc=>st c (List.mem_cons_of_mem _ hc)
  refine⟨τ2,?_,by rw[List.flatMap_cons,←List.append_assoc];exact s2⟩
  rw[List.map_cons,Yc (vs:=[e b]) rfl a1,a2]
theorem Zy{M N:Tau->Fl}{τ τ':Tau}(h:M τ=.nx τ'):sq M N τ=N τ':=by rw[z_sq,h]
theorem Z7n{M N:Tau->Fl}{τ:Tau}{d:D}(h:M τ=.rt d):sq M N τ=.rt d:=by rw[z_sq,h]
theorem X5{c:Rho->R Bool}{M N:Tau->Fl}{τ:Tau}(h:c (Zz τ)=.ok false):sIf c M N τ=N τ:=by rw[z_if,h];rfl
theorem WP{c:Rho->R Bool}{M N:Tau->Fl}{τ:Tau}(h:c (Zz τ)=.ok true):sIf c M N τ=M τ:=by rw[z_if,h];rfl
theorem ZS{i:Nat}{m:Rho->R D}{τ:Tau}{d:D}(h:m (ZH τ)=.ok d):ZX i m τ=.nx (τ.set i (some (.sh d))):=by rw[z_set,h]
theorem QI{m:Rho->R D}{τ:Tau}{d:D}(h:m (Zz τ)=.ok d):Zr m τ=.rt d:=by rw[z_ret,h]
theorem Xf{src:Rho->R (List D)}{is:List Nat}{f:D->R (List D)}{B:Tau->Fl}{τ:Tau}{ds:List D}{r:Fl}(h:src (ZH τ)=.ok ds)(h2:ZP is f B ds τ=r):Yj src is f B τ=r:=by rw[z_for,h];exact h2
end L3
namespace L3
open PySem L2
def scr(xs:List Int):D:=.lst (xs.map .int)
theorem QJ(xs:List Int)(k:Nat):F_0 [scr xs, .int (k:Int)]=.ok (.int (xs.getD k 0)):=by
 refine Zo rfl ?_
 by_cases h:k<xs.length
 ·have h':((k:Int)<(xs.length:Int)):=by omega
  have e:atI (xs.map D.int) (k:Int)=some (.int (xs.getD k 0)):=by
   rw[WM _ _ (by simpa using h)];simp[h]
  simp[scr,h',ixD,e]
 ·have h':¬((k:Int)<(xs.length:Int)):=by omega
  have e:xs[k]? =none:=List.getElem?_eq_none (by omega)
  simp[scr,h',e]
theorem Z7o(c p m:Int)(hp:0<p)(hm:0<m):F_3 [.int c, .int p, .int m]=.ok (.int (c * 48271%p%m)):=by
 refine Zo rfl ?_
 simp[YX,hp,hm,WL]
structure Ord(n:Nat)(p:Nat->Nat):Prop where
 lt:∀i,i<n->p i<n
 inj:∀i j,i<n->j<n->p i=p j->i=j
theorem Z7p{n:Nat}{l:List Nat}(h:l.Perm (List.range n)):Ord n (fun i=>l.getD i 0)/\l=(List.range n).map (fun i=>l.getD i 0):=by
 have hl:l.length=n:=by rw[h.length_eq,List.length_range]
 have nd:l.Nodup:=h.nodup_iff.mpr List.nodup_range
 refine⟨⟨fun i hi=> ?_,fun i j hi hj e=> ?_⟩,?_⟩
 ·have hm:l[i]'(by omega)∈List.range n:=h.mem_iff.mp (List.getElem_mem _)
  show l.getD i 0<n
  rw[List.getD_eq_getElem?_getD,List.getElem?_eq_getElem (by omega)]
  simpa using hm
 ·have e':l.getD i 0=l.getD j 0:=e
  rw[List.getD_eq_getElem?_getD,List.getElem?_eq_getElem (by omega),List.getD_eq_getElem?_getD,List.getElem?_eq_getElem (by omega)]at e'
  exact(List.getElem_inj nd).mp e'
 ·apply List.ext_getElem?
  intro i
  rw[List.getElem?_map]
  by_cases hi:i<n
  ·rw[List.getElem?_range hi,List.getElem?_eq_getElem (by omega)]
   simp[List.getD_eq_getElem?_getD,List.getElem?_eq_getElem (show i<l.length by omega)]
  ·rw[List.getElem?_eq_none (by omega),List.getElem?_eq_none (by simpa using hi)]
   rfl
theorem XY(m:Nat->Int):∀(l:List Nat),Xj (l.map fun k=>D.tup [.int (m k), .int (k:Int)])=some (l.map fun k=>[m k,(k:Int)])
 | []=>rfl
 |k::l=>by
  rw[List.map_cons,Xj,XY m l]
  simp[ZF]
theorem Z0p(m:Nat->Int)(k:Nat)(l:List Nat):ZF ((k::l).map fun k=>D.tup [.int (m k), .int (k:Int)])=none:=rfl
theorem Z4u(m:Nat->Int)(n:Nat)(hn:n<64):∃l:List Nat,l.Perm (List.range n)/\WA ((List.range n).map fun k=>D.tup [.int (m k), .int (k:Int)])=.ok (l.map fun k=>D.tup [.int (m k), .int (k:Int)]):=by
 by_cases h0:n=0
 ·subst h0
  exact⟨[], .refl _,by simp[WA,ZF]⟩
 have hne:ZF ((List.range n).map fun k=>D.tup [.int (m k), .int (k:Int)])=none:=by
  obtain⟨n',rfl⟩:∃n',n=n'+1:=⟨n - 1,by omega⟩
  rw[List.range_succ_eq_map]
  exact Z0p m 0 _
 by_cases h2:n<2
 ·refine⟨List.range n, .refl _,?_⟩
  unfold WA
  rw[if_pos (by simpa using hn),hne]
  simp only[XY]
  rw[if_pos (by simpa using h2)]
 ·refine⟨YK ((List.range n).map fun k=>[m k,(k:Int)]),(Xy _).trans (by rw[List.length_map,List.length_range]),?_⟩
  unfold WA
  rw[if_pos (by simpa using hn),hne]
  simp only[XY]
  rw[if_neg (by simpa using h2)]
  congr 1
  apply List.map_congr_left
  intro i hi
  have hlt:i<n:=by
   have:=(Xy _).mem_iff.mp hi
   simpa using this
  rw[List.getD_eq_getElem?_getD,List.getElem?_map,List.getElem?_range hlt]
  rfl
theorem Xg(c:Int)(n:Nat)(hn:n<64):∃p,Ord n p/\F_5 [.int c, .int (n:Int)]=.ok (Z8 n p):=by
 let m:Nat->Int:=fun k=>(c+29 * (k:Int) * k+3 * (k:Int)) * 48271%9973%997
 obtain⟨l,hl,hs⟩:=Z4u m n hn
 obtain⟨o,e⟩:=Z7p hl
 refine⟨_,o,?_⟩
 refine Zo rfl ?_
 simp[YS n (by omega)]
 rw[Zn (fun(i:Nat)=>D.int (i:Int)) (fun k=>D.tup [.int (m k), .int (k:Int)]) (List.range n) (fun k hk=>by
  have hk':k<n:=by simpa using hk
  have b1:(k:Int).natAbs<=1000000000000:=by omega
  simp[WL _ _ b1,Z7o,m])]
 simp[JV,hs]
 rw[Zn (fun(k:Nat)=>D.tup [.int (m k), .int (k:Int)]) (fun k=>D.int (k:Int)) l (fun k hk=>by simp[ixD,atI,ixN])]
 simp only[Z8,z_okb,z_tupL,z_ap,z_cs,z_nl]
 congr 2
 conv=>lhs;rw[e]
 rw[List.map_map]
 rfl
structure Lat(n:Nat)(g:Nat->Nat->Nat):Prop where
 lt:∀r c,r<n->c<n->g r c<n
 row:∀r c d,r<n->c<n->d<n->g r c=g r d->c=d
 col:∀r s c,r<n->s<n->c<n->g r c=g s c->r=s
theorem Za0(n:Nat)(h1:1<=n)(h9:n<=9):Lat n (fun r c=>(r+c)%n):=by
 have a:∀n,n<10->∀r,r<n->∀c,c<n->∀d,d<n->(r+c)%n=(r+d)%n->c=d:=by decide+kernel
 exact⟨fun r c _ _=>Nat.mod_lt _ h1,fun r c d hr hc hd h=>a n (Nat.lt_succ_of_le h9) r hr c hc d hd h,fun r s c hr hs hc h=>a n (Nat.lt_succ_of_le h9) c hc r hr s hs (by rw[Nat.add_comm c r,Nat.add_comm c s];exact h)⟩
def tab(t:List (List Nat)):Nat->Nat->Nat:=fun r c=>(t.getD r []).getD c 0
def t5:List (List Nat):=[[0,1,2,3,4],[1,0,3,4,2],[2,3,4,0,1],[3,4,1,2,0],[4,2,0,1,3]]
def t4:List (List Nat):=[[0,1,2,3],[1,0,3,2],[2,3,0,1],[3,2,1,0]]
theorem Zcv:Lat 5 (tab t5):=by
 refine⟨?_,?_,?_⟩
 ·have:∀r,r<5->∀c,c<5->tab t5 r c<5:=by decide
  exact fun r c hr hc=>this r hr c hc
 ·have:∀r,r<5->∀c,c<5->∀d,d<5->tab t5 r c=tab t5 r d->c=d:=by decide
  exact fun r c d hr hc hd=>this r hr c hc d hd
 ·have:∀r,r<5->∀c,c<5->∀d,d<5->tab t5 r d=tab t5 c d->r=c:=by decide
  exact fun r c d hr hc hd=>this r hr c hc d hd
theorem Zcw:Lat 4 (tab t4):=by
 refine⟨?_,?_,?_⟩
 ·have:∀r,r<4->∀c,c<4->tab t4 r c<4:=by decide
  exact fun r c hr hc=>this r hr c hc
 ·have:∀r,r<4->∀c,c<4->∀d,d<4->tab t4 r c=tab t4 r d->c=d:=by decide
  exact fun r c d hr hc hd=>this r hr c hc d hd
 ·have:∀r,r<4->∀c,c<4->∀d,d<4->tab t4 r d=tab t4 c d->r=c:=by decide
  exact fun r c d hr hc hd=>this r hr c hc d hd
theorem Za1(n:Nat)(w:Int)(h1:1<=n)(h9:n<=9):∃g,Lat n g/\F_1 [.int (n:Int), .int w]=.ok (sqD n g):=by
 by_cases h5:n=5/\w%2=1
 ·obtain⟨rfl,hw⟩:=h5
  refine⟨tab t5,Zcv,Zo rfl ?_⟩
  simp[YX,hw]
  rfl
 ·by_cases h4:n=4/\w%2=1
  ·obtain⟨rfl,hw⟩:=h4
   refine⟨tab t4,Zcw,Zo rfl ?_⟩
   simp[YX,hw]
   rfl
  ·refine⟨_,Za0 n h1 h9,Zo rfl ?_⟩
   have e5:((n:Int)=5)↔n=5:=by omega
   have e4:((n:Int)=4)↔n=4:=by omega
   have k5:(if decide ((n:Int)=5)=true then R.ok (decide (w%2=1))else R.ok false)=R.ok false:=by
    by_cases h:n=5
    ·have:¬w%2=1:=fun z=>h5 ⟨h,z⟩
     simp[this]
    ·simp[e5,h]
   have k4:(if decide ((n:Int)=4)=true then R.ok (decide (w%2=1))else R.ok false)=R.ok false:=by
    by_cases h:n=4
    ·have:¬w%2=1:=fun z=>h4 ⟨h,z⟩
     simp[this]
    ·simp[e4,h]
   simp only[List.map_cons,List.map_nil,List.append_nil,z_sq,z_if,z_view,z_viewN,z_andT,z_tst,z_bi,z_vr,z_cn,z_okb,z_eqI,z_truBl,List.getElem?_cons_zero,List.getElem?_cons_succ,Option.map_some,z_dsh,Nat.sub_self,List.replicate_zero,YX w 2 (by decide),k5,k4,Bool.false_eq_true,if_false,z_sk,z_ret]
   simp[YS n (by omega)]
   rw[Zn (fun(i:Nat)=>D.int (i:Int)) (fun r=>Z8 n (fun c=>(r+c)%n)) (List.range n) (fun r hr=>by
    simp[YS n (by omega)]
    rw[Zn (fun(i:Nat)=>D.int (i:Int)) (fun c=>D.int (((r+c)%n:Nat):Int)) (List.range n) (fun c hc=>by
     simp[YX _ _ (show(0:Int)<n by omega)])]
    simp[Z8])]
   simp[sqD]
def Qf(a b l r:Nat):D:=.tup [.int (a:Int), .int (b:Int), .int (l:Int), .int (r:Int)]
def Jb(g:Nat->Nat->Nat)(a b l r:Nat):Bool:=decide (g a l=g b r)&&decide (g a r=g b l)
def Qg(g:Nat->Nat->Nat)(a b l r:Nat):List D:=if Jb g a b l r=true then [Qf a b l r]else []
def VA(n:Nat)(g:Nat->Nat->Nat)(a b l:Nat):List D:=(List.range (n - (l+1))).flatMap fun i=>Qg g a b l (l+1+i)
def QK(n:Nat)(g:Nat->Nat->Nat)(a b:Nat):List D:=(List.range n).flatMap fun l=>VA n g a b l
def VB(n:Nat)(g:Nat->Nat->Nat)(a:Nat):List D:=(List.range (n - (a+1))).flatMap fun i=>QK n g a (a+1+i)
def Yg(n:Nat)(g:Nat->Nat->Nat):List D:=(List.range n).flatMap fun a=>VB n g a
theorem lenR(g:Nat->Nat->Nat)(a b l r:Nat):(Qg g a b l r).length<=1:=by unfold Qg;split<;>simp
theorem lenC(n:Nat)(g:Nat->Nat->Nat)(a b l:Nat)(h9:n<=9):(VA n g a b l).length<=9:=by
 have:=Z0o (fun i=>Qg g a b l (l+1+i)) 1 (n - (l+1)) fun i _=>lenR ..
 unfold VA;omega
theorem Zb2(n:Nat)(g:Nat->Nat->Nat)(a b:Nat)(h9:n<=9):(QK n g a b).length<=81:=by
 have:=Z0o (fun l=>VA n g a b l) 9 n fun i _=>lenC _ _ _ _ _ h9
 unfold QK;omega
theorem lenB(n:Nat)(g:Nat->Nat->Nat)(a:Nat)(h9:n<=9):(VB n g a).length<=729:=by
 have:=Z0o (fun i=>QK n g a (a+1+i)) 81 (n - (a+1)) fun i _=>Zb2 _ _ _ _ h9
 unfold VB;omega
theorem lenL(n:Nat)(g:Nat->Nat->Nat)(h9:n<=9):(Yg n g).length<=6561:=by
 have:=Z0o (fun a=>VB n g a) 729 n fun i _=>lenB _ _ _ h9
 unfold Yg;omega
theorem Z7q(n:Nat)(g:Nat->Nat->Nat)(h9:n<=9):F_4 [sqD n g]=.ok (.lst (Yg n g)):=by
 refine Zo rfl ?_
 simp[YS n (by omega)]
 let S:List D->Tau->Prop:=fun acc τ=>∃o3 o4 o5 o6,τ=[some (.sh (sqD n g)),some (.ac acc),some (.sh (.int (n:Int))),o3,o4,o5,o6]
 let S3:Nat->List D->Tau->Prop:=fun a acc τ=>∃o4 o5 o6,τ=[some (.sh (sqD n g)),some (.ac acc),some (.sh (.int (n:Int))),some (.sh (.int (a:Int))),o4,o5,o6]
 let S4:Nat->Nat->List D->Tau->Prop:=fun a b acc τ=>∃o5 o6,τ=[some (.sh (sqD n g)),some (.ac acc),some (.sh (.int (n:Int))),some (.sh (.int (a:Int))),some (.sh (.int (b:Int))),o5,o6]
 let S5:Nat->Nat->Nat->List D->Tau->Prop:=fun a b l acc τ=>∃o6,τ=[some (.sh (sqD n g)),some (.ac acc),some (.sh (.int (n:Int))),some (.sh (.int (a:Int))),some (.sh (.int (b:Int))),some (.sh (.int (l:Int))),o6]
 have main:=Vz (i:=3) (B:=(Yj (apL rg2 (cs (bi ZM (vr 3) (cn (.int 1))) (cs (vr 2) nl))) [4] one (Yj (apL rg1 (cs (vr 2) nl)) [5] one (Yj (apL rg2 (cs (bi ZM (vr 5) (cn (.int 1))) (cs (vr 2) nl))) [6] one (sIf (Wq (tst (bi eqD (bi ixD (bi ixD (vr 0) (vr 3)) (vr 5)) (bi ixD (bi ixD (vr 0) (vr 4)) (vr 6)))) (tst (bi eqD (bi ixD (bi ixD (vr 0) (vr 3)) (vr 6)) (bi ixD (bi ixD (vr 0) (vr 4)) (vr 5))))) (UE 1 (tpl (cs (vr 3) (cs (vr 4) (cs (vr 5) (cs (vr 6) nl)))))) sk)))))
  S (fun a=>VB n g a) 729 0 n [] [some (.sh (sqD n g)),some (.ac []),some (.sh (.int (n:Int))),none,none,none,none] (fun a _=>lenB _ _ _ h9) (by simp) ⟨_,_,_,_,rfl⟩ (by
  rintro a acc τ ha hl ⟨o3,o4,o5,o6,rfl⟩
  have e1:((a:Int)+1)=((a+1:Nat):Int):=by omega
  simp only[z_for,z_hide,z_hideN,z_apL,z_cs,z_bi,z_vr,z_cn,z_nl,z_add,z_okb,List.set_cons_succ,List.set_cons_zero,List.getElem?_cons_zero,List.getElem?_cons_succ,Option.bind_some,z_hsh,z_hac,e1,Zb1 (a+1) n (by omega) (by omega)]
  obtain⟨τ',h1,o4',o5',o6',h2⟩:=WO (i:=4) (B:=(Yj (apL rg1 (cs (vr 2) nl)) [5] one (Yj (apL rg2 (cs (bi ZM (vr 5) (cn (.int 1))) (cs (vr 2) nl))) [6] one (sIf (Wq (tst (bi eqD (bi ixD (bi ixD (vr 0) (vr 3)) (vr 5)) (bi ixD (bi ixD (vr 0) (vr 4)) (vr 6)))) (tst (bi eqD (bi ixD (bi ixD (vr 0) (vr 3)) (vr 6)) (bi ixD (bi ixD (vr 0) (vr 4)) (vr 5))))) (UE 1 (tpl (cs (vr 3) (cs (vr 4) (cs (vr 5) (cs (vr 6) nl)))))) sk))))
   (S3 a) (fun i=>QK n g a (a+1+i)) 81 (0+a * 729) (n - (a+1)) (a+1) acc [some (.sh (sqD n g)),some (.ac acc),some (.sh (.int (n:Int))),some (.sh (.int (a:Int))),o4,o5,o6] (fun i _=>Zb2 _ _ _ _ h9) hl ⟨_,_,_,rfl⟩ (by
   rintro i acc τ hi hl ⟨o4,o5,o6,rfl⟩
   have hb:a+1+i<n:=by omega
   generalize hbe:a+1+i=b at hb ⊢
   simp only[z_for,z_hide,z_hideN,z_apL,z_cs,z_bi,z_vr,z_cn,z_nl,z_add,z_okb,List.set_cons_succ,List.set_cons_zero,List.getElem?_cons_zero,List.getElem?_cons_succ,Option.bind_some,z_hsh,z_hac,YS n (by omega)]
   obtain⟨τ',h1,o5',o6',h2⟩:=Vz (i:=5) (B:=(Yj (apL rg2 (cs (bi ZM (vr 5) (cn (.int 1))) (cs (vr 2) nl))) [6] one (sIf (Wq (tst (bi eqD (bi ixD (bi ixD (vr 0) (vr 3)) (vr 5)) (bi ixD (bi ixD (vr 0) (vr 4)) (vr 6)))) (tst (bi eqD (bi ixD (bi ixD (vr 0) (vr 3)) (vr 6)) (bi ixD (bi ixD (vr 0) (vr 4)) (vr 5))))) (UE 1 (tpl (cs (vr 3) (cs (vr 4) (cs (vr 5) (cs (vr 6) nl)))))) sk)))
    (S4 a b) (fun l=>VA n g a b l) 9 (0+a * 729+i * 81) n acc [some (.sh (sqD n g)),some (.ac acc),some (.sh (.int (n:Int))),some (.sh (.int (a:Int))),some (.sh (.int (b:Int))),o5,o6] (fun l _=>lenC _ _ _ _ _ h9) hl ⟨_,_,rfl⟩ (by
    rintro l acc τ hl' hl ⟨o5,o6,rfl⟩
    have e1:((l:Int)+1)=((l+1:Nat):Int):=by omega
    simp only[z_for,z_hide,z_hideN,z_apL,z_cs,z_bi,z_vr,z_cn,z_nl,z_add,z_okb,List.set_cons_succ,List.set_cons_zero,List.getElem?_cons_zero,List.getElem?_cons_succ,Option.bind_some,z_hsh,z_hac,e1,Zb1 (l+1) n (by omega) (by omega)]
    obtain⟨τ',h1,o6',h2⟩:=WO (i:=6) (B:=(sIf (Wq (tst (bi eqD (bi ixD (bi ixD (vr 0) (vr 3)) (vr 5)) (bi ixD (bi ixD (vr 0) (vr 4)) (vr 6)))) (tst (bi eqD (bi ixD (bi ixD (vr 0) (vr 3)) (vr 6)) (bi ixD (bi ixD (vr 0) (vr 4)) (vr 5))))) (UE 1 (tpl (cs (vr 3) (cs (vr 4) (cs (vr 5) (cs (vr 6) nl)))))) sk))
     (S5 a b l) (fun i=>Qg g a b l (l+1+i)) 1 (0+a * 729+i * 81+l * 9) (n - (l+1)) (l+1) acc [some (.sh (sqD n g)),some (.ac acc),some (.sh (.int (n:Int))),some (.sh (.int (a:Int))),some (.sh (.int (b:Int))),some (.sh (.int (l:Int))),o6] (fun i _=>lenR ..) hl ⟨_,rfl⟩ (by
     rintro q acc τ hq hl2 ⟨o6,rfl⟩
     have hr:l+1+q<n:=by omega
     generalize hre:l+1+q=r at hr ⊢
     have z1:acc.length<=1000000:=by omega
     simp[hb,hr,ha,hl']
     by_cases c1:g a l=g b r
     ·by_cases c2:g a r=g b l
      ·simp[c1,c2,z1,Qg,Jb,Qf,S5]
      ·have:¬((g a r:Int)=(g b l:Int)):=by omega
       simp[c1,c2,this,Qg,Jb,S5]
     ·have:¬((g a l:Int)=(g b r:Int)):=by omega
      simp[c1,this,Qg,Jb,S5])
    subst h2
    exact⟨_,h1,_,_,rfl⟩)
   subst h2
   exact⟨_,h1,_,_,_,rfl⟩)
  subst h2
  exact⟨_,h1,_,_,_,_,rfl⟩)
 obtain⟨τ',h1,o3,o4,o5,o6,h2⟩:=main
 subst h2
 simp at h1
 rw[h1]
 simp[Yg]
def sw(g:Nat->Nat->Nat)(a b l r:Nat):Nat->Nat->Nat:=fun i j=>if i=a\/i=b then(if j=l then g i r else if j=r then g i l else g i j)else g i j
structure Two(n:Nat)(g:Nat->Nat->Nat)(a b l r:Nat):Prop where
 ab:a<b
 bn:b<n
 lr:l<r
 rn:r<n
 e1:g a l=g b r
 e2:g a r=g b l
theorem Jc{n:Nat}{g:Nat->Nat->Nat}{d:D}(h:d∈Yg n g):∃a b l r,Two n g a b l r/\d=Qf a b l r:=by
 unfold Yg at h
 obtain⟨a,ha,h⟩:=List.mem_flatMap.mp h
 unfold VB at h
 obtain⟨i,hi,h⟩:=List.mem_flatMap.mp h
 unfold QK at h
 obtain⟨l,hl,h⟩:=List.mem_flatMap.mp h
 unfold VA at h
 obtain⟨j,hj,h⟩:=List.mem_flatMap.mp h
 rw[List.mem_range]at ha hi hl hj
 unfold Qg at h
 split at h
 ·rename_i c
  unfold Jb at c
  simp at c
  refine⟨a,a+1+i,l,l+1+j,⟨by omega,by omega,by omega,by omega,c.1,c.2⟩,?_⟩
  simpa using h
 ·cases h
theorem Zcx{n:Nat}{g:Nat->Nat->Nat}{a b l r:Nat}(L:Lat n g)(t:Two n g a b l r):Lat n (sw g a b l r):=by
 have ha:a<n:=Nat.lt_trans t.ab t.bn
 have hl:l<n:=Nat.lt_trans t.lr t.rn
 have hb:=t.bn
 have hr:=t.rn
 have nab:a≠b:=Nat.ne_of_lt t.ab
 have nlr:l≠r:=Nat.ne_of_lt t.lr
 refine⟨fun i j hi hj=> ?_,fun i j k hi hj hk e=> ?_,fun i k j hi hk hj e=> ?_⟩
 ·unfold sw
  repeat' split
  ·exact L.lt _ _ hi hr
  ·exact L.lt _ _ hi hl
  ·exact L.lt _ _ hi hj
  ·exact L.lt _ _ hi hj
 ·unfold sw at e
  by_cases hab:i=a\/i=b
  ·simp only[hab,if_true]at e
   by_cases j1:j=l<;>by_cases k1:k=l
   ·omega
   ·simp only[j1,k1,if_true,if_false]at e
    by_cases k2:k=r
    ·simp only[k2,if_true]at e
     exact absurd (L.row _ _ _ hi hr hl e) (Ne.symm nlr)
    ·simp only[k2,if_false]at e
     exact absurd (L.row _ _ _ hi hr hk e).symm k2
   ·simp only[j1,k1,if_true,if_false]at e
    by_cases j2:j=r
    ·simp only[j2,if_true]at e
     exact absurd (L.row _ _ _ hi hl hr e) nlr
    ·simp only[j2,if_false]at e
     exact absurd (L.row _ _ _ hi hj hr e) j2
   ·simp only[j1,k1,if_false]at e
    by_cases j2:j=r<;>by_cases k2:k=r
    ·omega
    ·simp only[j2,k2,if_true,if_false]at e
     exact absurd (L.row _ _ _ hi hl hk e).symm k1
    ·simp only[j2,k2,if_true,if_false]at e
     exact absurd (L.row _ _ _ hi hj hl e) j1
    ·simp only[j2,k2,if_false]at e
     exact L.row _ _ _ hi hj hk e
  ·simp only[hab,if_false]at e
   exact L.row _ _ _ hi hj hk e
 ·have key:∀i,i<n->i≠a->i≠b->∀x y,(x=a/\y=b\/x=b/\y=a)->∀c d,(c=l/\d=r\/c=r/\d=l)->g i c≠g x d:=by
   intro i hi h1 h2 x y hx c d hc e
   have exy:g x d=g y c:=by
    rcases hx with⟨rfl,rfl⟩|⟨rfl,rfl⟩<;>rcases hc with⟨rfl,rfl⟩|⟨rfl,rfl⟩
    ·exact t.e2
    ·exact t.e1
    ·exact t.e1.symm
    ·exact t.e2.symm
   rw[exy]at e
   have hy:y<n:=by rcases hx with⟨_,rfl⟩|⟨_,rfl⟩<;>assumption
   have hcn:c<n:=by rcases hc with⟨rfl,_⟩|⟨rfl,_⟩<;>assumption
   have:=L.col _ _ _ hi hy hcn e
   rcases hx with⟨_,rfl⟩|⟨_,rfl⟩
   ·exact h2 this
   ·exact h1 this
  unfold sw at e
  by_cases j1:j=l
  ·subst j1
   simp only[if_true]at e
   by_cases hi1:i=a\/i=b<;>by_cases hk1:k=a\/k=b
   ·simp only[hi1,hk1,if_true]at e
    exact L.col _ _ _ hi hk hr e
   ·simp only[hi1,hk1,if_true,if_false]at e
    exfalso
    rcases hi1 with rfl|rfl
    ·exact key k hk (fun z=>hk1 (.inl z)) (fun z=>hk1 (.inr z)) i b (.inl ⟨rfl,rfl⟩) j r (.inl ⟨rfl,rfl⟩) e.symm
    ·exact key k hk (fun z=>hk1 (.inl z)) (fun z=>hk1 (.inr z)) i a (.inr ⟨rfl,rfl⟩) j r (.inl ⟨rfl,rfl⟩) e.symm
   ·simp only[hi1,hk1,if_true,if_false]at e
    exfalso
    rcases hk1 with rfl|rfl
    ·exact key i hi (fun z=>hi1 (.inl z)) (fun z=>hi1 (.inr z)) k b (.inl ⟨rfl,rfl⟩) j r (.inl ⟨rfl,rfl⟩) e
    ·exact key i hi (fun z=>hi1 (.inl z)) (fun z=>hi1 (.inr z)) k a (.inr ⟨rfl,rfl⟩) j r (.inl ⟨rfl,rfl⟩) e
   ·simp only[hi1,hk1,if_false]at e
    exact L.col _ _ _ hi hk hj e
  ·by_cases j2:j=r
   ·subst j2
    simp only[j1,if_true,if_false]at e
    by_cases hi1:i=a\/i=b<;>by_cases hk1:k=a\/k=b
    ·simp only[hi1,hk1,if_true]at e
     exact L.col _ _ _ hi hk hl e
    ·simp only[hi1,hk1,if_true,if_false]at e
     exfalso
     rcases hi1 with rfl|rfl
     ·exact key k hk (fun z=>hk1 (.inl z)) (fun z=>hk1 (.inr z)) i b (.inl ⟨rfl,rfl⟩) j l (.inr ⟨rfl,rfl⟩) e.symm
     ·exact key k hk (fun z=>hk1 (.inl z)) (fun z=>hk1 (.inr z)) i a (.inr ⟨rfl,rfl⟩) j l (.inr ⟨rfl,rfl⟩) e.symm
    ·simp only[hi1,hk1,if_true,if_false]at e
     exfalso
     rcases hk1 with rfl|rfl
     ·exact key i hi (fun z=>hi1 (.inl z)) (fun z=>hi1 (.inr z)) k b (.inl ⟨rfl,rfl⟩) j l (.inr ⟨rfl,rfl⟩) e
     ·exact key i hi (fun z=>hi1 (.inl z)) (fun z=>hi1 (.inr z)) k a (.inr ⟨rfl,rfl⟩) j l (.inr ⟨rfl,rfl⟩) e
    ·simp only[hi1,hk1,if_false]at e
     exact L.col _ _ _ hi hk hj e
   ·simp only[j1,j2,if_false]at e
    have e':g i j=g k j:=by
     by_cases hi1:i=a\/i=b<;>by_cases hk1:k=a\/k=b<;>simp only[hi1,hk1,if_true,if_false]at e<;>exact e
    exact L.col _ _ _ hi hk hj e'
def YY(n:Nat)(g:Nat->Nat->Nat):List (List D):=(List.range n).map fun r=>(List.range n).map fun c=>.int (g r c:Int)
theorem VC{n:Nat}{g:Nat->Nat->Nat}{r:Nat}(h:r<n):(YY n g)[r]? =some ((List.range n).map fun c=>.int (g r c:Int)):=Z2w n _ h
theorem Z4v(n:Nat)(g:Nat->Nat->Nat):(YY n g).length=n:=by simp[YY]
def put(g:Nat->Nat->Nat)(r c x:Nat):Nat->Nat->Nat:=fun i j=>if i=r then(if j=c then x else g i j)else g i j
theorem Z4w{n:Nat}{g:Nat->Nat->Nat}{r c x:Nat}(h:r<n):(YY n g).set r (((List.range n).map fun c=>D.int (g r c:Int)).set c (.int (x:Int)))=YY n (put g r c x):=by
 unfold YY
 rw[Z2v,Z2v]
 apply List.map_congr_left
 intro i hi
 unfold put
 by_cases hir:i=r
 ·subst hir
  simp only[if_true]
  apply List.map_congr_left
  intro j hj
  split<;>rfl
 ·simp only[hir,if_false]
theorem Jd{n:Nat}{g:Nat->Nat->Nat}{r:Nat}(h:r<n):ixD (.lst ((YY n g).map .lst)) (.int (r:Int))=.ok (.lst ((List.range n).map fun c=>.int (g r c:Int))):=
 Xr _ _ _ (by rw[List.getElem?_map,VC h];rfl)
theorem Z2y{n:Nat}{p:Nat->Nat}{c:Nat}(h:c<n):ixD (.lst ((List.range n).map fun c=>D.int (p c:Int))) (.int (c:Int))=.ok (.int (p c:Int)):=Xr _ _ _ (Z2w n _ h)
theorem VD{τ:Tau}{i n r c x:Nat}{g:Nat->Nat->Nat}{m1 m2 v:Rho->R D}(h:τ[i]? =some (some (.an (YY n g))))(h1:m1 (Zz τ)=.ok (.int (r:Int)))(h2:m2 (Zz τ)=.ok (.int (c:Int)))(hv:v (Zz τ)=.ok (.int (x:Int)))(hr:r<n)(hc:c<n):
  QT i m1 m2 v τ=.nx (τ.set i (some (.an (YY n (put g r c x))))):=by
 rw[z_putN]
 simp only[h,h1,h2,hv,Z4v,Z2x hr,VC hr,List.length_map,List.length_range,Z2x hc,noL_int,if_true]
 rw[Z4w hr]
theorem Z0q(n:Nat)(g:Nat->Nat->Nat)(a b l r:Nat)(h9:n<=9)(t:Two n g a b l r):F_6 [sqD n g,Qf a b l r]=.ok (sqD n (sw g a b l r)):=by
 have ha:a<n:=Nat.lt_trans t.ab t.bn
 have hl:l<n:=Nat.lt_trans t.lr t.rn
 have hb:=t.bn
 have hr:=t.rn
 refine Zo rfl ?_
 have eS:slD (Qf a b l r) none (some 2)=.ok (.tup [.int (a:Int), .int (b:Int)]):=rfl
 have e0:ZO one [none] [0] yes (apN VX (cs (vr 0) nl)) ((List.range n).map fun r=>Z8 n (g r))=.ok (YY n g):=
  Zn (fun r=>Z8 n (g r)) _ (List.range n) fun r hr=>by simp[Z8]
 have i2:ixD (Qf a b l r) (.int 2)=.ok (.int (l:Int)):=rfl
 have i3:ixD (Qf a b l r) (.int 3)=.ok (.int (r:Int)):=rfl
 simp[sqD,e0]
 have ZT:∀(h:Nat->Nat->Nat) (x:Nat) (o3 o4:Option Sl),x<n->(sq (UB 4 (bi ixD (bi ixD (vr 2) (vr 3)) (bi ixD (vr 1) (cn (.int 2)))))
   (sq (QT 2 (vr 3) (bi ixD (vr 1) (cn (.int 2))) (bi ixD (bi ixD (vr 2) (vr 3)) (bi ixD (vr 1) (cn (.int 3)))))
    (QT 2 (vr 3) (bi ixD (vr 1) (cn (.int 3))) (vr 4)))) [some (.sh (sqD n g)),some (.sh (Qf a b l r)),some (.an (YY n h)),some (.sh (.int (x:Int))),o4]
   =.nx [some (.sh (sqD n g)),some (.sh (Qf a b l r)),some (.an (YY n (put (put h x l (h x r)) x r (h x l)))),some (.sh (.int (x:Int))),some (.sh (.int (h x l:Int)))]:=by
  intro h x o3 o4 hx
  rw[z_sq,z_setF]
  simp only[z_view,z_viewN,z_bi,z_vr,z_cn,z_okb,List.getElem?_cons_zero,List.getElem?_cons_succ,Option.map_some,z_dsh,z_dan,Jd hx,i2,Z2y hl,noL_int,if_true,List.set_cons_succ,List.set_cons_zero,z_sq]
  rw[VD (r:=x) (c:=l) (x:=h x r) rfl (by simp) (by simp[i2]) (by simp[Jd hx,i3,Z2y hr]) hx hl]
  simp only[List.set_cons_succ,List.set_cons_zero]
  rw[VD (r:=x) (c:=r) (x:=h x l) rfl (by simp) (by simp[i3]) (by simp) hx hr]
  simp only[List.set_cons_succ,List.set_cons_zero]
 rw[eS]
 simp only[z_okb,z_itsT]
 have t1:=ZT g a (some (.sh (.int (a:Int)))) none ha
 have t2:=ZT (put (put g a l (g a r)) a r (g a l)) b (some (.sh (.int (b:Int)))) (some (.sh (.int (g a l:Int)))) hb
 rw[Yc (vs:=[.int (a:Int)]) rfl (by simpa[sqD]using t1),Yc (vs:=[.int (b:Int)]) rfl (by simpa[sqD]using t2)]
 simp
 have e1:∀h:Nat->Nat->Nat,ZO one [none] [0] yes (ap Yx (cs (vr 0) nl)) ((YY n h).map .lst)=.ok ((List.range n).map fun r=>Z8 n (h r)):=fun h=>by
  unfold YY
  rw[List.map_map]
  exact Zn _ _ (List.range n) fun r hr=>by simp[Z8]
 rw[e1]
 simp
 intro i hi
 unfold Z8
 congr 1
 apply List.map_congr_left
 intro j hj
 congr 2
 have nab:a≠b:=Nat.ne_of_lt t.ab
 have nlr:l≠r:=Nat.ne_of_lt t.lr
 unfold put sw
 by_cases i1:i=a
 ·subst i1
  by_cases j1:j=l
  ·subst j1;simp[nab,nlr]
  ·by_cases j2:j=r
   ·subst j2;simp[nab,j1]
   ·simp[nab,j1,j2]
 ·by_cases i2:i=b
  ·subst i2
   by_cases j1:j=l
   ·subst j1;simp[i1,nlr]
   ·by_cases j2:j=r
    ·subst j2;simp[i1,j1]
    ·simp[i1,j1,j2]
  ·simp[i1,i2]
theorem U7{n:Nat}{g:Nat->Nat->Nat}{p q s:Nat->Nat}(L:Lat n g)(P:Ord n p)(Q:Ord n q)(S:Ord n s):Lat n (fun i j=>s (g (p i) (q j))) where
 lt:=fun r c hr hc=>S.lt _ (L.lt _ _ (P.lt _ hr) (Q.lt _ hc))
 row:=fun r c d hr hc hd e=>Q.inj _ _ hc hd (L.row _ _ _ (P.lt _ hr) (Q.lt _ hc) (Q.lt _ hd) (S.inj _ _ (L.lt _ _ (P.lt _ hr) (Q.lt _ hc)) (L.lt _ _ (P.lt _ hr) (Q.lt _ hd)) e))
 col:=fun r c d hr hc hd e=>P.inj _ _ hr hc (L.col _ _ _ (P.lt _ hr) (P.lt _ hc) (Q.lt _ hd) (S.inj _ _ (L.lt _ _ (P.lt _ hr) (Q.lt _ hd)) (L.lt _ _ (P.lt _ hc) (Q.lt _ hd)) e))
theorem Z4x{n:Nat}{g:Nat->Nat->Nat}{p q s:Nat->Nat}(L:Lat n g)(P:Ord n p)(Q:Ord n q):F_2 [sqD n g,Z8 n p,Z8 n q,Z8 n s]=.ok (sqD n (fun i j=>s (g (p i) (q j)))):=by
 refine Zo rfl ?_
 simp only[List.map_cons,List.map_nil,z_ret,z_ap,z_cs,z_asL,z_cmpr,z_srcD,z_vr,z_view,z_viewN,Option.map_some,z_dsh,List.cons_append,List.nil_append,List.getElem?_cons_zero,List.getElem?_cons_succ,z_okb,z_nl]
 have e1:Ya (Z8 n p)=.ok ((List.range n).map fun i=>.int (p i:Int)):=rfl
 have e2:Ya (Z8 n q)=.ok ((List.range n).map fun i=>.int (q i:Int)):=rfl
 simp only[e1,z_okb]
 rw[Zn (fun i=>D.int (p i:Int)) (fun i=>Z8 n (fun j=>s (g (p i) (q j)))) (List.range n) (fun i hi=>by
  have hi':i<n:=by simpa using hi
  simp[e2]
  rw[Zn (fun i=>D.int (q i:Int)) (fun j=>D.int (s (g (p i) (q j)):Int)) (List.range n) (fun j hj=>by
   have hj':j<n:=by simpa using hj
   simp[z_sqr (P.lt _ hi'),z_row (Q.lt _ hj'),z_row (L.lt _ _ (P.lt _ hi') (Q.lt _ hj'))])]
  simp[Z8])]
 simp[sqD]
theorem U8{k:Nat}:∀(l:List D),(∀d∈l,dep d<=k)->VU l<=k
 | [],_=>Nat.zero_le _
 |d::l,h=>by
  show max (dep d) (VU l)<=k
  exact Nat.max_le.mpr ⟨h d List.mem_cons_self,U8 l fun e he=>h e (List.mem_cons_of_mem _ he)⟩
theorem U9(l:List D):dep (.lst l)=VU l+1:=rfl
theorem Z7r(n:Nat)(g:Nat->Nat->Nat):dep (.lst (Yg n g))<=2:=by
 rw[U9]
 have:=U8 (k:=1) (Yg n g) fun d hd=>by
  obtain⟨a,b,l,r,_,rfl⟩:=Jc hd
  exact Nat.le_refl 1
 omega
theorem Za2(n:Nat)(g:Nat->Nat->Nat):neD (.lst (Yg n g)) (.lst [])=.ok (.bl (!(Yg n g).isEmpty)):=by rw[Zcu ⟨Nat.le_trans (Z7r n g) (by decide),by simp⟩,Z7m]
theorem Je(x:Int)(n:Nat)(h:0<n):∃k:Nat,k<n/\x%(n:Int)=(k:Int):=by
 have h1:=Int.emod_nonneg x (b:=(n:Int)) (by omega)
 have h2:=Int.emod_lt_of_pos x (b:=(n:Int)) (by omega)
 exact⟨(x%(n:Int)).toNat,by omega,by omega⟩
theorem Za3(xs:List Int)(at_ n:Nat)(h1:1<=n)(h9:n<=9):∃g,Lat n g/\F_7 [scr xs, .int (at_:Int), .int (n:Int)]=.ok (sqD n g):=by
 obtain⟨g0,L0,e0⟩:=Za1 n (xs.getD at_ 0 / 7) h1 h9
 have e1:((at_:Int)+1)=((at_+1:Nat):Int):=by omega
 obtain⟨k,hk,ek⟩:=Je (xs.getD at_ 0 * 48271%9949) 4 (by omega)
 have em:F_3 [.int (xs.getD at_ 0), .int 9949, .int 4]=.ok (.int (k:Int)):=by rw[Z7o _ _ _ (by decide) (by decide),←ek];rfl
 let C:Int:=xs.getD (at_+1) 0
 have loop:∃τ',ZP [5] one (sq (ZX 6 (ap F_4 (cs (vr 4) (nl))))
   (sIf (tst (bi neD (vr 6) (asL (lim (nl))))) (ZX 4 (ap F_6 (cs (vr 4) (cs (bi ixD (vr 6) (ap F_3 (cs (bi ZM (ap F_0 (cs (vr 0) (cs (bi ZM (vr 1) (cn (.int 1))) (nl)))) (bi X0 (cn (.int 31)) (vr 5))) (cs (cn (.int 9941)) (cs (ap ZN (cs (vr 6) (nl))) (nl)))))) (nl))))) (sk))) ((List.range k).map fun(j:Nat)=>D.int (j:Int))
   [some (.sh (scr xs)),some (.sh (.int (at_:Int))),some (.sh (.int (n:Int))),some (.sh (.int (xs.getD at_ 0))),some (.sh (sqD n g0)),none,none,none]=.nx τ'/\
   ∃g o5 o6,Lat n g/\τ'=[some (.sh (scr xs)),some (.sh (.int (at_:Int))),some (.sh (.int (n:Int))),some (.sh (.int (xs.getD at_ 0))),some (.sh (sqD n g)),o5,o6,none]:=by
  refine WN (fun _ τ'=>∃g o5 o6,Lat n g/\τ'=[some (.sh (scr xs)),some (.sh (.int (at_:Int))),some (.sh (.int (n:Int))),some (.sh (.int (xs.getD at_ 0))),some (.sh (sqD n g)),o5,o6,none]) k _ ⟨g0,_,_,L0,rfl⟩ ?_
  rintro j τ hj ⟨g,o5,o6,L,rfl⟩
  have ne:neD (.lst (Yg n g)) (.lst [])=.ok (.bl (!(Yg n g).isEmpty)):=Za2 n g
  have b1:(31:Int).natAbs<=1000000000000:=by decide
  by_cases hem:(Yg n g).isEmpty=true
  ·refine⟨_,?_,g,some (.sh (.int (j:Int))),some (.sh (.lst (Yg n g))),L,rfl⟩
   simp[Z7q n g h9,ne,hem]
  ·have hem':(Yg n g).isEmpty=false:=by simpa using hem
   have hpos:0<(Yg n g).length:=by
    cases h:Yg n g with
    |nil=>rw[h]at hem;exact absurd rfl hem
    |cons _ _=>simp
   obtain⟨i,hi,ei⟩:=Je ((C+31 * (j:Int)) * 48271%9941) (Yg n g).length hpos
   have hget:=List.getElem?_eq_getElem hi
   obtain⟨a,b,l,r,t,ed⟩:=Jc (List.getElem_mem hi)
   rw[ed]at hget
   have hlen:(Yg n g).length<=6561:=lenL n g h9
   have emx:F_3 [.int (C+31 * (j:Int)), .int 9941, .int ((Yg n g).length:Int)]=.ok (.int (i:Int)):=by rw[Z7o _ _ _ (by decide) (by omega),ei]
   refine⟨_,?_,sw g a b l r,some (.sh (.int (j:Int))),some (.sh (.lst (Yg n g))),Zcx L t,rfl⟩
   have ec:=QJ xs (at_+1)
   simp only[←e1]at ec
   simp[Z7q n g h9,ne,hem',ec,Z0n _ _ b1,show xs[at_+1]?.getD 0=C by simp[C],emx,Xr _ _ _ hget,Z0q n g a b l r h9 t]
 obtain⟨τ',hl,g,o5,o6,L,rfl⟩:=loop
 obtain⟨p0,P0,ep0⟩:=Xg (C+101 * ((0:Nat):Int)) n (by omega)
 obtain⟨p1,P1,ep1⟩:=Xg (C+101 * ((1:Nat):Int)) n (by omega)
 obtain⟨p2,P2,ep2⟩:=Xg (C+101 * ((2:Nat):Int)) n (by omega)
 refine⟨fun i j=>p2 (g (p0 i) (p1 j)),U7 L P0 P1 P2,Zo rfl ?_⟩
 have ec0:=QJ xs at_
 have ec:=QJ xs (at_+1)
 simp only[←e1]at ec
 have r3:rg1 [.int 3]=.ok [.int 0, .int 1, .int 2]:=rfl
 have m3:ZO one [none,some (scr xs),some (.int (at_:Int)),some (.int (n:Int))] [0] yes (ap F_5 (cs (bi ZM (ap F_0 (cs (vr 1) (cs (bi ZM (vr 2) (cn (.int 1))) (nl)))) (bi X0 (cn (.int 101)) (vr 0))) (cs (vr 3) (nl)))) [.int 0, .int 1, .int 2]=.ok [Z8 n p0,Z8 n p1,Z8 n p2]:=by
  have b1:(101:Int).natAbs<=1000000000000:=by decide
  have hC:xs.getD (at_+1) 0=C:=rfl
  simp[ZO,ec,Z0n _ _ b1,show xs[at_+1]?.getD 0=C by simp[C]]
  simp at ep0 ep1 ep2
  simp[ep0,ep1,ep2]
 simp only[List.getD_eq_getElem?_getD]at ec0 em e0 hl
 have d7:Z60 (.int (xs[at_]?.getD 0)) (.int 7)=.ok (.int (xs[at_]?.getD 0 / 7)):=Zel _ _ (by decide)
 simp[ec0,d7,e0,em,YS k (by omega),hl,r3,m3,Z4x L P0 P1]
theorem Ua:∀(n:Nat) (l:List Nat),l.Nodup->(∀x∈l,x<n)->l.length<=n
 |0,l,_,h=>by
  cases l with
  |nil=>simp
  |cons x r=>exact absurd (h x List.mem_cons_self) (by omega)
 |n+1,l,nd,h=>by
  by_cases hm:n∈l
  ·have:=Ua n (l.erase n) (nd.erase n) fun x hx=>by
    have h1:=h x (List.mem_of_mem_erase hx)
    have h2:x≠n:=fun e=>by subst e;exact(List.Nodup.not_mem_erase nd) hx
    omega
   rw[List.length_erase_of_mem hm]at this
   omega
  ·have:=Ua n l nd fun x hx=>by
    have h1:=h x hx
    have h2:x≠n:=fun e=>by subst e;exact hm hx
    omega
   omega
theorem Ub:∀(n:Nat) (l:List Nat),l.Nodup->(∀x∈l,x<n)->l.length=n->l.Perm (List.range n)
 |0,l,_,_,hl=>by rw[List.length_eq_zero_iff.mp hl];exact .refl _
 |n+1,l,nd,h,hl=>by
  have hm:n∈l:=by
   apply Classical.byContradiction
   intro hm
   have:=Ua n l nd fun x hx=>by
    have h1:=h x hx
    have h2:x≠n:=fun e=>by subst e;exact hm hx
    omega
   omega
  have ih:=Ub n (l.erase n) (nd.erase n) (fun x hx=>by
    have h1:=h x (List.mem_of_mem_erase hx)
    have h2:x≠n:=fun e=>by subst e;exact(List.Nodup.not_mem_erase nd) hx
    omega) (by rw[List.length_erase_of_mem hm];omega)
  rw[List.range_succ]
  exact(List.perm_cons_erase hm).trans ((ih.cons n).trans (List.perm_append_singleton n _).symm)
theorem Ord.nd{n:Nat}{p:Nat->Nat}(o:Ord n p):((List.range n).map p).Nodup:=by
 rw[List.nodup_iff_pairwise_ne,List.pairwise_map]
 have:=List.nodup_range (n:=n)
 rw[List.nodup_iff_pairwise_ne]at this
 exact this.imp_of_mem fun{a b} ha hb hab e=>hab (o.inj a b (by simpa using ha) (by simpa using hb) e)
theorem Ord.perm{n:Nat}{p:Nat->Nat}(o:Ord n p):((List.range n).map p).Perm (List.range n):=
 Ub n _ o.nd (fun x hx=>by obtain⟨i,hi,rfl⟩:=List.mem_map.mp hx;exact o.lt i (by simpa using hi)) (by simp)
theorem Ord.sur{n:Nat}{p:Nat->Nat}(o:Ord n p){y:Nat}(h:y<n):∃i,i<n/\p i=y:=by
 have:y∈(List.range n).map p:=o.perm.mem_iff.mpr (by simpa using h)
 obtain⟨i,hi,e⟩:=List.mem_map.mp this
 exact⟨i,by simpa using hi,e⟩
mutual
theorem WQ:∀d:D,eqB d d=true
 | .non=>rfl
 | .bl b=>by show(b == b)=true;simp
 | .int i=>by show(i == i)=true;simp
 | .str x=>by show(x == x)=true;simp
 | .tup xs=>by show PyData.eqvAll (Xo xs) (Xo xs)=true;exact QL xs
 | .lst xs=>by show PyData.eqvAll (Xo xs) (Xo xs)=true;exact QL xs
 | .exc c=>by show PyData.eqv far far=true;decide+kernel
 | .dct c=>by show PyData.eqv far far=true;decide+kernel
theorem QL:∀ds:List D,PyData.eqvAll (Xo ds) (Xo ds)=true
 | []=>rfl
 |d::ds=>by
  show(PyData.eqv (toP d) (toP d)&&PyData.eqvAll (Xo ds) (Xo ds))=true
  have h1:=WQ d
  unfold eqB at h1
  rw[h1,QL ds];rfl
end
theorem Za4{d:D}(h:dep d<=40):neD d d=.ok (.bl false):=by rw[Zcu ⟨h,h⟩,WQ];rfl
theorem Za5{d:D}(h:dep d<=40):eqD d d=.ok (.bl true):=by rw[z_eq ⟨h,h⟩,WQ]
theorem Z2z(m x:Int):F_8 [.int m, .int x]=.ok (.bl (decide (0<=x)&&decide (x<m))):=by
 refine Zo rfl ?_
 have e1:isT .bool (.int x)=false:=rfl
 have e2:isT .int (.int x)=true:=rfl
 simp[e1,e2]
 by_cases h:0<=x<;>simp[h]
theorem Y8:∀(ns:List Int),ZF (ns.map .int)=some ns
 | []=>rfl
 |n::r=>by rw[List.map_cons,ZF,Y8 r];rfl
theorem Z7s:∀(ns acc:List Int),(acc++ns).Nodup->ns.foldl (fun σ v=>if σ.any (· == v)then σ else σ++[v]) acc=acc++ns
 | [],acc,_=>by simp
 |n::r,acc,h=>by
  have h1:acc.any (· == n)=false:=by
   rw[List.any_eq_false]
   intro x hx e
   have:=(List.nodup_append.mp h).2.2 x hx n List.mem_cons_self
   exact this (by simpa using e)
  rw[List.foldl_cons,h1]
  simp only[Bool.false_eq_true,if_false]
  rw[Z7s r (acc++[n]) (by simpa using h)]
  simp
theorem Jf{ns:List Int}(h:ns.Nodup):dd ns=ns:=by
 have:=Z7s ns [] (by simpa using h)
 simpa[dd]using this
theorem XZ{l:List Nat}(h:l.Nodup):(l.map fun(x:Nat)=>(x:Int)).Nodup:=by
 rw[List.nodup_iff_pairwise_ne]at h ⊢
 rw[List.pairwise_map]
 exact h.imp fun{a b} hab e=>hab (by omega)
theorem Uc{α:Type}(f:α->Bool):∀l:List α,bls (l.map fun x=>D.bl (f x))=some (l.map f)
 | []=>rfl
 |x::l=>by rw[List.map_cons,bls,Uc f l];rfl
theorem Qh{α:Type}(f:α->Bool)(l:List α):Q5 [.lst (l.map fun x=>D.bl (f x))]=.ok (.bl (l.all f)):=by
 show(match bls (l.map fun x=>D.bl (f x))with|some bs=>R.ok (D.bl (bs.all id))|none=>.bad)=_
 rw[Uc];simp[List.all_map]
theorem Z7t{α:Type}(f:α->Bool)(l:List α):Uv [.lst (l.map fun x=>D.bl (f x))]=.ok (.bl (l.any f)):=by
 show(match bls (l.map fun x=>D.bl (f x))with|some bs=>R.ok (D.bl (bs.any id))|none=>.bad)=_
 rw[Uc];simp[List.any_map]
theorem WR(n:Nat):Q5 [.lst ((List.range n).map fun _=>D.bl true)]=.ok (.bl true):=by rw[Qh (fun _=>true)];simp
theorem Z0r{n:Nat}{p:Nat->Nat}(o:Ord n p)(h:n<=9):W4 (Z8 n p)=.ok (.int (n:Int)):=by
 show(match ZF ((List.range n).map fun i=>D.int (p i:Int))with|some ns=>if ns.length<1000 then R.ok (D.int (dd ns).length)else .bad|none=>.bad)=_
 have e:((List.range n).map fun i=>D.int (p i:Int))=(((List.range n).map p).map fun(x:Nat)=>(x:Int)).map D.int:=by simp
 rw[e,Y8]
 simp only
 rw[Jf (XZ o.nd)]
 simp
 omega
theorem Zcy{n m:Nat}{p:Nat->Nat}(o:Ord n p)(h:n<=9):F_9 [.int (n:Int),Z8 n p]=.ok (.bl true):=by
 refine Zo rfl ?_
 have e1:isT .tuple (Z8 n p)=true:=rfl
 have e2:Ya (Z8 n p)=.ok ((List.range n).map fun i=>.int (p i:Int)):=rfl
 simp[e1,e2]
 rw[Zn (fun i=>D.int (p i:Int)) (fun i=>D.bl true) (List.range n) (fun i hi=>by
  have:=o.lt i (by simpa using hi)
  simp[Z2z];omega)]
 simp[WR,Z0r o h]
theorem Ud{n:Nat}{p:Nat->Nat}(o:Ord n p)(h:n<=9):Vb [.int (n:Int),Z8 n p]=.ok (.bl true):=by
 refine Zo rfl ?_
 simp[Zcy (m:=0) o h]
theorem Zb3{n m:Nat}{g:Nat->Nat->Nat}(c:Nat)(hc:c<n):U2 [sqD n g, .int (c:Int)]=.ok (Z8 n (fun r=>g r c)):=by
 refine Zo rfl ?_
 have e2:Ya (sqD n g)=.ok ((List.range n).map fun r=>Z8 n (g r)):=rfl
 simp[e2]
 rw[Zn (fun r=>Z8 n (g r)) (fun r=>D.int (g r c:Int)) (List.range n) (fun i hi=>by simp[z_row hc])]
 simp[Z8]
theorem Z7u{n:Nat}{g:Nat->Nat->Nat}(h1:1<=n)(h:n<=9):Z7e [sqD n g]=.ok (sqD n (fun r c=>g c r)):=by
 refine Zo rfl ?_
 have e0:ixD (sqD n g) (.int 0)=.ok (Z8 n (g 0)):=z_sqr (i:=0) (by omega)
 simp[e0,YS n (by omega)]
 rw[Zn (fun(i:Nat)=>D.int (i:Int)) (fun c=>Z8 n (fun r=>g r c)) (List.range n) (fun c hc=>by simp[Zb3 (m:=0) c (by simpa using hc)])]
 simp[sqD]
theorem Lat.rowO{n:Nat}{g:Nat->Nat->Nat}(L:Lat n g){r:Nat}(h:r<n):Ord n (g r):=⟨fun c hc=>L.lt r c h hc,fun c d hc hd e=>L.row r c d h hc hd e⟩
theorem Lat.tr{n:Nat}{g:Nat->Nat->Nat}(L:Lat n g):Lat n (fun r c=>g c r):=⟨fun r c hr hc=>L.lt c r hc hr,fun r c d hr hc hd e=>L.col c d r hc hd hr e,fun r s c hr hs hc e=>L.row c r s hc hr hs e⟩
theorem Zcz{n:Nat}{g:Nat->Nat->Nat}(L:Lat n g)(h1:1<=n)(h:n<=9):Z7f [sqD n g]=.ok (.bl true):=by
 refine Zo rfl ?_
 have e1:isT .tuple (sqD n g)=true:=rfl
 have e2:∀g,Ya (sqD n g)=.ok ((List.range n).map fun r=>Z8 n (g r)):=fun _=>rfl
 have c1:(1:Int)<=(n:Int):=by omega
 have c2:(n:Int)<=9:=by omega
 simp[e1,c1,c2,e2,Z7u h1 h]
 rw[Zn (fun r=>Z8 n (g r)) (fun i=>D.bl true) (List.range n) (fun i hi=>by simp[Ud (L.rowO (by simpa using hi)) h])]
 simp[WR,Z7u h1 h,e2]
 rw[Zn (fun r=>Z8 n (fun c=>g c r)) (fun i=>D.bl true) (List.range n) (fun i hi=>by simp[Ud (L.tr.rowO (by simpa using hi)) h])]
 simp[WR]
theorem Y2{n:Nat}{g:Nat->Nat->Nat}(L:Lat n g)(h1:1<=n)(h:n<=9):QH [sqD n g]=.ok (sqD n g):=by
 refine Zo rfl ?_
 simp[Zcz L h1 h]
theorem WS{n:Nat}{p:Nat->Nat}(o:Ord n p)(h:n<=9):Z7g [.int (n:Int),Z8 n p]=.ok .non:=by
 refine Zo rfl ?_
 simp[Ud o h]
theorem Z7v{n:Nat}{p q s:Nat->Nat}(hp:∀i,i<n->p i<n)(Q:Ord n q):Z7h [Z8 n p,Z8 n q,Z8 n s]=.ok (Z8 n (fun j=>s (p (q j)))):=by
 refine Zo rfl ?_
 have e2:Ya (Z8 n q)=.ok ((List.range n).map fun i=>.int (q i:Int)):=rfl
 simp[e2]
 rw[Zn (fun i=>D.int (q i:Int)) (fun j=>D.int (s (p (q j)):Int)) (List.range n) (fun j hj=>by
  have h1:=Q.lt j (by simpa using hj)
  simp[z_row h1,z_row (hp _ h1)])]
 simp[Z8]
theorem VE{n:Nat}{g:Nat->Nat->Nat}{p q s:Nat->Nat}(L:Lat n g)(P:Ord n p)(Q:Ord n q)(S:Ord n s)(h1:1<=n)(h:n<=9):Z4l [sqD n g,Z8 n p,Z8 n q,Z8 n s]=.ok (sqD n (fun i j=>s (g (p i) (q j)))):=by
 refine Zo rfl ?_
 have e2:Ya (Z8 n p)=.ok ((List.range n).map fun i=>.int (p i:Int)):=rfl
 simp[Y2 L h1 h,e2]
 rw[Yc (vs:=[Z8 n p]) rfl (τ':=[some (.sh (sqD n g)),some (.sh (Z8 n p)),some (.sh (Z8 n q)),some (.sh (Z8 n s)),some (.sh (.int (n:Int))),some (.sh (Z8 n p))]) (by simp[WS P h]),
  Yc (vs:=[Z8 n q]) rfl (τ':=[some (.sh (sqD n g)),some (.sh (Z8 n p)),some (.sh (Z8 n q)),some (.sh (Z8 n s)),some (.sh (.int (n:Int))),some (.sh (Z8 n q))]) (by simp[WS Q h]),
  Yc (vs:=[Z8 n s]) rfl (τ':=[some (.sh (sqD n g)),some (.sh (Z8 n p)),some (.sh (Z8 n q)),some (.sh (Z8 n s)),some (.sh (.int (n:Int))),some (.sh (Z8 n s))]) (by simp[WS S h])]
 simp[e2]
 rw[Zn (fun i=>D.int (p i:Int)) (fun i=>Z8 n (fun j=>s (g (p i) (q j)))) (List.range n) (fun i hi=>by
  have h1:=P.lt i (by simpa using hi)
  simp[z_sqr h1,Z7v (fun j hj=>L.lt _ _ h1 hj) Q])]
 simp[sqD]
def itr(s:Nat->Nat):Nat->Nat->Nat
 |0,c=>c
 |k+1,c=>s (itr s k c)
def orbL(s:Nat->Nat)(c m:Nat):List Nat:=(List.range m).map fun i=>itr s i c
section
variable{n:Nat}{s:Nat->Nat}(o:Ord n s)
include o
end
theorem Z4y{n:Nat}{p:Nat->Nat}(P:Ord n p){i:Nat}(hi:i<n):((((List.range n).map p).map fun(x:Nat)=>(x:Int))).idxOf (p i:Int)=i:=by
 have hl:i<(((List.range n).map p).map fun(x:Nat)=>(x:Int)).length:=by simpa using hi
 have e:(((List.range n).map p).map fun(x:Nat)=>(x:Int))[i]=(p i:Int):=by simp
 have:=(XZ P.nd).idxOf_getElem i hl
 rw[e]at this
 exact this
theorem Zd0{n:Nat}{p:Nat->Nat}(P:Ord n p){i:Nat}(hi:i<n):Yy (Z8 n p) (.int (p i:Int))=.ok (.int (i:Int)):=by
 show idx ((List.range n).map fun i=>D.int (p i:Int)) (.int (p i:Int))=_
 have e:((List.range n).map fun i=>D.int (p i:Int))=(((List.range n).map p).map fun(x:Nat)=>(x:Int)).map D.int:=by simp
 unfold idx
 rw[e,Y8]
 simp only
 rw[if_pos (by simp;exact⟨i,hi,rfl⟩),Z4y P hi]
def ZI(l:List Nat):List D:=l.map fun(x:Nat)=>D.int (x:Int)
theorem Jg(x:Nat):∀l:List Nat,inB (.int (x:Int)) (ZI l)=decide (x∈l)
 | []=>by simp[inB,ZI]
 |y::l=>by
  have ih:=Jg x l
  unfold inB ZI at ih ⊢
  rw[List.map_cons,List.any_cons,ih,eqB_int]
  have e:((y:Int)=(x:Int))↔x=y:=by omega
  by_cases h:x=y<;>simp[e,h]
theorem Z7w(l:List Nat):dep (.lst (ZI l))<=1:=by
 rw[U9]
 have:=U8 (k:=0) (ZI l) fun d hd=>by obtain⟨i,_,rfl⟩:=List.mem_map.mp hd;simp
 omega
theorem Zem(x:Nat)(l:List Nat):QZ (.int (x:Int)) (.lst (ZI l))=.ok (.bl (!decide (x∈l))):=by
 show(if VU (ZI l)<=39/\dep (.int (x:Int))<=40 then R.ok (D.bl (!inB (.int (x:Int)) (ZI l)))else .bad)=_
 rw[if_pos (by have:=Z7w l;rw[U9]at this;rw[dep_int];omega),Jg]
structure Lead(n:Nat)(p q s:Nat->Nat):Prop where
 P:Ord n p
 Q:Ord n q
 S:Ord n s
 eq:∀c,c<n->p (s c)=q c
structure RingsOk(n k:Nat)(s:Nat->Nat)(rs:List (List Nat)):Prop where
 ring:∀r∈rs,∃c m,c<n/\1<=m/\m<=n/\itr s m c=c/\r=orbL s c m
 nd:rs.flatten.Nodup
 lt:∀x∈rs.flatten,x<n
 all:∀x,x<k->x∈rs.flatten
 low:∀r∈rs,∀x∈r,r.headD 0<=x
 asc:(rs.map fun r=>r.headD 0).Pairwise (· < ·)
 below:∀r∈rs,r.headD 0<k
theorem Zen(a b:D):W0 2 (.tup [a,b])=.ok [a,b]:=rfl
theorem X6{α β:Type}{ρ0:Rho}{me:Rho->R α}(e1 e2:β->D)(g:β->α):∀(l:List β),(∀b∈l,me (Qx ρ0 [0,1] [e1 b,e2 b])=.ok (g b))->ZO (W0 2) ρ0 [0,1] yes me (l.map fun b=>.tup [e1 b,e2 b])=.ok (l.map g)
 | [],_=>rfl
 |b::l,h=>by
  have h1:=h b List.mem_cons_self
  have ih:=X6 e1 e2 g l fun c hc=>h c (List.mem_cons_of_mem _ hc)
  rw[List.map_cons,ZO]
  simp only[Zen,z_okb,z_yes,h1,ih,if_true,List.map_cons]
theorem VF{β:Type}{i j:Nat}{B:Tau->Fl}(S:List D->Tau->Prop)(e1 e2:β->D)(h:β->List D)(k M:Nat):∀(l:List β) (acc:List D) (τ:Tau),(∀b∈l,(h b).length<=k)->acc.length+l.length * k<=M->S acc τ->
  (∀b∈l,∀acc τ,acc.length+k<=M->S acc τ->∃τ',B ((τ.set i (some (.sh (e1 b)))).set j (some (.sh (e2 b))))=.nx τ'/\S (acc++h b) τ')->∃τ',ZP [i,j] (W0 2) B (l.map fun b=>.tup [e1 b,e2 b]) τ=.nx τ'/\S (acc++l.flatMap h) τ'
 | [],acc,τ,_,_,h0,_=>⟨τ,rfl,by simpa using h0⟩
 |b::l,acc,τ,hk,hM,h0,st=>by
  rw[List.length_cons,Nat.succ_mul]at hM
  obtain⟨τ1,a1,s1⟩:=st b List.mem_cons_self acc τ (by omega) h0
  have hb:=hk b List.mem_cons_self
  obtain⟨τ2,a2,s2⟩:=VF S e1 e2 h k M l (acc++h b) τ1 (fun c hc=>hk c (List.mem_cons_of_mem _ hc)) (by rw[List.length_append];omega) s1 fun c hc=>st c (List.mem_cons_of_mem _ hc)
  refine⟨τ2,?_,by rw[List.flatMap_cons,←List.append_assoc];exact s2⟩
  rw[List.map_cons,Yc (vs:=[e1 b,e2 b]) rfl a1,a2]
def ct(c:List Nat):D:=.tup (ZI c)
def cAt(c:List Nat)(i:Nat):Nat:=c.getD i 0
theorem YZ{c:List Nat}{i:Nat}(h:i<c.length):cAt c i∈c:=by unfold cAt;simp[h]
theorem Z7x(n:Nat)(p:Nat->Nat):Z8 n p=ct ((List.range n).map p):=by simp[Z8,ct,ZI]
theorem Z0s(x:Nat)(l:List Nat):QZ (.int (x:Int)) (ct l)=.ok (.bl (!decide (x∈l))):=by
 have h:=Zem x l
 have e:QZ (.int (x:Int)) (ct l)=QZ (.int (x:Int)) (.lst (ZI l)):=rfl
 rw[e,h]
def alo(g:Nat->Nat->Nat)(c:List Nat):List Nat:=(List.range c.length).map fun i=>g i (cAt c i)
theorem Qi(c:List Nat):ZI c=(List.range c.length).map fun i=>D.int ((cAt c i:Nat):Int):=by
 apply List.ext_getElem?
 intro i
 unfold ZI
 by_cases h:i<c.length
 ·rw[List.getElem?_map,List.getElem?_map,List.getElem?_range h]
  simp[h,cAt]
 ·rw[List.getElem?_eq_none (by simpa using h),List.getElem?_eq_none (by simpa using h)]
theorem W5{α β:Type}(f:Nat->α)(h:Nat->β):∀n m,m<=n->((List.range n).map f).zip ((List.range m).map h)=(List.range m).map fun i=>(f i,h i):=by
 intro n m hm
 apply List.ext_getElem?
 intro i
 by_cases hi:i<m
 ·have a1:((List.range n).map f)[i]? =some (f i):=by rw[List.getElem?_map,List.getElem?_range (by omega)];rfl
  have a2:((List.range m).map h)[i]? =some (h i):=by rw[List.getElem?_map,List.getElem?_range hi];rfl
  have a3:(((List.range n).map f).zip ((List.range m).map h))[i]? =some (f i,h i):=List.getElem?_zip_eq_some.mpr ⟨a1,a2⟩
  rw[a3,List.getElem?_map,List.getElem?_range hi]
  rfl
 ·rw[List.getElem?_eq_none (by simp;omega),List.getElem?_eq_none (by simpa using hi)]
theorem Z30{n:Nat}{g:Nat->Nat->Nat}{c:List Nat}(hl:c.length<=n)(hc:∀x∈c,x<n):Z4h [sqD n g,ct c]=.ok (ct (alo g c)):=by
 refine Zo rfl ?_
 have z:WC [sqD n g,ct c]=.ok ((List.range c.length).map fun i=>.tup [Z8 n (g i), .int ((cAt c i:Nat):Int)]):=by
  show R.ok (XG ((List.range n).map fun r=>Z8 n (g r)) (ZI c))=_
  unfold XG
  rw[Qi c,W5 _ _ n c.length hl,List.map_map]
  rfl
 simp[z]
 rw[X6 (fun i=>Z8 n (g i)) (fun i=>.int ((cAt c i:Nat):Int)) (fun i=>D.int ((g i (cAt c i):Nat):Int)) (List.range c.length) (fun i hi=>by
  have hi':i<c.length:=by simpa using hi
  have:cAt c i<n:=hc _ (YZ hi')
  simp[z_row this])]
 simp[ct,alo,ZI]
def Ym(n:Nat)(g:Nat->Nat->Nat):Nat->List Nat->List (List Nat)
 |0,c=>[c]
 |k+1,c=>(List.range n).flatMap fun x=>if x∉c/\g c.length x∉alo g c then Ym n g k (c++[x])else []
theorem WT{n:Nat}{g:Nat->Nat->Nat}:∀(k:Nat) (c:List Nat),(Ym n g k c).length<=n ^ k
 |0,c=>by simp[Ym]
 |k+1,c=>by
  unfold Ym
  have:=Z0o (fun x=>if x∉c/\g c.length x∉alo g c then Ym n g k (c++[x])else []) (n ^ k) n (fun j _=>by
   show(if _ then _ else _:List (List Nat)).length<=_
   split
   ·exact WT k _
   ·simp)
  rw[Nat.pow_succ,Nat.mul_comm]
  exact this
theorem Za6{n k:Nat}(hn:n<=7)(hk:k<=7):n ^ k<=823543:=Nat.le_trans (Nat.pow_le_pow_left hn k) (Nat.pow_le_pow_right (by decide) hk)
theorem Za7(n:Nat)(p:Nat->Nat):Z6z [Z8 n p]=.ok ((List.range n).map fun(i:Nat)=>D.tup [.int (i:Int), .int (p i:Int)]):=by
 show R.ok (enu ((List.range n).map fun i=>D.int (p i:Int)))=_
 congr 1
 apply List.ext_getElem?
 intro i
 unfold enu
 by_cases h:i<n
 ·rw[List.getElem?_map,List.getElem?_zipIdx,List.getElem?_map,List.getElem?_map,List.getElem?_range h]
  simp
 ·rw[List.getElem?_eq_none (by simpa using h),List.getElem?_eq_none (by simpa using h)]
theorem Jh(l:List Nat)(h:Nat->List (List Nat)):(l.flatMap fun x=>(h x).map ct)=(l.flatMap h).map ct:=by
 induction l with
 |nil=>rfl
 |cons x l ih=>rw[List.flatMap_cons,ih,List.flatMap_cons,List.map_append]
theorem Zd1(c:List Nat)(x:Nat)(h:c.length<=100):ZM (ct c) (.tup [.int (x:Int)])=.ok (ct (c++[x])):=by
 show(if(ZI c).length+1<=sizeLine then R.ok (D.tup (ZI c++[.int (x:Int)]))else .bad)=_
 rw[if_pos (YW (by simp[ZI];omega))]
 simp[ct,ZI]
theorem WU(c:List Nat):ZN [ct c]=.ok (.int (c.length:Int)):=by simp[ct,ZI]
theorem Z31{n:Nat}{g:Nat->Nat->Nat}(hn:n<=7):∀(k f:Nat) (c:List Nat),k<f->c.length+k=n->(∀x∈c,x<n)->WK f [sqD n g,ct c]=.ok (.lst ((Ym n g k c).map ct))
 |0,0,_,h,_,_=>by omega
 |_+1,0,_,h,_,_=>by omega
 |0,f+1,c,_,hl,_=>by
  rw[WK]
  refine Zo rfl ?_
  have e:(c.length:Int)=(n:Int):=by omega
  simp[WU,e,Ym]
 |k+1,f+1,c,hf,hl,hc=>by
  rw[WK]
  refine Zo rfl ?_
  have ne:¬(c.length:Int)=(n:Int):=by omega
  have ih:=fun(x:Nat) (hx:x<n)=>Z31 (g:=g) hn k f (c++[x]) (by omega) (by simp;omega) (fun y hy=>by
   rw[List.mem_append,List.mem_singleton]at hy
   rcases hy with hy|rfl
   ·exact hc y hy
   ·exact hx)
  have al:=Z30 (g:=g) (by omega) hc
  have pk:=Za6 (n:=n) (k:=k+1) hn (by omega)
  have pw:n ^ (k+1)=n * n ^ k:=by rw[Nat.pow_succ,Nat.mul_comm]
  have st0:ixD (sqD n g) (.int (c.length:Int))=.ok (Z8 n (g c.length)):=z_sqr (by omega)
  obtain⟨τ',hfor,o4,o5,rfl⟩:=VF (i:=4) (j:=5) (B:=sIf (Wq (tst (bi QZ (vr 4) (vr 1))) (tst (bi QZ (vr 5) (vr 2)))) (QA 3 (ap (WK f) (cs (vr 0) (cs (bi ZM (vr 1) (tpl (cs (vr 4) (nl)))) (nl))))) (sk))
   (fun acc τ=>∃o4 o5,τ=[some (.sh (sqD n g)),some (.sh (ct c)),some (.sh (ct (alo g c))),some (.ac acc),o4,o5]) (fun(i:Nat)=>D.int (i:Int)) (fun i=>D.int (g c.length i:Int)) (fun x=>(if x∉c/\g c.length x∉alo g c then Ym n g k (c++[x])else []).map ct)
   (n ^ k) (n ^ (k+1)) (List.range n) [] [some (.sh (sqD n g)),some (.sh (ct c)),some (.sh (ct (alo g c))),some (.ac []),none,none] (fun x _=>by
    rw[List.length_map];split
    ·exact WT k _
    ·simp) (by simp[pw]) ⟨none,none,rfl⟩ (by
   rintro x hx acc τ ha ⟨o4,o5,rfl⟩
   have hx':x<n:=by simpa using hx
   by_cases h1:x∈c
   ·refine⟨_,?_,some (.sh (.int (x:Int))),some (.sh (.int (g c.length x:Int))),rfl⟩
    simp[Z0s,h1]
   ·by_cases h2:g c.length x∈alo g c
    ·refine⟨_,?_,some (.sh (.int (x:Int))),some (.sh (.int (g c.length x:Int))),rfl⟩
     simp[Z0s,h1,h2]
    ·have hlen:=WT (n:=n) (g:=g) k (c++[x])
     have hs:acc.length+(Ym n g k (c++[x])).length<=1000000:=by omega
     refine⟨_,?_,some (.sh (.int (x:Int))),some (.sh (.int (g c.length x:Int))),rfl⟩
     simp[Z0s,h1,h2,Zd1 c x (by omega),ih x hx',hs])
  rw[Jh]at hfor
  simp[WU,ne,al,st0,Za7]
  rw[hfor]
  simp
  rfl
structure Good(n:Nat)(g:Nat->Nat->Nat)(c:List Nat):Prop where
 lt:∀x∈c,x<n
 nd:c.Nodup
 al:(alo g c).Nodup
theorem Za8{c t:List Nat}{i:Nat}(h:i<c.length):cAt (c++t) i=cAt c i:=by
 unfold cAt
 simp[List.getElem?_append_left h]
theorem Za9(c:List Nat)(x:Nat):cAt (c++[x]) c.length=x:=by unfold cAt;simp
theorem Z7y(g:Nat->Nat->Nat)(c:List Nat)(x:Nat):alo g (c++[x])=alo g c++[g c.length x]:=by
 unfold alo
 rw[List.length_append,List.length_singleton,List.range_succ,List.map_append]
 congr 1
 ·exact List.map_congr_left fun i hi=>by rw[Za8 (by simpa using hi)]
 ·simp[Za9]
theorem Good.snoc{n:Nat}{g:Nat->Nat->Nat}{c:List Nat}{x:Nat}(G:Good n g c)(hx:x<n)(h1:x∉c)(h2:g c.length x∉alo g c):Good n g (c++[x]):=by
 refine⟨fun y hy=> ?_,?_,?_⟩
 ·rw[List.mem_append,List.mem_singleton]at hy
  rcases hy with hy|rfl
  ·exact G.lt y hy
  ·exact hx
 ·rw[List.nodup_append]
  exact⟨G.nd,by simp,fun a ha b hb=>by rw[List.mem_singleton]at hb;subst hb;exact fun e=>h1 (e▸ha)⟩
 ·rw[Z7y,List.nodup_append]
  exact⟨G.al,by simp,fun a ha b hb=>by rw[List.mem_singleton]at hb;subst hb;exact fun e=>h2 (e▸ha)⟩
theorem VG{n:Nat}{g:Nat->Nat->Nat}:∀(k:Nat) (c:List Nat),Good n g c->∀d∈Ym n g k c,Good n g d/\d.length=c.length+k
 |0,c,G,d,h=>by
  unfold Ym at h
  rw[List.mem_singleton]at h
  subst h
  exact⟨G,rfl⟩
 |k+1,c,G,d,h=>by
  unfold Ym at h
  rw[List.mem_flatMap]at h
  obtain⟨x,hx,h⟩:=h
  split at h
  ·rename_i hc
   obtain⟨a,b⟩:=VG k (c++[x]) (G.snoc (by simpa using hx) hc.1 hc.2) d h
   exact⟨a,by rw[b];simp;omega⟩
  ·cases h
theorem VH{d:List Nat}{m:Nat}(h:m<d.length):d.take (m+1)=d.take m++[cAt d m]:=by
 rw[List.take_succ]
 unfold cAt
 simp[h]
theorem Z7z{g:Nat->Nat->Nat}{d:List Nat}(m:Nat)(h:m<=d.length):alo g (d.take m)=(alo g d).take m:=by
 unfold alo
 rw[←List.map_take,List.take_range,List.length_take,Nat.min_eq_left h]
 exact List.map_congr_left fun i hi=>by
  have hi':i<m:=by simpa using hi
  unfold cAt
  simp[List.getElem?_take,hi']
theorem Z32{d:List Nat}{m:Nat}(nd:d.Nodup)(h:m<d.length):cAt d m∉d.take m:=by
 have:(d.take (m+1)).Nodup:=nd.sublist (List.take_sublist _ _)
 rw[VH h,List.nodup_append]at this
 exact fun z=>this.2.2 _ z _ (List.mem_singleton.mpr rfl) rfl
theorem Ji{n:Nat}{g:Nat->Nat->Nat}{d:List Nat}(G:Good n g d)(hd:d.length=n):∀(k m:Nat),m+k=n->d∈Ym n g k (d.take m)
 |0,m,h=>by
  unfold Ym
  rw[List.take_of_length_le (by omega)]
  exact List.mem_singleton.mpr rfl
 |k+1,m,h=>by
  have hm:m<d.length:=by omega
  have ih:=Ji G hd k (m+1) (by omega)
  unfold Ym
  rw[List.mem_flatMap]
  refine⟨cAt d m,by simpa using G.lt _ (YZ hm),?_⟩
  have ln:(d.take m).length=m:=by simp;omega
  have h2:g (d.take m).length (cAt d m)∉alo g (d.take m):=by
   rw[ln,Z7z m (by omega)]
   have la:m<(alo g d).length:=by simp[alo];exact hm
   have z:=Z32 G.al la
   have e:cAt (alo g d) m=g m (cAt d m):=by unfold alo;unfold cAt;simp[hm]
   rw[e]at z
   exact z
  rw[if_pos ⟨Z32 G.nd hm,h2⟩,←VH hm]
  exact ih
abbrev Xs(n:Nat)(g:Nat->Nat->Nat):List (List Nat):=Ym n g n []
theorem mem_all{n:Nat}{g:Nat->Nat->Nat}{d:List Nat}:d∈Xs n g↔d.length=n/\Good n g d:=by
 constructor
 ·intro h
  obtain⟨a,b⟩:=VG n [] ⟨(fun x h=>by cases h),List.nodup_nil,by simp[alo]⟩ d h
  exact⟨by simpa using b,a⟩
 ·rintro⟨h,G⟩
  have:=Ji G h n 0 (by omega)
  simpa using this
theorem Z0t:∀(ns acc:List Int),acc.Nodup->(ns.foldl (fun σ v=>if σ.any (· == v)then σ else σ++[v]) acc).length<=acc.length+ns.length/\((ns.foldl (fun σ v=>if σ.any (· == v)then σ else σ++[v]) acc).length=acc.length+ns.length->(acc++ns).Nodup)
 | [],acc,h=>⟨by simp,fun _=>by simpa using h⟩
 |v::ns,acc,h=>by
  rw[List.foldl_cons]
  by_cases hv:acc.any (· == v)=true
  ·rw[if_pos hv]
   have:=(Z0t ns acc h).1
   exact⟨by rw[List.length_cons];omega,fun e=>by rw[List.length_cons]at e;omega⟩
  ·rw[if_neg hv]
   have hn:v∉acc:=fun z=>hv (by rw[List.any_eq_true];exact⟨v,z,by simp⟩)
   have nd:(acc++[v]).Nodup:=by
    rw[List.nodup_append]
    exact⟨h,by simp,fun a ha b hb=>by rw[List.mem_singleton]at hb;subst hb;exact fun e=>hn (e▸ha)⟩
   obtain⟨a,b⟩:=Z0t ns (acc++[v]) nd
   rw[List.length_append,List.length_singleton]at a b
   refine⟨by rw[List.length_cons];omega,fun e=> ?_⟩
   have:=b (by rw[List.length_cons]at e;omega)
   simpa using this
theorem Ue{l:List Nat}(h:(l.map fun(x:Nat)=>(x:Int)).Nodup):l.Nodup:=by
 unfold List.Nodup at *
 rw[List.pairwise_map]at h
 exact h.imp fun h e=>h (by rw[e])
theorem Z4z{c:List Nat}(h:c.length<1000):W4 (ct c)=.ok (.int ((dd (c.map fun(x:Nat)=>(x:Int))).length:Int)):=by
 have e:ZF (ZI c)=some (c.map fun(x:Nat)=>(x:Int)):=by
  have:=Y8 (c.map fun(x:Nat)=>(x:Int))
  rw[List.map_map]at this
  exact this
 show(match ZF (ZI c)with|some ns=>if ns.length<1000 then R.ok (D.int (dd ns).length)else .bad|none=>.bad)=_
 rw[e]
 simp[h]
theorem Zd2(c:List Nat):decide (((dd (c.map fun(x:Nat)=>(x:Int))).length:Int)=(c.length:Int))=decide c.Nodup:=by
 by_cases h:c.Nodup
 ·rw[Jf (XZ h)];simp[h]
 ·have:¬(((dd (c.map fun(x:Nat)=>(x:Int))).length:Int)=(c.length:Int)):=fun e=>h (Ue (by
   have:=(Z0t (c.map fun(x:Nat)=>(x:Int)) [] List.nodup_nil).2 (by unfold dd at e;rw[List.length_map,List.length_nil];omega)
   simpa using this))
  simp[h,this]
def Z50(n:Nat)(c:List Nat):Bool:=c.all (fun x=>decide (x<n))
def Z80(c:List Nat):Bool:=decide c.Nodup
theorem Zaa(n:Nat){c:List Nat}(h:c.length<1000):F_9 [.int (n:Int),ct c]=.ok (.bl (Z50 n c&&Z80 c)):=by
 refine Zo rfl ?_
 have e1:Q6 .tuple (ct c)=.ok (.bl true):=rfl
 have e2:Ya (ct c)=.ok (c.map fun(x:Nat)=>D.int (x:Int)):=rfl
 have e3:Q5 [.lst (c.map fun x=>D.bl (decide (x<n)))]=.ok (.bl (Z50 n c)):=Qh _ _
 have e4:decide (((dd (c.map fun(x:Nat)=>(x:Int))).length:Int)=(c.length:Int))=Z80 c:=Zd2 c
 simp[e1,e2]
 rw[Zn (fun(x:Nat)=>D.int (x:Int)) (fun x=>D.bl (decide (x<n))) c (fun x hx=>by simp[Z2z])]
 simp only[z_nox,z_okb,e3]
 cases ha:Z50 n c
 ·simp
 ·simp only[z_truBl,z_okb,Bool.not_true,Bool.false_eq_true,if_false,z_view,z_viewN,Option.map_some,z_dsh,List.getElem?_cons_succ,List.getElem?_cons_zero,Z4z h,WU,z_eqI,e4,Bool.true_and]
def Jj(n:Nat)(c:List Nat):Bool:=(Z50 n c&&Z80 c)&&decide (c.length=n)
theorem Z81(n:Nat){c:List Nat}(h:c.length<1000):Vb [.int (n:Int),ct c]=.ok (.bl (Jj n c)):=by
 refine Zo rfl ?_
 have e:decide ((c.length:Int)=(n:Int))=decide (c.length=n):=by
  by_cases z:c.length=n
  ·simp[z]
  ·have:¬(c.length:Int)=(n:Int):=by omega
   simp[z,this]
 have fp:=Zaa n h
 unfold Jj
 generalize (Z50 n c&&Z80 c)=q at fp ⊢
 cases q
 ·simp[fp]
 ·simp[fp,WU,e]
theorem ordB_iff{n:Nat}{c:List Nat}:Jj n c=true↔c.length=n/\c.Nodup/\∀x∈c,x<n:=by
 unfold Jj Z50 Z80
 simp[List.all_eq_true]
 constructor
 ·rintro⟨⟨a,b⟩,c⟩;exact⟨c,b,a⟩
 ·rintro⟨a,b,c⟩;exact⟨⟨c,b⟩,a⟩
theorem Zd3{n:Nat}{g:Nat->Nat->Nat}(L:Lat n g){c:List Nat}(hl:c.length<=n)(hc:∀x∈c,x<n):∀x∈alo g c,x<n:=fun x hx=>by
 unfold alo at hx
 rw[List.mem_map]at hx
 obtain⟨i,hi,rfl⟩:=hx
 have hi':i<c.length:=by simpa using hi
 exact L.lt _ _ (by omega) (hc _ (YZ hi'))
theorem Z33(g:Nat->Nat->Nat)(c:List Nat):(alo g c).length=c.length:=by simp[alo]
theorem Zd4{n:Nat}{g:Nat->Nat->Nat}(L:Lat n g)(h1:1<=n)(h9:n<=9){c:List Nat}(h:c.length<1000):U4 [sqD n g,ct c]=.ok (.bl (decide (c∈Xs n g))):=by
 refine Zo rfl ?_
 simp[Y2 L h1 h9,Z81 n h]
 cases hb:Jj n c
 ·have:c∉Xs n g:=fun z=>by
   obtain⟨a,G⟩:=mem_all.mp z
   have:=ordB_iff.mpr ⟨a,G.nd,G.lt⟩
   rw[hb]at this;cases this
  simp[this]
 ·obtain⟨a,b,d⟩:=ordB_iff.mp hb
  have al:=Z30 (g:=g) (n:=n) (c:=c) (by omega) d
  have lt:=Zd3 L (by omega) d
  simp[al,Z81 n (c:=alo g c) (by rw[Z33];omega)]
  by_cases hn:(alo g c).Nodup
  ·have m:c∈Xs n g:=mem_all.mpr ⟨a,d,b,hn⟩
   have:Jj n (alo g c)=true:=ordB_iff.mpr ⟨by rw[Z33];exact a,hn,lt⟩
   simp[m,this]
  ·have m:c∉Xs n g:=fun z=>hn (mem_all.mp z).2.al
   have:Jj n (alo g c)=false:=by
    cases z:Jj n (alo g c)
    ·rfl
    ·exact absurd (ordB_iff.mp z).2.1 hn
   simp[m,this]
theorem VI{n:Nat}{g:Nat->Nat->Nat}(L:Lat n g)(h1:1<=n)(h7:n<=7):Z4f [sqD n g, .int 7]=.ok .non:=by
 refine Zo rfl ?_
 have:¬(7:Int)<(n:Int):=by omega
 simp[Y2 L h1 (by omega:n<=9),this]
theorem VJ{n:Nat}{g:Nat->Nat->Nat}(L:Lat n g)(h1:1<=n)(h7:n<=7):Z4i [sqD n g]=.ok (.lst ((Xs n g).map ct)):=by
 refine Zo rfl ?_
 have e:WK 9 [sqD n g, .tup []]=.ok (.lst ((Xs n g).map ct)):=Z31 h7 n 9 [] (by omega) (by simp) (by simp)
 simp[VI L h1 h7,e]
theorem VL{c:List Nat}{i:Nat}(h:i<c.length):ixD (ct c) (.int (i:Int))=.ok (.int (cAt c i:Int)):=by
 refine ix_tup _ _ _ ?_
 unfold ZI cAt
 simp[h]
theorem Zab(a b:Nat):decide ((a:Int)=(b:Int))=decide (a=b):=by
 by_cases h:a=b
 ·simp[h]
 ·have:¬(a:Int)=(b:Int):=by omega
  simp[h,this]
theorem Z34{n:Nat}{p:Nat->Nat}{i:Nat}(h:i<n):cAt ((List.range n).map p) i=p i:=by unfold cAt;simp[h]
theorem W6(c:List Nat):(List.range c.length).map (cAt c)=c:=by
 apply List.ext_getElem?
 intro i
 by_cases h:i<c.length
 ·rw[List.getElem?_map,List.getElem?_range h];simp[h,cAt]
 ·rw[List.getElem?_eq_none (by simpa using h),List.getElem?_eq_none (by simpa using h)]
theorem Uf{n:Nat}{p:Nat->Nat}(h:((List.range n).map p).Nodup){i j:Nat}(hi:i<n)(hj:j<n)(e:p i=p j):i=j:=by
 have a:i<((List.range n).map p).length:=by simpa using hi
 have b:j<((List.range n).map p).length:=by simpa using hj
 have:=(List.getElem_inj (h₀:=a) (h₁:=b) h).mp (by simpa using e)
 exact this
theorem Zd5{is:List Nat}{f:D->R (List D)}{B:Tau->Fl}{d:D}{ds:List D}{τ:Tau}{vs:List D}{r:D}(h1:f d=.ok vs)(h2:B (XS τ is vs)=.rt r):ZP is f B (d::ds) τ=.rt r:=by
 rw[ZP];simp only[h1,h2]
theorem Z35{β:Type}{is:List Nat}{f:D->R (List D)}{B:Tau->Fl}(P:Tau->Prop)(Rr:D->Prop)(N:β->Prop)(e:β->D)(es:β->List D):∀(l:List β) (τ:Tau),(∀b∈l,f (e b)=.ok (es b))->P τ->
  (∀b∈l,∀τ,P τ->(∃τ',B (XS τ is (es b))=.nx τ'/\P τ'/\N b)\/∃r,B (XS τ is (es b))=.rt r/\Rr r)->(∃τ',ZP is f B (l.map e) τ=.nx τ'/\P τ'/\∀b∈l,N b)\/∃r,ZP is f B (l.map e) τ=.rt r/\Rr r
 | [],τ,_,h0,_=>.inl ⟨τ,rfl,h0,by simp⟩
 |b::l,τ,hf,h0,st=>by
  have hb:=hf b List.mem_cons_self
  rcases st b List.mem_cons_self τ h0 with⟨τ1,a1,p1,n1⟩|⟨r,a1,r1⟩
  ·rcases Z35 P Rr N e es l τ1 (fun c hc=>hf c (List.mem_cons_of_mem _ hc)) p1 (fun c hc=>st c (List.mem_cons_of_mem _ hc))with⟨τ2,a2,p2,n2⟩|⟨r,a2,r2⟩
   ·refine .inl ⟨τ2,by rw[List.map_cons,Yc hb a1,a2],p2,fun c hc=> ?_⟩
    rcases List.mem_cons.mp hc with rfl|hc
    ·exact n1
    ·exact n2 c hc
   ·exact .inr ⟨r,by rw[List.map_cons,Yc hb a1,a2],r2⟩
  ·exact .inr ⟨r,by rw[List.map_cons,Zd5 hb a1],r1⟩
def shB(a b:List Nat):Bool:=(List.range a.length).any fun i=>decide (cAt a i=cAt b i)
def apB(a b:List Nat):Bool:= !shB a b
theorem Zac{a b:List Nat}(h:a.length=b.length):Z0j [ct a,ct b]=.ok (.bl (apB a b)):=by
 refine Zo rfl ?_
 have z:WC [ct a,ct b]=.ok ((List.range a.length).map fun i=>D.tup [.int (cAt a i:Int), .int (cAt b i:Int)]):=by
  show R.ok (XG (ZI a) (ZI b))=_
  unfold XG
  rw[Qi a,Qi b,←h,W5 _ _ _ _ (Nat.le_refl _),List.map_map]
  rfl
 have an:Uv [.lst ((List.range a.length).map fun i=>D.bl (decide (cAt a i=cAt b i)))]=.ok (.bl (shB a b)):=Z7t _ _
 simp[z]
 rw[X6 (fun i=>D.int (cAt a i:Int)) (fun i=>D.int (cAt b i:Int)) (fun i=>D.bl (decide (cAt a i=cAt b i))) (List.range a.length) (fun i hi=>by simp[Zab])]
 simp[an,apB]
theorem Zd6{a b:List Nat}(h:apB a b=true){i:Nat}(hi:i<a.length):cAt a i≠cAt b i:=by
 unfold apB shB at h
 rw[Bool.not_eq_true',List.any_eq_false]at h
 have:=h i (by simpa using hi)
 simpa using this
abbrev Ap(a b:List Nat):Prop:=apB a b=true
def Len(n:Nat)(l:List (List Nat)):Prop:=∀c∈l,c.length=n
theorem Zad{n:Nat}{c:List Nat}(hc:c.length=n)(l:List (List Nat))(hl:Len n l):ZO one [none,some (ct c)] [0] (tst (ap Z0j (cs (vr 1) (cs (vr 0) (nl))))) (vr 0) (l.map ct)=.ok ((l.filter (apB c)).map ct):=
 XC ct (apB c) ct l fun d hd=>by
  refine⟨?_,fun _=>by simp⟩
  simp[Zac (a:=c) (b:=d) (by rw[hc,hl d hd])]
structure Comp(n k m:Nat)(cs t:List (List Nat)):Prop where
 len:t.length=k
 mem:∀x∈t,x∈cs
 ap:t.Pairwise Ap
 at_:∀j c,t[j]? =some c->cAt c 0=m+j
def Qj:Option (List (List Nat))->D
 |none=>.non
 |some P=>.lst (P.map ct)
theorem Zb4{n:Nat}(h1:1<=n)(hn:n<=9):∀(f k:Nat) (ch cs:List (List Nat)),k<f->ch.length+k=n->cs.length<=1000000->Len n cs->
  ∃r,XX f [.int (n:Int), .lst (ch.map ct), .lst (cs.map ct)]=.ok (Qj r)/\(∀P,r=some P->∃t,P=ch++t/\Comp n k ch.length cs t)/\(r=none->∀t,¬Comp n k ch.length cs t)
 |0,_,_,_,h,_,_,_=>by omega
 |f+1,0,ch,cs,_,hl,_,_=>by
  refine⟨some ch,?_,fun P e=>⟨[],by cases e;simp,⟨rfl,by simp,List.Pairwise.nil,by simp⟩⟩,fun e=>by cases e⟩
  rw[XX]
  refine Zo rfl ?_
  have e:(ch.length:Int)=(n:Int):=by omega
  simp[e,Qj]
 |f+1,k+1,ch,cs,hf,hl,hk,hL=>by
  rw[XX]
  have ne:¬(ch.length:Int)=(n:Int):=by omega
  generalize hB:(sIf (tst (bi eqD (bi ixD (vr 3) (cn (.int 0))) (ap ZN (L3.cs (vr 1) (nl))))) (sq (ZX 4 (asL (cmp (Y1 (vr 2)) 1 [3] [0] one (tst (ap Z0j (L3.cs (vr 1) (L3.cs (vr 0) (nl))))) (vr 0))))
 (sq (ZX 5 (ap (XX f) (L3.cs (vr 0) (L3.cs (bi ZM (vr 1) (asL (lim (L3.cs (vr 3) (nl))))) (L3.cs (vr 4) (nl))))))
 (sIf (tst (un Z6l (vr 5))) (Zr (vr 5)) (sk)))) (sk))=B
  have loop:=Z35 (is:=[3]) (f:=one) (B:=B) (fun τ=>∃o3 o4 o5,τ=[some (.sh (.int (n:Int))),some (.sh (.lst (ch.map ct))),some (.sh (.lst (cs.map ct))),o3,o4,o5])
   (fun r=>∃P,r=Qj (some P)/\∃t,P=ch++t/\Comp n (k+1) ch.length cs t) (fun c=>cAt c 0=ch.length->∀t,¬Comp n k (ch.length+1) (cs.filter (apB c)) t) ct (fun c=>[ct c]) cs
   [some (.sh (.int (n:Int))),some (.sh (.lst (ch.map ct))),some (.sh (.lst (cs.map ct))),none,none,none] (fun c _=>rfl) ⟨none,none,none,rfl⟩ (by
   rintro c hc τ ⟨o3,o4,o5,rfl⟩
   have hcl:=hL c hc
   have i0:ixD (ct c) (.int 0)=.ok (.int (cAt c 0:Int)):=VL (i:=0) (by omega)
   subst hB
   simp only[z_setT1,z_setT0,List.set_cons_succ,List.set_cons_zero]
   by_cases h0:cAt c 0=ch.length
   ·rw[WP (by simp[i0,h0])]
    have fa:=Zad hcl cs hL
    rw[Zy (ZS (d:=.lst ((cs.filter (apB c)).map ct)) (by simp;rw[fa];simp))]
    simp only[List.set_cons_succ,List.set_cons_zero]
    have fl:=List.length_filter_le (apB c) cs
    obtain⟨r,er,hsome,hnone⟩:=Zb4 h1 hn f k (ch++[c]) (cs.filter (apB c)) (by omega) (by simp;omega) (by omega) (fun x hx=>hL x (List.mem_filter.mp hx).1)
    have ad:ZM (.lst (ch.map ct)) (.lst [ct c])=.ok (.lst ((ch++[c]).map ct)):=by
     show(if(ch.map ct).length+1<=sizeLine then R.ok (D.lst (ch.map ct++[ct c]))else .bad)=_
     rw[if_pos (YW (by rw[List.length_map];omega)),List.map_append]
     rfl
    have s5:ap (XX f) (L3.cs (vr 0) (L3.cs (bi ZM (vr 1) (asL (lim (L3.cs (vr 3) (nl))))) (L3.cs (vr 4) (nl)))) (ZH [some (.sh (.int (n:Int))),some (.sh (.lst (ch.map ct))),some (.sh (.lst (cs.map ct))),some (.sh (ct c)),some (.sh (.lst ((cs.filter (apB c)).map ct))),o5])=.ok (Qj r):=by
     simp only[z_bi,z_ap,z_cs,z_cn,z_vr,z_nl,z_okb,z_asL,z_lim,z_hide,z_hideN,Option.bind_some,z_hsh,List.getElem?_cons_zero,List.getElem?_cons_succ,List.length_cons,List.length_nil]
     rw[if_pos (YW (by decide))]
     simp only[z_okb,ad,er]
    rw[Zy (ZS s5)]
    simp only[List.set_cons_succ,List.set_cons_zero]
    cases r with
    |none=>
     refine .inl ⟨_,(X5 (by simp[Qj];rfl)).trans z_sk,⟨_,_,_,rfl⟩,fun _ t ht=> ?_⟩
     refine hnone rfl t ?_
     rw[List.length_append,List.length_singleton]
     exact ht
    |some P=>
     refine .inr ⟨Qj (some P),by rw[WP (by simp[Qj];rfl)];rfl,P,rfl,?_⟩
     obtain⟨t,e1,⟨e2,e3,e4,e5⟩⟩:=hsome P rfl
     refine⟨c::t,by rw[e1];simp,⟨by simp[e2],fun x hx=> ?_,List.pairwise_cons.mpr ⟨fun x hx=>(List.mem_filter.mp (e3 x hx)).2,e4⟩,fun j d ej=> ?_⟩⟩
     rcases List.mem_cons.mp hx with rfl|hx
     ·exact hc
     ·exact(List.mem_filter.mp (e3 x hx)).1
     ·cases j with
      |zero=>
       cases ej
       exact h0
      |succ j=>
       have:=e5 j d (by simpa using ej)
       rw[List.length_append,List.length_singleton]at this
       omega
   ·have h0':¬(cAt c 0:Int)=(ch.length:Int):=by omega
    exact .inl ⟨_,(X5 (by simp[i0,h0'])).trans z_sk,⟨_,_,_,rfl⟩,fun z=>absurd z h0⟩)
  have fst:Z4g (XX f) [some (.sh (.int (n:Int))),some (.sh (.lst (ch.map ct))),some (.sh (.lst (cs.map ct))),none,none,none]=sq (Yj (Y1 (vr 2)) [3] one B) (Zr (cn .non)) [some (.sh (.int (n:Int))),some (.sh (.lst (ch.map ct))),some (.sh (.lst (cs.map ct))),none,none,none]:=by
   rw[Z4g,Zy ((X5 (by simp[ne])).trans z_sk),hB]
  rcases loop with⟨τ',hl',⟨o3,o4,o5,rfl⟩,hno⟩|⟨r,hl',P,rfl,hP⟩
  ·refine⟨none,Zo rfl ?_,(fun P e=>by cases e),fun _ t ht=> ?_⟩
   ·show(match Z4g (XX f) [some (.sh (.int (n:Int))),some (.sh (.lst (ch.map ct))),some (.sh (.lst (cs.map ct))),none,none,none]with| .rt d=>R.ok d| .nx _=>.ok .non| .ex c _=>.ex c|_=>.bad)=_
    rw[fst,Zy (Xf (by simp) hl')]
    rfl
   ·obtain⟨l1,l2,l3,l4⟩:=ht
    match t,l1,l2,l3,l4 with
    |c::t,l1,l2,l3,l4=>
     rw[List.pairwise_cons]at l3
     refine hno c (l2 c List.mem_cons_self) (l4 0 c rfl) t ⟨by simpa using l1,fun x hx=>List.mem_filter.mpr ⟨l2 x (List.mem_cons_of_mem _ hx),l3.1 x hx⟩,l3.2,fun j d e=> ?_⟩
     have:=l4 (j+1) d (by simpa using e)
     omega
  ·refine⟨some P,Zo rfl ?_,fun Q e=>by cases e;exact hP,fun e=>by cases e⟩
   show(match Z4g (XX f) [some (.sh (.int (n:Int))),some (.sh (.lst (ch.map ct))),some (.sh (.lst (cs.map ct))),none,none,none]with| .rt d=>R.ok d| .nx _=>.ok .non| .ex c _=>.ex c|_=>.bad)=_
   rw[fst,Z7n (Xf (by simp) hl')]
def fct:Nat->Nat
 |0=>1
 |k+1=>(k+1) * fct k
theorem Z82{α β:Type}(l:List α)(h:α->List β)(p:α->Bool)(B:Nat)(h1:∀x∈l,p x=false->h x=[])(h2:∀x∈l,(h x).length<=B):(l.flatMap h).length<=(l.filter p).length * B:=by
 induction l with
 |nil=>simp
 |cons x l ih=>
  have ih:=ih (fun y hy=>h1 y (List.mem_cons_of_mem _ hy)) (fun y hy=>h2 y (List.mem_cons_of_mem _ hy))
  rw[List.flatMap_cons,List.length_append]
  cases hp:p x with
  |true=>
   rw[List.filter_cons_of_pos hp,List.length_cons,Nat.succ_mul]
   have:=h2 x List.mem_cons_self
   omega
  |false=>
   rw[List.filter_cons_of_neg (by rw[hp];simp),h1 x List.mem_cons_self hp]
   simpa using ih
theorem Jk{n:Nat}{g:Nat->Nat->Nat}:∀(k:Nat) (c:List Nat),Good n g c->c.length+k=n->(Ym n g k c).length<=fct k
 |0,c,_,_=>by simp[Ym,fct]
 |k+1,c,G,hl=>by
  unfold Ym
  have:=Z82 (List.range n) (fun x=>if x∉c/\g c.length x∉alo g c then Ym n g k (c++[x])else []) (fun x=>decide (x∉c)) (fct k) (fun x _ hp=>by
   have:x∈c:=by simpa using hp
   simp[this]) (fun x hx=>by
   show(if _ then _ else _:List (List Nat)).length<=_
   split
   ·rename_i hc
    exact Jk k (c++[x]) (G.snoc (by simpa using hx) hc.1 hc.2) (by simp;omega)
   ·simp)
  have few:((List.range n).filter fun x=>decide (x∉c)).length<=k+1:=by
   have nd:(c++(List.range n).filter fun x=>decide (x∉c)).Nodup:=by
    rw[List.nodup_append]
    refine⟨G.nd,List.nodup_range.sublist List.filter_sublist,fun a ha b hb e=> ?_⟩
    subst e
    have:=(List.mem_filter.mp hb).2
    simp at this
    exact this ha
   have:=Ua n _ nd (fun x hx=>by
    rw[List.mem_append]at hx
    rcases hx with hx|hx
    ·exact G.lt x hx
    ·simpa using(List.mem_filter.mp hx).1)
   rw[List.length_append]at this
   omega
  unfold fct
  exact Nat.le_trans this (Nat.mul_le_mul_right _ few)
theorem Z83{l:List Nat}{x:Nat}(h:x∈l):Yy (ct l) (.int (x:Int))=.ok (.int (((l.map fun(y:Nat)=>(y:Int)).idxOf (x:Int):Nat):Int)):=by
 have e:ZF (ZI l)=some (l.map fun(x:Nat)=>(x:Int)):=by
  have:=Y8 (l.map fun(x:Nat)=>(x:Int))
  rw[List.map_map]at this
  exact this
 have m:(x:Int)∈l.map fun(y:Nat)=>(y:Int):=List.mem_map.mpr ⟨x,h,rfl⟩
 show(match ZF (ZI l),D.int (x:Int)with|some ns, .int k=>if k∈ns then R.ok (D.int ((ns.idxOf k:Nat):Int))else .bad|_,_=>.bad)=_
 rw[e]
 simp only[m,if_true]
theorem Z84{n r:Nat}(hr:r<n){P:List (List Nat)}(hP:Len n P)(hl:P.length=n)(pw:P.Pairwise Ap)(lt:∀c∈P,∀x∈c,x<n):∀x,x<n->x∈P.map fun c=>cAt c r:=by
 have nd:(P.map fun c=>cAt c r).Nodup:=by
  unfold List.Nodup
  rw[List.pairwise_map]
  exact pw.imp_of_mem fun{a b} ha hb h=>Zd6 h (by rw[hP a ha];exact hr)
 have p:=Ub n _ nd (fun x hx=>by
  rw[List.mem_map]at hx
  obtain⟨c,hc,rfl⟩:=hx
  exact lt c hc _ (YZ (by rw[hP c hc];exact hr))) (by simpa using hl)
 exact fun x hx=>(p.mem_iff).mpr (by simpa using hx)
theorem Z36{n:Nat}{g:Nat->Nat->Nat}:Len n (Xs n g):=fun c hc=>(mem_all.mp hc).1
theorem Z51{n:Nat}{g:Nat->Nat->Nat}(L:Lat n g)(h1:1<=n)(h5:n<=7):∃r,Z0k [sqD n g]=.ok (Qj r)/\(∀P,r=some P->Comp n n 0 (Xs n g) P)/\(r=none->∀t,¬Comp n n 0 (Xs n g) t):=by
 have few:(Xs n g).length<=5040:=Nat.le_trans (Jk n [] ⟨(fun x h=>by cases h),List.nodup_nil,by simp[alo]⟩ (by simp)) ((by decide:∀n,n<=7->fct n<=5040) n h5)
 obtain⟨r,e,hs,hn⟩:=Zb4 (n:=n) h1 (by omega) 9 n [] (Xs n g) (by omega) (by simp) (by omega) Z36
 refine⟨r,Zo rfl ?_,fun P eP=> ?_,fun er=>hn er⟩
 ·have e':XX 9 [.int (n:Int), .lst [], .lst ((Xs n g).map ct)]=.ok (Qj r):=e
  simp[VI L h1 (by omega:n<=7),VJ L h1 (by omega:n<=7),e']
 ·obtain⟨t,e1,e2⟩:=hs P eP
  rw[List.nil_append]at e1
  subst e1
  exact e2
def Yu:Nat->List (List Nat)
 |0=>[[]]
 |n+1=>(Yu n).map (0:: ·)++(Yu n).map (1:: ·)
theorem WV:∀n,(Yu n).length=2 ^ n
 |0=>rfl
 |n+1=>by
  have:=WV n
  simp only[Yu,List.length_append,List.length_map,this,Nat.pow_succ];omega
theorem mem_ways:∀{n:Nat} {l:List Nat},l∈Yu n↔l.length=n/\∀x∈l,x<2
 |0,l=>by
  simp only[Yu,List.mem_singleton]
  constructor
  ·rintro rfl;exact⟨rfl,by simp⟩
  ·rintro⟨h,_⟩;exact List.length_eq_zero_iff.mp h
 |n+1,l=>by
  simp only[Yu,List.mem_append,List.mem_map]
  constructor
  ·rintro(⟨t,ht,rfl⟩|⟨t,ht,rfl⟩)
   ·obtain⟨a,b⟩:=mem_ways.mp ht
    exact⟨by simp[a],fun x hx=>by rcases List.mem_cons.mp hx with rfl|hx;omega;exact b x hx⟩
   ·obtain⟨a,b⟩:=mem_ways.mp ht
    exact⟨by simp[a],fun x hx=>by rcases List.mem_cons.mp hx with rfl|hx;omega;exact b x hx⟩
  ·rintro⟨h,hb⟩
   match l,h,hb with
   |x::t,h,hb=>
    have ht:t∈Yu n:=mem_ways.mpr ⟨by simpa using h,fun y hy=>hb y (List.mem_cons_of_mem _ hy)⟩
    have hx:=hb x List.mem_cons_self
    match x,hx with
    |0,_=>exact .inl ⟨t,ht,rfl⟩
    |1,_=>exact .inr ⟨t,ht,rfl⟩
    |x+2,hx=>omega
theorem Zd7(a:Nat)(l:List Nat)(h:l.length<=100):ZM (.tup [.int (a:Int)]) (ct l)=.ok (ct (a::l)):=by
 show(if 1+(ZI l).length<=sizeLine then R.ok (D.tup ([.int (a:Int)]++ZI l))else .bad)=_
 rw[if_pos (YW (by simp[ZI];omega))]
 rfl
theorem Z85:∀(f n:Nat),n<f->n<=9->U5 f [.int (n:Int)]=.ok (.lst ((Yu n).map ct))
 |0,_,h,_=>by omega
 |f+1,0,_,_=>by
  rw[U5]
  refine Zo rfl ?_
  simp[Yu]
  rfl
 |f+1,n+1,hf,h9=>by
  rw[U5]
  refine Zo rfl ?_
  have ih:=Z85 f n (by omega) (by omega)
  have nz:¬((n:Int)+1)=0:=by omega
  have e:(n:Int)+1 - 1=(n:Int):=by omega
  have p2:2 ^ n<=2 ^ 9:=Nat.pow_le_pow_right (by omega) (by omega)
  have wl:=WV n
  have m:∀a:Nat,ZO one [none] [0] yes (bi ZM (tpl (cs (cn (.int (a:Int))) (nl))) (vr 0)) ((Yu n).map ct)=.ok ((Yu n).map fun l=>ct (a::l)):=fun a=>Zn ct (fun l=>ct (a::l)) (Yu n) (fun l hl=>by
   have:=(mem_ways.mp hl).1
   simp[Zd7 a l (by omega)])
  have m0:ZO one [none] [0] yes (bi ZM (tpl (cs (cn (.int 0)) (nl))) (vr 0)) ((Yu n).map ct)=.ok ((Yu n).map fun l=>ct (0::l)):=m 0
  have m1:ZO one [none] [0] yes (bi ZM (tpl (cs (cn (.int 1)) (nl))) (vr 0)) ((Yu n).map ct)=.ok ((Yu n).map fun l=>ct (1::l)):=m 1
  have ad:ZM (.lst ((Yu n).map fun l=>ct (0::l))) (.lst ((Yu n).map fun l=>ct (1::l)))=.ok (.lst ((Yu (n+1)).map ct)):=by
   show(if((Yu n).map fun l=>ct (0::l)).length+((Yu n).map fun l=>ct (1::l)).length<=sizeLine then R.ok (D.lst (((Yu n).map fun l=>ct (0::l))++(Yu n).map fun l=>ct (1::l)))else .bad)=_
   rw[if_pos (YW (by rw[List.length_map,List.length_map,wl];omega))]
   simp only[Yu,List.map_append,List.map_map]
   rfl
  simp only[Zco,List.map_cons,List.map_nil,List.cons_append,List.nil_append,Nat.reduceSub,List.replicate_succ,List.replicate_zero]
  rw[Zy ((X5 (by simp;omega)).trans z_sk)]
  rw[Zy (ZS (d:=.lst ((Yu n).map ct)) (by simp[ih]))]
  simp only[List.set_cons_succ,List.set_cons_zero]
  simp only[z_ret,z_bi,z_asL,z_cmpr,z_srcD,z_vr,z_view,z_viewN,Option.map_some,z_dsh,List.getElem?_cons_zero,List.getElem?_cons_succ,z_okb,z_itsL,z_bro,List.replicate_succ,List.replicate_zero,List.map_nil,List.append_nil,m0,m1,z_nox,ad]
structure Tri where
 R:List Nat
 C:List Nat
 L:List Nat
def mk3(T:Tri):D:=.tup [ct T.R,ct T.C,ct T.L]
structure Val(n:Nat)(T:Tri):Prop where
 lr:T.R.length=n
 lc:T.C.length=n
 ll:T.L.length=n
 br:∀x∈T.R,x<2
 bc:∀x∈T.C,x<2
 bl:∀x∈T.L,x<2
theorem Val.r{n:Nat}{T:Tri}(v:Val n T){i:Nat}(h:i<n):cAt T.R i<2:=v.br _ (YZ (by rw[v.lr];exact h))
theorem Val.c{n:Nat}{T:Tri}(v:Val n T){i:Nat}(h:i<n):cAt T.C i<2:=v.bc _ (YZ (by rw[v.lc];exact h))
theorem Val.l{n:Nat}{T:Tri}(v:Val n T){i:Nat}(h:i<n):cAt T.L i<2:=v.bl _ (YZ (by rw[v.ll];exact h))
def X7(n:Nat)(g:Nat->Nat->Nat)(T:Tri):Bool:=(List.range n).all fun r=>(List.range n).all fun c=>decide ((cAt T.R r+cAt T.C c+cAt T.L (g r c))%2=0)
theorem evenB_iff{n:Nat}{g:Nat->Nat->Nat}{T:Tri}:X7 n g T=true↔∀r c,r<n->c<n->(cAt T.R r+cAt T.C c+cAt T.L (g r c))%2=0:=by
 unfold X7
 simp[List.all_eq_true]
 constructor
 ·intro h r c hr hc;exact h r hr c hc
 ·intro h r hr c hc;exact h r c hr hc
theorem Z86(x:Nat):decide (((x:Nat):Int)%2=0)=decide (x%2=0):=by
 by_cases h:x%2=0
 ·have:((x:Nat):Int)%2=0:=by omega
  simp[h,this]
 ·have:¬((x:Nat):Int)%2=0:=by omega
  simp[h,this]
theorem Z0u{n:Nat}{C:List Nat}(h:C.length=n)(p:Nat->Nat):WC [ct C,Z8 n p]=.ok ((List.range n).map fun i=>D.tup [.int (cAt C i:Int), .int (p i:Int)]):=by
 show R.ok (XG (ZI C) ((List.range n).map fun i=>D.int (p i:Int)))=_
 unfold XG
 rw[Qi C,h,W5 _ _ _ _ (Nat.le_refl _),List.map_map]
 rfl
theorem Zae{n:Nat}{p:Nat->Nat}{C L:List Nat}{m:Nat}(hC:C.length=n)(hL:L.length=n)(hp:∀i,i<n->p i<n):Z4r [Z8 n p, .int (m:Int),ct C,ct L]=.ok (.bl ((List.range n).all fun c=>decide ((m+cAt C c+cAt L (p c))%2=0))):=by
 refine Zo rfl ?_
 have mp:ZO (W0 2) [none,none,some (.int (m:Int)),some (ct L)] [0,1] yes (bi eqD (bi Yr (bi ZM (bi ZM (vr 2) (vr 0)) (bi ixD (vr 3) (vr 1))) (cn (.int 2))) (cn (.int 0))) ((List.range n).map fun i=>D.tup [.int (cAt C i:Int), .int (p i:Int)])=.ok ((List.range n).map fun c=>D.bl (decide ((m+cAt C c+cAt L (p c))%2=0))):=
  X6 (fun i=>D.int (cAt C i:Int)) (fun i=>D.int (p i:Int)) (fun c=>D.bl (decide ((m+cAt C c+cAt L (p c))%2=0))) (List.range n) (fun c hc=>by
   have hc':c<n:=by simpa using hc
   have ix:ixD (ct L) (.int (p c:Int))=.ok (.int (cAt L (p c):Int)):=VL (by rw[hL];exact hp c hc')
   simp only[z_setD1,z_setD0,List.set_cons_succ,List.set_cons_zero,z_bi,z_vr,z_cn,List.getElem?_cons_zero,List.getElem?_cons_succ,z_okb,z_add,ix]
   rw[YX _ _ (by decide)]
   simp only[z_okb,z_eqI]
   have:=Z86 (m+cAt C c+cAt L (p c))
   rw[←this]
   simp)
 have al:Q5 [.lst ((List.range n).map fun c=>D.bl (decide ((m+cAt C c+cAt L (p c))%2=0)))]=.ok (.bl ((List.range n).all fun c=>decide ((m+cAt C c+cAt L (p c))%2=0))):=Qh _ _
 simp[Z0u hC]
 rw[mp]
 simp only[z_nox,z_okb,al]
theorem Zd8{n:Nat}{g:Nat->Nat->Nat}{T:Tri}(Lg:Lat n g)(v:Val n T):Ja [sqD n g,mk3 T]=.ok (.bl (X7 n g T)):=by
 refine Zo rfl ?_
 have i0:ixD (mk3 T) (.int 0)=.ok (ct T.R):=ix_tup0 _ _
 have i1:ixD (mk3 T) (.int 1)=.ok (ct T.C):=ix_tup1 _ _ _
 have i2:ixD (mk3 T) (.int 2)=.ok (ct T.L):=ix_tup2 _ _ _ _
 have z:WC [sqD n g,ct T.R]=.ok ((List.range n).map fun i=>D.tup [Z8 n (g i), .int (cAt T.R i:Int)]):=by
  show R.ok (XG ((List.range n).map fun r=>Z8 n (g r)) (ZI T.R))=_
  unfold XG
  rw[Qi T.R,v.lr,W5 _ _ _ _ (Nat.le_refl _),List.map_map]
  rfl
 have mp:ZO (W0 2) [none,none,some (mk3 T)] [0,1] yes (ap Z4r (cs (vr 0) (cs (vr 1) (cs (bi ixD (vr 2) (cn (.int 1))) (cs (bi ixD (vr 2) (cn (.int 2))) (nl)))))) ((List.range n).map fun i=>D.tup [Z8 n (g i), .int (cAt T.R i:Int)])=.ok ((List.range n).map fun r=>D.bl ((List.range n).all fun c=>decide ((cAt T.R r+cAt T.C c+cAt T.L (g r c))%2=0))):=
  X6 (fun i=>Z8 n (g i)) (fun i=>D.int (cAt T.R i:Int)) (fun r=>D.bl ((List.range n).all fun c=>decide ((cAt T.R r+cAt T.C c+cAt T.L (g r c))%2=0))) (List.range n) (fun r hr=>by
   have hr':r<n:=by simpa using hr
   simp only[z_setD1,z_setD0,List.set_cons_succ,List.set_cons_zero,z_ap,z_cs,z_nl,z_bi,z_vr,z_cn,List.getElem?_cons_zero,List.getElem?_cons_succ,z_okb,i1,i2,Zae v.lc v.ll (fun i hi=>Lg.lt r i hr' hi)])
 have al:Q5 [.lst ((List.range n).map fun r=>D.bl ((List.range n).all fun c=>decide ((cAt T.R r+cAt T.C c+cAt T.L (g r c))%2=0)))]=.ok (.bl (X7 n g T)):=Qh _ _
 simp only[Zcq,List.map_cons,List.map_nil,List.cons_append,List.nil_append,Nat.reduceSub,List.replicate_zero,z_ret,z_ap,z_cs,z_nl,z_asL,z_cmpr,z_apL,z_bi,z_cn,z_vr,z_view,z_viewN,Option.map_some,z_dsh,List.getElem?_cons_zero,List.getElem?_cons_succ,z_okb,i0,z,z_bro,List.replicate_succ,Option.join_some]
 rw[mp]
 simp only[z_nox,z_okb,al]
def sm(l:List Nat):Nat:=l.sum
def Qk(T:Tri):Bool:=decide ((sm T.R+sm T.C+sm T.L)%2=1)
theorem Jl:∀l:List Nat,(l.map fun(x:Nat)=>(x:Int)).sum=((sm l:Nat):Int)
 | []=>rfl
 |x::l=>by
  have:=Jl l
  unfold sm at *
  simp only[List.map_cons,List.sum_cons,this]
  omega
theorem Zd9(l:List Nat):VZ [ct l]=.ok (.int (sm l:Int)):=by
 have e:ZF (ZI l)=some (l.map fun(x:Nat)=>(x:Int)):=by
  have:=Y8 (l.map fun(x:Nat)=>(x:Int))
  rw[List.map_map]at this
  exact this
 show(match ZF (ZI l)with|some ns=>R.ok (D.int ns.sum)|none=>.bad)=_
 rw[e]
 simp only[Jl]
theorem Zeo(T:Tri):Z0m [mk3 T]=.ok (.bl (Qk T)):=by
 refine Zo rfl ?_
 have e:Ya (mk3 T)=.ok [ct T.R,ct T.C,ct T.L]:=rfl
 have s:VZ [.lst [.int (sm T.R:Int), .int (sm T.C:Int), .int (sm T.L:Int)]]=.ok (.int ((sm T.R+sm T.C+sm T.L:Nat):Int)):=by
  show R.ok (D.int ([(sm T.R:Int),(sm T.C:Int),(sm T.L:Int)].sum))=_
  simp;omega
 have d:decide (((sm T.R+sm T.C+sm T.L:Nat):Int)%2=1)=Qk T:=by
  unfold Qk
  by_cases h:(sm T.R+sm T.C+sm T.L)%2=1
  ·have:((sm T.R+sm T.C+sm T.L:Nat):Int)%2=1:=by omega
   simp only[h,this,decide_true]
  ·have:¬((sm T.R+sm T.C+sm T.L:Nat):Int)%2=1:=by omega
   simp only[h,this,decide_false]
 have m:ZO one [none] [0] yes (ap VZ (cs (vr 0) (nl))) [ct T.R,ct T.C,ct T.L]=.ok [.int (sm T.R:Int), .int (sm T.C:Int), .int (sm T.L:Int)]:=by
  simp[ZO,Zd9]
 simp only[Zcs,List.map_cons,List.map_nil,List.cons_append,List.nil_append,Nat.reduceSub,List.replicate_zero,z_ret,z_bi,z_ap,z_cs,z_nl,z_asL,z_cmpr,z_srcD,z_cn,z_vr,z_view,z_viewN,Option.map_some,z_dsh,List.getElem?_cons_zero,z_okb,e,z_bro,List.replicate_succ,List.append_nil,m,z_nox,s]
 rw[YX _ _ (by decide)]
 simp only[z_okb,z_eqI,d]
def X1(n:Nat)(inv:Nat->Nat)(R:List Nat)(a:Nat):List Nat:=(List.range n).map fun l=>(cAt R (inv l)+a)%2
def led(n:Nat)(g:Nat->Nat->Nat)(inv:Nat->Nat)(R:List Nat)(a:Nat):Tri:=⟨R,(List.range n).map fun c=>(cAt R 0+cAt (X1 n inv R a) (g 0 c))%2,X1 n inv R a⟩
structure Inv0(n:Nat)(g:Nat->Nat->Nat)(inv:Nat->Nat):Prop where
 h:∀l,l<n->inv l<n/\g (inv l) 0=l
theorem Zda{n:Nat}{g:Nat->Nat->Nat}(L:Lat n g)(h1:1<=n):∃inv,Inv0 n g inv:=by
 have P:Ord n (fun r=>g r 0):=L.tr.rowO (r:=0) (by omega)
 have ex:∀l,∃i,l<n->i<n/\g i 0=l:=fun l=>by
  by_cases h:l<n
  ·obtain⟨i,hi,e⟩:=P.sur h
   exact⟨i,fun _=>⟨hi,e⟩⟩
  ·exact⟨0,fun z=>absurd z h⟩
 exact⟨fun l=>(ex l).choose,⟨fun l=>(ex l).choose_spec⟩⟩
theorem Z87(n:Nat)(p:Nat->Nat):D.tup ((List.range n).map fun i=>D.int (p i:Int))=ct ((List.range n).map p):=by simp[ct,ZI]
theorem Zb5{n:Nat}{g:Nat->Nat->Nat}{inv:Nat->Nat}(L:Lat n g)(I:Inv0 n g inv)(h1:1<=n)(h9:n<=9){R:List Nat}(hR:R.length=n)(a:Nat):U6 [sqD n g,ct R, .int (a:Int)]=.ok (mk3 (led n g inv R a)):=by
 refine Zo rfl ?_
 have P:Ord n (fun r=>g r 0):=L.tr.rowO (r:=0) (by omega)
 have col:U2 [sqD n g, .int 0]=.ok (Z8 n (fun r=>g r 0)):=Zb3 (m:=0) 0 (by omega)
 have rr:rg1 [.int (n:Int)]=.ok ((List.range n).map fun(i:Nat)=>D.int (i:Int)):=YS n (by omega)
 have lls:(X1 n inv R a).length=n:=by simp[X1]
 have m1:ZO one [none,some (ct R),some (Z8 n fun r=>g r 0),some (.int (a:Int))] [0] yes (bi Yr (bi ZM (bi ixD (vr 1) (bn Yy (vr 2) (vr 0))) (vr 3)) (cn (.int 2))) ((List.range n).map fun(i:Nat)=>D.int (i:Int))=.ok ((List.range n).map fun l=>D.int (((cAt R (inv l)+a)%2:Nat):Int)):=
  Zn (fun(i:Nat)=>D.int (i:Int)) (fun l=>D.int (((cAt R (inv l)+a)%2:Nat):Int)) (List.range n) (fun l hl=>by
   obtain⟨i1,i2⟩:=I.h l (by simpa using hl)
   have ix:=Zd0 P i1
   simp only[i2]at ix
   have rx:ixD (ct R) (.int (inv l:Int))=.ok (.int (cAt R (inv l):Int)):=VL (by rw[hR];exact i1)
   simp only[z_setD1,z_setD0,List.set_cons_zero,z_bi,z_bn,z_vr,z_cn,List.getElem?_cons_zero,List.getElem?_cons_succ,z_okb,z_nox,ix,rx,z_add]
   rw[YX _ _ (by decide)]
   congr 2)
 have s4:D.tup ((List.range n).map fun l=>D.int (((cAt R (inv l)+a)%2:Nat):Int))=ct (X1 n inv R a):=Z87 n fun l=>(cAt R (inv l)+a)%2
 have r0:ixD (sqD n g) (.int 0)=.ok (Z8 n (g 0)):=z_sqr (i:=0) (by omega)
 have x0:ixD (ct R) (.int 0)=.ok (.int (cAt R 0:Int)):=VL (i:=0) (by omega)
 have it:Ya (Z8 n (g 0))=.ok ((List.range n).map fun i=>D.int (g 0 i:Int)):=rfl
 have m2:ZO one [none,some (ct R),some (ct (X1 n inv R a))] [0] yes (bi Yr (bi ZM (bi ixD (vr 1) (cn (.int 0))) (bi ixD (vr 2) (vr 0))) (cn (.int 2))) ((List.range n).map fun i=>D.int (g 0 i:Int))=.ok ((List.range n).map fun c=>D.int (((cAt R 0+cAt (X1 n inv R a) (g 0 c))%2:Nat):Int)):=
  Zn (fun i=>D.int (g 0 i:Int)) (fun c=>D.int (((cAt R 0+cAt (X1 n inv R a) (g 0 c))%2:Nat):Int)) (List.range n) (fun c hc=>by
   have hg:=L.lt 0 c (by omega) (by simpa using hc)
   have lx:ixD (ct (X1 n inv R a)) (.int (g 0 c:Int))=.ok (.int (cAt (X1 n inv R a) (g 0 c):Int)):=VL (by rw[lls];exact hg)
   simp only[z_setD1,z_setD0,List.set_cons_zero,z_bi,z_vr,z_cn,List.getElem?_cons_zero,List.getElem?_cons_succ,z_okb,x0,lx,z_add]
   rw[YX _ _ (by decide)]
   congr 2)
 have s5:D.tup ((List.range n).map fun c=>D.int (((cAt R 0+cAt (X1 n inv R a) (g 0 c))%2:Nat):Int))=ct ((List.range n).map fun c=>(cAt R 0+cAt (X1 n inv R a) (g 0 c))%2):=Z87 n fun c=>(cAt R 0+cAt (X1 n inv R a) (g 0 c))%2
 simp only[Zcp,List.map_cons,List.map_nil,List.cons_append,List.nil_append,Nat.reduceSub,List.replicate_succ,List.replicate_zero]
 rw[Zy (ZS (d:=Z8 n fun r=>g r 0) (by simp[col]))]
 simp only[List.set_cons_succ,List.set_cons_zero]
 rw[Zy (ZS (d:=ct (X1 n inv R a)) (by simp[rr];rw[m1];simp[←s4]))]
 simp only[List.set_cons_succ,List.set_cons_zero]
 rw[Zy (ZS (d:=ct ((List.range n).map fun c=>(cAt R 0+cAt (X1 n inv R a) (g 0 c))%2)) (by simp[r0,it];rw[m2];simp[←s5]))]
 simp only[List.set_cons_succ,List.set_cons_zero]
 simp[mk3,led]
theorem W7{n:Nat}{g:Nat->Nat->Nat}{inv:Nat->Nat}{R:List Nat}(hR:R∈Yu n)(a:Nat):Val n (led n g inv R a):=by
 obtain⟨h1,h2⟩:=mem_ways.mp hR
 refine⟨h1,by simp[led],by simp[led,X1],h2,fun x hx=> ?_,fun x hx=> ?_⟩
 ·unfold led at hx
  simp only[List.mem_map]at hx
  obtain⟨c,_,rfl⟩:=hx
  exact Nat.mod_lt _ (by omega)
 ·unfold led X1 at hx
  simp only[List.mem_map]at hx
  obtain⟨c,_,rfl⟩:=hx
  exact Nat.mod_lt _ (by omega)
def YT(n:Nat)(g:Nat->Nat->Nat)(inv:Nat->Nat):List Tri:=(Yu n).flatMap fun R=>[led n g inv R 0,led n g inv R 1].filter (X7 n g)
theorem Z52{α:Type}(l:List α)(h:α->List Tri):(l.flatMap fun x=>(h x).map mk3)=(l.flatMap h).map mk3:=by
 induction l with
 |nil=>rfl
 |cons x l ih=>rw[List.flatMap_cons,ih,List.flatMap_cons,List.map_append]
theorem Zaf{n:Nat}{g:Nat->Nat->Nat}{inv:Nat->Nat}(L:Lat n g)(I:Inv0 n g inv)(h1:1<=n)(h9:n<=9):Z4s [sqD n g]=.ok (.lst ((YT n g inv).map mk3)):=by
 refine Zo rfl ?_
 have fw:=Z85 10 n (by omega) h9
 have p2:2 ^ n<=2 ^ 9:=Nat.pow_le_pow_right (by omega) h9
 have wl:=WV n
 obtain⟨τ',hl,o2,o3,rfl⟩:=Qe (i:=2) (B:=sq (ZX 3 (asL (cmp (Y1 (tpl (cs (cn (.int 0)) (cs (cn (.int 1)) (nl))))) 1 [0,2] [0] one (yes) (ap U6 (cs (vr 1) (cs (vr 2) (cs (vr 0) (nl))))))))
 (QA 1 (asL (cmp (Y1 (vr 3)) 1 [0] [0] one (tst (ap Ja (cs (vr 1) (cs (vr 0) (nl))))) (vr 0)))))
  (fun acc τ=>∃o2 o3,τ=[some (.sh (sqD n g)),some (.ac acc),o2,o3]) ct (fun R=>([led n g inv R 0,led n g inv R 1].filter (X7 n g)).map mk3) 2 2000 (Yu n) []
  [some (.sh (sqD n g)),some (.ac []),none,none] (fun R _=>by rw[List.length_map];exact List.length_filter_le _ _) (by rw[wl];simp;omega) ⟨none,none,rfl⟩ (by
  rintro R hR acc τ ha ⟨o2,o3,rfl⟩
  have hRl:=(mem_ways.mp hR).1
  have l0:U6 [sqD n g,ct R, .int 0]=.ok (mk3 (led n g inv R 0)):=Zb5 L I h1 h9 hRl 0
  have l1:U6 [sqD n g,ct R, .int 1]=.ok (mk3 (led n g inv R 1)):=Zb5 L I h1 h9 hRl 1
  have m1:ZO one [none,some (sqD n g),some (ct R)] [0] yes (ap U6 (cs (vr 1) (cs (vr 2) (cs (vr 0) (nl))))) [.int 0, .int 1]=.ok ([led n g inv R 0,led n g inv R 1].map mk3):=by
   simp[ZO,l0,l1]
  have m2:ZO one [none,some (sqD n g)] [0] (tst (ap Ja (cs (vr 1) (cs (vr 0) (nl))))) (vr 0) ([led n g inv R 0,led n g inv R 1].map mk3)=.ok (([led n g inv R 0,led n g inv R 1].filter (X7 n g)).map mk3):=
   XC mk3 (X7 n g) mk3 _ fun T hT=>by
    have v:Val n T:=by
     simp only[List.mem_cons,List.not_mem_nil,or_false]at hT
     rcases hT with rfl|rfl
     ·exact W7 hR 0
     ·exact W7 hR 1
    exact⟨by simp[Zd8 L v],fun _=>by simp⟩
  refine⟨_,?_,some (.sh (ct R)),some (.sh (.lst ([led n g inv R 0,led n g inv R 1].map mk3))),rfl⟩
  simp only[List.set_cons_succ,List.set_cons_zero]
  rw[Zy (ZS (d:=.lst ([led n g inv R 0,led n g inv R 1].map mk3)) (by
   simp only[z_asL,z_cmpr,z_srcD,z_tpl,z_cs,z_cn,z_nl,z_okb,List.length_cons,List.length_nil]
   rw[if_pos (YW (by decide))]
   simp only[z_okb,z_itsT,z_bro,z_hide,z_hideN,Option.bind_some,z_hsh,List.replicate_succ,List.replicate_zero,List.map_cons,List.map_nil,List.getElem?_cons_zero,List.getElem?_cons_succ,Option.join_some,List.cons_append,List.nil_append]
   rw[show([none,some (sqD n g),some (ct R)]:Rho)=[none,some (sqD n g),some (ct R)]from rfl,m1]
   simp))]
  simp only[List.set_cons_succ,List.set_cons_zero]
  have fl:=List.length_filter_le (X7 n g) [led n g inv R 0,led n g inv R 1]
  have hs:acc.length+([led n g inv R 0,led n g inv R 1].filter (X7 n g)).length<=1000000:=by simp only[List.length_cons,List.length_nil]at fl;omega
  have ex:asL (cmp (Y1 (vr 3)) 1 [0] [0] one (tst (ap Ja (cs (vr 1) (cs (vr 0) (nl))))) (vr 0)) (ZH [some (.sh (sqD n g)),some (.ac acc),some (.sh (ct R)),some (.sh (.lst ([led n g inv R 0,led n g inv R 1].map mk3)))])=.ok (.lst (([led n g inv R 0,led n g inv R 1].filter (X7 n g)).map mk3)):=by
   simp only[z_asL,z_cmpr,z_srcD,z_vr,z_hide,z_hideN,Option.bind_some,z_hsh,z_hac,List.getElem?_cons_zero,List.getElem?_cons_succ,z_okb,z_itsL,z_bro,List.replicate_succ,List.replicate_zero,List.map_cons,List.map_nil,Option.join_some,List.cons_append,List.nil_append]
   rw[show([mk3 (led n g inv R 0),mk3 (led n g inv R 1)]:List D)=[led n g inv R 0,led n g inv R 1].map mk3 from rfl,m2]
   simp
  rw[z_ext,ex]
  simp only[List.getElem?_cons_zero,List.getElem?_cons_succ,List.length_map]
  rw[if_pos (YW hs)]
  rfl)
 rw[Z52]at hl
 simp only[Zcr,List.map_cons,List.map_nil,List.cons_append,List.nil_append,Nat.reduceSub,List.replicate_succ,List.replicate_zero]
 rw[Zy (τ':=[some (.sh (sqD n g)),some (.ac []),none,none]) (by simp)]
 rw[Zy (Xf (by simp[Y2 L h1 h9,fw]) hl)]
 simp
 rfl
theorem Z37{n:Nat}{p:Nat->Nat}{i:Nat}(h:i<n):cAt ((List.range n).map p) i=p i:=Z34 h
theorem Z38{n:Nat}{a b:List Nat}(ha:a.length=n)(hb:b.length=n)(h:∀i,i<n->cAt a i=cAt b i):a=b:=by
 rw[←W6 a,←W6 b,ha,hb]
 exact List.map_congr_left fun i hi=>h i (by simpa using hi)
theorem Z53{n:Nat}{g:Nat->Nat->Nat}{inv:Nat->Nat}(Lg:Lat n g)(I:Inv0 n g inv)(h1:1<=n){T:Tri}:T∈YT n g inv↔Val n T/\X7 n g T=true:=by
 unfold YT
 rw[List.mem_flatMap]
 constructor
 ·rintro⟨R,hR,h⟩
  rw[List.mem_filter]at h
  refine⟨?_,h.2⟩
  have hT:=h.1
  simp only[List.mem_cons,List.not_mem_nil,or_false]at hT
  rcases hT with rfl|rfl
  ·exact W7 hR 0
  ·exact W7 hR 1
 ·rintro⟨v,e⟩
  have ev:=evenB_iff.mp e
  refine⟨T.R,mem_ways.mpr ⟨v.lr,v.br⟩,List.mem_filter.mpr ⟨?_,e⟩⟩
  have eq:T=led n g inv T.R (cAt T.C 0):=by
   have eL:T.L=X1 n inv T.R (cAt T.C 0):=Z38 v.ll (by simp[X1]) fun l hl=>by
    obtain⟨i1,i2⟩:=I.h l hl
    have z:=ev (inv l) 0 i1 (by omega)
    rw[i2]at z
    unfold X1
    rw[Z37 hl]
    have:=v.l hl
    have:=v.r i1
    have:=v.c (i:=0) (by omega)
    omega
   have eC:T.C=(List.range n).map fun c=>(cAt T.R 0+cAt (X1 n inv T.R (cAt T.C 0)) (g 0 c))%2:=Z38 v.lc (by simp) fun c hc=>by
    have z:=ev 0 c (by omega) hc
    rw[Z37 hc,←eL]
    have:=v.c hc
    have:=v.r (i:=0) (by omega)
    have:=v.l (Lg.lt 0 c (by omega) hc)
    omega
   obtain⟨TR,TC,TL⟩:=T
   simp only at eL eC ⊢
   unfold led
   rw[←eL]at eC ⊢
   rw[←eC]
  have hc:=v.c (i:=0) (by omega)
  have c01:cAt T.C 0=0\/cAt T.C 0=1:=by omega
  rcases c01 with z|z
  ·rw[z]at eq
   have:T∈[led n g inv T.R 0,led n g inv T.R 1]:=by
    rw[List.mem_cons];exact .inl eq
   exact this
  ·rw[z]at eq
   have:T∈[led n g inv T.R 0,led n g inv T.R 1]:=by
    rw[List.mem_cons,List.mem_singleton];exact .inr eq
   exact this
theorem Zep{n:Nat}{g:Nat->Nat->Nat}{inv:Nat->Nat}(L:Lat n g)(I:Inv0 n g inv)(h1:1<=n)(h9:n<=9):(Z4t [sqD n g]=.ok .non/\∀T∈YT n g inv,Qk T=false)\/∃T∈YT n g inv,Qk T=true/\Z4t [sqD n g]=.ok (mk3 T):=by
 have fm:=Zaf L I h1 h9
 have m:ZO one [none] [0] (tst (ap Z0m (cs (vr 0) (nl)))) (vr 0) ((YT n g inv).map mk3)=.ok (((YT n g inv).filter Qk).map mk3):=XC mk3 Qk mk3 _ fun T _=>⟨by simp[Zeo],fun _=>by simp⟩
 have s1:asL (cmp (Y1 (ap Z4s (cs (vr 0) (nl)))) 1 [] [0] one (tst (ap Z0m (cs (vr 0) (nl)))) (vr 0)) (ZH [some (.sh (sqD n g)),none])=.ok (.lst (((YT n g inv).filter Qk).map mk3)):=by
  simp only[z_asL,z_cmpr,z_srcD,z_ap,z_cs,z_nl,z_vr,z_hide,z_hideN,Option.bind_some,z_hsh,List.getElem?_cons_zero,z_okb,fm,z_itsL,z_bro,List.replicate_succ,List.replicate_zero,List.map_nil,List.append_nil,m,z_nox]
 cases hf:(YT n g inv).filter Qk with
 |nil=>
  refine .inl ⟨Zo rfl ?_,fun T hT=> ?_⟩
  ·rw[hf]at s1
   simp only[Z9z,List.map_cons,List.map_nil,List.cons_append,List.nil_append,Nat.reduceSub,List.replicate_succ,List.replicate_zero]
   rw[Zy (ZS s1)]
   simp
  ·cases ho:Qk T with
   |false=>rfl
   |true=>
    have:T∈(YT n g inv).filter Qk:=List.mem_filter.mpr ⟨hT,ho⟩
    rw[hf]at this;cases this
 |cons T l=>
  have hT:T∈(YT n g inv).filter Qk:=by rw[hf];exact List.mem_cons_self
  rw[List.mem_filter]at hT
  refine .inr ⟨T,hT.1,hT.2,Zo rfl ?_⟩
  rw[hf]at s1
  simp only[Z9z,List.map_cons,List.map_nil,List.cons_append,List.nil_append,Nat.reduceSub,List.replicate_succ,List.replicate_zero]
  rw[Zy (ZS s1)]
  simp
theorem WW{α:Type}(f:Nat->Nat->α)(m:Nat)(hm:1<=m):∀n,(List.range n).flatMap (fun j=>(List.range m).map fun i=>f j i)=(List.range (n * m)).map fun c=>f (c / m) (c%m)
 |0=>by simp
 |n+1=>by
  have ih:=WW f m hm n
  rw[List.range_succ,List.flatMap_append,ih,Nat.succ_mul,List.range_add,List.map_append]
  congr 1
  simp only[List.flatMap_cons,List.flatMap_nil,List.append_nil,List.map_map]
  apply List.map_congr_left
  intro i hi
  have hi':i<m:=by simpa using hi
  show f n i=f ((n * m+i) / m) ((n * m+i)%m)
  rw[Nat.mul_comm n m,Nat.mul_add_div (by omega),Nat.mul_add_mod,Nat.div_eq_of_lt hi',Nat.mod_eq_of_lt hi',Nat.add_zero]
theorem Zdb{n m:Nat}{p q:Nat->Nat}(h1:1<=m)(hn:n<=9)(hm:m<=9):Z4q [Z8 n p,Z8 m q]=.ok (Z8 (n * m) (fun c=>p (c / m) * m+q (c%m))):=by
 refine Zo rfl ?_
 have e2:∀n p,Ya (Z8 n p)=.ok ((List.range n).map fun i=>D.int (p i:Int)):=fun _ _=>rfl
 obtain⟨τ',hl,o3,rfl⟩:=Qe (i:=3) (B:=QA 2 (asL (cmp (Y1 (vr 1)) 1 [3,1] [0] one (yes) (bi ZM (bi X0 (vr 1) (ap ZN (cs (vr 2) (nl)))) (vr 0)))))
  (fun acc τ=>∃o3,τ=[some (.sh (Z8 n p)),some (.sh (Z8 m q)),some (.ac acc),o3]) (fun i=>D.int (p i:Int)) (fun j=>(List.range m).map fun i=>D.int ((p j * m+q i:Nat):Int)) 9 81 (List.range n) []
  [some (.sh (Z8 n p)),some (.sh (Z8 m q)),some (.ac []),none] (fun j _=>by simpa using hm) (by simp;omega) ⟨none,rfl⟩ (by
  rintro j hj acc τ ha ⟨o3,rfl⟩
  refine⟨_,?_,some (.sh (.int (p j:Int))),rfl⟩
  simp[e2]
  rw[Zn (fun i=>D.int (q i:Int)) (fun i=>D.int ((p j * m+q i:Nat):Int)) (List.range m) (fun i hi=>by
   simp[WL (p j:Int) (m:Int) (by omega)])]
  have:acc.length+m<=1000000:=by omega
  simp[this])
 rw[WW (fun j i=>D.int ((p j * m+q i:Nat):Int)) m h1 n]at hl
 simp[e2]
 rw[hl]
 simp[Z8]
def inG(m:Nat)(g h:Nat->Nat->Nat):Nat->Nat->Nat:=fun r c=>g (r / m) (c / m) * m+h (r%m) (c%m)
theorem W8{n m:Nat}{g h:Nat->Nat->Nat}(Lg:Lat n g)(Lh:Lat m h)(n1:1<=n)(m1:1<=m)(hn:n<=9)(hm:m<=9):J3 [sqD n g,sqD m h]=if 9<n * m then .ex 7 else .ok (sqD (n * m) (inG m g h)):=by
 refine Zo rfl ?_
 have e2:∀n g,Ya (sqD n g)=.ok ((List.range n).map fun r=>Z8 n (g r)):=fun _ _=>rfl
 have em:X0 (.int (n:Int)) (.int (m:Int))=.ok (.int ((n * m:Nat):Int)):=by rw[WL _ _ (by omega)];simp
 by_cases h9:9<n * m
 ·have:(9:Int)<((n * m:Nat):Int):=by omega
  simp only[h9,if_true]
  simp[Y2 Lg n1 hn,Y2 Lh m1 hm,em,this,-Int.natCast_mul]
 ·obtain⟨τ',hl,o3,rfl⟩:=Qe (i:=3) (B:=QA 2 (asL (cmp (Y1 (vr 1)) 1 [3] [0] one (yes) (ap Z4q (cs (vr 1) (cs (vr 0) (nl)))))))
   (fun acc τ=>∃o3,τ=[some (.sh (sqD n g)),some (.sh (sqD m h)),some (.ac acc),o3]) (fun r=>Z8 n (g r)) (fun j=>(List.range m).map fun i=>Z8 (n * m) (fun c=>g j (c / m) * m+h i (c%m))) 9 81 (List.range n) []
   [some (.sh (sqD n g)),some (.sh (sqD m h)),some (.ac []),none] (fun j _=>by simpa using hm) (by simp;omega) ⟨none,rfl⟩ (by
   rintro j hj acc τ ha ⟨o3,rfl⟩
   refine⟨_,?_,some (.sh (Z8 n (g j))),rfl⟩
   simp[e2]
   rw[Zn (fun r=>Z8 m (h r)) (fun i=>Z8 (n * m) (fun c=>g j (c / m) * m+h i (c%m))) (List.range m) (fun i hi=>by
    simp[Zdb (p:=g j) (q:=h i) m1 hn hm])]
   have:acc.length+m<=1000000:=by omega
   simp[this])
  have h9':¬(9:Int)<((n * m:Nat):Int):=by omega
  simp only[h9,if_false]
  rw[WW (fun j i=>Z8 (n * m) (fun c=>g j (c / m) * m+h i (c%m))) m m1 n]at hl
  simp[Y2 Lg n1 hn,Y2 Lh m1 hm,em,h9',e2,-Int.natCast_mul]
  rw[hl]
  rfl
theorem Xh{m a b x y:Nat}(hx:x<m)(hy:y<m)(e:a * m+x=b * m+y):a=b/\x=y:=by
 have hm:0<m:=by omega
 have e1:(m * a+x) / m=(m * b+y) / m:=by rw[Nat.mul_comm m a,Nat.mul_comm m b,e]
 rw[Nat.mul_add_div hm,Nat.mul_add_div hm,Nat.div_eq_of_lt hx,Nat.div_eq_of_lt hy]at e1
 have:a=b:=by simpa using e1
 subst this
 exact⟨rfl,by omega⟩
theorem Z39{m c d:Nat}(h1:c / m=d / m)(h2:c%m=d%m):c=d:=by
 rw[←Nat.div_add_mod c m,←Nat.div_add_mod d m,h1,h2]
theorem Ug{n m:Nat}{g h:Nat->Nat->Nat}(Lg:Lat n g)(Lh:Lat m h)(m1:1<=m):Lat (n * m) (inG m g h):=by
 have dv:∀{r},r<n * m->r / m<n:=fun{r} hr=>Nat.div_lt_of_lt_mul (by rw[Nat.mul_comm];exact hr)
 have md:∀r,r%m<m:=fun r=>Nat.mod_lt _ m1
 refine⟨fun r c hr hc=> ?_,fun r c d hr hc hd e=> ?_,fun r s c hr hs hc e=> ?_⟩
 ·have a:=Lg.lt _ _ (dv hr) (dv hc)
  have b:=Lh.lt _ _ (md r) (md c)
  have z:(g (r / m) (c / m)+1) * m<=n * m:=Nat.mul_le_mul_right m a
  rw[Nat.succ_mul]at z
  show g (r / m) (c / m) * m+h (r%m) (c%m)<n * m
  omega
 ·obtain⟨e1,e2⟩:=Xh (Lh.lt _ _ (md r) (md c)) (Lh.lt _ _ (md r) (md d)) e
  exact Z39 (Lg.row _ _ _ (dv hr) (dv hc) (dv hd) e1) (Lh.row _ _ _ (md r) (md c) (md d) e2)
 ·obtain⟨e1,e2⟩:=Xh (Lh.lt _ _ (md r) (md c)) (Lh.lt _ _ (md s) (md c)) e
  exact Z39 (Lg.col _ _ _ (dv hr) (dv hs) (dv hc) e1) (Lh.col _ _ _ (md r) (md s) (md c) e2)
end L3
namespace L3
open PySem L2
@[simp] theorem z_hdc(k:KVs):Sl.h (.dc k)=none:=rfl
@[simp] theorem z_htk(k:List Int):Sl.h (.tk k)=some (.tup (k.map .int)):=rfl
@[simp] theorem z_ddc(k:KVs):Sl.d (.dc k)=.dct k:=rfl
@[simp] theorem z_dtk(k:List Int):Sl.d (.tk k)=.tup (k.map .int):=rfl
@[simp] theorem z_newT(i:Nat)(τ:Tau):Z75 i τ=.nx (τ.set i (some (.dc []))):=rfl
theorem Zag{j:Nat}{m:Rho->R (List D)}{τ:Tau}{k:List Int}(h:m (ZH τ)=.ok (k.map .int))(hl:k.length<=1000):Vs j m τ=.nx (τ.set j (some (.tk k))):=by
 unfold Vs
 rw[h]
 dsimp only
 rw[Y8]
 dsimp only
 rw[if_pos (YW (by omega))]
theorem Zah{i j:Nat}{m:Rho->R D}{τ:Tau}{kvs:KVs}{k t:List Int}(h1:τ[i]? =some (some (.dc kvs)))(h2:τ[j]? =some (some (.tk k)))(h3:m (ZH τ)=.ok (Y6 t))(hs:Xd kvs=true):Vt i j m τ=.nx (τ.set i (some (.dc (YG kvs k t)))):=by
 unfold Vt
 rw[h1,h2,h3]
 dsimp only
 have:Z76 (Y6 t)=some t:=Y8 t
 rw[this]
 dsimp only
 rw[if_pos hs]
def pr2(a b:Nat):List Int:=[(a:Int),(b:Int)]
def WX(g h:Nat->Nat->Nat)(kvs:KVs)(p:Nat×Nat):KVs:=YG kvs (pr2 (g p.1 p.2) (h p.1 p.2)) (pr2 p.1 p.2)
def Vc(n r:Nat):List (Nat×Nat):=(List.range n).map fun c=>(r,c)
def plc(n:Nat):List (Nat×Nat):=(List.range n).flatMap (Vc n)
def YM(n:Nat)(g h:Nat->Nat->Nat):KVs:=(plc n).foldl (WX g h) []
def Few(m:Nat)(kvs:KVs):Prop:=kvs.length<=m/\∀p∈kvs,p.2.length<=m
theorem Z3a{k t:List Int}{m:Nat}:∀{kvs:KVs},Few m kvs->Few (m+1) (YG kvs k t)
 | [],_=>⟨by simp[YG],fun p hp=>by cases List.mem_singleton.mp hp;simp⟩
 |q::r,⟨h1,h2⟩=>by
  unfold YG
  split
  ·refine⟨by simp at h1 ⊢;omega,fun p hp=> ?_⟩
   rcases List.mem_cons.mp hp with rfl|hp
   ·have:=h2 q List.mem_cons_self
    simp;omega
   ·have:=h2 p (List.mem_cons_of_mem _ hp)
    omega
  ·have ih:=Z3a (k:=k) (t:=t) (m:=m) (kvs:=r) ⟨by simp at h1;omega,fun p hp=>h2 p (List.mem_cons_of_mem _ hp)⟩
   have len:∀kvs:KVs,(YG kvs k t).length<=kvs.length+1:=fun kvs=>by
    induction kvs with
    |nil=>simp[YG]
    |cons a b ih=>unfold YG;split<;>simp;omega
   have:=len r
   refine⟨by simp at h1 ⊢;omega,fun p hp=> ?_⟩
   rcases List.mem_cons.mp hp with rfl|hp
   ·have:=h2 p List.mem_cons_self
    omega
   ·exact ih.2 p hp
theorem Ql(g h:Nat->Nat->Nat):∀(l:List (Nat×Nat)) {m:Nat} {kvs:KVs},Few m kvs->Few (m+l.length) (l.foldl (WX g h) kvs)
 | [],m,kvs,f=>f
 |p::l,m,kvs,f=>by
  have:=Ql g h l (Z3a (k:=pr2 (g p.1 p.2) (h p.1 p.2)) (t:=pr2 p.1 p.2) f)
  rw[List.length_cons,show m+(l.length+1)=m+1+l.length by omega]
  exact this
theorem Z54{m:Nat}{kvs:KVs}(hm:m<1000)(f:Few m kvs):Xd kvs=true:=by
 unfold Xd
 rw[Bool.and_eq_true]
 refine⟨decide_eq_true (by have:=f.1;omega),List.all_eq_true.mpr fun p hp=>decide_eq_true ?_⟩
 have:=f.2 p hp
 omega
abbrev T04(n:Nat)(g h:Nat->Nat->Nat)(kvs:KVs)(o3 o4 o5:Option Sl):Tau:=[some (.sh (sqD n g)),some (.sh (sqD n h)),some (.dc kvs),o3,o4,o5]
abbrev B04:Tau->Fl:=(sq (Vs 5 (cs (bi ixD (bi ixD (vr 0) (vr 3)) (vr 4)) (cs (bi ixD (bi ixD (vr 1) (vr 3)) (vr 4)) (nl))))
 (Vt 2 5 (tpl (cs (vr 3) (cs (vr 4) (nl))))))
theorem Zdc{n:Nat}{g h:Nat->Nat->Nat}{r c:Nat}(hr:r<n)(hc:c<n){kvs:KVs}(hs:Xd kvs=true)(o5:Option Sl):B04 (T04 n g h kvs (some (.sh (.int (r:Int)))) (some (.sh (.int (c:Int)))) o5)=.nx (T04 n g h (WX g h kvs (r,c)) (some (.sh (.int (r:Int)))) (some (.sh (.int (c:Int)))) (some (.tk (pr2 (g r c) (h r c))))):=by
 refine(Zy (Zag (k:=pr2 (g r c) (h r c)) ?_ (by simp[pr2]))).trans ?_
 ·simp[z_sqr hr,z_row hc,pr2]
 ·exact Zah (kvs:=kvs) (k:=pr2 (g r c) (h r c)) (t:=pr2 r c) rfl rfl (by simp[Y6,pr2,YW (show 2<=1000000 by decide)]) hs
theorem Jm{n:Nat}{g h:Nat->Nat->Nat}(h9:n<=9):∃o3 o4 o5,ZP [3] one (Yj (apL rg1 (cs (ap ZN (cs (vr 0) (nl))) (nl))) [4] one B04) ((List.range n).map fun(j:Nat)=>D.int (j:Int)) (T04 n g h [] none none none)=.nx (T04 n g h (YM n g h) o3 o4 o5):=by
 have len:∀r,((List.range r).flatMap (Vc n)).length=r * n:=fun r=>by
  induction r with
  |zero=>simp
  |succ r ih=>rw[List.range_succ,List.flatMap_append,List.length_append,ih,Nat.succ_mul];simp[Vc]
 obtain⟨τ',e,o3,o4,o5,rfl⟩:=WN (i:=3) (B:=Yj (apL rg1 (cs (ap ZN (cs (vr 0) (nl))) (nl))) [4] one B04) (fun r τ=>∃o3 o4 o5,τ=T04 n g h (((List.range r).flatMap (Vc n)).foldl (WX g h) []) o3 o4 o5) n (T04 n g h [] none none none) ⟨none,none,none,rfl⟩ (by
  rintro r _ hr ⟨o3,o4,o5,rfl⟩
  have f0:=Ql g h ((List.range r).flatMap (Vc n)) (m:=0) (kvs:=[]) ⟨Nat.zero_le _,fun p hp=>by cases hp⟩
  rw[len r]at f0
  generalize hk:((List.range r).flatMap (Vc n)).foldl (WX g h) []=kvs at f0
  obtain⟨τ',e,o4',o5',rfl⟩:=WN (i:=4) (B:=B04) (fun c τ=>∃o4 o5,τ=T04 n g h (((List.range c).map fun c=>(r,c)).foldl (WX g h) kvs) (some (.sh (.int (r:Int)))) o4 o5) n (T04 n g h kvs (some (.sh (.int (r:Int)))) o4 o5) ⟨_,_,rfl⟩ (by
   rintro c _ hc ⟨o4,o5,rfl⟩
   have f1:=Ql g h ((List.range c).map fun c=>(r,c)) f0
   refine⟨_,Zdc hr hc (Z54 ?_ f1) o5,some (.sh (.int (c:Int))),some (.tk (pr2 (g r c) (h r c))),?_⟩
   ·have:r * n<=8 * 9:=Nat.mul_le_mul (by omega) h9
    simp;omega
   ·rw[List.range_succ,List.map_append,List.foldl_append]
    rfl)
  refine⟨_,Xf (ds:=(List.range n).map fun(j:Nat)=>D.int (j:Int)) ?_ e,some (.sh (.int (r:Int))),o4',o5',?_⟩
  ·simp[YS n (by omega)]
  ·rw[List.range_succ,List.flatMap_append,List.foldl_append,hk]
   simp[Vc])
 exact⟨o3,o4,o5,e⟩
theorem Jn{n:Nat}{g h:Nat->Nat->Nat}(h9:n<=9):Z7j [sqD n g,sqD n h]=.ok (.dct (YM n g h)):=by
 obtain⟨o3,o4,o5,e⟩:=Jm (n:=n) (g:=g) (h:=h) h9
 refine Vy rfl ?_
 refine(Zy (z_newT 2 _)).trans ((Zy (Xf (ds:=(List.range n).map fun(j:Nat)=>D.int (j:Int)) ?_ e)).trans (QI ?_))
 ·simp[YS n (by omega)]
 ·simp
def clD(k:List Int)(ts:List (List Int)):D:=.tup [Y6 k,Y6 (ts.getD 0 []),Y6 (ts.getD 1 [])]
def cls(kvs:KVs):List (List Int)->Option D
 | []=>none
 |k::ks=>match ZG kvs k with
  |some ts=>if 1<ts.length then some (clD k ts)else cls kvs ks
  |none=>cls kvs ks
theorem Z3b{i:Nat}{B:Tau->Fl}{kvs:KVs}(P:Tau->Prop)(hit:∀k ts τ,ZG kvs k=some ts->1<ts.length->P τ->B (τ.set i (some (.sh (Y6 k))))=.rt (clD k ts))
  (miss:∀k ts τ,ZG kvs k=some ts->¬1<ts.length->P τ->∃τ',B (τ.set i (some (.sh (Y6 k))))=.nx τ'/\P τ'):∀(ks:List (List Int)) (τ:Tau),P τ->(∀k∈ks,∃ts,ZG kvs k=some ts)->
  (∃d,cls kvs ks=some d/\ZP [i] one B (ks.map Y6) τ=.rt d)\/(cls kvs ks=none/\∃τ',ZP [i] one B (ks.map Y6) τ=.nx τ'/\P τ')
 | [],τ,h,_=>.inr ⟨rfl,τ,rfl,h⟩
 |k::ks,τ,h,hk=>by
  obtain⟨ts,e⟩:=hk k List.mem_cons_self
  rw[List.map_cons]
  unfold cls
  rw[e]
  dsimp only
  by_cases hl:1<ts.length
  ·rw[if_pos hl]
   refine .inl ⟨_,rfl,?_⟩
   have:=hit k ts τ e hl h
   show(match B (τ.set i (some (.sh (Y6 k))))with
    | .nx τ'=>ZP [i] one B (ks.map Y6) τ'
    | .ct τ'=>ZP [i] one B (ks.map Y6) τ'
    | .bk τ'=>.nx τ'
    | .rt d=>.rt d
    | .ex c τ'=>.ex c τ'
    | .bad=>.bad)=_
   rw[this]
  ·rw[if_neg hl]
   obtain⟨τ',e1,p1⟩:=miss k ts τ e hl h
   have ih:=Z3b P hit miss ks τ' p1 fun x hx=>hk x (List.mem_cons_of_mem _ hx)
   have:ZP [i] one B (Y6 k::ks.map Y6) τ=ZP [i] one B (ks.map Y6) τ':=by
    show(match B (τ.set i (some (.sh (Y6 k))))with
     | .nx τ'=>ZP [i] one B (ks.map Y6) τ'
     | .ct τ'=>ZP [i] one B (ks.map Y6) τ'
     | .bk τ'=>.nx τ'
     | .rt d=>.rt d
     | .ex c τ'=>.ex c τ'
     | .bad=>.bad)=_
    rw[e1]
   rw[this]
   exact ih
def Qm(kvs:KVs):List (List Int):=if kvs.length<2 then kvs.map (·.1)else(YK (kvs.map (·.1))).map fun i=>(kvs.map (·.1)).getD i []
theorem QM:∀(kvs:KVs),(∀p∈kvs,p.1≠[])->Xj (Yb kvs)=some (kvs.map (·.1))
 | [],_=>rfl
 |p::r,h=>by
  have ih:=QM r fun q hq=>h q (List.mem_cons_of_mem _ hq)
  have hp:=h p List.mem_cons_self
  obtain⟨k,ts⟩:=p
  cases k with
  |nil=>exact absurd rfl hp
  |cons a k=>
   show(match ZF ((a::k).map .int),Xj (Yb r)with
    |some (k::ks),some r=>some ((k::ks)::r)
    |_,_=>none)=_
   rw[Y8,ih]
   rfl
theorem Z88{kvs:KVs}(h:kvs.length<64)(hk:∀p∈kvs,p.1≠[]):Z0b [.dct kvs]=.ok ((Qm kvs).map Y6):=by
 show Vr kvs=_
 unfold Vr Qm
 rw[if_pos h]
 by_cases h2:kvs.length<2
 ·rw[if_pos h2,if_pos h2,List.map_map]
  rfl
 ·rw[if_neg h2,if_neg h2,QM kvs hk]
  dsimp only
  rw[List.map_map]
  congr 1
  refine List.map_congr_left fun i hi=> ?_
  have:=Xx i hi
  rw[List.length_map]at this
  simp[Yb,this]
theorem Jo{kvs:KVs}{k:List Int}(h:k∈kvs.map (·.1)):∃ts,ZG kvs k=some ts:=by
 cases e:ZG kvs k with
 |some ts=>exact⟨ts,rfl⟩
 |none=>exact absurd h (Xz kvs e)
theorem Z55{kvs:KVs}{k:List Int}(h:k∈Qm kvs):∃ts,ZG kvs k=some ts:=by
 refine Jo ?_
 unfold Qm at h
 split at h
 ·exact h
 ·obtain⟨i,hi,rfl⟩:=List.mem_map.mp h
  have:=Xx i hi
  have e:(kvs.map (·.1)).getD i []=(kvs.map (·.1))[i]'this:=by rw[List.getD_eq_getElem?_getD,List.getElem?_eq_getElem this];rfl
  rw[e]
  exact List.getElem_mem _
theorem QN(g h:Nat->Nat->Nat):∀(l:List (Nat×Nat)) (kvs:KVs),(∀p∈kvs,p.1≠[])->∀p∈l.foldl (WX g h) kvs,p.1≠[]
 | [],kvs,hk=>hk
 |q::l,kvs,hk=>QN g h l _ fun p hp e=>by
  have m:p.1∈(WX g h kvs q).map (·.1):=List.mem_map.mpr ⟨p,hp,rfl⟩
  unfold WX at m
  rw[QF]at m
  have:p.1∈kvs.map (·.1)\/p.1=pr2 (g q.1 q.2) (h q.1 q.2):=by
   split at m
   ·exact .inl m
   ·rcases List.mem_append.mp m with m|m
    ·exact .inl m
    ·exact .inr (List.mem_singleton.mp m)
  rcases this with m|m
  ·obtain⟨x,hx,ex⟩:=List.mem_map.mp m
   exact hk x hx (by rw[ex];exact e)
  ·rw[e]at m;cases m
theorem Zai(n:Nat):(plc n).length=n * n:=by
 have:∀r,((List.range r).flatMap (Vc n)).length=r * n:=fun r=>by
  induction r with
  |zero=>simp
  |succ r ih=>rw[List.range_succ,List.flatMap_append,List.length_append,ih,Nat.succ_mul];simp[Vc]
 exact this n
theorem Jp(n:Nat)(g h:Nat->Nat->Nat):Few (n * n) (YM n g h):=by
 have:=Ql g h (plc n) (m:=0) (kvs:=[]) ⟨Nat.zero_le _,fun p hp=>by cases hp⟩
 rw[Zai,Nat.zero_add]at this
 exact this
theorem Z89{n:Nat}(g h:Nat->Nat->Nat)(hf:(YM n g h).length<64):Z0b [.dct (YM n g h)]=.ok ((Qm (YM n g h)).map Y6):=by
 exact Z88 hf (QN g h _ _ fun p hp=>by cases hp)
theorem Zaj{n:Nat}(h7:n<=7)(g h:Nat->Nat->Nat):(YM n g h).length<64:=by
 have a:=(Jp n g h).1
 have:n * n<=7 * 7:=Nat.mul_le_mul h7 h7
 omega
theorem Z3c{c:Tau->Bool}{M N:Tau->Fl}{τ:Tau}(h:c τ=true):Z7c c M N τ=M τ:=if_pos h
theorem Zdd{c:Tau->Bool}{M N:Tau->Fl}{τ:Tau}(h:c τ=false):Z7c c M N τ=N τ:=if_neg (by rw[h];decide)
def clN(n:Nat)(g h:Nat->Nat->Nat):D:=(cls (YM n g h) (Qm (YM n g h))).getD .non
theorem Z3d{kvs:KVs}{k:List Int}{ts:List (List Int)}(h:ZG kvs k=some ts):dgD (.dct kvs) (Y6 k)=.ok (lsI ts):=by
 show(match ZF (k.map .int)with
  |some k=>match ZG kvs k with
   |some ts=>R.ok (lsI ts)
   |none=>.bad
  |none=>.bad)=_
 rw[Y8]
 dsimp only
 rw[h]
theorem Z3e(ts:List (List Int)):ZN [lsI ts]=.ok (.int (ts.length:Int)):=by simp[lsI]
theorem Z8a{ts:List (List Int)}{i:Nat}(h:i<ts.length):ixD (lsI ts) (.int (i:Int))=.ok (Y6 (ts.getD i [])):=by
 unfold lsI
 refine Xr _ _ _ ?_
 rw[List.getElem?_map,List.getElem?_eq_getElem h,List.getD_eq_getElem?_getD,List.getElem?_eq_getElem h]
 rfl
theorem VM{n:Nat}{g h:Nat->Nat->Nat}(L:Lat n g)(M:Lat n h)(h1:1<=n)(h9:n<=9):Z7i [sqD n g,sqD n h]=.ok .non:=by
 refine Zo rfl ?_
 simp[Y2 L h1 h9,Y2 M h1 h9]
abbrev C04(s:Nat):Tau->Fl:=(sIf (tst (bi (Xk fun i j=>decide (j<i)) (ap ZN (cs (bi dgD (vr 2) (vr s)) (nl))) (cn (.int 1)))) (Zr (tpl (cs (vr s) (cs (bi ixD (bi dgD (vr 2) (vr s)) (cn (.int 0))) (cs (bi ixD (bi dgD (vr 2) (vr s)) (cn (.int 1))) (nl)))))) (sk))
theorem Zak{kvs:KVs}{k:List Int}{ts:List (List Int)}{s:Nat}{τ:Tau}(h2:(Zz τ)[2]? =some (some (.dct kvs)))(hs:(Zz τ)[s]? =some (some (Y6 k)))(e:ZG kvs k=some ts)(hl:1<ts.length):C04 s τ=.rt (clD k ts):=by
 have d:=Z3d e
 have i0:=Z8a (ts:=ts) (i:=0) (by omega)
 have i1:=Z8a (ts:=ts) (i:=1) hl
 have hl':(1:Int)<(ts.length:Int):=by omega
 refine(WP ?_).trans (QI ?_)
 ·simp[h2,hs,d,Z3e,hl']
 ·simp at i0 i1
  simp[h2,hs,d,i0,i1,clD,YW (show 3<=1000000 by decide)]
theorem Jq{kvs:KVs}{k:List Int}{ts:List (List Int)}{s:Nat}{τ:Tau}(h2:(Zz τ)[2]? =some (some (.dct kvs)))(hs:(Zz τ)[s]? =some (some (Y6 k)))(e:ZG kvs k=some ts)(hl:¬1<ts.length):C04 s τ=.nx τ:=by
 have d:=Z3d e
 have hl':¬(1:Int)<(ts.length:Int):=by omega
 exact(X5 (by simp[h2,hs,d,Z3e,hl'])).trans rfl
theorem QO{n:Nat}{g h:Nat->Nat->Nat}(L:Lat n g)(M:Lat n h)(h1:1<=n)(h9:n<=9)(hf:(YM n g h).length<64):Z4m [sqD n g,sqD n h]=.ok (clN n g h):=by
 have fp:=Jn (n:=n) (g:=g) (h:=h) (by omega)
 have sk:=Z89 g h hf
 have os:=VM L M h1 (by omega:n<=9)
 refine Vy rfl ?_
 refine(Zy (M:=Xi _) (τ':=[some (.sh (sqD n g)),some (.sh (sqD n h)),none,none]) ?_).trans ((Zy (ZS (d:=.dct (YM n g h)) ?_)).trans ?_)
 ·simp[os]
 ·simp[fp]
 unfold clN
 generalize YM n g h=kvs at sk fp hf
 have fw:few 2 [some (.sh (sqD n g)),some (.sh (sqD n h)),some (.sh (.dct kvs)),none]=true:=decide_eq_true hf
 rcases Z3b (i:=3) (B:=C04 3) (kvs:=kvs) (fun τ=>∃o,τ=[some (.sh (sqD n g)),some (.sh (sqD n h)),some (.sh (.dct kvs)),o]) (fun k ts τ e hl ⟨o,ho⟩=>by
  subst ho
  exact Zak (kvs:=kvs) (k:=k) rfl rfl e hl) (fun k ts τ e hl ⟨o,ho⟩=>by
  subst ho
  exact⟨_,Jq (kvs:=kvs) (k:=k) rfl rfl e hl,_,rfl⟩) (Qm kvs) [some (.sh (sqD n g)),some (.sh (sqD n h)),some (.sh (.dct kvs)),none] ⟨none,rfl⟩ (fun k hk=>Z55 hk)with⟨d,e,lp⟩|⟨e,τ',lp,o,rfl⟩
 ·rw[e]
  exact Z7n ((Z3c fw).trans (Xf (ds:=(Qm kvs).map Y6) (by simp[sk]) lp))
 ·rw[e]
  exact(Zy ((Z3c fw).trans (Xf (ds:=(Qm kvs).map Y6) (by simp[sk]) lp))).trans rfl
theorem Jr{k t:List Int}:∀{kvs:KVs},k∉kvs.map (·.1)->YG kvs k t=kvs++[(k,[t])]
 | [],_=>rfl
 |p::r,h=>by
  unfold YG
  rw[if_neg (fun e=>h (by rw[←e];exact List.mem_cons_self)),Jr (fun z=>h (List.mem_cons_of_mem _ z)),List.cons_append]
theorem WY(g h:Nat->Nat->Nat):∀(l:List (Nat×Nat)) (kvs:KVs),(kvs.map (·.1)++l.map fun p=>pr2 (g p.1 p.2) (h p.1 p.2)).Nodup->l.foldl (WX g h) kvs=kvs++l.map fun p=>(pr2 (g p.1 p.2) (h p.1 p.2),[pr2 p.1 p.2])
 | [],kvs,_=>by simp
 |p::l,kvs,nd=>by
  have hk:pr2 (g p.1 p.2) (h p.1 p.2)∉kvs.map (·.1):=fun z=>by
   rw[List.nodup_append]at nd
   exact nd.2.2 _ z _ List.mem_cons_self rfl
  rw[List.foldl_cons]
  have e:WX g h kvs p=kvs++[(pr2 (g p.1 p.2) (h p.1 p.2),[pr2 p.1 p.2])]:=Jr hk
  rw[e,WY g h l _ (by simpa using nd)]
  simp
theorem WZ{kvs:KVs}(h:∀p∈kvs,p.2.length<=1):∀ks:List (List Int),cls kvs ks=none
 | []=>rfl
 |k::ks=>by
  unfold cls
  cases e:ZG kvs k with
  |none=>exact WZ h ks
  |some ts=>
   dsimp only
   obtain⟨p,hp,rfl⟩:=Option.map_eq_some_iff.mp e
   have:=h p (List.mem_of_find?_eq_some hp)
   rw[if_neg (by omega)]
   exact WZ h ks
theorem W9{n:Nat}{p:Nat×Nat}(h:p∈plc n):p.1<n/\p.2<n:=by
 obtain⟨r,hr,h⟩:=List.mem_flatMap.mp h
 obtain⟨c,hc,rfl⟩:=List.mem_map.mp h
 exact⟨by simpa using hr,by simpa using hc⟩
theorem Z8b(n:Nat):(plc n).Nodup:=by
 unfold plc List.Nodup
 rw[List.pairwise_flatMap]
 refine⟨fun r _=> ?_,?_⟩
 ·unfold Vc
  rw[List.pairwise_map]
  exact(List.nodup_range (n:=n)).imp fun{a b} ne e=>ne (Prod.mk.inj e).2
 ·refine(List.nodup_range (n:=n)).imp fun{a b} ne x hx y hy e=> ?_
  obtain⟨c,_,rfl⟩:=List.mem_map.mp hx
  obtain⟨d,_,rfl⟩:=List.mem_map.mp hy
  exact ne (Prod.mk.inj e).1
def Mts(n:Nat)(g h:Nat->Nat->Nat):Prop:=∀r c s d,r<n->c<n->s<n->d<n->g r c=g s d->h r c=h s d->r=s/\c=d
theorem V0{n:Nat}{g h:Nat->Nat->Nat}(m:Mts n g h):clN n g h=.non:=by
 unfold clN
 have nd:((plc n).map fun p=>pr2 (g p.1 p.2) (h p.1 p.2)).Nodup:=by
  refine List.pairwise_map.mpr ?_
  refine(List.Pairwise.and_mem.mp (Z8b n)).imp ?_
  rintro a b ⟨ha,hb,ne⟩ e
  obtain⟨a1,a2⟩:=W9 ha
  obtain⟨b1,b2⟩:=W9 hb
  unfold pr2 at e
  have e1:(g a.1 a.2:Int)=(g b.1 b.2:Int):=(List.cons.inj e).1
  have e2:(h a.1 a.2:Int)=(h b.1 b.2:Int):=(List.cons.inj (List.cons.inj e).2).1
  obtain⟨q1,q2⟩:=m _ _ _ _ a1 a2 b1 b2 (by omega) (by omega)
  exact ne (Prod.ext q1 q2)
 have e:YM n g h=(plc n).map fun p=>(pr2 (g p.1 p.2) (h p.1 p.2),[pr2 p.1 p.2]):=by
  unfold YM
  rw[WY g h (plc n) [] (by simpa using nd)]
  rfl
 rw[WZ]
 ·rfl
 ·intro p hp
  rw[e]at hp
  obtain⟨q,_,rfl⟩:=List.mem_map.mp hp
  simp
def mt(P:List (List Nat))(r c:Nat):Nat:=(P.map fun d=>cAt d r).idxOf c
theorem idx_int(l:List Nat)(x:Nat):(l.map fun(y:Nat)=>(y:Int)).idxOf (x:Int)=l.idxOf x:=by
 induction l with
 |nil=>rfl
 |cons y l ih=>
  rw[List.map_cons,List.idxOf_cons,List.idxOf_cons,ih]
  by_cases h:y=x
  ·simp[h]
  ·have h':¬(y:Int)=(x:Int):=by omega
   rw[beq_eq_false_iff_ne.mpr h,beq_eq_false_iff_ne.mpr h']
theorem Zde{n r:Nat}(hr:r<n)(h9:n<=9){P:List (List Nat)}(hP:Len n P)(hl:P.length=n)(all:∀x,x<n->x∈P.map fun c=>cAt c r):Z4j [.lst (P.map ct), .int (r:Int)]=.ok (Z8 n (mt P r)):=by
 have col:U2 [.lst (P.map ct), .int (r:Int)]=.ok (ct (P.map fun c=>cAt c r)):=by
  refine Zo rfl ?_
  simp
  rw[Zn ct (fun c=>D.int (cAt c r:Int)) P (fun c hc=>by simp[VL (c:=c) (i:=r) (by rw[hP c hc];exact hr)])]
  simp[ct,ZI]
 have rr:rg1 [.int (n:Int)]=.ok ((List.range n).map fun(i:Nat)=>D.int (i:Int)):=YS n (by omega)
 have hLl:(P.map fun c=>cAt c r).length=n:=by simpa using hl
 have m:ZO one [none,some (ct (P.map fun c=>cAt c r))] [0] yes (bn Yy (vr 1) (vr 0)) ((List.range n).map fun(i:Nat)=>D.int (i:Int))=.ok ((List.range n).map fun(x:Nat)=>D.int (mt P r x:Int)):=
  Zn (fun(i:Nat)=>D.int (i:Int)) (fun(x:Nat)=>D.int (mt P r x:Int)) (List.range n) (fun x hx=>by
   have:=Z83 (all x (by simpa using hx))
   rw[idx_int]at this
   simp[this,mt])
 refine Zo rfl ?_
 simp[col,WU,hLl,rr]
 rw[m]
 simp[Z8]
theorem Zdf{d:List Nat}:(List.range d.length).map (cAt d)=d:=by
 apply List.ext_getElem
 ·simp
 ·intro i h1 h2
  simp at h1
  simp[cAt,h1]
section
variable{n:Nat}{g:Nat->Nat->Nat}{P:List (List Nat)}(h1:1<=n)(C:Comp n n 0 (Xs n g) P)
include C
theorem Js:Len n P:=fun c hc=>Z36 c (C.mem c hc)
theorem VN{r:Nat}(hr:r<n):∀x,x<n->x∈P.map fun c=>cAt c r:=Z84 hr (Js C) C.len C.ap fun c hc x hx=>(mem_all.mp (C.mem c hc)).2.lt x hx
theorem V3{r c:Nat}(hr:r<n)(hc:c<n):mt P r c<n/\∃d,P[mt P r c]? =some d/\cAt d r=c:=by
 have h:=VN C hr c hc
 have a:=List.idxOf_lt_length_of_mem h
 have b:=List.getElem_idxOf a
 rw[List.length_map]at a
 have hn:mt P r c<n:=by rw[←C.len];exact a
 refine⟨hn,P[mt P r c]'a,List.getElem?_eq_getElem a,?_⟩
 rw[List.getElem_map]at b
 exact b
theorem Zdg(L:Lat n g):Lat n (mt P):=by
 refine⟨fun r c hr hc=>(V3 C hr hc).1,fun r c d hr hc hd e=> ?_,fun r s c hr hs hc e=> ?_⟩
 ·obtain⟨_,x,hx,ex⟩:=V3 C hr hc
  obtain⟨_,y,hy,ey⟩:=V3 C hr hd
  rw[e,hy]at hx
  cases hx
  rw[←ex,←ey]
 ·obtain⟨_,x,hx,ex⟩:=V3 C hr hc
  obtain⟨_,y,hy,ey⟩:=V3 C hs hc
  rw[e,hy]at hx
  have exy:y=x:=Option.some.inj hx
  subst exy
  have m:=C.mem _ (List.mem_of_getElem? hy)
  obtain⟨hl,G⟩:=mem_all.mp m
  have nd:((List.range n).map (cAt y)).Nodup:=by
   have q:=G.nd
   rw[←Zdf (d:=y),hl]at q
   exact q
  exact Uf nd hr hs (ex.trans ey.symm)
theorem Zdh:Mts n g (mt P):=by
 intro r c s d hr hc hs hd e1 e2
 obtain⟨_,x,hx,ex⟩:=V3 C hr hc
 obtain⟨_,y,hy,ey⟩:=V3 C hs hd
 rw[e2,hy]at hx
 have exy:y=x:=Option.some.inj hx
 subst exy
 have m:=C.mem _ (List.mem_of_getElem? hy)
 obtain⟨hl,G⟩:=mem_all.mp m
 have al:((List.range n).map fun i=>g i (cAt y i)).Nodup:=by
  have q:=G.al
  unfold alo at q
  rw[hl]at q
  exact q
 have:r=s:=Uf al hr hs (by rw[ex,ey];exact e1)
 subst this
 exact⟨rfl,by rw[←ex,←ey]⟩
end
theorem Zal{n:Nat}{g:Nat->Nat->Nat}(h7:n<=7){P:List (List Nat)}(C:Comp n n 0 (Xs n g) P)(e:Z0k [sqD n g]=.ok (Qj (some P))):Z4k [sqD n g]=.ok (sqD n (mt P)):=by
 have rr:rg1 [.int (n:Int)]=.ok ((List.range n).map fun(i:Nat)=>D.int (i:Int)):=YS n (by omega)
 have m:ZO one [none,some (.lst (P.map ct))] [0] yes (ap Z4j (cs (vr 1) (cs (vr 0) (nl)))) ((List.range n).map fun(i:Nat)=>D.int (i:Int))=.ok ((List.range n).map fun r=>Z8 n (mt P r)):=Zn (fun(i:Nat)=>D.int (i:Int)) (fun r=>Z8 n (mt P r)) (List.range n) (fun x hx=>by
  have hx:x<n:=by simpa using hx
  simp[Zde hx (by omega) (Js C) C.len (VN C hx)])
 refine Zo rfl ?_
 have:isD (Qj (some P))=.ok (.bl false):=rfl
 simp[e,this,rr]
 rw[show Qj (some P)=.lst (P.map ct)from rfl,m]
 simp[sqD]
theorem Zam{n:Nat}{g:Nat->Nat->Nat}(e:Z0k [sqD n g]=.ok (Qj none)):Z4k [sqD n g]=.ok .non:=by
 refine Zo rfl ?_
 have:isD (Qj none)=.ok (.bl true):=rfl
 simp[e,this]
def ixr(n:Nat)(h:Nat->Nat->Nat)(l r:Nat):Nat:=((List.range n).map (h r)).idxOf l
theorem Zdi{n:Nat}{h:Nat->Nat->Nat}(M:Lat n h){l r:Nat}(hl:l<n)(hr:r<n):Yy (Z8 n (h r)) (.int (l:Int))=.ok (.int (ixr n h l r:Int)):=by
 have m:l∈(List.range n).map (h r):=by
  obtain⟨c,hc,e⟩:=(M.rowO hr).sur hl
  exact List.mem_map.mpr ⟨c,by simpa using hc,e⟩
 rw[Z7x,Z83 m,idx_int]
 rfl
theorem Z0v{n:Nat}{h:Nat->Nat->Nat}(M:Lat n h)(h1:1<=n)(h9:n<=9){l:Nat}(hl:l<n):Z4n [sqD n h, .int (l:Int)]=.ok (Z8 n (ixr n h l)):=by
 have cn:Z7k [.int (n:Int), .int (l:Int)]=.ok .non:=by
  refine Zo rfl ?_
  have a:(0:Int)<=(l:Int):=by omega
  have b:(l:Int)<(n:Int):=by omega
  simp[Z2z,a,b]
 have its:Ya (sqD n h)=.ok ((List.range n).map fun r=>Z8 n (h r)):=rfl
 have m:ZO one [none,some (.int (l:Int))] [0] yes (bn Yy (vr 0) (vr 1)) ((List.range n).map fun r=>Z8 n (h r))=.ok ((List.range n).map fun r=>D.int (ixr n h l r:Int)):=Zn (fun r=>Z8 n (h r)) _ (List.range n) fun r hr=>by
  simp[Zdi M hl (show r<n by simpa using hr)]
 refine Zo rfl ?_
 simp[Y2 M h1 h9,cn,its]
 rw[m]
 simp[Z8]
theorem Jt{n:Nat}{g h:Nat->Nat->Nat}(L:Lat n g)(M:Lat n h)(h1:1<=n)(h9:n<=9)(hf:(YM n g h).length<64):Qd [sqD n g,sqD n h]=.ok (.bl (Ye (clN n g h))):=by
 refine Zo rfl ?_
 have:isD (clN n g h)=.ok (.bl (Ye (clN n g h))):=rfl
 simp[QO L M h1 h9 hf,this]
theorem Z0w{n:Nat}{g h:Nat->Nat->Nat}(L:Lat n g)(M:Lat n h)(h1:1<=n)(h7:n<=7):Qd [sqD n g,sqD n h]=.ok (.bl (Ye (clN n g h))):=by
 refine Zo rfl ?_
 have:isD (clN n g h)=.ok (.bl (Ye (clN n g h))):=rfl
 simp[QO L M h1 (by omega) (Zaj h7 g h),this]
def cbD(n:Nat)(h:Nat->Nat->Nat):D:=.lst ((List.range n).map fun l=>Z8 n (ixr n h l))
theorem Ju{n:Nat}{g h:Nat->Nat->Nat}(L:Lat n g)(M:Lat n h)(h1:1<=n)(h7:n<=7)(e:Ye (clN n g h)=true):Z4o [sqD n g,sqD n h]=.ok (cbD n h):=by
 have rr:rg1 [.int (n:Int)]=.ok ((List.range n).map fun(i:Nat)=>D.int (i:Int)):=YS n (by omega)
 have m:ZO one [none,some (sqD n h)] [0] yes (ap Z4n (cs (vr 1) (cs (vr 0) (nl)))) ((List.range n).map fun(i:Nat)=>D.int (i:Int))=.ok ((List.range n).map fun l=>Z8 n (ixr n h l)):=Zn (fun(i:Nat)=>D.int (i:Int)) _ (List.range n) fun l hl=>by
  simp[Z0v M h1 (by omega) (show l<n by simpa using hl)]
 refine Zo rfl ?_
 simp[Z0w L M h1 h7,e,rr]
 rw[m]
 rfl
end L3
namespace L3
open PySem L2
theorem Z8c{n:Nat}{g h:Nat->Nat->Nat}(m:Mts n g h):YM n g h=(plc n).map fun p=>(pr2 (g p.1 p.2) (h p.1 p.2),[pr2 p.1 p.2]):=by
 have nd:((plc n).map fun p=>pr2 (g p.1 p.2) (h p.1 p.2)).Nodup:=by
  refine List.pairwise_map.mpr ?_
  refine(List.Pairwise.and_mem.mp (Z8b n)).imp ?_
  rintro a b ⟨ha,hb,ne⟩ e
  obtain⟨a1,a2⟩:=W9 ha
  obtain⟨b1,b2⟩:=W9 hb
  unfold pr2 at e
  have e1:(g a.1 a.2:Int)=(g b.1 b.2:Int):=(List.cons.inj e).1
  have e2:(h a.1 a.2:Int)=(h b.1 b.2:Int):=(List.cons.inj (List.cons.inj e).2).1
  obtain⟨q1,q2⟩:=m _ _ _ _ a1 a2 b1 b2 (by omega) (by omega)
  exact ne (Prod.ext q1 q2)
 unfold YM
 rw[WY g h (plc n) [] (by simpa using nd)]
 rfl
theorem Z8d{kvs:KVs}{a b:Option Sl}(o1:∀p∈kvs,p.2.length<=1):∀(ds:List D),(∀d∈ds,∃k ts,d=Y6 k/\ZG kvs k=some ts)->∀o,∃o',ZP [3] one (C04 3) ds [a,b,some (.sh (.dct kvs)),o]=.nx [a,b,some (.sh (.dct kvs)),o']
 | [],_,o=>⟨o,rfl⟩
 |d::ds,h,o=>by
  obtain⟨k,ts,rfl,e⟩:=h d List.mem_cons_self
  have hl:¬1<ts.length:=by
   obtain⟨p,hp,rfl⟩:=Option.map_eq_some_iff.mp e
   have:=o1 p (List.mem_of_find?_eq_some hp)
   omega
  obtain⟨o',eo⟩:=Z8d (a:=a) (b:=b) o1 ds (fun x hx=>h x (List.mem_cons_of_mem _ hx)) (some (.sh (Y6 k)))
  refine⟨o',?_⟩
  rw[Yc (vs:=[Y6 k]) rfl (τ':=[a,b,some (.sh (.dct kvs)),some (.sh (Y6 k))]) (Jq (kvs:=kvs) (k:=k) rfl rfl e hl)]
  exact eo
theorem Z0x{n:Nat}{g h:Nat->Nat->Nat}(L:Lat n g)(M:Lat n h)(h1:1<=n)(h9:n<=9)(m:Mts n g h):Z4m [sqD n g,sqD n h]=.ok .non:=by
 by_cases hf:(YM n g h).length<64
 ·rw[QO L M h1 h9 hf,V0 m]
 ·have fp:=Jn (n:=n) (g:=g) (h:=h) (by omega)
  have os:=VM L M h1 (by omega:n<=9)
  have ek:=Z8c m
  have fe:=(Jp n g h).1
  have nz:=QN g h (plc n) [] (fun p hp=>by cases hp)
  have nz:∀p∈YM n g h,p.1≠[]:=nz
  have o1:∀p∈YM n g h,p.2.length<=1:=fun p hp=>by
   rw[ek]at hp
   obtain⟨q,_,rfl⟩:=List.mem_map.mp hp
   simp
  have n81:n * n<=9 * 9:=Nat.mul_le_mul h9 h9
  refine Vy rfl ?_
  refine(Zy (M:=Xi _) (τ':=[some (.sh (sqD n g)),some (.sh (sqD n h)),none,none]) ?_).trans ((Zy (ZS (d:=.dct (YM n g h)) ?_)).trans ?_)
  ·simp[os]
  ·simp[fp]
  clear ek fp
  generalize YM n g h=kvs at hf fe nz o1
  have fw:few 2 [some (.sh (sqD n g)),some (.sh (sqD n h)),some (.sh (.dct kvs)),none]=false:=decide_eq_false hf
  have ok:Z7b kvs:=⟨by omega,by omega,by rw[QM kvs nz];rfl⟩
  refine(Zy ((Zdd fw).trans (Z9w (r:=.nx [some (.sh (sqD n g)),some (.sh (sqD n h)),some (.sh (.dct kvs)),none]) ⟨Yb kvs,kvs,rfl,ok,List.Perm.refl _⟩ fun ds ⟨kvs',e,_,pd⟩=> ?_))).trans rfl
  have e':kvs=kvs':=D.dct.inj (R.ok.inj e)
  subst e'
  obtain⟨o',eo⟩:=Z8d (a:=some (.sh (sqD n g))) (b:=some (.sh (sqD n h))) o1 ds (fun d hd=>by
   obtain⟨p,hp,rfl⟩:=List.mem_map.mp (pd.mem_iff.mp hd)
   obtain⟨ts,e⟩:=Jo (kvs:=kvs) (k:=p.1) (List.mem_map.mpr ⟨p,hp,rfl⟩)
   exact⟨p.1,ts,rfl,e⟩) none
  exact(congrArg (nrm [3]) eo).trans rfl
theorem Xt{n:Nat}{g h:Nat->Nat->Nat}(L:Lat n g)(M:Lat n h)(h1:1<=n)(h9:n<=9)(m:Mts n g h):Qd [sqD n g,sqD n h]=.ok (.bl true):=by
 refine Zo rfl ?_
 have:isD .non=.ok (.bl true):=rfl
 simp[Z0x L M h1 h9 m,this]
def ZT(n s r c:Nat):Nat:=(c+s * r)%n
theorem Zdj{n b:Nat}(h1:1<=n)(h9:n<=9):Z4p [.int (n:Int), .int (b:Int)]=.ok (Z8 n fun c=>(c+b)%n):=by
 have rr:rg1 [.int (n:Int)]=.ok ((List.range n).map fun(i:Nat)=>D.int (i:Int)):=YS n (by omega)
 have mm:ZO one [none,some (.int (b:Int)),some (.int (n:Int))] [0] yes (bi Yr (bi ZM (vr 0) (vr 1)) (vr 2)) ((List.range n).map fun(i:Nat)=>D.int (i:Int))=.ok ((List.range n).map fun c=>D.int (((c+b)%n:Nat):Int)):=
  Zn (fun(i:Nat)=>D.int (i:Int)) _ (List.range n) fun c _=>by
   have:Yr (.int ((c:Int)+(b:Int))) (.int (n:Int))=.ok (.int (((c:Int)+(b:Int))%(n:Int))):=YX _ _ (by omega)
   simp[this]
 refine Vy rfl (QI ?_)
 simp[rr]
 rw[mm]
 simp[Z8]
theorem Z56{n:Nat}(h1:1<=n)(h9:n<=9):Z7l [.int (n:Int)]=.ok .non:=by
 refine Zo rfl ?_
 have a:F_8 [.int 10, .int (n:Int)]=.ok (.bl true):=by
  rw[Z2z]
  have:decide ((0:Int)<=(n:Int))=true:=decide_eq_true (by omega)
  have:decide ((n:Int)<10)=true:=decide_eq_true (by omega)
  simp_all
 have b:¬(n:Int)=0:=by omega
 have c:¬n=0:=by omega
 simp[a,b,c]
theorem XD{n s:Nat}(h1:1<=n)(h9:n<=9)(st:Z0l [.int (n:Int), .int (s:Int)]=.ok (.bl true)):W2 [.int (n:Int), .int (s:Int)]=.ok (sqD n (ZT n s)):=by
 have rr:rg1 [.int (n:Int)]=.ok ((List.range n).map fun(i:Nat)=>D.int (i:Int)):=YS n (by omega)
 have mm:ZO one [none,some (.int (n:Int)),some (.int (s:Int))] [0] yes (ap Z4p (cs (vr 1) (cs (bi X0 (vr 2) (vr 0)) (nl)))) ((List.range n).map fun(i:Nat)=>D.int (i:Int))=.ok ((List.range n).map fun r=>Z8 n (ZT n s r)):=
  Zn (fun(i:Nat)=>D.int (i:Int)) _ (List.range n) fun r hr=>by
   have hr:r<n:=by simpa using hr
   have m:X0 (.int (s:Int)) (.int (r:Int))=.ok (.int (((s * r:Nat)):Int)):=by
    rw[WL _ _ (by omega)];simp
   have t:=Zdj (b:=s * r) h1 h9
   simp only[z_ap,z_cs,z_vr,z_nl,z_bi,z_setD1,z_setD0,List.set_cons_zero,List.getElem?_cons_zero,List.getElem?_cons_succ,z_okb,m,t]
   rfl
 refine Vy rfl ?_
 refine(Zy (M:=Xi _) (τ':=[some (.sh (.int (n:Int))),some (.sh (.int (s:Int)))]) ?_).trans ((Zy ((X5 ?_).trans rfl)).trans (QI ?_))
 ·simp[Z56 h1 h9]
 ·simp[st]
 ·simp[rr]
  rw[mm]
  simp[sqD]
def Zdk(n s:Nat):Bool:=(List.range n).all fun r=>(List.range n).all fun c=>(List.range n).all fun d=>(!(ZT n s r c == ZT n s r d) || c == d)&&(!(ZT n s c r == ZT n s d r) || c == d)
theorem Qn{n s:Nat}(h1:1<=n)(h:Zdk n s=true):Lat n (ZT n s):=by
 have q:∀r c d,r<n->c<n->d<n->(ZT n s r c=ZT n s r d->c=d)/\(ZT n s c r=ZT n s d r->c=d):=fun r c d hr hc hd=>by
  have:=List.all_eq_true.mp (List.all_eq_true.mp (List.all_eq_true.mp h r (by simpa using hr)) c (by simpa using hc)) d (by simpa using hd)
  simp only[Bool.and_eq_true,Bool.or_eq_true,Bool.not_eq_true',beq_eq_false_iff_ne,beq_iff_eq]at this
  exact⟨fun e=>this.1.elim (fun z=>absurd e z) id,fun e=>this.2.elim (fun z=>absurd e z) id⟩
 exact⟨fun r c _ _=>Nat.mod_lt _ h1,fun r c d hr hc hd e=>(q r c d hr hc hd).1 e,fun r s' c hr hs hc e=>(q c r s' hc hr hs).2 e⟩
def Zdl(n s t:Nat):Bool:=(plc n).all fun p=>(plc n).all fun q=> !(ZT n s p.1 p.2 == ZT n s q.1 q.2&&ZT n t p.1 p.2 == ZT n t q.1 q.2) || (p.1 == q.1&&p.2 == q.2)
theorem Z3f{n r c:Nat}(hr:r<n)(hc:c<n):(r,c)∈plc n:=List.mem_flatMap.mpr ⟨r,by simpa using hr,List.mem_map.mpr ⟨c,by simpa using hc,rfl⟩⟩
theorem Jv{n s t:Nat}(h:Zdl n s t=true):Mts n (ZT n s) (ZT n t):=by
 intro r c r' c' hr hc hr' hc' e1 e2
 have:=List.all_eq_true.mp (List.all_eq_true.mp h _ (Z3f hr hc)) _ (Z3f hr' hc')
 simp only[Bool.or_eq_true,Bool.not_eq_true',Bool.and_eq_false_iff,beq_eq_false_iff_ne,Bool.and_eq_true,beq_iff_eq]at this
 rcases this with(z|z)|z
 ·exact absurd e1 z
 ·exact absurd e2 z
 ·exact z
def stL(n:Nat):List Nat:=(List.range n).filter fun s=>1<=s&&Nat.gcd n s == 1
def stD(n:Nat):R (List D):=nox (ZO one [none,some (.int (n:Int))] [0] (tst (bi eqD (ap U3 (cs (vr 1) (cs (vr 0) (nl)))) (cn (.int 1)))) (vr 0) (XR 1 (n - 1)))
def Zan(i:Int):Int:=if i<0 then -i else i
def chk(n s t:Nat):Bool:=Zdk n s&&match Z0l [.int (n:Int), .int (s:Int)],U3 [.int (n:Int), .int (Zan ((s:Int) - (t:Int)))]with
 | .ok (.bl true), .ok (.int k)=>if k=1 then Zdl n s t else decide ((YM n (ZT n s) (ZT n t)).length<64)&& !Ye (clN n (ZT n s) (ZT n t))
 |_,_=>false
end L3
namespace L3
open PySem L2
def isL'(r:R (List D))(l:List Nat):Bool:=match r with
 | .ok ds=>go ds l
 |_=>false
where go:List D->List Nat->Bool
 | [],[]=>true
 | .int i::ds,k::ks=>i == (k:Int)&&go ds ks
 |_,_=>false
theorem Z8e:∀{ds:List D} {l:List Nat},isL'.go ds l=true->ds=l.map fun(k:Nat)=>D.int (k:Int)
 | [],[],_=>rfl
 | .int i::ds,k::ks,h=>by
  unfold isL'.go at h
  rw[Bool.and_eq_true]at h
  rw[Z8e h.2,beq_iff_eq.mp h.1]
  rfl
 | [],_::_,h=>by cases h
 | .int _::_,[],h=>by cases h
 | .non::_,l,h=>by cases l<;>cases h
 | .bl _::_,l,h=>by cases l<;>cases h
 | .str _::_,l,h=>by cases l<;>cases h
 | .tup _::_,l,h=>by cases l<;>cases h
 | .lst _::_,l,h=>by cases l<;>cases h
 | .exc _::_,l,h=>by cases l<;>cases h
 | .dct _::_,l,h=>by cases l<;>cases h
theorem Zdm{r:R (List D)}{l:List Nat}(h:isL' r l=true):r=.ok (l.map fun(k:Nat)=>D.int (k:Int)):=by
 unfold isL' at h
 split at h
 ·rw[Z8e h]
 ·cases h
theorem Zdn:∀n∈[3,5,7,9,4,8],isL' (stD n) (stL n)=true/\1<=(stL n).length:=by decide+kernel
theorem chk3:∀s∈stL 3,∀t∈stL 3,chk 3 s t=true:=by decide+kernel
theorem chk4:∀s∈stL 4,∀t∈stL 4,chk 4 s t=true:=by decide+kernel
theorem chk5:∀s∈stL 5,∀t∈stL 5,chk 5 s t=true:=by decide+kernel
theorem chk7:∀s∈stL 7,∀t∈stL 7,chk 7 s t=true:=by decide+kernel
theorem chk8:∀s∈stL 8,∀t∈stL 8,chk 8 s t=true:=by decide+kernel
theorem chk9:∀s∈stL 9,∀t∈stL 9,chk 9 s t=true:=by decide+kernel
theorem Wa(n:Nat)(h:n∈[3,5,7,9,4,8]):∀s∈stL n,∀t∈stL n,chk n s t=true:=by
 simp at h
 rcases h with rfl|rfl|rfl|rfl|rfl|rfl
 ·exact chk3
 ·exact chk5
 ·exact chk7
 ·exact chk9
 ·exact chk4
 ·exact chk8
end L3
namespace L3
open PySem L2
theorem Z3g(l:List Nat)(a b:Nat->Nat):(l.map fun i=>a i+b i).sum=(l.map a).sum+(l.map b).sum:=by
 induction l with
 |nil=>rfl
 |cons x l ih=>simp only[List.map_cons,List.sum_cons,ih];omega
theorem Z8f(l:List Nat)(a:Nat->Nat)(h:∀i∈l,a i%2=0):(l.map a).sum%2=0:=by
 induction l with
 |nil=>rfl
 |cons x l ih=>
  have h1:=h x List.mem_cons_self
  have h2:=ih fun i hi=>h i (List.mem_cons_of_mem _ hi)
  simp only[List.map_cons,List.sum_cons];omega
theorem Uh{n:Nat}{l:List Nat}(h:l.length=n):((List.range n).map (cAt l)).sum=sm l:=by
 rw[←h,W6];rfl
theorem Jw{n:Nat}{p:Nat->Nat}(P:Ord n p)(f:Nat->Nat):((List.range n).map fun i=>f (p i)).sum=((List.range n).map f).sum:=by
 have:=(P.perm.map f).sum_nat
 rw[List.map_map]at this
 exact this
theorem Z0y{n:Nat}{g:Nat->Nat->Nat}{T:Tri}(L:Lat n g)(v:Val n T)(e:X7 n g T=true)(o:Qk T=true):Xs n g=[]:=by
 refine List.eq_nil_iff_forall_not_mem.mpr fun c hc=> ?_
 obtain⟨hl,G⟩:=mem_all.mp hc
 have nd:((List.range n).map (cAt c)).Nodup:=by rw[←hl,W6];exact G.nd
 have P:Ord n (cAt c):=⟨fun i hi=>G.lt _ (YZ (by omega)),fun i j hi hj e=>Uf nd hi hj e⟩
 have al:((List.range n).map fun i=>g i (cAt c i)).Nodup:=by have:=G.al;unfold alo at this;rw[hl]at this;exact this
 have A:Ord n (fun i=>g i (cAt c i)):=⟨fun i hi=>L.lt _ _ hi (P.lt i hi),fun i j hi hj e=>Uf al hi hj e⟩
 have ev:=evenB_iff.mp e
 have s:=Z8f (List.range n) (fun i=>cAt T.R i+cAt T.C (cAt c i)+cAt T.L (g i (cAt c i))) fun i hi=>ev i (cAt c i) (by simpa using hi) (P.lt i (by simpa using hi))
 rw[Z3g (List.range n) (fun i=>cAt T.R i+cAt T.C (cAt c i)) (fun i=>cAt T.L (g i (cAt c i))),Z3g (List.range n) (fun i=>cAt T.R i) (fun i=>cAt T.C (cAt c i)),Jw P (cAt T.C),Jw A (cAt T.L)]at s
 rw[Uh v.lc,Uh v.ll]at s
 have s1:((List.range n).map fun i=>cAt T.R i).sum=sm T.R:=Uh v.lr
 rw[s1]at s
 unfold Qk at o
 rw[decide_eq_true_eq]at o
 omega
section
variable{n:Nat}{g h:Nat->Nat->Nat}
theorem Mts.sw(m:Mts n g h):Mts n h g:=fun r c s d a b c' d' e1 e2=>m r c s d a b c' d' e2 e1
theorem Mts.ren{p q s t:Nat->Nat}(L:Lat n g)(M:Lat n h)(P:Ord n p)(Q:Ord n q)(S:Ord n s)(T:Ord n t)(m:Mts n g h):Mts n (fun i j=>s (g (p i) (q j))) (fun i j=>t (h (p i) (q j))):=fun r c r' c' hr hc hr' hc' e1 e2=>by
 have a:=S.inj _ _ (L.lt _ _ (P.lt r hr) (Q.lt c hc)) (L.lt _ _ (P.lt r' hr') (Q.lt c' hc')) e1
 have b:=T.inj _ _ (M.lt _ _ (P.lt r hr) (Q.lt c hc)) (M.lt _ _ (P.lt r' hr') (Q.lt c' hc')) e2
 obtain⟨x,y⟩:=m _ _ _ _ (P.lt r hr) (Q.lt c hc) (P.lt r' hr') (Q.lt c' hc') a b
 exact⟨P.inj _ _ hr hr' x,Q.inj _ _ hc hc' y⟩
theorem Mts.in_{m:Nat}{g' h':Nat->Nat->Nat}(G':Lat m g')(H':Lat m h')(m1:1<=m)(a:Mts n g h)(b:Mts m g' h'):Mts (n * m) (inG m g g') (inG m h h'):=fun r c r' c' hr hc hr' hc' e1 e2=>by
 have dv:∀x,x<n * m->x / m<n:=fun x hx=>Nat.div_lt_of_lt_mul (by rw[Nat.mul_comm];exact hx)
 have md:∀x,x%m<m:=fun x=>Nat.mod_lt _ m1
 unfold inG at e1 e2
 obtain⟨x1,y1⟩:=Xh (G'.lt _ _ (md r) (md c)) (G'.lt _ _ (md r') (md c')) e1
 obtain⟨x2,y2⟩:=Xh (H'.lt _ _ (md r) (md c)) (H'.lt _ _ (md r') (md c')) e2
 obtain⟨u1,u2⟩:=a _ _ _ _ (dv r hr) (dv c hc) (dv r' hr') (dv c' hc') x1 x2
 obtain⟨v1,v2⟩:=b _ _ _ _ (md r) (md c) (md r') (md c') y1 y2
 exact⟨Z39 u1 v1,Z39 u2 v2⟩
theorem Z3h{n:Nat}{f:Nat->Nat}(h:∀i j,i<n->j<n->f i=f j->i=j):((List.range n).map f).Nodup:=by
 unfold List.Nodup
 rw[List.pairwise_map]
 refine(List.Pairwise.and_mem.mp (List.nodup_range (n:=n))).imp ?_
 rintro a b ⟨ha,hb,ne⟩ e
 exact ne (h a b (by simpa using ha) (by simpa using hb) e)
theorem V4(M:Lat n h){l r:Nat}(hl:l<n)(hr:r<n):ixr n h l r<n/\h r (ixr n h l r)=l:=by
 have m:l∈(List.range n).map (h r):=by
  obtain⟨c,hc,e⟩:=(M.rowO hr).sur hl
  exact List.mem_map.mpr ⟨c,by simpa using hc,e⟩
 have hlt:=List.idxOf_lt_length_iff.mpr m
 have e:=List.getElem_idxOf hlt
 rw[List.getElem_map,List.getElem_range]at e
 rw[List.length_map,List.length_range]at hlt
 exact⟨hlt,e⟩
theorem Z8g(L:Lat n g)(M:Lat n h)(m:Mts n g h)(h1:1<=n)(h9:n<=9){l:Nat}(hl:l<n):U4 [sqD n g,Z8 n (ixr n h l)]=.ok (.bl true):=by
 rw[Z7x,Zd4 L h1 h9 (by simp;omega)]
 have hm:(List.range n).map (ixr n h l)∈Xs n g:=by
  refine mem_all.mpr ⟨by simp,fun x hx=> ?_,Z3h fun i j hi hj e=> ?_,?_⟩
  ·obtain⟨r,hr,rfl⟩:=List.mem_map.mp hx
   exact(V4 M hl (by simpa using hr)).1
  ·have a:=V4 M hl hi
   have b:=V4 M hl hj
   refine M.col i j (ixr n h l i) hi hj a.1 ?_
   rw[a.2,e,b.2]
  ·have e:alo g ((List.range n).map (ixr n h l))=(List.range n).map fun r=>g r (ixr n h l r):=by
    unfold alo
    rw[List.length_map,List.length_range]
    refine List.map_congr_left fun i hi=> ?_
    rw[Z34 (by simpa using hi)]
   rw[e]
   refine Z3h fun i j hi hj e=> ?_
   have a:=V4 M hl hi
   have b:=V4 M hl hj
   exact(m _ _ _ _ hi a.1 hj b.1 e (by rw[a.2,b.2])).1
 rw[decide_eq_true hm]
theorem V5{B:Tau->Fl}{i:Nat}(P:Tau->Prop)(hB:∀l τ,l<n->P τ->B (τ.set i (some (.sh (Z8 n (ixr n h l)))))=.nx (τ.set i (some (.sh (Z8 n (ixr n h l)))))/\P (τ.set i (some (.sh (Z8 n (ixr n h l)))))):
  ∀(ls:List Nat) (τ:Tau),(∀l∈ls,l<n)->P τ->∃τ',ZP [i] one B (ls.map fun l=>Z8 n (ixr n h l)) τ=.nx τ'/\P τ'
 | [],τ,_,p=>⟨τ,rfl,p⟩
 |l::ls,τ,hl,p=>by
  obtain⟨e,p'⟩:=hB l τ (hl l List.mem_cons_self) p
  obtain⟨τ',e',q⟩:=V5 P hB ls _ (fun x hx=>hl x (List.mem_cons_of_mem _ hx)) p'
  refine⟨τ',?_,q⟩
  rw[List.map_cons,Yc (vs:=[Z8 n (ixr n h l)]) rfl (τ':=τ.set i (some (.sh (Z8 n (ixr n h l))))) e]
  exact e'
end
theorem Z3i{l:List Nat}(h:1<=l.length)(c:Int):∃s∈l,ixD (.lst (l.map fun(k:Nat)=>D.int (k:Int))) (.int (c%(l.length:Int)))=.ok (.int (s:Int)):=by
 have a:=Int.emod_nonneg c (by omega:(l.length:Int)≠0)
 have b:=Int.emod_lt_of_pos c (by omega:(0:Int)<(l.length:Int))
 obtain⟨k,hk⟩:∃k:Nat,c%(l.length:Int)=(k:Int):=⟨(c%(l.length:Int)).toNat,by omega⟩
 have hlt:k<l.length:=by omega
 refine⟨l[k],List.getElem_mem _,?_⟩
 rw[hk]
 refine Xr _ _ _ ?_
 simp[hlt]
theorem Wb{n s t:Nat}(h:chk n s t=true):Zdk n s=true/\Z0l [.int (n:Int), .int (s:Int)]=.ok (.bl true)/\∃k:Int,U3 [.int (n:Int), .int (Zan ((s:Int) - (t:Int)))]=.ok (.int k)/\
  ((k=1/\Zdl n s t=true)\/(k≠1/\(YM n (ZT n s) (ZT n t)).length<64/\Ye (clN n (ZT n s) (ZT n t))=false)):=by
 unfold chk at h
 rw[Bool.and_eq_true]at h
 obtain⟨h1,h2⟩:=h
 split at h2
 ·rename_i k e1 e2
  refine⟨h1,e1,k,e2,?_⟩
  split at h2
  ·rename_i hk;exact .inl ⟨hk,h2⟩
  ·rename_i hk
   rw[Bool.and_eq_true,decide_eq_true_eq,Bool.not_eq_true']at h2
   exact .inr ⟨hk,h2.1,h2.2⟩
 ·cases h2
theorem Z0z{n s t:Nat}(hn:n∈[3,5,7,9,4,8])(hs:s∈stL n)(ht:t∈stL n):∃k:Int,W2 [.int (n:Int), .int (s:Int)]=.ok (sqD n (ZT n s))/\W2 [.int (n:Int), .int (t:Int)]=.ok (sqD n (ZT n t))/\
  U3 [.int (n:Int), .int (Zan ((s:Int) - (t:Int)))]=.ok (.int k)/\Qd [sqD n (ZT n s),sqD n (ZT n t)]=.ok (.bl (decide (k=1))):=by
 have h19:1<=n/\n<=9:=by simp at hn;omega
 obtain⟨a1,a2,k,a3,a4⟩:=Wb (Wa n hn s hs t ht)
 obtain⟨b1,b2,_⟩:=Wb (Wa n hn t ht s hs)
 have L:=Qn h19.1 a1
 have M:=Qn h19.1 b1
 refine⟨k,XD h19.1 h19.2 a2,XD h19.1 h19.2 b2,a3,?_⟩
 rcases a4 with⟨rfl,m⟩|⟨hk,hf,hc⟩
 ·rw[Xt L M h19.1 h19.2 (Jv m)];rfl
 ·rw[Jt L M h19.1 h19.2 hf,hc,decide_eq_false hk]
end L3
namespace L3
open PySem L2
theorem XF:Lat 1 (fun _ _=>0):=⟨fun _ _ _ _=>by decide,fun _ c d _ hc hd _=>by omega,fun r s _ hr hs _ _=>by omega⟩
theorem Zao(xs:List Int)(hx:xs.length<=63):Zct [scr xs]=.ok (.bl true):=by
 have c0:F_0 [scr xs, .int 0]=.ok (.int (xs.getD 0 0)):=QJ xs 0
 have c1:F_0 [scr xs, .int 1]=.ok (.int (xs.getD 1 0)):=QJ xs 1
 have c2:F_0 [scr xs, .int 2]=.ok (.int (xs.getD 2 0)):=QJ xs 2
 obtain⟨n,hn,en⟩:∃n:Nat,n∈[3,5,7,9,4,8]/\ixD (.lst [.int 3, .int 5, .int 7, .int 9, .int 4, .int 8, .int 5, .int 7]) (.int (xs.getD 0 0%8))=.ok (.int (n:Int)):=by
  have a:=Int.emod_nonneg (xs.getD 0 0) (by decide:(8:Int)≠0)
  have b:=Int.emod_lt_of_pos (xs.getD 0 0) (by decide:(0:Int)<8)
  generalize xs.getD 0 0%8=k at a b
  have:k=0\/k=1\/k=2\/k=3\/k=4\/k=5\/k=6\/k=7:=by omega
  rcases this with rfl|rfl|rfl|rfl|rfl|rfl|rfl|rfl
  ·exact⟨3,by simp,rfl⟩
  ·exact⟨5,by simp,rfl⟩
  ·exact⟨7,by simp,rfl⟩
  ·exact⟨9,by simp,rfl⟩
  ·exact⟨4,by simp,rfl⟩
  ·exact⟨8,by simp,rfl⟩
  ·exact⟨5,by simp,rfl⟩
  ·exact⟨7,by simp,rfl⟩
 have n19:1<=n/\n<=9:=by simp at hn;omega
 obtain⟨sa,sl⟩:=Zdn n hn
 have sd:=Zdm sa
 obtain⟨s,hs,es⟩:=Z3i sl (xs.getD 1 0)
 obtain⟨t,ht,et⟩:=Z3i sl (xs.getD 2 0)
 obtain⟨k,ft,ft',fg,fm⟩:=Z0z hn hs ht
 obtain⟨m,m3,m5,em⟩:∃m:Nat,3<=m/\m<=5/\ixD (.lst [.int 4, .int 3, .int 5, .int 4]) (.int (xs.getD 0 0%4))=.ok (.int (m:Int)):=by
  have a:=Int.emod_nonneg (xs.getD 0 0) (by decide:(4:Int)≠0)
  have b:=Int.emod_lt_of_pos (xs.getD 0 0) (by decide:(0:Int)<4)
  generalize xs.getD 0 0%4=k at a b
  have:k=0\/k=1\/k=2\/k=3:=by omega
  rcases this with rfl|rfl|rfl|rfl
  ·exact⟨4,by decide,by decide,rfl⟩
  ·exact⟨3,by decide,by decide,rfl⟩
  ·exact⟨5,by decide,by decide,rfl⟩
  ·exact⟨4,by decide,by decide,rfl⟩
 have m1:1<=m:=by omega
 have m9:m<=9:=by omega
 have m7:m<=7:=by omega
 obtain⟨g,L,eg⟩:=Za3 xs 3 m m1 m9
 have eg:F_7 [scr xs, .int 3, .int (m:Int)]=.ok (sqD m g):=eg
 simp only[List.getD_eq_getElem?_getD]at c0 c1 c2 en es et em
 generalize hsl:(stL n).map (fun(k:Nat)=>D.int (k:Int))=ls at sd es et
 have hll:(ls.length:Int)=((stL n).length:Int):=by rw[←hsl];simp
 have s8:(8:Nat)<=sizeLine:=YW (by decide)
 have s4:(4:Nat)<=sizeLine:=YW (by decide)
 have isd:∀x,isD x=.ok (.bl (Ye x)):=fun _=>rfl
 have nb:∀b:Bool,neD (.bl b) (.bl b)=.ok (.bl false):=fun b=>Za4 (Nat.zero_le _)
 have ml:(0:Int)<(ls.length:Int):=by rw[hll];omega
 refine Vy rfl ?_
 refine(Zy (ZS (d:=.int (n:Int)) ?_)).trans ((Zy (ZS (d:=.lst ls) ?_)).trans ((Zy (ZS (d:=.int (s:Int)) ?_)).trans ((Zy (ZS (d:=.int (t:Int)) ?_)).trans ((Zy ((X5 ?_).trans rfl)).trans ((Zy (ZS (d:=sqD m g) ?_)).trans ?_)))))
 ·have z:Yr (.int (xs[0]?.getD 0)) (.int 8)=.ok (.int (xs[0]?.getD 0%8)):=YX _ _ (by decide)
  simp[c0,z,s8,en]
 ·have r2:rg2 [.int 1, .int (n:Int)]=.ok (XR 1 (n - 1)):=by
   show(if(1:Int).natAbs<=1000000/\(n:Int).natAbs<=1000000 then R.ok (XR 1 ((n:Int) - 1).toNat)else .bad)=_
   rw[if_pos (by omega)]
   congr 2
   omega
  rw[z_asL,z_cmpr]
  show((rg2 [.int 1, .int (n:Int)]>>=fun ds=>nox (ZO one [none,some (.int (n:Int))] [0] _ _ ds))>>=_)=_
  rw[r2,z_okb]
  show(stD n>>=_)=_
  rw[sd]
  rfl
 ·have z:Yr (.int (xs[1]?.getD 0)) (.int (ls.length:Int))=.ok (.int (xs[1]?.getD 0%(ls.length:Int))):=YX _ _ ml
  rw[←hll]at es
  simp[c1,z,es]
 ·have z:Yr (.int (xs[2]?.getD 0)) (.int (ls.length:Int))=.ok (.int (xs[2]?.getD 0%(ls.length:Int))):=YX _ _ ml
  rw[←hll]at et
  simp[c2,z,et]
 ·have fa:Z7d [.int ((s:Int) - (t:Int))]=.ok (.int (Zan ((s:Int) - (t:Int)))):=rfl
  simp[ft,ft',fm,fa,fg,nb]
 ·have z:Yr (.int (xs[0]?.getD 0)) (.int 4)=.ok (.int (xs[0]?.getD 0%4)):=YX _ _ (by decide)
  simp[c0,z,s4,em,eg]
 obtain⟨r,er,hsP,_⟩:=Z51 L m1 m7
 cases r with
 |none=>
  refine(Zy (ZS (d:=.non) (by simp[Zam er]))).trans (Z7n ((WP ?_).trans (QI ?_)))
  ·simp[isd,Ye]
  ·obtain⟨inv,I⟩:=Zda L m1
   have fa:=VJ L m1 m7
   rcases Zep L I m1 m9 with⟨fb,_⟩|⟨T,hT,oT,fb⟩
   ·simp[fb,isd,Ye]
   ·obtain⟨v,e⟩:=(Z53 L I m1).mp hT
    have no:=Z0y L v e oT
    have q:=Za5 (d:=.lst []) (by decide)
    have i3:Ye (mk3 T)=false:=rfl
    rw[no]at fa
    simp[fb,isd,i3,fa,q]
 |some P=>
  have C:=hsP P rfl
  have fmt:=Zal m7 C er
  have ML:=Zdg C L
  have mm:=Zdh C
  obtain⟨p0,P0,ep0⟩:=Xg (xs.getD 2 0+61 * ((0:Nat):Int)) m (by omega)
  obtain⟨p1,P1,ep1⟩:=Xg (xs.getD 2 0+61 * ((1:Nat):Int)) m (by omega)
  obtain⟨p2,P2,ep2⟩:=Xg (xs.getD 2 0+61 * ((2:Nat):Int)) m (by omega)
  obtain⟨p3,P3,ep3⟩:=Xg (xs.getD 2 0+61 * ((3:Nat):Int)) m (by omega)
  have fr:=VE L P0 P1 P2 m1 m9
  have fr':=VE ML P0 P1 P3 m1 m9
  have LU:=U7 L P0 P1 P2
  have LV:=U7 ML P0 P1 P3
  have mu:=Mts.ren L ML P0 P1 P2 P3 mm
  have m4:ZO one [none,some (scr xs),some (.int (m:Int))] [0] yes (ap F_5 (cs (bi ZM (ap F_0 (cs (vr 1) (cs (cn (.int 2)) (nl)))) (bi X0 (cn (.int 61)) (vr 0))) (cs (vr 2) (nl)))) [.int 0, .int 1, .int 2, .int 3]=.ok [Z8 m p0,Z8 m p1,Z8 m p2,Z8 m p3]:=by
   have b1:(61:Int).natAbs<=1000000000000:=by decide
   simp only[List.getD_eq_getElem?_getD]at ep0 ep1 ep2 ep3
   simp at ep0 ep1 ep2 ep3
   simp[ZO,c2,Z0n _ _ b1,ep0,ep1,ep2,ep3]
  generalize hU:(fun i j=>p2 (g (p0 i) (p1 j)))=U at fr LU mu
  generalize hV:(fun i j=>p3 (mt P (p0 i) (p1 j)))=V at fr' LV mu
  have r4:rg1 [.int 4]=.ok [.int 0, .int 1, .int 2, .int 3]:=rfl
  have inon:Ye (sqD m (mt P))=false:=rfl
  refine(Zy (ZS (d:=sqD m (mt P)) (by simp[fmt]))).trans ((Zy ((X5 ?_).trans rfl)).trans ((Zy (ZS (d:=.int (m:Int)) (by simp))).trans ((Zy (ZS (d:=.lst [Z8 m p0,Z8 m p1,Z8 m p2,Z8 m p3]) ?_)).trans ((Zy (ZS (d:=sqD m U) ?_)).trans ((Zy (ZS (d:=sqD m V) ?_)).trans ((Zy ((X5 ?_).trans rfl)).trans ?_))))))
  ·simp[isd,inon]
  ·rw[z_asL,z_cmpr]
   show(nox (ZO one [none,some (scr xs),some (.int (m:Int))] [0] yes _ [.int 0, .int 1, .int 2, .int 3]))>>=_=_
   rw[m4]
   rfl
  ·have i0:ixD (.lst [Z8 m p0,Z8 m p1,Z8 m p2,Z8 m p3]) (.int 0)=.ok (Z8 m p0):=rfl
   have i1:ixD (.lst [Z8 m p0,Z8 m p1,Z8 m p2,Z8 m p3]) (.int 1)=.ok (Z8 m p1):=rfl
   have i2:ixD (.lst [Z8 m p0,Z8 m p1,Z8 m p2,Z8 m p3]) (.int 2)=.ok (Z8 m p2):=rfl
   simp[i0,i1,i2,fr]
  ·have i0:ixD (.lst [Z8 m p0,Z8 m p1,Z8 m p2,Z8 m p3]) (.int 0)=.ok (Z8 m p0):=rfl
   have i1:ixD (.lst [Z8 m p0,Z8 m p1,Z8 m p2,Z8 m p3]) (.int 1)=.ok (Z8 m p1):=rfl
   have i3:ixD (.lst [Z8 m p0,Z8 m p1,Z8 m p2,Z8 m p3]) (.int 3)=.ok (Z8 m p3):=rfl
   simp[i0,i1,i3,fr']
  ·simp[Xt LU LV m1 m9 mu,Xt LV LU m1 m9 mu.sw]
  have cb:=Ju LU LV m1 m7 (by rw[V0 mu];rfl)
  have cb':=Ju LV LU m1 m7 (by rw[V0 mu.sw];rfl)
  have itc:∀h,Ya (cbD m h)=.ok ((List.range m).map fun l=>Z8 m (ixr m h l)):=fun _=>rfl
  have lm:∀l∈List.range m,l<m:=fun l hl=>by simpa using hl
  obtain⟨τ1,e1,o11,rfl⟩:=V5 (n:=m) (h:=V) (i:=11) (B:=sIf (YU (tst (ap U4 (cs (vr 9) (cs (vr 11) (nl)))))) (Zr (cn (.bl false))) (sk)) (fun τ=>∃o,τ=[some (.sh (scr xs)),some (.sh (.int (n:Int))),some (.sh (.lst ls)),some (.sh (.int (s:Int))),some (.sh (.int (t:Int))),some (.sh (sqD m g)),some (.sh (sqD m (mt P))),some (.sh (.int (m:Int))),some (.sh (.lst [Z8 m p0,Z8 m p1,Z8 m p2,Z8 m p3])),some (.sh (sqD m U)),some (.sh (sqD m V)),o,none]) (fun l τ hl ⟨o,ho⟩=>by
   subst ho
   refine⟨(X5 ?_).trans rfl,_,rfl⟩
   simp[Z8g LU LV mu m1 m9 hl]) (List.range m) [some (.sh (scr xs)),some (.sh (.int (n:Int))),some (.sh (.lst ls)),some (.sh (.int (s:Int))),some (.sh (.int (t:Int))),some (.sh (sqD m g)),some (.sh (sqD m (mt P))),some (.sh (.int (m:Int))),some (.sh (.lst [Z8 m p0,Z8 m p1,Z8 m p2,Z8 m p3])),some (.sh (sqD m U)),some (.sh (sqD m V)),none,none] lm ⟨none,rfl⟩
  obtain⟨τ2,e2,o12,rfl⟩:=V5 (n:=m) (h:=U) (i:=11) (B:=sIf (YU (tst (ap U4 (cs (vr 10) (cs (vr 11) (nl)))))) (Zr (cn (.bl false))) (sk)) (fun τ=>∃o,τ=[some (.sh (scr xs)),some (.sh (.int (n:Int))),some (.sh (.lst ls)),some (.sh (.int (s:Int))),some (.sh (.int (t:Int))),some (.sh (sqD m g)),some (.sh (sqD m (mt P))),some (.sh (.int (m:Int))),some (.sh (.lst [Z8 m p0,Z8 m p1,Z8 m p2,Z8 m p3])),some (.sh (sqD m U)),some (.sh (sqD m V)),o,none]) (fun l τ hl ⟨o,ho⟩=>by
   subst ho
   refine⟨(X5 ?_).trans rfl,_,rfl⟩
   simp[Z8g LV LU mu.sw m1 m9 hl]) (List.range m) [some (.sh (scr xs)),some (.sh (.int (n:Int))),some (.sh (.lst ls)),some (.sh (.int (s:Int))),some (.sh (.int (t:Int))),some (.sh (sqD m g)),some (.sh (sqD m (mt P))),some (.sh (.int (m:Int))),some (.sh (.lst [Z8 m p0,Z8 m p1,Z8 m p2,Z8 m p3])),some (.sh (sqD m U)),some (.sh (sqD m V)),o11,none] lm ⟨o11,rfl⟩
  have st3:(1:Nat)∈stL 3/\(2:Nat)∈stL 3:=by decide
  have h3:(3:Nat)∈[3,5,7,9,4,8]:=by simp
  obtain⟨l1,s1,_⟩:=Wb (Wa 3 h3 1 st3.1 2 st3.2)
  obtain⟨l2,s2,_⟩:=Wb (Wa 3 h3 2 st3.2 1 st3.1)
  have t1:W2 [.int 3, .int 1]=.ok (sqD 3 (ZT 3 1)):=XD (n:=3) (s:=1) (by decide) (by decide) s1
  have t2:W2 [.int 3, .int 2]=.ok (sqD 3 (ZT 3 2)):=XD (n:=3) (s:=2) (by decide) (by decide) s2
  have T1:=Qn (n:=3) (s:=1) (by decide) l1
  have T2:=Qn (n:=3) (s:=2) (by decide) l2
  have mt12:Mts 3 (ZT 3 1) (ZT 3 2):=Jv (by decide+kernel)
  refine(Zy (Xf (ds:=(List.range m).map fun l=>Z8 m (ixr m V l)) ?_ e1)).trans ((Zy (Xf (ds:=(List.range m).map fun l=>Z8 m (ixr m U l)) ?_ e2)).trans ((Zy (ZS (d:=sqD 3 (ZT 3 1)) (by simp[t1]))).trans ((Zy (τ':=[some (.sh (scr xs)),some (.sh (.int (n:Int))),some (.sh (.lst ls)),some (.sh (.int (s:Int))),some (.sh (.int (t:Int))),some (.sh (sqD m g)),some (.sh (sqD m (mt P))),some (.sh (.int (m:Int))),some (.sh (.lst [Z8 m p0,Z8 m p1,Z8 m p2,Z8 m p3])),some (.sh (sqD m U)),some (.sh (sqD m V)),o12,some (.sh (sqD 3 (ZT 3 1)))]) ?_).trans (QI ?_))))
  ·simp[cb,itc]
  ·simp[cb',itc]
  ·by_cases h4:m<4
   ·have m33:m=3:=by omega
    subst m33
    have f1:=W8 L T1 (by decide) (by decide) (by decide) (by decide)
    have f2:=W8 ML T2 (by decide) (by decide) (by decide) (by decide)
    rw[if_neg (by decide)]at f1 f2
    have am:=Xt (Ug L T1 (by decide)) (Ug ML T2 (by decide)) (by decide) (by decide) (Mts.in_ T1 T2 (by decide) mm mt12)
    refine(WP ?_).trans ((X5 ?_).trans rfl)
    ·simp
    ·have am:Qd [sqD 9 (inG 3 g (ZT 3 1)),sqD 9 (inG 3 (mt P) (ZT 3 2))]=.ok (.bl true):=am
     simp[t2,f1,f2,am]
   ·refine(X5 ?_).trans rfl
    have h4':¬((m:Int)<4):=by omega
    simp[h4']
  ·have z1:D.tup [.tup [.int 0]]=sqD 1 (fun _ _=>0):=rfl
   have f1:=W8 L XF m1 (by decide) m9 (by decide)
   have f2:=W8 ML XF m1 (by decide) m9 (by decide)
   rw[if_neg (by omega)]at f1 f2
   have am:=Xt (Ug L XF (by decide)) (Ug ML XF (by decide)) (by omega) (by omega) (Mts.in_ XF XF (by decide) mm fun r c s d hr hc hs hd _ _=>by omega)
   rw[←z1]at f1 f2
   have s1:(1:Nat)<=sizeLine:=YW (by decide)
   simp only[z_ap,z_cs,z_vr,z_nl,z_tpl,z_cn,z_view,z_viewN,List.getElem?_cons_zero,List.getElem?_cons_succ,Option.map_some,z_dsh,z_okb,List.length_cons,List.length_nil,s1,if_true,Nat.zero_add,f1,f2,am]
end L3
namespace L3
open PySem PySem.Spec L2
open PyProof.Rows hiding St
def top(i:Nat):Stmt:=PySem.Challenge.pw_matesquare_k13_whole_made_mates.main.body.getD i (.Pass ⟨0,0,0,0⟩)
abbrev s_0:Stmt:=top 58
abbrev s_1:Stmt:=top 61
abbrev s_2:Stmt:=top 64
abbrev s_3:Stmt:=top 59
abbrev s_4:Stmt:=top 62
abbrev s_5:Stmt:=top 60
abbrev s_6:Stmt:=top 63
abbrev s_7:Stmt:=top 65
abbrev s_8:Stmt:=top 9
abbrev s_9:Stmt:=top 10
abbrev Z10:Stmt:=top 11
abbrev Z11:Stmt:=top 12
abbrev Z12:Stmt:=top 13
abbrev Z13:Stmt:=top 14
abbrev Z14:Stmt:=top 15
abbrev Z15:Stmt:=top 16
abbrev Z16:Stmt:=top 27
abbrev Z17:Stmt:=top 35
abbrev Z18:Stmt:=top 23
abbrev Z19:Stmt:=top 25
abbrev Z1a:Stmt:=top 26
abbrev Z1b:Stmt:=top 36
abbrev Z1c:Stmt:=top 37
abbrev Z1d:Stmt:=top 38
abbrev Z1e:Stmt:=top 19
abbrev Z1f:Stmt:=top 48
abbrev Z1g:Stmt:=top 49
abbrev Z1h:Stmt:=top 30
abbrev Z1i:Stmt:=top 31
abbrev Z1j:Stmt:=top 32
abbrev Z1k:Stmt:=top 33
abbrev Z1l:Stmt:=top 18
abbrev Z1m:Stmt:=top 20
abbrev Z1n:Stmt:=top 34
abbrev Z1o:Stmt:=top 17
abbrev Z1p:Stmt:=top 51
abbrev Z1q:Stmt:=top 52
abbrev Z1r:Stmt:=top 53
abbrev Z1s:Stmt:=top 54
abbrev Z1t:Stmt:=top 55
abbrev Z1u:Stmt:=top 56
abbrev Z1v:Stmt:=top 66
abbrev Z1w:Stmt:=top 24
abbrev Z1x:Stmt:=top 43
abbrev Z1y:Stmt:=top 44
abbrev Z1z:Stmt:=top 40
abbrev Z20:Stmt:=top 41
abbrev Z21:Stmt:=top 45
abbrev Z22:Stmt:=top 42
abbrev Z23:Stmt:=top 46
abbrev Ui:Stmt:=top 67
structure Txt(K:PySem.W.Frag)(mg:Str->Option Value):Prop where
 cls:ClsOk K mg [0,1,2,5,6,7]
 b_abs:mg "abs"=none
 b_all:mg "all"=none
 b_any:mg "any"=none
 b_bool:mg "bool"=none
 b_enumerate:mg "enumerate"=none
 b_int:mg "int"=none
 b_isinstance:mg "isinstance"=none
 b_len:mg "len"=none
 b_list:mg "list"=none
 b_max:mg "max"=none
 b_range:mg "range"=none
 b_set:mg "set"=none
 b_sorted:mg "sorted"=none
 b_sum:mg "sum"=none
 b_tuple:mg "tuple"=none
 b_zip:mg "zip"=none
 g_LARGEST_FOR_ALL_CUTS:∃t,mg "LARGEST_FOR_ALL_CUTS"=some (.int 7 t)
 g_LARGEST_FOR_PARTING:∃t,mg "LARGEST_FOR_PARTING"=some (.int 7 t)
 g_LARGEST_SIZE:∃t,mg "LARGEST_SIZE"=some (.int 9 t)
section
variable{P:Program}{w:World}{K:PySem.W.Frag}{mg:Str->Option Value}{base:Heap}{f:Addr}{fd:FuncData}(T:Txt K mg)
theorem sc_0:FnScope ["_law_script","_law_k"] ["_law_script","_law_k"] (Z3 s_0):=⟨rfl,rfl,rfl,by decide+kernel,rfl,by decide+kernel,by decide+kernel⟩
include T in
theorem b_0:Zh P w K mg base 0 f ["_law_script","_law_k"] "_law_cell" s_0 M_0:=by
 intro cdv A outer s H E hr
 refine Z7 ?_ ?_
 ·refine Y9 ?_ ?_ (Zt)
  ·refine Y5 JF ?_ ?_ XO
   ·exact Z1 1
   refine Zf Zu T.b_len boot_len ?_
   refine Z0 ?_ (Z4) ?_
   ·exact Z1 0
   exact Z2
  refine Z6 ?_
  refine Zl ?_
  refine ZB ?_ ?_
  ·exact Z1 0
  exact Z1 1
 refine Z6 ?_
 refine Zl ?_
 exact Zb
include T in
theorem k_0(F:Fun K "_law_cell" "_law_cell" s_0 f fd)(m:mg "_law_cell"=some (.ref f)):Callee P w K mg base 1 "_law_cell" F_0:=by
 have hb:= @b_0 P w K mg base f T
 unfold F_0
 refine⟨f,fd,_,Zk F sc_0 rfl rfl ?_,(ZA F (fun _ _ _ _ _ _ _ _=>rfl)),F.kp,m⟩
 assumption
variable(c_0:Callee P w K mg base 1 "_law_cell" F_0)
theorem sc_1:FnScope ["_law_many","_law_way"] ["_law_many","_law_way"] (Z3 s_1):=⟨rfl,rfl,rfl,by decide+kernel,rfl,by decide+kernel,by decide+kernel⟩
include T in
theorem b_1:Zh P w K mg base 0 f ["_law_many","_law_way"] "_law_first" s_1 M_1:=by
 intro cdv A outer s H E hr
 refine Z7 ?_ ?_
 ·refine Y9 ?_ ?_ (Zt)
  ·refine t_w ?_
   refine Z2i ?_ ?_
   ·refine Y5 (ZU hr.units) ?_ ?_ X3
    ·exact Z1 0
    exact Zb
   refine Z2h ?_
   refine Y5 (ZU hr.units) ?_ ?_ X3
   ·refine ZJ ZW ?_ ?_
    ·exact Z1 1
    exact Zb
   exact Zb
  refine Z6 ?_
  refine Zl ?_
  refine Y0 ?_
  refine Z0 ?_ ?_ ?_
  ·refine Y0 ?_
   exact YI _ _ rfl
  ·refine Z0 ?_ ?_ ?_
   ·refine Y0 ?_
    exact YI _ _ rfl
   ·refine Z0 ?_ ?_ ?_
    ·refine Y0 ?_
     exact YI _ _ rfl
    ·refine Z0 ?_ ?_ ?_
     ·refine Y0 ?_
      exact YI _ _ rfl
     ·refine Z0 ?_ (Z4) ?_
      ·refine Y0 ?_
       exact YI _ _ rfl
      exact ZR
     exact ZR
    exact ZR
   exact ZR
  exact ZR
 refine Z7 ?_ ?_
 ·refine Y9 ?_ ?_ (Zt)
  ·refine t_w ?_
   refine Z2i ?_ ?_
   ·refine Y5 (ZU hr.units) ?_ ?_ X3
    ·exact Z1 0
    exact Zb
   refine Z2h ?_
   refine Y5 (ZU hr.units) ?_ ?_ X3
   ·refine ZJ ZW ?_ ?_
    ·exact Z1 1
    exact Zb
   exact Zb
  refine Z6 ?_
  refine Zl ?_
  refine Y0 ?_
  refine Z0 ?_ ?_ ?_
  ·refine Y0 ?_
   exact YI _ _ rfl
  ·refine Z0 ?_ ?_ ?_
   ·refine Y0 ?_
    exact YI _ _ rfl
   ·refine Z0 ?_ ?_ ?_
    ·refine Y0 ?_
     exact YI _ _ rfl
    ·refine Z0 ?_ (Z4) ?_
     ·refine Y0 ?_
      exact YI _ _ rfl
     exact ZR
    exact ZR
   exact ZR
  exact ZR
 refine Z6 ?_
 refine Zl ?_
 refine Zw ZZ T.b_tuple boot_tuple ?_
 refine Z0 ?_ (Z4) ?_
 ·refine ZD ?_
  refine Zx ["_law_row","_law_many"] ?_ ?_ ?_ ?_
  ·refine ZK T.b_range ?_
   refine Z0 ?_ (Z4) ?_
   ·exact Z1 0
   exact Z2
  ·intro _ _ _ _ _
   exact Zg
  ·intro _ _ _ _ _
   exact Zs
  intro _ _ _ _ _
  refine Zw ZZ T.b_tuple boot_tuple ?_
  refine Z0 ?_ (Z4) ?_
  ·refine ZD ?_
   refine Zx ["_law_column","_law_row","_law_many"] ?_ ?_ ?_ ?_
   ·refine ZK T.b_range ?_
    refine Z0 ?_ (Z4) ?_
    ·exact Z1 1
    exact Z2
   ·intro _ _ _ _ _
    exact Zg
   ·intro _ _ _ _ _
    exact Zs
   intro _ _ _ _ _
   refine ZJ ZW ?_ ?_
   ·refine ZJ ZC ?_ ?_
    ·exact Z1 1
    exact Z1 0
   exact Z1 2
  exact Ze
 exact Ze
include T in
theorem k_1(F:Fun K "_law_first" "_law_first" s_1 f fd)(m:mg "_law_first"=some (.ref f)):Callee P w K mg base 1 "_law_first" F_1:=by
 have hb:= @b_1 P w K mg base f T
 unfold F_1
 refine⟨f,fd,_,Zk F sc_1 rfl rfl ?_,(ZA F (fun _ _ _ _ _ _ _ _=>rfl)),F.kp,m⟩
 assumption
variable(c_1:Callee P w K mg base 1 "_law_first" F_1)
theorem sc_2:FnScope ["_law_square","_law_rows","_law_columns","_law_letters"] ["_law_square","_law_rows","_law_columns","_law_letters"] (Z3 s_2):=⟨rfl,rfl,rfl,by decide+kernel,rfl,by decide+kernel,by decide+kernel⟩
include T in
theorem b_2:Zh P w K mg base 0 f ["_law_square","_law_rows","_law_columns","_law_letters"] "_law_renamed" s_2 M_2:=by
 intro cdv A outer s H E hr
 refine Z6 ?_
 refine Zl ?_
 refine Zw ZZ T.b_tuple boot_tuple ?_
 refine Z0 ?_ (Z4) ?_
 ·refine ZD ?_
  refine Zx ["_law_row","_law_columns","_law_letters","_law_square"] ?_ ?_ ?_ ?_
  ·refine ZQ ?_
   exact Z1 1
  ·intro _ _ _ _ _
   exact Zg
  ·intro _ _ _ _ _
   exact Zs
  intro _ _ _ _ _
  refine Zw ZZ T.b_tuple boot_tuple ?_
  refine Z0 ?_ (Z4) ?_
  ·refine ZD ?_
   refine Zx ["_law_column","_law_letters","_law_square","_law_row"] ?_ ?_ ?_ ?_
   ·refine ZQ ?_
    exact Z1 1
   ·intro _ _ _ _ _
    exact Zg
   ·intro _ _ _ _ _
    exact Zs
   intro _ _ _ _ _
   refine ZB ?_ ?_
   ·exact Z1 1
   refine ZB ?_ ?_
   ·refine ZB ?_ ?_
    ·exact Z1 2
    exact Z1 3
   exact Z1 0
  exact Ze
 exact Ze
include T in
theorem k_2(F:Fun K "_law_renamed" "_law_renamed" s_2 f fd)(m:mg "_law_renamed"=some (.ref f)):Callee P w K mg base 1 "_law_renamed" F_2:=by
 have hb:= @b_2 P w K mg base f T
 unfold F_2
 refine⟨f,fd,_,Zk F sc_2 rfl rfl ?_,(Z07 F (fun _ _ _ _ _ _ _ _ _ _=>rfl)),F.kp,m⟩
 assumption
variable(c_2:Callee P w K mg base 1 "_law_renamed" F_2)
theorem sc_3:FnScope ["_law_cell_here","_law_prime","_law_many"] ["_law_cell_here","_law_prime","_law_many"] (Z3 s_3):=⟨rfl,rfl,rfl,by decide+kernel,rfl,by decide+kernel,by decide+kernel⟩
include T in
theorem b_3:Zh P w K mg base 0 f ["_law_cell_here","_law_prime","_law_many"] "_law_mix" s_3 M_3:=by
 intro cdv A outer s H E hr
 refine Z6 ?_
 refine Zl ?_
 refine ZJ ZW ?_ ?_
 ·refine ZJ ZW ?_ ?_
  ·refine ZJ YC ?_ ?_
   ·exact Z1 0
   exact Zb
  exact Z1 1
 exact Z1 2
include T in
theorem k_3(F:Fun K "_law_mix" "_law_mix" s_3 f fd)(m:mg "_law_mix"=some (.ref f)):Callee P w K mg base 1 "_law_mix" F_3:=by
 have hb:= @b_3 P w K mg base f T
 unfold F_3
 refine⟨f,fd,_,Zk F sc_3 rfl rfl ?_,(QC F (fun _ _ _ _ _ _ _ _ _=>rfl)),F.kp,m⟩
 assumption
variable(c_3:Callee P w K mg base 1 "_law_mix" F_3)
theorem sc_4:FnScope ["_law_square","_law_found","_law_many","_law_one","_law_two","_law_left","_law_right"] ["_law_square"] (Z3 s_4):=⟨rfl,rfl,rfl,by decide+kernel,rfl,by decide+kernel,by decide+kernel⟩
include T in
theorem b_4:Zh P w K mg base 0 f ["_law_square","_law_found","_law_many","_law_one","_law_two","_law_left","_law_right"] "_law_twos" s_4 M_4:=by
 intro cdv A outer s H E hr
 refine Z7 ?_ ?_
 ·refine UD ?_
  refine X4 (Z4)
 refine Z7 ?_ ?_
 ·refine Y3 ?_
  refine Zf Zu T.b_len boot_len ?_
  refine Z0 ?_ (Z4) ?_
  ·exact Z1 0
  exact Z2
 refine Z7 ?_ ?_
 ·refine YF ?_ ?_ ?_
  ·intro _
   refine ZK T.b_range ?_
   refine Z0 ?_ (Z4) ?_
   ·exact Z1 2
   exact Z2
  ·intro _
   exact Zg
  intro _
  refine Z6 ?_
  refine YF ?_ ?_ ?_
  ·intro _
   refine Q7 T.b_range ?_
   refine Z0 ?_ ?_ ?_
   ·refine ZJ ZC ?_ ?_
    ·exact Z1 3
    exact Zb
   ·refine Z0 ?_ (Z4) ?_
    ·exact Z1 2
    exact Z2
   exact ZL
  ·intro _
   exact Zg
  intro _
  refine Z6 ?_
  refine YF ?_ ?_ ?_
  ·intro _
   refine ZK T.b_range ?_
   refine Z0 ?_ (Z4) ?_
   ·exact Z1 2
   exact Z2
  ·intro _
   exact Zg
  intro _
  refine Z6 ?_
  refine YF ?_ ?_ ?_
  ·intro _
   refine Q7 T.b_range ?_
   refine Z0 ?_ ?_ ?_
   ·refine ZJ ZC ?_ ?_
    ·exact Z1 5
    exact Zb
   ·refine Z0 ?_ (Z4) ?_
    ·exact Z1 2
    exact Z2
   exact ZL
  ·intro _
   exact Zg
  intro _
  refine Z6 ?_
  refine Y9 ?_ ?_ (Zt)
  ·refine t_w ?_
   refine Z2i ?_ ?_
   ·refine Y5 (ZU hr.units) ?_ ?_ X3
    ·refine ZB ?_ ?_
     ·refine ZB ?_ ?_
      ·exact Z1 0
      exact Z1 3
     exact Z1 5
    refine ZB ?_ ?_
    ·refine ZB ?_ ?_
     ·exact Z1 0
     exact Z1 4
    exact Z1 6
   refine Z2h ?_
   refine Y5 (ZU hr.units) ?_ ?_ X3
   ·refine ZB ?_ ?_
    ·refine ZB ?_ ?_
     ·exact Z1 0
     exact Z1 3
    exact Z1 6
   refine ZB ?_ ?_
   ·refine ZB ?_ ?_
    ·exact Z1 0
    exact Z1 4
   exact Z1 5
  refine Z6 ?_
  refine Zed ?_
  refine Y0 ?_
  refine Z0 ?_ ?_ ?_
  ·exact Z1 3
  ·refine Z0 ?_ ?_ ?_
   ·exact Z1 4
   ·refine Z0 ?_ ?_ ?_
    ·exact Z1 5
    ·refine Z0 ?_ (Z4) ?_
     ·exact Z1 6
     exact Z2
    exact Z2
   exact Z2
  exact Z2
 refine Z6 ?_
 refine Zl ?_
 exact Z1 1
include T in
theorem k_4(F:Fun K "_law_twos" "_law_twos" s_4 f fd)(m:mg "_law_twos"=some (.ref f)):Callee P w K mg base 1 "_law_twos" F_4:=by
 have hb:= @b_4 P w K mg base f T
 unfold F_4
 refine⟨f,fd,_,Zk F sc_4 rfl rfl ?_,(YA F (fun _ _ _ _ _ _ _=>rfl)),F.kp,m⟩
 assumption
variable(c_4:Callee P w K mg base 1 "_law_twos" F_4)
theorem sc_5:FnScope ["_law_cell_here","_law_many","_law_keys"] ["_law_cell_here","_law_many"] (Z3 s_5):=⟨rfl,rfl,rfl,by decide+kernel,rfl,by decide+kernel,by decide+kernel⟩
include T c_3 in
theorem b_5:Zh P w K mg base 1 f ["_law_cell_here","_law_many","_law_keys"] "_law_order" s_5 M_5:=by
 intro cdv A outer s H E hr
 refine Z7 ?_ ?_
 ·refine XT ["_law_k","_law_cell_here"] ?_ ?_ ?_ ?_
  ·refine ZK T.b_range ?_
   refine Z0 ?_ (Z4) ?_
   ·exact Z1 1
   exact Z2
  ·intro _ _ _ _ _
   exact Zg
  ·intro _ _ _ _ _
   exact Zs
  intro _ _ _ _ _
  refine Y0 ?_
  refine Z0 ?_ ?_ ?_
  ·refine Z5 c_3 ?_ ?_
   ·exact hr.lo
   refine Z0 ?_ ?_ ?_
   ·refine ZJ ZC ?_ ?_
    ·refine ZJ ZC ?_ ?_
     ·exact Z1 1
     refine ZJ YC ?_ ?_
     ·refine ZJ YC ?_ ?_
      ·exact Zb
      exact Z1 0
     exact Z1 0
    refine ZJ YC ?_ ?_
    ·exact Zb
    exact Z1 0
   ·refine Z0 ?_ ?_ ?_
    ·exact Zb
    ·refine Z0 ?_ (Z4) ?_
     ·exact Zb
     exact Zc
    exact Zc
   exact ZL
  ·refine Z0 ?_ (Z4) ?_
   ·exact Z1 0
   exact Z2
  exact Zp
 refine Z6 ?_
 refine Zl ?_
 refine Zw ZZ T.b_tuple boot_tuple ?_
 refine Z0 ?_ (Z4) ?_
 ·refine ZD ?_
  refine Zx ["_law_key"] ?_ ?_ ?_ ?_
  ·refine ZQ ?_
   refine ZD ?_
   refine Z2k Z3z T.b_sorted boot_sorted ?_
   refine Z0 ?_ (Z4) ?_
   ·exact Z1 2
   exact Z2
  ·intro _ _ _ _ _
   exact Zg
  ·intro _ _ _ _ _
   exact Zs
  intro _ _ _ _ _
  refine ZB ?_ ?_
  ·exact Z1 0
  exact Zb
 exact Ze
include T c_3 in
theorem k_5(F:Fun K "_law_order" "_law_order" s_5 f fd)(m:mg "_law_order"=some (.ref f)):Callee P w K mg base 2 "_law_order" F_5:=by
 have hb:= @b_5 P w K mg base f T c_3
 unfold F_5
 refine⟨f,fd,_,Zk F sc_5 rfl rfl ?_,(ZA F (fun _ _ _ _ _ _ _ _=>rfl)),F.kp,m⟩
 assumption
variable(c_5:Callee P w K mg base 2 "_law_order" F_5)
theorem sc_6:FnScope ["_law_square","_law_two","_law_rows","_law_row","_law_left"] ["_law_square","_law_two"] (Z3 s_6):=⟨rfl,rfl,rfl,by decide+kernel,rfl,by decide+kernel,by decide+kernel⟩
include T in
theorem b_6:Zh P w K mg base 0 f ["_law_square","_law_two","_law_rows","_law_row","_law_left"] "_law_switched" s_6 M_6:=by
 intro cdv A outer s H E hr
 refine Z7 ?_ ?_
 ·refine Z6k ["_law_row"] ?_ ?_ ?_ ?_
  ·refine ZQ ?_
   exact Z1 0
  ·intro _ _ _ _ _
   exact Zg
  ·intro _ _ _ _ _
   exact Zs
  intro _ _ _ _ _
  refine Z6b Z9d T.b_list boot_list ?_
  refine Z0 ?_ (Z4) ?_
  ·exact Z1 0
  exact Z2
 refine Z7 ?_ ?_
 ·refine YF ?_ ?_ ?_
  ·intro _
   refine ZQ ?_
   refine Z9c ?_ Zc1 ?_
   ·exact Z1 1
   refine Zc2 ?_
   exact Zb
  ·intro _
   exact Zg
  intro _
  refine Z7 ?_ ?_
  ·refine Zc4 ?_
   refine ZB ?_ ?_
   ·refine ZB ?_ ?_
    ·exact Z1 2
    exact Z1 3
   refine ZB ?_ ?_
   ·exact Z1 1
   exact Zb
  refine Z7 ?_ ?_
  ·refine Z6n ?_ ?_ ?_
   ·exact Z1 3
   ·refine ZB ?_ ?_
    ·exact Z1 1
    exact Zb
   refine ZB ?_ ?_
   ·refine ZB ?_ ?_
    ·exact Z1 2
    exact Z1 3
   refine ZB ?_ ?_
   ·exact Z1 1
   exact Zb
  refine Z6 ?_
  refine Z6n ?_ ?_ ?_
  ·exact Z1 3
  ·refine ZB ?_ ?_
   ·exact Z1 1
   exact Zb
  exact Z1 4
 refine Z6 ?_
 refine Zl ?_
 refine Zw ZZ T.b_tuple boot_tuple ?_
 refine Z0 ?_ (Z4) ?_
 ·refine ZD ?_
  refine Zx ["_law_row"] ?_ ?_ ?_ ?_
  ·refine ZQ ?_
   exact Z1 2
  ·intro _ _ _ _ _
   exact Zg
  ·intro _ _ _ _ _
   exact Zs
  intro _ _ _ _ _
  refine Zw ZZ T.b_tuple boot_tuple ?_
  refine Z0 ?_ (Z4) ?_
  ·exact Z1 0
  exact Z2
 exact Ze
include T in
theorem k_6(F:Fun K "_law_switched" "_law_switched" s_6 f fd)(m:mg "_law_switched"=some (.ref f)):Callee P w K mg base 1 "_law_switched" F_6:=by
 have hb:= @b_6 P w K mg base f T
 unfold F_6
 refine⟨f,fd,_,Zk F sc_6 rfl rfl ?_,(ZA F (fun _ _ _ _ _ _ _ _=>rfl)),F.kp,m⟩
 assumption
variable(c_6:Callee P w K mg base 1 "_law_switched" F_6)
theorem sc_7:FnScope ["_law_script","_law_at","_law_many","_law_cell_here","_law_found","_law_k","_law_some","_law_orders"] ["_law_script","_law_at","_law_many"] (Z3 s_7):=⟨rfl,rfl,rfl,by decide+kernel,rfl,by decide+kernel,by decide+kernel⟩
include T c_0 c_1 c_2 c_3 c_4 c_5 c_6 in
theorem b_7:Zh P w K mg base 2 f ["_law_script","_law_at","_law_many","_law_cell_here","_law_found","_law_k","_law_some","_law_orders"] "_law_sized" s_7 M_7:=by
 intro cdv A outer s H E hr
 refine Z7 ?_ ?_
 ·refine Y3 ?_
  refine Z5 c_0 ?_ ?_
  ·exact hr.lo
  refine Z0 ?_ ?_ ?_
  ·exact Z1 0
  ·refine Z0 ?_ (Z4) ?_
   ·exact Z1 1
   exact Z2
  exact Z2
 refine Z7 ?_ ?_
 ·refine Y3 ?_
  refine Z5 c_1 ?_ ?_
  ·exact hr.lo
  refine Z0 ?_ ?_ ?_
  ·exact Z1 2
  ·refine Z0 ?_ (Z4) ?_
   ·refine ZJ Z95 ?_ ?_
    ·exact Z1 3
    exact Zb
   exact ZL
  exact Z2
 refine Z7 ?_ ?_
 ·refine YF ?_ ?_ ?_
  ·intro _
   refine ZK T.b_range ?_
   refine Z0 ?_ (Z4) ?_
   ·refine Z5 c_3 ?_ ?_
    ·exact hr.lo
    refine Z0 ?_ ?_ ?_
    ·exact Z1 3
    ·refine Z0 ?_ ?_ ?_
     ·exact Zb
     ·refine Z0 ?_ (Z4) ?_
      ·exact Zb
      exact Zc
     exact Zc
    exact Z2
   exact Zp
  ·intro _
   exact Zg
  intro _
  refine Z7 ?_ ?_
  ·refine Y3 ?_
   refine Z5 c_4 ?_ ?_
   ·exact hr.lo
   refine Z0 ?_ (Z4) ?_
   ·exact Z1 4
   exact Z2
  refine Z6 ?_
  refine Y9 ?_ ?_ (Zt)
  ·refine Y5 (VV hr.units) ?_ ?_ Z2g
   ·exact Z1 6
   refine ZD ?_
   refine X4 (Z4)
  refine Z6 ?_
  refine Y3 ?_
  refine Z5 c_6 ?_ ?_
  ·exact hr.lo
  refine Z0 ?_ ?_ ?_
  ·exact Z1 4
  ·refine Z0 ?_ (Z4) ?_
   ·refine ZB ?_ ?_
    ·exact Z1 6
    refine Z5 c_3 ?_ ?_
    ·exact hr.lo
    refine Z0 ?_ ?_ ?_
    ·refine ZJ ZC ?_ ?_
     ·refine Z5 c_0 ?_ ?_
      ·exact hr.lo
      refine Z0 ?_ ?_ ?_
      ·exact Z1 0
      ·refine Z0 ?_ (Z4) ?_
       ·refine ZJ ZC ?_ ?_
        ·exact Z1 1
        exact Zb
       exact ZL
      exact Z2
     refine ZJ YC ?_ ?_
     ·exact Zb
     exact Z1 5
    ·refine Z0 ?_ ?_ ?_
     ·exact Zb
     ·refine Z0 ?_ (Z4) ?_
      ·refine Zf Zu T.b_len boot_len ?_
       refine Z0 ?_ (Z4) ?_
       ·exact Z1 6
       exact Z2
      exact Zp
     exact Zc
    exact ZL
   exact Zd
  exact Z2
 refine Z7 ?_ ?_
 ·refine XT ["_law_k","_law_script","_law_at","_law_many"] ?_ ?_ ?_ ?_
  ·refine ZK T.b_range ?_
   refine Z0 ?_ (Z4) ?_
   ·exact Zb
   exact Zc
  ·intro _ _ _ _ _
   exact Zg
  ·intro _ _ _ _ _
   exact Zs
  intro _ _ _ _ _
  refine Z5 c_5 ?_ ?_
  ·exact hr.lo
  refine Z0 ?_ ?_ ?_
  ·refine ZJ ZC ?_ ?_
   ·refine Z5 c_0 ?_ ?_
    ·exact hr.lo
    refine Z0 ?_ ?_ ?_
    ·exact Z1 1
    ·refine Z0 ?_ (Z4) ?_
     ·refine ZJ ZC ?_ ?_
      ·exact Z1 2
      exact Zb
     exact ZL
    exact Z2
   refine ZJ YC ?_ ?_
   ·exact Zb
   exact Z1 0
  ·refine Z0 ?_ (Z4) ?_
   ·exact Z1 3
   exact Z2
  exact ZL
 refine Z6 ?_
 refine Zl ?_
 refine Z5 c_2 ?_ ?_
 ·exact hr.lo
 refine Z0 ?_ ?_ ?_
 ·exact Z1 4
 ·refine Z0 ?_ ?_ ?_
  ·refine ZB ?_ ?_
   ·exact Z1 7
   exact Zb
  ·refine Z0 ?_ ?_ ?_
   ·refine ZB ?_ ?_
    ·exact Z1 7
    exact Zb
   ·refine Z0 ?_ (Z4) ?_
    ·refine ZB ?_ ?_
     ·exact Z1 7
     exact Zb
    exact Zd
   exact Zd
  exact Zd
 exact Z2
include T c_0 c_1 c_2 c_3 c_4 c_5 c_6 in
theorem k_7(F:Fun K "_law_sized" "_law_sized" s_7 f fd)(m:mg "_law_sized"=some (.ref f)):Callee P w K mg base 3 "_law_sized" F_7:=by
 have hb:= @b_7 P w K mg base f T c_0 c_1 c_2 c_3 c_4 c_5 c_6
 unfold F_7
 refine⟨f,fd,_,Zk F sc_7 rfl rfl ?_,(QC F (fun _ _ _ _ _ _ _ _ _=>rfl)),F.kp,m⟩
 assumption
variable(c_7:Callee P w K mg base 3 "_law_sized" F_7)
theorem sc_8:FnScope ["many","thing"] ["many","thing"] (Z3 s_8):=⟨rfl,rfl,rfl,by decide+kernel,rfl,by decide+kernel,by decide+kernel⟩
include T in
theorem b_8:Zh P w K mg base 0 f ["many","thing"] "is_number_below" s_8 M_8:=by
 intro cdv A outer s H E hr
 refine Z7 ?_ ?_
 ·refine Y9 ?_ ?_ (Zt)
  ·refine t_w ?_
   refine Z64 ?_ ?_
   ·refine Yd ?_
    refine Z2l .bool ?_ T.b_isinstance T.b_bool boot_bool
    exact Z1 1
   refine Wr ?_
   refine Yv ?_
   refine Yd ?_
   refine Z2l .int ?_ T.b_isinstance T.b_int boot_int
   exact Z1 1
  refine Z6 ?_
  refine Zl ?_
  exact Wi
 refine Z6 ?_
 refine Zl ?_
 refine Z99 JG JF ?_ ?_ ?_
 ·exact Zb
 ·exact Z1 1
 exact Z1 0
include T in
theorem k_8(F:Fun K "is_number_below" "is_number_below" s_8 f fd)(m:mg "is_number_below"=some (.ref f)):Callee P w K mg base 1 "is_number_below" F_8:=by
 have hb:= @b_8 P w K mg base f T
 unfold F_8
 refine⟨f,fd,_,Zk F sc_8 rfl rfl ?_,(ZA F (fun _ _ _ _ _ _ _ _=>rfl)),F.kp,m⟩
 assumption
variable(c_8:Callee P w K mg base 1 "is_number_below" F_8)
theorem sc_9:FnScope ["many","thing"] ["many","thing"] (Z3 s_9):=⟨rfl,rfl,rfl,by decide+kernel,rfl,by decide+kernel,by decide+kernel⟩
include T c_8 in
theorem b_9:Zh P w K mg base 1 f ["many","thing"] "is_part_of_order" s_9 M_9:=by
 intro cdv A outer s H E hr
 refine Z7 ?_ ?_
 ·refine Y9 ?_ ?_ (Zt)
  ·refine Yv ?_
   refine Yd ?_
   refine Z2l .tuple ?_ T.b_isinstance T.b_tuple boot_tuple
   exact Z1 1
  refine Z6 ?_
  refine Zl ?_
  exact Wi
 refine Z7 ?_ ?_
 ·refine Y9 ?_ ?_ (Zt)
  ·refine Yv ?_
   refine Yd ?_
   refine Zf (Ws hr.hd) T.b_all boot_all ?_
   refine Z0 ?_ (Z4) ?_
   ·refine ZD ?_
    refine Zx ["number","many"] ?_ ?_ ?_ ?_
    ·refine ZQ ?_
     exact Z1 1
    ·intro _ _ _ _ _
     exact Zg
    ·intro _ _ _ _ _
     exact Zs
    intro _ _ _ _ _
    refine Z5 c_8 ?_ ?_
    ·exact hr.lo
    refine Z0 ?_ ?_ ?_
    ·exact Z1 1
    ·refine Z0 ?_ (Z4) ?_
     ·exact Z1 0
     exact Z2
    exact Z2
   exact Ze
  refine Z6 ?_
  refine Zl ?_
  exact Wi
 refine Z6 ?_
 refine Zl ?_
 refine Q3 (ZU hr.units) ?_ ?_
 ·refine Z6r ?_ T.b_len T.b_set ?_
  ·exact hr.hd
  exact Z1 1
 refine Zf Zu T.b_len boot_len ?_
 refine Z0 ?_ (Z4) ?_
 ·exact Z1 1
 exact Z2
include T c_8 in
theorem k_9(F:Fun K "is_part_of_order" "is_part_of_order" s_9 f fd)(m:mg "is_part_of_order"=some (.ref f)):Callee P w K mg base 2 "is_part_of_order" F_9:=by
 have hb:= @b_9 P w K mg base f T c_8
 unfold F_9
 refine⟨f,fd,_,Zk F sc_9 rfl rfl ?_,(ZA F (fun _ _ _ _ _ _ _ _=>rfl)),F.kp,m⟩
 assumption
variable(c_9:Callee P w K mg base 2 "is_part_of_order" F_9)
theorem Zeq:FnScope ["many","thing"] ["many","thing"] (Z3 Z10):=⟨rfl,rfl,rfl,by decide+kernel,rfl,by decide+kernel,by decide+kernel⟩
include T c_9 in
theorem b_10:Zh P w K mg base 2 f ["many","thing"] "is_order" Z10 M_10:=by
 intro cdv A outer s H E hr
 refine Z6 ?_
 refine Zl ?_
 refine Z66 ?_ ?_
 ·refine Z5 c_9 ?_ ?_
  ·exact hr.lo
  refine Z0 ?_ ?_ ?_
  ·exact Z1 0
  ·refine Z0 ?_ (Z4) ?_
   ·exact Z1 1
   exact Z2
  exact Z2
 refine Z2j ?_
 refine Q3 (ZU hr.units) ?_ ?_
 ·refine Zf Zu T.b_len boot_len ?_
  refine Z0 ?_ (Z4) ?_
  ·exact Z1 1
  exact Z2
 exact Z1 0
include T c_9 in
theorem k_10(F:Fun K "is_order" "is_order" Z10 f fd)(m:mg "is_order"=some (.ref f)):Callee P w K mg base 3 "is_order" Vb:=by
 have hb:= @b_10 P w K mg base f T c_9
 unfold Vb
 refine⟨f,fd,_,Zk F Zeq rfl rfl ?_,(ZA F (fun _ _ _ _ _ _ _ _=>rfl)),F.kp,m⟩
 assumption
variable(c_10:Callee P w K mg base 3 "is_order" Vb)
theorem Zer:FnScope ["rows","column"] ["rows","column"] (Z3 Z11):=⟨rfl,rfl,rfl,by decide+kernel,rfl,by decide+kernel,by decide+kernel⟩
include T in
theorem b_11:Zh P w K mg base 0 f ["rows","column"] "column_of" Z11 M_11:=by
 intro cdv A outer s H E hr
 refine Z6 ?_
 refine Zl ?_
 refine Zw ZZ T.b_tuple boot_tuple ?_
 refine Z0 ?_ (Z4) ?_
 ·refine ZD ?_
  refine Zx ["row","column"] ?_ ?_ ?_ ?_
  ·refine ZQ ?_
   exact Z1 0
  ·intro _ _ _ _ _
   exact Zg
  ·intro _ _ _ _ _
   exact Zs
  intro _ _ _ _ _
  refine ZB ?_ ?_
  ·exact Z1 0
  exact Z1 1
 exact Ze
include T in
theorem k_11(F:Fun K "column_of" "column_of" Z11 f fd)(m:mg "column_of"=some (.ref f)):Callee P w K mg base 1 "column_of" U2:=by
 have hb:= @b_11 P w K mg base f T
 unfold U2
 refine⟨f,fd,_,Zk F Zer rfl rfl ?_,(ZA F (fun _ _ _ _ _ _ _ _=>rfl)),F.kp,m⟩
 assumption
variable(c_11:Callee P w K mg base 1 "column_of" U2)
theorem Zes:FnScope ["rows"] ["rows"] (Z3 Z12):=⟨rfl,rfl,rfl,by decide+kernel,rfl,by decide+kernel,by decide+kernel⟩
include T c_11 in
theorem b_12:Zh P w K mg base 1 f ["rows"] "columns_of" Z12 M_12:=by
 intro cdv A outer s H E hr
 refine Z6 ?_
 refine Zl ?_
 refine Zw ZZ T.b_tuple boot_tuple ?_
 refine Z0 ?_ (Z4) ?_
 ·refine ZD ?_
  refine Zx ["column","rows"] ?_ ?_ ?_ ?_
  ·refine ZK T.b_range ?_
   refine Z0 ?_ (Z4) ?_
   ·refine Zf Zu T.b_len boot_len ?_
    refine Z0 ?_ (Z4) ?_
    ·refine ZB ?_ ?_
     ·exact Z1 0
     exact Zb
    exact Zd
   exact Zp
  ·intro _ _ _ _ _
   exact Zg
  ·intro _ _ _ _ _
   exact Zs
  intro _ _ _ _ _
  refine Z5 c_11 ?_ ?_
  ·exact hr.lo
  refine Z0 ?_ ?_ ?_
  ·exact Z1 1
  ·refine Z0 ?_ (Z4) ?_
   ·exact Z1 0
   exact Z2
  exact Z2
 exact Ze
include T c_11 in
theorem k_12(F:Fun K "columns_of" "columns_of" Z12 f fd)(m:mg "columns_of"=some (.ref f)):Callee P w K mg base 2 "columns_of" Z7e:=by
 have hb:= @b_12 P w K mg base f T c_11
 unfold Z7e
 refine⟨f,fd,_,Zk F Zes rfl rfl ?_,(YA F (fun _ _ _ _ _ _ _=>rfl)),F.kp,m⟩
 assumption
variable(c_12:Callee P w K mg base 2 "columns_of" Z7e)
theorem Zet:FnScope ["thing","many"] ["thing"] (Z3 Z13):=⟨rfl,rfl,rfl,by decide+kernel,rfl,by decide+kernel,by decide+kernel⟩
include T c_10 c_12 in
theorem b_13:Zh P w K mg base 3 f ["thing","many"] "is_square" Z13 M_13:=by
 intro cdv A outer s H E hr
 refine Z7 ?_ ?_
 ·refine Y9 ?_ ?_ (Zt)
  ·refine t_w ?_
   refine Z64 ?_ ?_
   ·refine Yv ?_
    refine Yd ?_
    refine Z2l .tuple ?_ T.b_isinstance T.b_tuple boot_tuple
    exact Z1 0
   refine Wr ?_
   refine Yv ?_
   refine Z9a JG JG ?_ ?_ ?_ XO
   ·exact Zb
   ·refine Zf Zu T.b_len boot_len ?_
    refine Z0 ?_ (Z4) ?_
    ·exact Z1 0
    exact Z2
   exact Wj rfl T.g_LARGEST_SIZE.choose_spec
  refine Z6 ?_
  refine Zl ?_
  exact Wi
 refine Z7 ?_ ?_
 ·refine Y3 ?_
  refine Zf Zu T.b_len boot_len ?_
  refine Z0 ?_ (Z4) ?_
  ·exact Z1 0
  exact Z2
 refine Z7 ?_ ?_
 ·refine Y9 ?_ ?_ (Zt)
  ·refine Yv ?_
   refine Yd ?_
   refine Zf (Ws hr.hd) T.b_all boot_all ?_
   refine Z0 ?_ (Z4) ?_
   ·refine ZD ?_
    refine Zx ["row","many"] ?_ ?_ ?_ ?_
    ·refine ZQ ?_
     exact Z1 0
    ·intro _ _ _ _ _
     exact Zg
    ·intro _ _ _ _ _
     exact Zs
    intro _ _ _ _ _
    refine Z5 c_10 ?_ ?_
    ·exact hr.lo
    refine Z0 ?_ ?_ ?_
    ·exact Z1 1
    ·refine Z0 ?_ (Z4) ?_
     ·exact Z1 0
     exact Z2
    exact Z2
   exact Ze
  refine Z6 ?_
  refine Zl ?_
  exact Wi
 refine Z6 ?_
 refine Zl ?_
 refine Zf (Ws hr.hd) T.b_all boot_all ?_
 refine Z0 ?_ (Z4) ?_
 ·refine ZD ?_
  refine Zx ["column","many"] ?_ ?_ ?_ ?_
  ·refine ZQ ?_
   refine Z5 c_12 ?_ ?_
   ·exact hr.lo
   refine Z0 ?_ (Z4) ?_
   ·exact Z1 0
   exact Z2
  ·intro _ _ _ _ _
   exact Zg
  ·intro _ _ _ _ _
   exact Zs
  intro _ _ _ _ _
  refine Z5 c_10 ?_ ?_
  ·exact hr.lo
  refine Z0 ?_ ?_ ?_
  ·exact Z1 1
  ·refine Z0 ?_ (Z4) ?_
   ·exact Z1 0
   exact Z2
  exact Z2
 exact Ze
include T c_10 c_12 in
theorem k_13(F:Fun K "is_square" "is_square" Z13 f fd)(m:mg "is_square"=some (.ref f)):Callee P w K mg base 4 "is_square" Z7f:=by
 have hb:= @b_13 P w K mg base f T c_10 c_12
 unfold Z7f
 refine⟨f,fd,_,Zk F Zet rfl rfl ?_,(YA F (fun _ _ _ _ _ _ _=>rfl)),F.kp,m⟩
 assumption
variable(c_13:Callee P w K mg base 4 "is_square" Z7f)
theorem Zeu:FnScope ["square"] ["square"] (Z3 Z14):=⟨rfl,rfl,rfl,by decide+kernel,rfl,by decide+kernel,by decide+kernel⟩
include T c_13 in
theorem b_14:Zh P w K mg base 4 f ["square"] "checked" Z14 M_14:=by
 intro cdv A outer s H E hr
 refine Z7 ?_ ?_
 ·refine Y9 ?_ ?_ (Zt)
  ·refine Yv ?_
   refine Yd ?_
   refine Z5 c_13 ?_ ?_
   ·exact hr.lo
   refine Z0 ?_ (Z4) ?_
   ·exact Z1 0
   exact Z2
  refine Z6 ?_
  refine YL T.cls ?_ ?_
  ·exact(by decide)
  exact XI
 refine Z6 ?_
 refine Zl ?_
 exact Z1 0
include T c_13 in
theorem k_14(F:Fun K "checked" "checked" Z14 f fd)(m:mg "checked"=some (.ref f)):Callee P w K mg base 5 "checked" QH:=by
 have hb:= @b_14 P w K mg base f T c_13
 unfold QH
 refine⟨f,fd,_,Zk F Zeu rfl rfl ?_,(YA F (fun _ _ _ _ _ _ _=>rfl)),F.kp,m⟩
 assumption
variable(c_14:Callee P w K mg base 5 "checked" QH)
theorem Zev:FnScope ["square","largest"] ["square","largest"] (Z3 Z15):=⟨rfl,rfl,rfl,by decide+kernel,rfl,by decide+kernel,by decide+kernel⟩
include T c_14 in
theorem b_15:Zh P w K mg base 5 f ["square","largest"] "check_size" Z15 M_15:=by
 intro cdv A outer s H E hr
 refine Z6 ?_
 refine Y9 ?_ ?_ (Zt)
 ·refine Y5 VT ?_ ?_ XO
  ·refine Zf Zu T.b_len boot_len ?_
   refine Z0 ?_ (Z4) ?_
   ·refine Z5 c_14 ?_ ?_
    ·exact hr.lo
    refine Z0 ?_ (Z4) ?_
    ·exact Z1 0
    exact Z2
   exact Zp
  exact Z1 1
 refine Z6 ?_
 refine YL T.cls ?_ ?_
 ·exact(by decide)
 refine Z9n ?_ ?_ ?_
 ·exact XI
 ·refine Zeh ?_
  exact Z1 1
 exact XI
include T c_14 in
theorem k_15(F:Fun K "check_size" "check_size" Z15 f fd)(m:mg "check_size"=some (.ref f)):Callee P w K mg base 6 "check_size" Z4f:=by
 have hb:= @b_15 P w K mg base f T c_14
 unfold Z4f
 refine⟨f,fd,_,Zk F Zev rfl rfl ?_,(ZA F (fun _ _ _ _ _ _ _ _=>rfl)),F.kp,m⟩
 assumption
variable(c_15:Callee P w K mg base 6 "check_size" Z4f)
theorem Zew:FnScope ["one","other"] ["one","other"] (Z3 Z16):=⟨rfl,rfl,rfl,by decide+kernel,rfl,by decide+kernel,by decide+kernel⟩
include T in
theorem b_16:Zh P w K mg base 0 f ["one","other"] "are_apart" Z16 M_16:=by
 intro cdv A outer s H E hr
 refine Z6 ?_
 refine Zl ?_
 refine Zau ?_
 refine Zf (Z6c hr.hd) T.b_any boot_any ?_
 refine Z0 ?_ (Z4) ?_
 ·refine ZD ?_
  refine Zx ["here","there"] ?_ ?_ ?_ ?_
  ·refine Z2p T.b_zip ?_
   refine Z0 ?_ ?_ ?_
   ·exact Z1 0
   ·refine Z0 ?_ (Z4) ?_
    ·exact Z1 1
    exact Z2
   exact Z2
  ·intro _ _ _ _ _
   refine Ux ?_
   refine YD ?_
   exact YD Wu
  ·intro _ _ _ _ _
   exact Zs
  intro _ _ _ _ _
  refine Q3 (ZU hr.units) ?_ ?_
  ·exact Z1 0
  exact Z1 1
 exact Ze
include T in
theorem k_16(F:Fun K "are_apart" "are_apart" Z16 f fd)(m:mg "are_apart"=some (.ref f)):Callee P w K mg base 1 "are_apart" Z0j:=by
 have hb:= @b_16 P w K mg base f T
 unfold Z0j
 refine⟨f,fd,_,Zk F Zew rfl rfl ?_,(ZA F (fun _ _ _ _ _ _ _ _=>rfl)),F.kp,m⟩
 assumption
variable(c_16:Callee P w K mg base 1 "are_apart" Z0j)
theorem Zex:FnScope ["many","chosen","cuts","cut","rest","found"] ["many","chosen","cuts"] (Z3 Z17):=⟨rfl,rfl,rfl,by decide+kernel,rfl,by decide+kernel,by decide+kernel⟩
include T c_16 in
theorem b_17{n:Nat}{Fr:List D->R D}(c_17:Callee P w K mg base (1+n) "parting_beyond" Fr):Zh P w K mg base (1+n) f ["many","chosen","cuts","cut","rest","found"] "parting_beyond" Z17 (Z4g Fr):=by
 intro cdv A outer s H E hr
 refine Z7 ?_ ?_
 ·refine Y9 ?_ ?_ (Zt)
  ·refine Y5 (ZU hr.units) ?_ ?_ X3
   ·refine Zf Zu T.b_len boot_len ?_
    refine Z0 ?_ (Z4) ?_
    ·exact Z1 1
    exact Z2
   exact Z1 0
  refine Z6 ?_
  refine Zl ?_
  exact Z1 1
 refine Z7 ?_ ?_
 ·refine YF ?_ ?_ ?_
  ·intro _
   refine ZQ ?_
   exact Z1 2
  ·intro _
   exact Zg
  intro _
  refine Z6 ?_
  refine Y9 ?_ ?_ (Zt)
  ·refine Y5 (ZU hr.units) ?_ ?_ X3
   ·refine ZB ?_ ?_
    ·exact Z1 3
    exact Zb
   refine Zf Zu T.b_len boot_len ?_
   refine Z0 ?_ (Z4) ?_
   ·exact Z1 1
   exact Z2
  refine Z7 ?_ ?_
  ·refine XT ["other","cut"] ?_ ?_ ?_ ?_
   ·refine ZQ ?_
    exact Z1 2
   ·intro _ _ _ _ _
    exact Zg
   ·intro _ _ _ _ _
    refine VY ?_
    refine Yd ?_
    refine Z5 c_16 ?_ ?_
    ·exact hr.lo
    refine Z0 ?_ ?_ ?_
    ·exact Z1 1
    ·refine Z0 ?_ (Z4) ?_
     ·exact Z1 0
     exact Z2
    exact Z2
   intro _ _ _ _ _
   exact Z1 0
  refine Z7 ?_ ?_
  ·refine Y3 ?_
   refine Z5 c_17 ?_ ?_
   ·exact hr.lo
   refine Z0 ?_ ?_ ?_
   ·exact Z1 0
   ·refine Z0 ?_ ?_ ?_
    ·refine ZJ ZC ?_ ?_
     ·exact Z1 1
     refine ZD ?_
     refine X4 ?_
     refine Z0 ?_ (Z4) ?_
     ·exact Z1 3
     exact Z2
    ·refine Z0 ?_ (Z4) ?_
     ·exact Z1 4
     exact Z2
    exact ZL
   exact Z2
  refine Z6 ?_
  refine Y9 ?_ ?_ (Zt)
  ·refine Zch ?_
   exact Z1 5
  refine Z6 ?_
  refine Zl ?_
  exact Z1 5
 refine Z6 ?_
 refine Zl ?_
 exact Z2d
include T c_16 in
theorem k_17(F:Fun K "parting_beyond" "parting_beyond" Z17 f fd)(m:mg "parting_beyond"=some (.ref f)):∀n:Nat,Callee P w K mg base (1+n) "parting_beyond" (XX n)
 |0=>⟨f,fd,["many","chosen","cuts"],Wv,(QC F (fun _ _ _ _ _ _ _ _ _=>rfl)),F.kp,m⟩
 |n+1=>by
  have hb:= @b_17 P w K mg base f T c_16 n (XX n) (k_17 F m n)
  unfold XX
  refine⟨f,fd,_,Zk F Zex rfl rfl ?_,(QC F (fun _ _ _ _ _ _ _ _ _=>rfl)),F.kp,m⟩
  assumption
variable(c_17:Callee P w K mg base 10 "parting_beyond" (XX 9))
theorem Zey:FnScope ["square","columns"] ["square","columns"] (Z3 Z18):=⟨rfl,rfl,rfl,by decide+kernel,rfl,by decide+kernel,by decide+kernel⟩
include T in
theorem b_18:Zh P w K mg base 0 f ["square","columns"] "letters_along" Z18 M_18:=by
 intro cdv A outer s H E hr
 refine Z6 ?_
 refine Zl ?_
 refine Zw ZZ T.b_tuple boot_tuple ?_
 refine Z0 ?_ (Z4) ?_
 ·refine ZD ?_
  refine Zx ["row","column"] ?_ ?_ ?_ ?_
  ·refine Z2p T.b_zip ?_
   refine Z0 ?_ ?_ ?_
   ·exact Z1 0
   ·refine Z0 ?_ (Z4) ?_
    ·exact Z1 1
    exact Z2
   exact Z2
  ·intro _ _ _ _ _
   refine Ux ?_
   refine YD ?_
   exact YD Wu
  ·intro _ _ _ _ _
   exact Zs
  intro _ _ _ _ _
  refine ZB ?_ ?_
  ·exact Z1 0
  exact Z1 1
 exact Ze
include T in
theorem k_18(F:Fun K "letters_along" "letters_along" Z18 f fd)(m:mg "letters_along"=some (.ref f)):Callee P w K mg base 1 "letters_along" Z4h:=by
 have hb:= @b_18 P w K mg base f T
 unfold Z4h
 refine⟨f,fd,_,Zk F Zey rfl rfl ?_,(ZA F (fun _ _ _ _ _ _ _ _=>rfl)),F.kp,m⟩
 assumption
variable(c_18:Callee P w K mg base 1 "letters_along" Z4h)
theorem Zez:FnScope ["square","columns","letters","cuts","column","letter"] ["square","columns"] (Z3 Z19):=⟨rfl,rfl,rfl,by decide+kernel,rfl,by decide+kernel,by decide+kernel⟩
include T c_18 in
theorem b_19{n:Nat}{Fr:List D->R D}(c_19:Callee P w K mg base (1+n) "cuts_beginning" Fr):Zh P w K mg base (1+n) f ["square","columns","letters","cuts","column","letter"] "cuts_beginning" Z19 (M_19 Fr):=by
 intro cdv A outer s H E hr
 refine Z7 ?_ ?_
 ·refine Y9 ?_ ?_ (Zt)
  ·refine Y5 (ZU hr.units) ?_ ?_ X3
   ·refine Zf Zu T.b_len boot_len ?_
    refine Z0 ?_ (Z4) ?_
    ·exact Z1 1
    exact Z2
   refine Zf Zu T.b_len boot_len ?_
   refine Z0 ?_ (Z4) ?_
   ·exact Z1 0
   exact Z2
  refine Z6 ?_
  refine Zl ?_
  refine ZD ?_
  refine X4 ?_
  refine Z0 ?_ (Z4) ?_
  ·exact Z1 1
  exact Z2
 refine Z7 ?_ ?_
 ·refine Y3 ?_
  refine Z5 c_18 ?_ ?_
  ·exact hr.lo
  refine Z0 ?_ ?_ ?_
  ·exact Z1 0
  ·refine Z0 ?_ (Z4) ?_
   ·exact Z1 1
   exact Z2
  exact Z2
 refine Z7 ?_ ?_
 ·refine UD ?_
  refine X4 (Z4)
 refine Z7 ?_ ?_
 ·refine YF ?_ ?_ ?_
  ·intro _
   refine Z9q T.b_enumerate ?_
   refine Z0 ?_ (Z4) ?_
   ·refine ZB ?_ ?_
    ·exact Z1 0
    refine Zf Zu T.b_len boot_len ?_
    refine Z0 ?_ (Z4) ?_
    ·exact Z1 1
    exact Z2
   exact Zd
  ·intro _
   refine Ux ?_
   refine YD ?_
   exact YD Wu
  intro _
  refine Z6 ?_
  refine Y9 ?_ ?_ (Zt)
  ·refine t_w ?_
   refine Z2i ?_ ?_
   ·refine Y5 (Z2f hr.units) ?_ ?_ Z63
    ·exact Z1 4
    exact Z1 1
   refine Z2h ?_
   refine Y5 (Z2f hr.units) ?_ ?_ Z63
   ·exact Z1 5
   exact Z1 2
  refine Z6 ?_
  refine Zcf ?_
  refine Z5 c_19 ?_ ?_
  ·exact hr.lo
  refine Z0 ?_ ?_ ?_
  ·exact Z1 0
  ·refine Z0 ?_ (Z4) ?_
   ·refine ZJ ZC ?_ ?_
    ·exact Z1 1
    refine Y0 ?_
    refine Z0 ?_ (Z4) ?_
    ·exact Z1 4
    exact Z2
   exact ZL
  exact Z2
 refine Z6 ?_
 refine Zl ?_
 exact Z1 3
include T c_18 in
theorem k_19(F:Fun K "cuts_beginning" "cuts_beginning" Z19 f fd)(m:mg "cuts_beginning"=some (.ref f)):∀n:Nat,Callee P w K mg base (1+n) "cuts_beginning" (WK n)
 |0=>⟨f,fd,["square","columns"],Wv,(ZA F (fun _ _ _ _ _ _ _ _=>rfl)),F.kp,m⟩
 |n+1=>by
  have hb:= @b_19 P w K mg base f T c_18 n (WK n) (k_19 F m n)
  unfold WK
  refine⟨f,fd,_,Zk F Zez rfl rfl ?_,(ZA F (fun _ _ _ _ _ _ _ _=>rfl)),F.kp,m⟩
  assumption
variable(c_19:Callee P w K mg base 10 "cuts_beginning" (WK 9))
theorem Zf0:FnScope ["square"] ["square"] (Z3 Z1a):=⟨rfl,rfl,rfl,by decide+kernel,rfl,by decide+kernel,by decide+kernel⟩
include T c_15 c_19 in
theorem b_20:Zh P w K mg base 10 f ["square"] "all_cuts" Z1a M_20:=by
 intro cdv A outer s H E hr
 refine Z7 ?_ ?_
 ·refine Qy ?_
  refine Z5 c_15 ?_ ?_
  ·exact hr.lo
  refine Z0 ?_ ?_ ?_
  ·exact Z1 0
  ·refine Z0 ?_ (Z4) ?_
   ·exact Wj rfl T.g_LARGEST_FOR_ALL_CUTS.choose_spec
   exact Z2
  exact Z2
 refine Z6 ?_
 refine Zl ?_
 refine Z5 c_19 ?_ ?_
 ·exact hr.lo
 refine Z0 ?_ ?_ ?_
 ·exact Z1 0
 ·refine Z0 ?_ (Z4) ?_
  ·refine Y0 (Z4)
  exact ZR
 exact Z2
include T c_15 c_19 in
theorem k_20(F:Fun K "all_cuts" "all_cuts" Z1a f fd)(m:mg "all_cuts"=some (.ref f)):Callee P w K mg base 11 "all_cuts" Z4i:=by
 have hb:= @b_20 P w K mg base f T c_15 c_19
 unfold Z4i
 refine⟨f,fd,_,Zk F Zf0 rfl rfl ?_,(YA F (fun _ _ _ _ _ _ _=>rfl)),F.kp,m⟩
 assumption
variable(c_20:Callee P w K mg base 11 "all_cuts" Z4i)
theorem Zf1:FnScope ["square"] ["square"] (Z3 Z1b):=⟨rfl,rfl,rfl,by decide+kernel,rfl,by decide+kernel,by decide+kernel⟩
include T c_15 c_17 c_20 in
theorem b_21:Zh P w K mg base 11 f ["square"] "parting" Z1b M_21:=by
 intro cdv A outer s H E hr
 refine Z7 ?_ ?_
 ·refine Qy ?_
  refine Z5 c_15 ?_ ?_
  ·exact hr.lo
  refine Z0 ?_ ?_ ?_
  ·exact Z1 0
  ·refine Z0 ?_ (Z4) ?_
   ·exact Wj rfl T.g_LARGEST_FOR_PARTING.choose_spec
   exact Z2
  exact Z2
 refine Z6 ?_
 refine Zl ?_
 refine Z5 c_17 ?_ ?_
 ·exact hr.lo
 refine Z0 ?_ ?_ ?_
 ·refine Zf Zu T.b_len boot_len ?_
  refine Z0 ?_ (Z4) ?_
  ·exact Z1 0
  exact Z2
 ·refine Z0 ?_ ?_ ?_
  ·refine ZD ?_
   refine X4 (Z4)
  ·refine Z0 ?_ (Z4) ?_
   ·refine Z5 c_20 ?_ ?_
    ·exact hr.lo
    refine Z0 ?_ (Z4) ?_
    ·exact Z1 0
    exact Z2
   exact Zp
  exact Z9j
 exact Zp
include T c_15 c_17 c_20 in
theorem k_21(F:Fun K "parting" "parting" Z1b f fd)(m:mg "parting"=some (.ref f)):Callee P w K mg base 12 "parting" Z0k:=by
 have hb:= @b_21 P w K mg base f T c_15 c_17 c_20
 unfold Z0k
 refine⟨f,fd,_,Zk F Zf1 rfl rfl ?_,(YA F (fun _ _ _ _ _ _ _=>rfl)),F.kp,m⟩
 assumption
variable(c_21:Callee P w K mg base 12 "parting" Z0k)
theorem Zf2:FnScope ["cuts","row","columns"] ["cuts","row"] (Z3 Z1c):=⟨rfl,rfl,rfl,by decide+kernel,rfl,by decide+kernel,by decide+kernel⟩
include T c_11 in
theorem b_22:Zh P w K mg base 1 f ["cuts","row","columns"] "numbers_of_cuts" Z1c M_22:=by
 intro cdv A outer s H E hr
 refine Z7 ?_ ?_
 ·refine Y3 ?_
  refine Z5 c_11 ?_ ?_
  ·exact hr.lo
  refine Z0 ?_ ?_ ?_
  ·exact Z1 0
  ·refine Z0 ?_ (Z4) ?_
   ·exact Z1 1
   exact Z2
  exact Z2
 refine Z6 ?_
 refine Zl ?_
 refine Zw ZZ T.b_tuple boot_tuple ?_
 refine Z0 ?_ (Z4) ?_
 ·refine ZD ?_
  refine Zx ["column","columns"] ?_ ?_ ?_ ?_
  ·refine ZK T.b_range ?_
   refine Z0 ?_ (Z4) ?_
   ·refine Zf Zu T.b_len boot_len ?_
    refine Z0 ?_ (Z4) ?_
    ·exact Z1 2
    exact Z2
   exact Zp
  ·intro _ _ _ _ _
   exact Zg
  ·intro _ _ _ _ _
   exact Zs
  intro _ _ _ _ _
  refine U0 hr ?_ ?_
  ·exact Z1 1
  exact Z1 0
 exact Ze
include T c_11 in
theorem k_22(F:Fun K "numbers_of_cuts" "numbers_of_cuts" Z1c f fd)(m:mg "numbers_of_cuts"=some (.ref f)):Callee P w K mg base 2 "numbers_of_cuts" Z4j:=by
 have hb:= @b_22 P w K mg base f T c_11
 unfold Z4j
 refine⟨f,fd,_,Zk F Zf2 rfl rfl ?_,(ZA F (fun _ _ _ _ _ _ _ _=>rfl)),F.kp,m⟩
 assumption
variable(c_22:Callee P w K mg base 2 "numbers_of_cuts" Z4j)
theorem Zf3:FnScope ["square","cuts"] ["square"] (Z3 Z1d):=⟨rfl,rfl,rfl,by decide+kernel,rfl,by decide+kernel,by decide+kernel⟩
include T c_21 c_22 in
theorem b_23:Zh P w K mg base 12 f ["square","cuts"] "mate" Z1d M_23:=by
 intro cdv A outer s H E hr
 refine Z7 ?_ ?_
 ·refine Y3 ?_
  refine Z5 c_21 ?_ ?_
  ·exact hr.lo
  refine Z0 ?_ (Z4) ?_
  ·exact Z1 0
  exact Z2
 refine Z7 ?_ ?_
 ·refine Y9 ?_ ?_ (Zt)
  ·refine Zaz ?_
   exact Z1 1
  refine Z6 ?_
  refine Zl ?_
  exact Z2d
 refine Z6 ?_
 refine Zl ?_
 refine Zw ZZ T.b_tuple boot_tuple ?_
 refine Z0 ?_ (Z4) ?_
 ·refine ZD ?_
  refine Zx ["row","cuts"] ?_ ?_ ?_ ?_
  ·refine ZK T.b_range ?_
   refine Z0 ?_ (Z4) ?_
   ·refine Zf Zu T.b_len boot_len ?_
    refine Z0 ?_ (Z4) ?_
    ·exact Z1 0
    exact Z2
   exact Zp
  ·intro _ _ _ _ _
   exact Zg
  ·intro _ _ _ _ _
   exact Zs
  intro _ _ _ _ _
  refine Z5 c_22 ?_ ?_
  ·exact hr.lo
  refine Z0 ?_ ?_ ?_
  ·exact Z1 1
  ·refine Z0 ?_ (Z4) ?_
   ·exact Z1 0
   exact Z2
  exact Z2
 exact Ze
include T c_21 c_22 in
theorem k_23(F:Fun K "mate" "mate" Z1d f fd)(m:mg "mate"=some (.ref f)):Callee P w K mg base 13 "mate" Z4k:=by
 have hb:= @b_23 P w K mg base f T c_21 c_22
 unfold Z4k
 refine⟨f,fd,_,Zk F Zf3 rfl rfl ?_,(YA F (fun _ _ _ _ _ _ _=>rfl)),F.kp,m⟩
 assumption
variable(c_23:Callee P w K mg base 13 "mate" Z4k)
theorem Zf4:FnScope ["many","thing"] ["many","thing"] (Z3 Z1e):=⟨rfl,rfl,rfl,by decide+kernel,rfl,by decide+kernel,by decide+kernel⟩
include T c_10 in
theorem b_24:Zh P w K mg base 3 f ["many","thing"] "check_order" Z1e M_24:=by
 intro cdv A outer s H E hr
 refine Z6 ?_
 refine Y9 ?_ ?_ (Zt)
 ·refine Yv ?_
  refine Yd ?_
  refine Z5 c_10 ?_ ?_
  ·exact hr.lo
  refine Z0 ?_ ?_ ?_
  ·exact Z1 0
  ·refine Z0 ?_ (Z4) ?_
   ·exact Z1 1
   exact Z2
  exact Z2
 refine Z6 ?_
 refine YL T.cls ?_ ?_
 ·exact(by decide)
 exact XI
include T c_10 in
theorem k_24(F:Fun K "check_order" "check_order" Z1e f fd)(m:mg "check_order"=some (.ref f)):Callee P w K mg base 4 "check_order" Z7g:=by
 have hb:= @b_24 P w K mg base f T c_10
 unfold Z7g
 refine⟨f,fd,_,Zk F Zf4 rfl rfl ?_,(ZA F (fun _ _ _ _ _ _ _ _=>rfl)),F.kp,m⟩
 assumption
variable(c_24:Callee P w K mg base 4 "check_order" Z7g)
theorem Zf5:FnScope ["row","columns","letters"] ["row","columns","letters"] (Z3 Z1f):=⟨rfl,rfl,rfl,by decide+kernel,rfl,by decide+kernel,by decide+kernel⟩
include T in
theorem b_25:Zh P w K mg base 0 f ["row","columns","letters"] "renamed_row" Z1f M_25:=by
 intro cdv A outer s H E hr
 refine Z6 ?_
 refine Zl ?_
 refine Zw ZZ T.b_tuple boot_tuple ?_
 refine Z0 ?_ (Z4) ?_
 ·refine ZD ?_
  refine Zx ["column","letters","row"] ?_ ?_ ?_ ?_
  ·refine ZQ ?_
   exact Z1 1
  ·intro _ _ _ _ _
   exact Zg
  ·intro _ _ _ _ _
   exact Zs
  intro _ _ _ _ _
  refine ZB ?_ ?_
  ·exact Z1 1
  refine ZB ?_ ?_
  ·exact Z1 2
  exact Z1 0
 exact Ze
include T in
theorem k_25(F:Fun K "renamed_row" "renamed_row" Z1f f fd)(m:mg "renamed_row"=some (.ref f)):Callee P w K mg base 1 "renamed_row" Z7h:=by
 have hb:= @b_25 P w K mg base f T
 unfold Z7h
 refine⟨f,fd,_,Zk F Zf5 rfl rfl ?_,(QC F (fun _ _ _ _ _ _ _ _ _=>rfl)),F.kp,m⟩
 assumption
variable(c_25:Callee P w K mg base 1 "renamed_row" Z7h)
theorem Zf6:FnScope ["square","rows","columns","letters","many","order"] ["square","rows","columns","letters"] (Z3 Z1g):=⟨rfl,rfl,rfl,by decide+kernel,rfl,by decide+kernel,by decide+kernel⟩
include T c_14 c_24 c_25 in
theorem b_26:Zh P w K mg base 5 f ["square","rows","columns","letters","many","order"] "renamed" Z1g M_26:=by
 intro cdv A outer s H E hr
 refine Z7 ?_ ?_
 ·refine Y3 ?_
  refine Zf Zu T.b_len boot_len ?_
  refine Z0 ?_ (Z4) ?_
  ·refine Z5 c_14 ?_ ?_
   ·exact hr.lo
   refine Z0 ?_ (Z4) ?_
   ·exact Z1 0
   exact Z2
  exact Zp
 refine Z7 ?_ ?_
 ·refine YF ?_ ?_ ?_
  ·intro _
   refine ZQ ?_
   refine Y0 ?_
   refine Z0 ?_ ?_ ?_
   ·exact Z1 1
   ·refine Z0 ?_ ?_ ?_
    ·exact Z1 2
    ·refine Z0 ?_ (Z4) ?_
     ·exact Z1 3
     exact Z2
    exact Z2
   exact Z2
  ·intro _
   exact Zg
  intro _
  refine Z6 ?_
  refine Qy ?_
  refine Z5 c_24 ?_ ?_
  ·exact hr.lo
  refine Z0 ?_ ?_ ?_
  ·exact Z1 4
  ·refine Z0 ?_ (Z4) ?_
   ·exact Z1 5
   exact Z2
  exact Z2
 refine Z6 ?_
 refine Zl ?_
 refine Zw ZZ T.b_tuple boot_tuple ?_
 refine Z0 ?_ (Z4) ?_
 ·refine ZD ?_
  refine Zx ["row","square","columns","letters"] ?_ ?_ ?_ ?_
  ·refine ZQ ?_
   exact Z1 1
  ·intro _ _ _ _ _
   exact Zg
  ·intro _ _ _ _ _
   exact Zs
  intro _ _ _ _ _
  refine Z5 c_25 ?_ ?_
  ·exact hr.lo
  refine Z0 ?_ ?_ ?_
  ·refine ZB ?_ ?_
   ·exact Z1 1
   exact Z1 0
  ·refine Z0 ?_ ?_ ?_
   ·exact Z1 2
   ·refine Z0 ?_ (Z4) ?_
    ·exact Z1 3
    exact Z2
   exact Z2
  exact Zd
 exact Ze
include T c_14 c_24 c_25 in
theorem k_26(F:Fun K "renamed" "renamed" Z1g f fd)(m:mg "renamed"=some (.ref f)):Callee P w K mg base 6 "renamed" Z4l:=by
 have hb:= @b_26 P w K mg base f T c_14 c_24 c_25
 unfold Z4l
 refine⟨f,fd,_,Zk F Zf6 rfl rfl ?_,(Z07 F (fun _ _ _ _ _ _ _ _ _ _=>rfl)),F.kp,m⟩
 assumption
variable(c_26:Callee P w K mg base 6 "renamed" Z4l)
theorem Zf7:FnScope ["one","other"] ["one","other"] (Z3 Z1h):=⟨rfl,rfl,rfl,by decide+kernel,rfl,by decide+kernel,by decide+kernel⟩
include T c_14 in
theorem b_27:Zh P w K mg base 5 f ["one","other"] "check_one_size" Z1h M_27:=by
 intro cdv A outer s H E hr
 refine Z6 ?_
 refine Y9 ?_ ?_ (Zt)
 ·refine Y5 (VV hr.units) ?_ ?_ Z2g
  ·refine Zf Zu T.b_len boot_len ?_
   refine Z0 ?_ (Z4) ?_
   ·refine Z5 c_14 ?_ ?_
    ·exact hr.lo
    refine Z0 ?_ (Z4) ?_
    ·exact Z1 0
    exact Z2
   exact Zp
  refine Zf Zu T.b_len boot_len ?_
  refine Z0 ?_ (Z4) ?_
  ·refine Z5 c_14 ?_ ?_
   ·exact hr.lo
   refine Z0 ?_ (Z4) ?_
   ·exact Z1 1
   exact Z2
  exact Zp
 refine Z6 ?_
 refine YL T.cls ?_ ?_
 ·exact(by decide)
 exact XI
include T c_14 in
theorem k_27(F:Fun K "check_one_size" "check_one_size" Z1h f fd)(m:mg "check_one_size"=some (.ref f)):Callee P w K mg base 6 "check_one_size" Z7i:=by
 have hb:= @b_27 P w K mg base f T c_14
 unfold Z7i
 refine⟨f,fd,_,Zk F Zf7 rfl rfl ?_,(ZA F (fun _ _ _ _ _ _ _ _=>rfl)),F.kp,m⟩
 assumption
variable(c_27:Callee P w K mg base 6 "check_one_size" Z7i)
theorem Zf8:FnScope ["one","other","places","row","column","pair"] ["one","other"] (Z3 Z1i):=⟨rfl,rfl,rfl,by decide+kernel,rfl,by decide+kernel,by decide+kernel⟩
include T in
theorem b_28:Zh P w K mg base 0 f ["one","other","places","row","column","pair"] "places_of_pairs" Z1i M_28:=by
 intro cdv A outer s H E hr
 refine Z7 ?_ ?_
 ·exact Zcj
 refine Z7 ?_ ?_
 ·refine YF ?_ ?_ ?_
  ·intro _
   refine ZK T.b_range ?_
   refine Z0 ?_ (Z4) ?_
   ·refine Zf Zu T.b_len boot_len ?_
    refine Z0 ?_ (Z4) ?_
    ·exact Z1 0
    exact Z2
   exact Zp
  ·intro _
   exact Zg
  intro _
  refine Z6 ?_
  refine YF ?_ ?_ ?_
  ·intro _
   refine ZK T.b_range ?_
   refine Z0 ?_ (Z4) ?_
   ·refine Zf Zu T.b_len boot_len ?_
    refine Z0 ?_ (Z4) ?_
    ·exact Z1 0
    exact Z2
   exact Zp
  ·intro _
   exact Zg
  intro _
  refine Z7 ?_ ?_
  ·refine Zck ?_
   refine Z0 ?_ ?_ ?_
   ·refine ZB ?_ ?_
    ·refine ZB ?_ ?_
     ·exact Z1 0
     exact Z1 3
    exact Z1 4
   ·refine Z0 ?_ (Z4) ?_
    ·refine ZB ?_ ?_
     ·refine ZB ?_ ?_
      ·exact Z1 1
      exact Z1 3
     exact Z1 4
    exact Zd
   exact Zd
  refine Z6 ?_
  refine Zei ?_ ?_
  ·exact(u1 hr.units)
  refine Y0 ?_
  refine Z0 ?_ ?_ ?_
  ·exact Z1 3
  ·refine Z0 ?_ (Z4) ?_
   ·exact Z1 4
   exact Z2
  exact Z2
 refine Z6 ?_
 refine Zl ?_
 exact Z1 2
include T in
theorem k_28(F:Fun K "places_of_pairs" "places_of_pairs" Z1i f fd)(m:mg "places_of_pairs"=some (.ref f)):Callee P w K mg base 1 "places_of_pairs" Z7j:=by
 have hb:= @b_28 P w K mg base f T
 unfold Z7j
 refine⟨f,fd,_,Zk F Zf8 rfl rfl ?_,(ZA F (fun _ _ _ _ _ _ _ _=>rfl)),F.kp,m⟩
 assumption
variable(c_28:Callee P w K mg base 1 "places_of_pairs" Z7j)
theorem Zf9:FnScope ["one","other","places","pair"] ["one","other"] (Z3 Z1j):=⟨rfl,rfl,rfl,by decide+kernel,rfl,by decide+kernel,by decide+kernel⟩
include T c_27 c_28 in
theorem b_29:Zh P w K mg base 6 f ["one","other","places","pair"] "clashes" Z1j M_29:=by
 intro cdv A outer s H E hr
 refine Z7 ?_ ?_
 ·refine Qy ?_
  refine Z5 c_27 ?_ ?_
  ·exact hr.lo
  refine Z0 ?_ ?_ ?_
  ·exact Z1 0
  ·refine Z0 ?_ (Z4) ?_
   ·exact Z1 1
   exact Z2
  exact Z2
 refine Z7 ?_ ?_
 ·refine Y3 ?_
  refine Z5 c_28 ?_ ?_
  ·exact hr.lo
  refine Z0 ?_ ?_ ?_
  ·exact Z1 0
  ·refine Z0 ?_ (Z4) ?_
   ·exact Z1 1
   exact Z2
  exact Z2
 refine Z7 ?_ ?_
 ·refine Zek ?_ ?_
  ·refine YF ?_ ?_ ?_
   ·intro _
    refine ZQ ?_
    refine ZD ?_
    refine Z2k (Z0d hr.hd) T.b_sorted boot_sorted ?_
    refine Z0 ?_ (Z4) ?_
    ·exact Z1 2
    exact Z2
   ·intro _
    exact Zg
   intro _
   refine Z6 ?_
   refine Y9 ?_ ?_ (Zt)
   ·refine Y5 VT ?_ ?_ XO
    ·refine Zf Zu T.b_len boot_len ?_
     refine Z0 ?_ (Z4) ?_
     ·refine QD ?_ ?_ ?_
      ·exact(u1 hr.units)
      ·exact Z1 2
      exact Z1 3
     exact Zd
    exact Zb
   refine Z6 ?_
   refine Zl ?_
   refine Y0 ?_
   refine Z0 ?_ ?_ ?_
   ·exact Z1 3
   ·refine Z0 ?_ ?_ ?_
    ·refine ZB ?_ ?_
     ·refine QD ?_ ?_ ?_
      ·exact(u1 hr.units)
      ·exact Z1 2
      exact Z1 3
     exact Zb
    ·refine Z0 ?_ (Z4) ?_
     ·refine ZB ?_ ?_
      ·refine QD ?_ ?_ ?_
       ·exact(u1 hr.units)
       ·exact Z1 2
       exact Z1 3
      exact Zb
     exact Zd
    exact Zd
   exact Z2
  refine Zcm ?_ ?_ ?_
  ·intro _
   refine Z4e ?_ T.b_sorted ?_
   ·exact hr.hd
   exact Z1 2
  ·intro _
   exact Zg
  intro _
  refine Z6 ?_
  refine Y9 ?_ ?_ (Zt)
  ·refine Y5 VT ?_ ?_ XO
   ·refine Zf Zu T.b_len boot_len ?_
    refine Z0 ?_ (Z4) ?_
    ·refine QD ?_ ?_ ?_
     ·exact(u1 hr.units)
     ·exact Z1 2
     exact Z1 3
    exact Zd
   exact Zb
  refine Z6 ?_
  refine Zl ?_
  refine Y0 ?_
  refine Z0 ?_ ?_ ?_
  ·exact Z1 3
  ·refine Z0 ?_ ?_ ?_
   ·refine ZB ?_ ?_
    ·refine QD ?_ ?_ ?_
     ·exact(u1 hr.units)
     ·exact Z1 2
     exact Z1 3
    exact Zb
   ·refine Z0 ?_ (Z4) ?_
    ·refine ZB ?_ ?_
     ·refine QD ?_ ?_ ?_
      ·exact(u1 hr.units)
      ·exact Z1 2
      exact Z1 3
     exact Zb
    exact Zd
   exact Zd
  exact Z2
 refine Z6 ?_
 refine Zl ?_
 exact Z2d
include T c_27 c_28 in
theorem k_29(F:Fun K "clashes" "clashes" Z1j f fd)(m:mg "clashes"=some (.ref f)):Callee P w K mg base 7 "clashes" Z4m:=by
 have hb:= @b_29 P w K mg base f T c_27 c_28
 unfold Z4m
 refine⟨f,fd,_,Zk F Zf9 rfl rfl ?_,(ZA F (fun _ _ _ _ _ _ _ _=>rfl)),F.kp,m⟩
 assumption
variable(c_29:Callee P w K mg base 7 "clashes" Z4m)
theorem Zfa:FnScope ["one","other"] ["one","other"] (Z3 Z1k):=⟨rfl,rfl,rfl,by decide+kernel,rfl,by decide+kernel,by decide+kernel⟩
include T c_29 in
theorem b_30:Zh P w K mg base 7 f ["one","other"] "are_mates" Z1k M_30:=by
 intro cdv A outer s H E hr
 refine Z6 ?_
 refine Zl ?_
 refine Zat ?_
 refine Z5 c_29 ?_ ?_
 ·exact hr.lo
 refine Z0 ?_ ?_ ?_
 ·exact Z1 0
 ·refine Z0 ?_ (Z4) ?_
  ·exact Z1 1
  exact Z2
 exact Z2
include T c_29 in
theorem k_30(F:Fun K "are_mates" "are_mates" Z1k f fd)(m:mg "are_mates"=some (.ref f)):Callee P w K mg base 8 "are_mates" Qd:=by
 have hb:= @b_30 P w K mg base f T c_29
 unfold Qd
 refine⟨f,fd,_,Zk F Zfa rfl rfl ?_,(ZA F (fun _ _ _ _ _ _ _ _=>rfl)),F.kp,m⟩
 assumption
variable(c_30:Callee P w K mg base 8 "are_mates" Qd)
theorem Zfb:FnScope ["many","thing"] ["many","thing"] (Z3 Z1l):=⟨rfl,rfl,rfl,by decide+kernel,rfl,by decide+kernel,by decide+kernel⟩
include T c_8 in
theorem b_31:Zh P w K mg base 1 f ["many","thing"] "check_number" Z1l M_31:=by
 intro cdv A outer s H E hr
 refine Z6 ?_
 refine Y9 ?_ ?_ (Zt)
 ·refine Yv ?_
  refine Yd ?_
  refine Z5 c_8 ?_ ?_
  ·exact hr.lo
  refine Z0 ?_ ?_ ?_
  ·exact Z1 0
  ·refine Z0 ?_ (Z4) ?_
   ·exact Z1 1
   exact Z2
  exact Z2
 refine Z6 ?_
 refine YL T.cls ?_ ?_
 ·exact(by decide)
 exact XI
include T c_8 in
theorem k_31(F:Fun K "check_number" "check_number" Z1l f fd)(m:mg "check_number"=some (.ref f)):Callee P w K mg base 2 "check_number" Z7k:=by
 have hb:= @b_31 P w K mg base f T c_8
 unfold Z7k
 refine⟨f,fd,_,Zk F Zfb rfl rfl ?_,(ZA F (fun _ _ _ _ _ _ _ _=>rfl)),F.kp,m⟩
 assumption
variable(c_31:Callee P w K mg base 2 "check_number" Z7k)
theorem Zfc:FnScope ["square","letter"] ["square","letter"] (Z3 Z1m):=⟨rfl,rfl,rfl,by decide+kernel,rfl,by decide+kernel,by decide+kernel⟩
include T c_14 c_31 in
theorem b_32:Zh P w K mg base 5 f ["square","letter"] "places_of" Z1m M_32:=by
 intro cdv A outer s H E hr
 refine Z7 ?_ ?_
 ·refine Qy ?_
  refine Z5 c_31 ?_ ?_
  ·exact hr.lo
  refine Z0 ?_ ?_ ?_
  ·refine Zf Zu T.b_len boot_len ?_
   refine Z0 ?_ (Z4) ?_
   ·refine Z5 c_14 ?_ ?_
    ·exact hr.lo
    refine Z0 ?_ (Z4) ?_
    ·exact Z1 0
    exact Z2
   exact Zp
  ·refine Z0 ?_ (Z4) ?_
   ·exact Z1 1
   exact Z2
  exact Zp
 refine Z6 ?_
 refine Zl ?_
 refine Zw ZZ T.b_tuple boot_tuple ?_
 refine Z0 ?_ (Z4) ?_
 ·refine ZD ?_
  refine Zx ["row","letter"] ?_ ?_ ?_ ?_
  ·refine ZQ ?_
   exact Z1 0
  ·intro _ _ _ _ _
   exact Zg
  ·intro _ _ _ _ _
   exact Zs
  intro _ _ _ _ _
  refine U0 hr ?_ ?_
  ·exact Z1 0
  exact Z1 1
 exact Ze
include T c_14 c_31 in
theorem k_32(F:Fun K "places_of" "places_of" Z1m f fd)(m:mg "places_of"=some (.ref f)):Callee P w K mg base 6 "places_of" Z4n:=by
 have hb:= @b_32 P w K mg base f T c_14 c_31
 unfold Z4n
 refine⟨f,fd,_,Zk F Zfc rfl rfl ?_,(ZA F (fun _ _ _ _ _ _ _ _=>rfl)),F.kp,m⟩
 assumption
variable(c_32:Callee P w K mg base 6 "places_of" Z4n)
theorem Zfd:FnScope ["one","other"] ["one","other"] (Z3 Z1n):=⟨rfl,rfl,rfl,by decide+kernel,rfl,by decide+kernel,by decide+kernel⟩
include T c_30 c_32 in
theorem b_33:Zh P w K mg base 8 f ["one","other"] "cuts_by" Z1n M_33:=by
 intro cdv A outer s H E hr
 refine Z7 ?_ ?_
 ·refine Y9 ?_ ?_ (Zt)
  ·refine Yv ?_
   refine Yd ?_
   refine Z5 c_30 ?_ ?_
   ·exact hr.lo
   refine Z0 ?_ ?_ ?_
   ·exact Z1 0
   ·refine Z0 ?_ (Z4) ?_
    ·exact Z1 1
    exact Z2
   exact Z2
  refine Z6 ?_
  refine YL T.cls ?_ ?_
  ·exact(by decide)
  exact XI
 refine Z6 ?_
 refine Zl ?_
 refine ZD ?_
 refine Zx ["letter","other"] ?_ ?_ ?_ ?_
 ·refine ZK T.b_range ?_
  refine Z0 ?_ (Z4) ?_
  ·refine Zf Zu T.b_len boot_len ?_
   refine Z0 ?_ (Z4) ?_
   ·exact Z1 1
   exact Z2
  exact Zp
 ·intro _ _ _ _ _
  exact Zg
 ·intro _ _ _ _ _
  exact Zs
 intro _ _ _ _ _
 refine Z5 c_32 ?_ ?_
 ·exact hr.lo
 refine Z0 ?_ ?_ ?_
 ·exact Z1 1
 ·refine Z0 ?_ (Z4) ?_
  ·exact Z1 0
  exact Z2
 exact Z2
include T c_30 c_32 in
theorem k_33(F:Fun K "cuts_by" "cuts_by" Z1n f fd)(m:mg "cuts_by"=some (.ref f)):Callee P w K mg base 9 "cuts_by" Z4o:=by
 have hb:= @b_33 P w K mg base f T c_30 c_32
 unfold Z4o
 refine⟨f,fd,_,Zk F Zfd rfl rfl ?_,(ZA F (fun _ _ _ _ _ _ _ _=>rfl)),F.kp,m⟩
 assumption
variable(c_33:Callee P w K mg base 9 "cuts_by" Z4o)
theorem Zfe:FnScope ["thing"] ["thing"] (Z3 Z1o):=⟨rfl,rfl,rfl,by decide+kernel,rfl,by decide+kernel,by decide+kernel⟩
include T c_8 in
theorem b_34:Zh P w K mg base 1 f ["thing"] "check_many" Z1o M_34:=by
 intro cdv A outer s H E hr
 refine Z6 ?_
 refine Y9 ?_ ?_ (Zt)
 ·refine t_w ?_
  refine Z64 ?_ ?_
  ·refine Yv ?_
   refine Yd ?_
   refine Z5 c_8 ?_ ?_
   ·exact hr.lo
   refine Z0 ?_ ?_ ?_
   ·refine ZJ ZC ?_ ?_
    ·exact Wj rfl T.g_LARGEST_SIZE.choose_spec
    exact Zb
   ·refine Z0 ?_ (Z4) ?_
    ·exact Z1 0
    exact Z2
   exact ZL
  refine Wr ?_
  refine Y5 (ZU hr.units) ?_ ?_ X3
  ·exact Z1 0
  exact Zb
 refine Z6 ?_
 refine YL T.cls ?_ ?_
 ·exact(by decide)
 exact XI
include T c_8 in
theorem k_34(F:Fun K "check_many" "check_many" Z1o f fd)(m:mg "check_many"=some (.ref f)):Callee P w K mg base 2 "check_many" Z7l:=by
 have hb:= @b_34 P w K mg base f T c_8
 unfold Z7l
 refine⟨f,fd,_,Zk F Zfe rfl rfl ?_,(YA F (fun _ _ _ _ _ _ _=>rfl)),F.kp,m⟩
 assumption
variable(c_34:Callee P w K mg base 2 "check_many" Z7l)
theorem Zff:FnScope ["one","other"] ["one","other"] (Z3 Z1p):=⟨rfl,rfl,rfl,by decide+kernel,rfl,by decide+kernel,by decide+kernel⟩
include T in
theorem b_35:Zh P w K mg base 0 f ["one","other"] "have_common_divisor" Z1p M_35:=by
 intro cdv A outer s H E hr
 refine Z6 ?_
 refine Zl ?_
 refine Zf (Z6c hr.hd) T.b_any boot_any ?_
 refine Z0 ?_ (Z4) ?_
 ·refine ZD ?_
  refine Zx ["part","one","other"] ?_ ?_ ?_ ?_
  ·refine Q7 T.b_range ?_
   refine Z0 ?_ ?_ ?_
   ·exact Zb
   ·refine Z0 ?_ (Z4) ?_
    ·refine ZJ ZC ?_ ?_
     ·exact Z1 0
     exact Zb
    exact ZL
   exact Zc
  ·intro _ _ _ _ _
   exact Zg
  ·intro _ _ _ _ _
   exact Zs
  intro _ _ _ _ _
  refine Z66 ?_ ?_
  ·refine Q3 (ZU hr.units) ?_ ?_
   ·refine ZJ ZW ?_ ?_
    ·exact Z1 1
    exact Z1 0
   exact Zb
  refine Z2j ?_
  refine Q3 (ZU hr.units) ?_ ?_
  ·refine ZJ ZW ?_ ?_
   ·exact Z1 2
   exact Z1 0
  exact Zb
 exact Ze
include T in
theorem k_35(F:Fun K "have_common_divisor" "have_common_divisor" Z1p f fd)(m:mg "have_common_divisor"=some (.ref f)):Callee P w K mg base 1 "have_common_divisor" Z9y:=by
 have hb:= @b_35 P w K mg base f T
 unfold Z9y
 refine⟨f,fd,_,Zk F Zff rfl rfl ?_,(ZA F (fun _ _ _ _ _ _ _ _=>rfl)),F.kp,m⟩
 assumption
variable(c_35:Callee P w K mg base 1 "have_common_divisor" Z9y)
theorem Zfg:FnScope ["many","thing"] ["many","thing"] (Z3 Z1q):=⟨rfl,rfl,rfl,by decide+kernel,rfl,by decide+kernel,by decide+kernel⟩
include T c_8 c_35 in
theorem b_36:Zh P w K mg base 1 f ["many","thing"] "is_step" Z1q M_36:=by
 intro cdv A outer s H E hr
 refine Z7 ?_ ?_
 ·refine Y9 ?_ ?_ (Zt)
  ·refine t_w ?_
   refine Z64 ?_ ?_
   ·refine Yv ?_
    refine Yd ?_
    refine Z5 c_8 ?_ ?_
    ·exact hr.lo
    refine Z0 ?_ ?_ ?_
    ·refine Zf (Zc9 hr) T.b_max boot_max ?_
     refine Z0 ?_ ?_ ?_
     ·exact Z1 0
     ·refine Z0 ?_ (Z4) ?_
      ·exact Zb
      exact Zc
     exact Z2
    ·refine Z0 ?_ (Z4) ?_
     ·exact Z1 1
     exact Z2
    exact Zp
   refine Wr ?_
   refine Y5 (ZU hr.units) ?_ ?_ X3
   ·exact Z1 1
   exact Zb
  refine Z6 ?_
  refine Zl ?_
  exact Wi
 refine Z6 ?_
 refine Zl ?_
 refine Zau ?_
 refine Z5 c_35 ?_ ?_
 ·exact hr.lo
 refine Z0 ?_ ?_ ?_
 ·exact Z1 0
 ·refine Z0 ?_ (Z4) ?_
  ·exact Z1 1
  exact Z2
 exact Z2
include T c_8 c_35 in
theorem k_36(F:Fun K "is_step" "is_step" Z1q f fd)(m:mg "is_step"=some (.ref f)):Callee P w K mg base 2 "is_step" Z0l:=by
 have hb:= @b_36 P w K mg base f T c_8 c_35
 unfold Z0l
 refine⟨f,fd,_,Zk F Zfg rfl rfl ?_,(ZA F (fun _ _ _ _ _ _ _ _=>rfl)),F.kp,m⟩
 assumption
variable(c_36:Callee P w K mg base 2 "is_step" Z0l)
theorem Zfh:FnScope ["many","begin"] ["many","begin"] (Z3 Z1r):=⟨rfl,rfl,rfl,by decide+kernel,rfl,by decide+kernel,by decide+kernel⟩
include T in
theorem b_37:Zh P w K mg base 0 f ["many","begin"] "turning_row" Z1r M_37:=by
 intro cdv A outer s H E hr
 refine Z6 ?_
 refine Zl ?_
 refine Zw ZZ T.b_tuple boot_tuple ?_
 refine Z0 ?_ (Z4) ?_
 ·refine ZD ?_
  refine Zx ["column","begin","many"] ?_ ?_ ?_ ?_
  ·refine ZK T.b_range ?_
   refine Z0 ?_ (Z4) ?_
   ·exact Z1 0
   exact Z2
  ·intro _ _ _ _ _
   exact Zg
  ·intro _ _ _ _ _
   exact Zs
  intro _ _ _ _ _
  refine ZJ ZW ?_ ?_
  ·refine ZJ ZC ?_ ?_
   ·exact Z1 0
   exact Z1 1
  exact Z1 2
 exact Ze
include T in
theorem k_37(F:Fun K "turning_row" "turning_row" Z1r f fd)(m:mg "turning_row"=some (.ref f)):Callee P w K mg base 1 "turning_row" Z4p:=by
 have hb:= @b_37 P w K mg base f T
 unfold Z4p
 refine⟨f,fd,_,Zk F Zfh rfl rfl ?_,(ZA F (fun _ _ _ _ _ _ _ _=>rfl)),F.kp,m⟩
 assumption
variable(c_37:Callee P w K mg base 1 "turning_row" Z4p)
theorem Zfi:FnScope ["many","step"] ["many","step"] (Z3 Z1s):=⟨rfl,rfl,rfl,by decide+kernel,rfl,by decide+kernel,by decide+kernel⟩
include T c_34 c_36 c_37 in
theorem b_38:Zh P w K mg base 2 f ["many","step"] "turning" Z1s M_38:=by
 intro cdv A outer s H E hr
 refine Z7 ?_ ?_
 ·refine Qy ?_
  refine Z5 c_34 ?_ ?_
  ·exact hr.lo
  refine Z0 ?_ (Z4) ?_
  ·exact Z1 0
  exact Z2
 refine Z7 ?_ ?_
 ·refine Y9 ?_ ?_ (Zt)
  ·refine Yv ?_
   refine Yd ?_
   refine Z5 c_36 ?_ ?_
   ·exact hr.lo
   refine Z0 ?_ ?_ ?_
   ·exact Z1 0
   ·refine Z0 ?_ (Z4) ?_
    ·exact Z1 1
    exact Z2
   exact Z2
  refine Z6 ?_
  refine YL T.cls ?_ ?_
  ·exact(by decide)
  exact XI
 refine Z6 ?_
 refine Zl ?_
 refine Zw ZZ T.b_tuple boot_tuple ?_
 refine Z0 ?_ (Z4) ?_
 ·refine ZD ?_
  refine Zx ["row","many","step"] ?_ ?_ ?_ ?_
  ·refine ZK T.b_range ?_
   refine Z0 ?_ (Z4) ?_
   ·exact Z1 0
   exact Z2
  ·intro _ _ _ _ _
   exact Zg
  ·intro _ _ _ _ _
   exact Zs
  intro _ _ _ _ _
  refine Z5 c_37 ?_ ?_
  ·exact hr.lo
  refine Z0 ?_ ?_ ?_
  ·exact Z1 1
  ·refine Z0 ?_ (Z4) ?_
   ·refine ZJ YC ?_ ?_
    ·exact Z1 2
    exact Z1 0
   exact ZL
  exact Z2
 exact Ze
include T c_34 c_36 c_37 in
theorem k_38(F:Fun K "turning" "turning" Z1s f fd)(m:mg "turning"=some (.ref f)):Callee P w K mg base 3 "turning" W2:=by
 have hb:= @b_38 P w K mg base f T c_34 c_36 c_37
 unfold W2
 refine⟨f,fd,_,Zk F Zfi rfl rfl ?_,(ZA F (fun _ _ _ _ _ _ _ _=>rfl)),F.kp,m⟩
 assumption
variable(c_38:Callee P w K mg base 3 "turning" W2)
theorem Zfj:FnScope ["above","below","row","letter"] ["above","below"] (Z3 Z1t):=⟨rfl,rfl,rfl,by decide+kernel,rfl,by decide+kernel,by decide+kernel⟩
include T in
theorem b_39:Zh P w K mg base 0 f ["above","below","row","letter"] "row_put_in" Z1t M_39:=by
 intro cdv A outer s H E hr
 refine Z7 ?_ ?_
 ·refine UD ?_
  refine X4 (Z4)
 refine Z7 ?_ ?_
 ·refine YF ?_ ?_ ?_
  ·intro _
   refine ZQ ?_
   exact Z1 0
  ·intro _
   exact Zg
  intro _
  refine Z6 ?_
  refine Z6p ?_
  refine Zx ["inner","letter","below"] ?_ ?_ ?_ ?_
  ·refine ZQ ?_
   exact Z1 1
  ·intro _ _ _ _ _
   exact Zg
  ·intro _ _ _ _ _
   exact Zs
  intro _ _ _ _ _
  refine ZJ ZC ?_ ?_
  ·refine ZJ YC ?_ ?_
   ·exact Z1 1
   refine Zf Zu T.b_len boot_len ?_
   refine Z0 ?_ (Z4) ?_
   ·exact Z1 2
   exact Z2
  exact Z1 0
 refine Z6 ?_
 refine Zl ?_
 refine Zw ZZ T.b_tuple boot_tuple ?_
 refine Z0 ?_ (Z4) ?_
 ·exact Z1 2
 exact Z2
include T in
theorem k_39(F:Fun K "row_put_in" "row_put_in" Z1t f fd)(m:mg "row_put_in"=some (.ref f)):Callee P w K mg base 1 "row_put_in" Z4q:=by
 have hb:= @b_39 P w K mg base f T
 unfold Z4q
 refine⟨f,fd,_,Zk F Zfj rfl rfl ?_,(ZA F (fun _ _ _ _ _ _ _ _=>rfl)),F.kp,m⟩
 assumption
variable(c_39:Callee P w K mg base 1 "row_put_in" Z4q)
theorem Zfk:FnScope ["one","other","rows","above"] ["one","other"] (Z3 Z1u):=⟨rfl,rfl,rfl,by decide+kernel,rfl,by decide+kernel,by decide+kernel⟩
include T c_14 c_39 in
theorem b_40:Zh P w K mg base 5 f ["one","other","rows","above"] "put_in" Z1u M_40:=by
 intro cdv A outer s H E hr
 refine Z7 ?_ ?_
 ·refine Y9 ?_ ?_ (Zt)
  ·refine Y5 VT ?_ ?_ XO
   ·refine ZJ YC ?_ ?_
    ·refine Zf Zu T.b_len boot_len ?_
     refine Z0 ?_ (Z4) ?_
     ·refine Z5 c_14 ?_ ?_
      ·exact hr.lo
      refine Z0 ?_ (Z4) ?_
      ·exact Z1 0
      exact Z2
     exact Zp
    refine Zf Zu T.b_len boot_len ?_
    refine Z0 ?_ (Z4) ?_
    ·refine Z5 c_14 ?_ ?_
     ·exact hr.lo
     refine Z0 ?_ (Z4) ?_
     ·exact Z1 1
     exact Z2
    exact Zp
   exact Wj rfl T.g_LARGEST_SIZE.choose_spec
  refine Z6 ?_
  refine YL T.cls ?_ ?_
  ·exact(by decide)
  exact XI
 refine Z7 ?_ ?_
 ·refine UD ?_
  refine X4 (Z4)
 refine Z7 ?_ ?_
 ·refine YF ?_ ?_ ?_
  ·intro _
   refine ZQ ?_
   exact Z1 0
  ·intro _
   exact Zg
  intro _
  refine Z6 ?_
  refine Z6p ?_
  refine Zx ["below","above"] ?_ ?_ ?_ ?_
  ·refine ZQ ?_
   exact Z1 1
  ·intro _ _ _ _ _
   exact Zg
  ·intro _ _ _ _ _
   exact Zs
  intro _ _ _ _ _
  refine Z5 c_39 ?_ ?_
  ·exact hr.lo
  refine Z0 ?_ ?_ ?_
  ·exact Z1 1
  ·refine Z0 ?_ (Z4) ?_
   ·exact Z1 0
   exact Z2
  exact Z2
 refine Z6 ?_
 refine Zl ?_
 refine Zw ZZ T.b_tuple boot_tuple ?_
 refine Z0 ?_ (Z4) ?_
 ·exact Z1 2
 exact Z2
include T c_14 c_39 in
theorem k_40(F:Fun K "put_in" "put_in" Z1u f fd)(m:mg "put_in"=some (.ref f)):Callee P w K mg base 6 "put_in" J3:=by
 have hb:= @b_40 P w K mg base f T c_14 c_39
 unfold J3
 refine⟨f,fd,_,Zk F Zfk rfl rfl ?_,(ZA F (fun _ _ _ _ _ _ _ _=>rfl)),F.kp,m⟩
 assumption
variable(c_40:Callee P w K mg base 6 "put_in" J3)
theorem Zfl:FnScope ["_law_one","_law_other"] ["_law_one","_law_other"] (Z3 Z1v):=⟨rfl,rfl,rfl,by decide+kernel,rfl,by decide+kernel,by decide+kernel⟩
include T in
theorem b_41:Zh P w K mg base 0 f ["_law_one","_law_other"] "_law_gcd" Z1v M_41:=by
 intro cdv A outer s H E hr
 refine Z7 ?_ ?_
 ·refine Z9h ?_ ?_
  ·intro _
   refine Y5 (VV hr.units) ?_ ?_ Z2g
   ·exact Z1 1
   exact Zb
  intro _
  refine Z6 ?_
  refine Zca ?_ ?_ ?_ ?_
  ·exact Z1 1
  ·refine ZJ ZW ?_ ?_
   ·exact Z1 0
   exact Z1 1
  ·exact Z2
  exact ZL
 refine Z6 ?_
 refine Zl ?_
 exact Z1 0
include T in
theorem k_41(F:Fun K "_law_gcd" "_law_gcd" Z1v f fd)(m:mg "_law_gcd"=some (.ref f)):Callee P w K mg base 1 "_law_gcd" U3:=by
 have hb:= @b_41 P w K mg base f T
 unfold U3
 refine⟨f,fd,_,Zk F Zfl rfl rfl ?_,(ZA F (fun _ _ _ _ _ _ _ _=>rfl)),F.kp,m⟩
 assumption
variable(c_41:Callee P w K mg base 1 "_law_gcd" U3)
theorem Zfm:FnScope ["square","thing","many"] ["square","thing"] (Z3 Z1w):=⟨rfl,rfl,rfl,by decide+kernel,rfl,by decide+kernel,by decide+kernel⟩
include T c_10 c_14 c_18 in
theorem b_42:Zh P w K mg base 5 f ["square","thing","many"] "is_cut" Z1w M_42:=by
 intro cdv A outer s H E hr
 refine Z7 ?_ ?_
 ·refine Y3 ?_
  refine Zf Zu T.b_len boot_len ?_
  refine Z0 ?_ (Z4) ?_
  ·refine Z5 c_14 ?_ ?_
   ·exact hr.lo
   refine Z0 ?_ (Z4) ?_
   ·exact Z1 0
   exact Z2
  exact Zp
 refine Z6 ?_
 refine Zl ?_
 refine Z66 ?_ ?_
 ·refine Z5 c_10 ?_ ?_
  ·exact hr.lo
  refine Z0 ?_ ?_ ?_
  ·exact Z1 2
  ·refine Z0 ?_ (Z4) ?_
   ·exact Z1 1
   exact Z2
  exact Z2
 refine Z2j ?_
 refine Z5 c_10 ?_ ?_
 ·exact hr.lo
 refine Z0 ?_ ?_ ?_
 ·exact Z1 2
 ·refine Z0 ?_ (Z4) ?_
  ·refine Z5 c_18 ?_ ?_
   ·exact hr.lo
   refine Z0 ?_ ?_ ?_
   ·exact Z1 0
   ·refine Z0 ?_ (Z4) ?_
    ·exact Z1 1
    exact Z2
   exact Z2
  exact Zp
 exact Z2
include T c_10 c_14 c_18 in
theorem k_42(F:Fun K "is_cut" "is_cut" Z1w f fd)(m:mg "is_cut"=some (.ref f)):Callee P w K mg base 6 "is_cut" U4:=by
 have hb:= @b_42 P w K mg base f T c_10 c_14 c_18
 unfold U4
 refine⟨f,fd,_,Zk F Zfm rfl rfl ?_,(ZA F (fun _ _ _ _ _ _ _ _=>rfl)),F.kp,m⟩
 assumption
variable(c_42:Callee P w K mg base 6 "is_cut" U4)
theorem Zfn:FnScope ["many","rest"] ["many"] (Z3 Z1x):=⟨rfl,rfl,rfl,by decide+kernel,rfl,by decide+kernel,by decide+kernel⟩
include T in
theorem b_43{n:Nat}{Fr:List D->R D}(c_43:Callee P w K mg base (0+n) "all_ways_to_mark" Fr):Zh P w K mg base (0+n) f ["many","rest"] "all_ways_to_mark" Z1x (Zco Fr):=by
 intro cdv A outer s H E hr
 refine Z7 ?_ ?_
 ·refine Y9 ?_ ?_ (Zt)
  ·refine Y5 (ZU hr.units) ?_ ?_ X3
   ·exact Z1 0
   exact Zb
  refine Z6 ?_
  refine Zl ?_
  refine ZD ?_
  refine X4 ?_
  refine Z0 ?_ (Z4) ?_
  ·refine Y0 (Z4)
  exact ZR
 refine Z7 ?_ ?_
 ·refine Y3 ?_
  refine Z5 c_43 ?_ ?_
  ·exact hr.lo
  refine Z0 ?_ (Z4) ?_
  ·refine ZJ Z2e ?_ ?_
   ·exact Z1 0
   exact Zb
  exact ZL
 refine Z6 ?_
 refine Zl ?_
 refine ZJ ZC ?_ ?_
 ·refine ZD ?_
  refine Zx ["marks"] ?_ ?_ ?_ ?_
  ·refine ZQ ?_
   exact Z1 1
  ·intro _ _ _ _ _
   exact Zg
  ·intro _ _ _ _ _
   exact Zs
  intro _ _ _ _ _
  refine ZJ ZC ?_ ?_
  ·refine Y0 ?_
   refine Z0 ?_ (Z4) ?_
   ·exact Zb
   exact Zc
  exact Z1 0
 refine ZD ?_
 refine Zx ["marks"] ?_ ?_ ?_ ?_
 ·refine ZQ ?_
  exact Z1 1
 ·intro _ _ _ _ _
  exact Zg
 ·intro _ _ _ _ _
  exact Zs
 intro _ _ _ _ _
 refine ZJ ZC ?_ ?_
 ·refine Y0 ?_
  refine Z0 ?_ (Z4) ?_
  ·exact Zb
  exact Zc
 exact Z1 0
include T in
theorem k_43(F:Fun K "all_ways_to_mark" "all_ways_to_mark" Z1x f fd)(m:mg "all_ways_to_mark"=some (.ref f)):∀n:Nat,Callee P w K mg base (0+n) "all_ways_to_mark" (U5 n)
 |0=>⟨f,fd,["many"],Wv,(YA F (fun _ _ _ _ _ _ _=>rfl)),F.kp,m⟩
 |n+1=>by
  have hb:= @b_43 P w K mg base f T n (U5 n) (k_43 F m n)
  unfold U5
  refine⟨f,fd,_,Zk F Zfn rfl rfl ?_,(YA F (fun _ _ _ _ _ _ _=>rfl)),F.kp,m⟩
  assumption
variable(c_43:Callee P w K mg base 10 "all_ways_to_mark" (U5 10))
theorem Zfo:FnScope ["square","rows","first","below","letters","columns"] ["square","rows","first"] (Z3 Z1y):=⟨rfl,rfl,rfl,by decide+kernel,rfl,by decide+kernel,by decide+kernel⟩
include T c_11 in
theorem b_44:Zh P w K mg base 1 f ["square","rows","first","below","letters","columns"] "marks_led_to" Z1y Zcp:=by
 intro cdv A outer s H E hr
 refine Z7 ?_ ?_
 ·refine Y3 ?_
  refine Z5 c_11 ?_ ?_
  ·exact hr.lo
  refine Z0 ?_ ?_ ?_
  ·exact Z1 0
  ·refine Z0 ?_ (Z4) ?_
   ·exact Zb
   exact Zc
  exact Z2
 refine Z7 ?_ ?_
 ·refine Y3 ?_
  refine Zw ZZ T.b_tuple boot_tuple ?_
  refine Z0 ?_ (Z4) ?_
  ·refine ZD ?_
   refine Zx ["letter","rows","below","first"] ?_ ?_ ?_ ?_
   ·refine ZK T.b_range ?_
    refine Z0 ?_ (Z4) ?_
    ·refine Zf Zu T.b_len boot_len ?_
     refine Z0 ?_ (Z4) ?_
     ·exact Z1 0
     exact Z2
    exact Zp
   ·intro _ _ _ _ _
    exact Zg
   ·intro _ _ _ _ _
    exact Zs
   intro _ _ _ _ _
   refine ZJ ZW ?_ ?_
   ·refine ZJ ZC ?_ ?_
    ·refine ZB ?_ ?_
     ·exact Z1 1
     refine U0 hr ?_ ?_
     ·exact Z1 2
     exact Z1 0
    exact Z1 3
   exact Zb
  exact Ze
 refine Z7 ?_ ?_
 ·refine Y3 ?_
  refine Zw ZZ T.b_tuple boot_tuple ?_
  refine Z0 ?_ (Z4) ?_
  ·refine ZD ?_
   refine Zx ["letter","rows","letters"] ?_ ?_ ?_ ?_
   ·refine ZQ ?_
    refine ZB ?_ ?_
    ·exact Z1 0
    exact Zb
   ·intro _ _ _ _ _
    exact Zg
   ·intro _ _ _ _ _
    exact Zs
   intro _ _ _ _ _
   refine ZJ ZW ?_ ?_
   ·refine ZJ ZC ?_ ?_
    ·refine ZB ?_ ?_
     ·exact Z1 1
     exact Zb
    refine ZB ?_ ?_
    ·exact Z1 2
    exact Z1 0
   exact Zb
  exact Ze
 refine Z6 ?_
 refine Zl ?_
 refine Y0 ?_
 refine Z0 ?_ ?_ ?_
 ·exact Z1 1
 ·refine Z0 ?_ ?_ ?_
  ·exact Z1 5
  ·refine Z0 ?_ (Z4) ?_
   ·exact Z1 4
   exact Z2
  exact Z2
 exact Z2
include T c_11 in
theorem k_44(F:Fun K "marks_led_to" "marks_led_to" Z1y f fd)(m:mg "marks_led_to"=some (.ref f)):Callee P w K mg base 2 "marks_led_to" U6:=by
 have hb:= @b_44 P w K mg base f T c_11
 unfold U6
 refine⟨f,fd,_,Zk F Zfo rfl rfl ?_,(QC F (fun _ _ _ _ _ _ _ _ _=>rfl)),F.kp,m⟩
 assumption
variable(c_44:Callee P w K mg base 2 "marks_led_to" U6)
theorem Zfp:FnScope ["row","mark","columns","letters"] ["row","mark","columns","letters"] (Z3 Z1z):=⟨rfl,rfl,rfl,by decide+kernel,rfl,by decide+kernel,by decide+kernel⟩
include T in
theorem b_45:Zh P w K mg base 0 f ["row","mark","columns","letters"] "is_even_row" Z1z M_45:=by
 intro cdv A outer s H E hr
 refine Z6 ?_
 refine Zl ?_
 refine Zf (Ws hr.hd) T.b_all boot_all ?_
 refine Z0 ?_ (Z4) ?_
 ·refine ZD ?_
  refine Zx ["column","letter","mark","letters"] ?_ ?_ ?_ ?_
  ·refine Z2p T.b_zip ?_
   refine Z0 ?_ ?_ ?_
   ·exact Z1 2
   ·refine Z0 ?_ (Z4) ?_
    ·exact Z1 0
    exact Z2
   exact Z2
  ·intro _ _ _ _ _
   refine Ux ?_
   refine YD ?_
   exact YD Wu
  ·intro _ _ _ _ _
   exact Zs
  intro _ _ _ _ _
  refine Q3 (ZU hr.units) ?_ ?_
  ·refine ZJ ZW ?_ ?_
   ·refine ZJ ZC ?_ ?_
    ·refine ZJ ZC ?_ ?_
     ·exact Z1 2
     exact Z1 0
    refine ZB ?_ ?_
    ·exact Z1 3
    exact Z1 1
   exact Zb
  exact Zb
 exact Ze
include T in
theorem k_45(F:Fun K "is_even_row" "is_even_row" Z1z f fd)(m:mg "is_even_row"=some (.ref f)):Callee P w K mg base 1 "is_even_row" Z4r:=by
 have hb:= @b_45 P w K mg base f T
 unfold Z4r
 refine⟨f,fd,_,Zk F Zfp rfl rfl ?_,(Z07 F (fun _ _ _ _ _ _ _ _ _ _=>rfl)),F.kp,m⟩
 assumption
variable(c_45:Callee P w K mg base 1 "is_even_row" Z4r)
theorem Zfq:FnScope ["square","marks"] ["square","marks"] (Z3 Z20):=⟨rfl,rfl,rfl,by decide+kernel,rfl,by decide+kernel,by decide+kernel⟩
include T c_45 in
theorem b_46:Zh P w K mg base 1 f ["square","marks"] "are_even" Z20 Zcq:=by
 intro cdv A outer s H E hr
 refine Z6 ?_
 refine Zl ?_
 refine Zf (Ws hr.hd) T.b_all boot_all ?_
 refine Z0 ?_ (Z4) ?_
 ·refine ZD ?_
  refine Zx ["row","mark","marks"] ?_ ?_ ?_ ?_
  ·refine Z2p T.b_zip ?_
   refine Z0 ?_ ?_ ?_
   ·exact Z1 0
   ·refine Z0 ?_ (Z4) ?_
    ·refine ZB ?_ ?_
     ·exact Z1 1
     exact Zb
    exact Zd
   exact Z2
  ·intro _ _ _ _ _
   refine Ux ?_
   refine YD ?_
   exact YD Wu
  ·intro _ _ _ _ _
   exact Zs
  intro _ _ _ _ _
  refine Z5 c_45 ?_ ?_
  ·exact hr.lo
  refine Z0 ?_ ?_ ?_
  ·exact Z1 0
  ·refine Z0 ?_ ?_ ?_
   ·exact Z1 1
   ·refine Z0 ?_ ?_ ?_
    ·refine ZB ?_ ?_
     ·exact Z1 2
     exact Zb
    ·refine Z0 ?_ (Z4) ?_
     ·refine ZB ?_ ?_
      ·exact Z1 2
      exact Zb
     exact Zd
    exact Zd
   exact Z2
  exact Z2
 exact Ze
include T c_45 in
theorem k_46(F:Fun K "are_even" "are_even" Z20 f fd)(m:mg "are_even"=some (.ref f)):Callee P w K mg base 2 "are_even" Ja:=by
 have hb:= @b_46 P w K mg base f T c_45
 unfold Ja
 refine⟨f,fd,_,Zk F Zfq rfl rfl ?_,(ZA F (fun _ _ _ _ _ _ _ _=>rfl)),F.kp,m⟩
 assumption
variable(c_46:Callee P w K mg base 2 "are_even" Ja)
theorem Zfr:FnScope ["square","found","rows","ways"] ["square"] (Z3 Z21):=⟨rfl,rfl,rfl,by decide+kernel,rfl,by decide+kernel,by decide+kernel⟩
include T c_14 c_43 c_44 c_46 in
theorem b_47:Zh P w K mg base 10 f ["square","found","rows","ways"] "all_marks" Z21 Zcr:=by
 intro cdv A outer s H E hr
 refine Z7 ?_ ?_
 ·refine UD ?_
  refine X4 (Z4)
 refine Z7 ?_ ?_
 ·refine YF ?_ ?_ ?_
  ·intro _
   refine ZQ ?_
   refine Z5 c_43 ?_ ?_
   ·exact hr.lo
   refine Z0 ?_ (Z4) ?_
   ·refine Zf Zu T.b_len boot_len ?_
    refine Z0 ?_ (Z4) ?_
    ·refine Z5 c_14 ?_ ?_
     ·exact hr.lo
     refine Z0 ?_ (Z4) ?_
     ·exact Z1 0
     exact Z2
    exact Zp
   exact Zp
  ·intro _
   exact Zg
  intro _
  refine Z7 ?_ ?_
  ·refine XT ["first","square","rows"] ?_ ?_ ?_ ?_
   ·refine ZQ ?_
    refine Y0 ?_
    refine Z0 ?_ ?_ ?_
    ·exact Zb
    ·refine Z0 ?_ (Z4) ?_
     ·exact Zb
     exact Zc
    exact Zc
   ·intro _ _ _ _ _
    exact Zg
   ·intro _ _ _ _ _
    exact Zs
   intro _ _ _ _ _
   refine Z5 c_44 ?_ ?_
   ·exact hr.lo
   refine Z0 ?_ ?_ ?_
   ·exact Z1 1
   ·refine Z0 ?_ ?_ ?_
    ·exact Z1 2
    ·refine Z0 ?_ (Z4) ?_
     ·exact Z1 0
     exact Z2
    exact Z2
   exact Z2
  refine Z6 ?_
  refine Z6p ?_
  refine Zx ["marks","square"] ?_ ?_ ?_ ?_
  ·refine ZQ ?_
   exact Z1 3
  ·intro _ _ _ _ _
   exact Zg
  ·intro _ _ _ _ _
   refine VY ?_
   refine Yd ?_
   refine Z5 c_46 ?_ ?_
   ·exact hr.lo
   refine Z0 ?_ ?_ ?_
   ·exact Z1 1
   ·refine Z0 ?_ (Z4) ?_
    ·exact Z1 0
    exact Z2
   exact Z2
  intro _ _ _ _ _
  exact Z1 0
 refine Z6 ?_
 refine Zl ?_
 exact Z1 1
include T c_14 c_43 c_44 c_46 in
theorem k_47(F:Fun K "all_marks" "all_marks" Z21 f fd)(m:mg "all_marks"=some (.ref f)):Callee P w K mg base 11 "all_marks" Z4s:=by
 have hb:= @b_47 P w K mg base f T c_14 c_43 c_44 c_46
 unfold Z4s
 refine⟨f,fd,_,Zk F Zfr rfl rfl ?_,(YA F (fun _ _ _ _ _ _ _=>rfl)),F.kp,m⟩
 assumption
variable(c_47:Callee P w K mg base 11 "all_marks" Z4s)
theorem Zfs:FnScope ["marks"] ["marks"] (Z3 Z22):=⟨rfl,rfl,rfl,by decide+kernel,rfl,by decide+kernel,by decide+kernel⟩
include T in
theorem b_48:Zh P w K mg base 0 f ["marks"] "are_odd_in_all" Z22 Zcs:=by
 intro cdv A outer s H E hr
 refine Z6 ?_
 refine Zl ?_
 refine Q3 (ZU hr.units) ?_ ?_
 ·refine ZJ ZW ?_ ?_
  ·refine Zf (Z70 hr) T.b_sum boot_sum ?_
   refine Z0 ?_ (Z4) ?_
   ·refine ZD ?_
    refine Zx ["some"] ?_ ?_ ?_ ?_
    ·refine ZQ ?_
     exact Z1 0
    ·intro _ _ _ _ _
     exact Zg
    ·intro _ _ _ _ _
     exact Zs
    intro _ _ _ _ _
    refine Zf (Z70 hr) T.b_sum boot_sum ?_
    refine Z0 ?_ (Z4) ?_
    ·exact Z1 0
    exact Z2
   exact Ze
  exact Zb
 exact Zb
include T in
theorem k_48(F:Fun K "are_odd_in_all" "are_odd_in_all" Z22 f fd)(m:mg "are_odd_in_all"=some (.ref f)):Callee P w K mg base 1 "are_odd_in_all" Z0m:=by
 have hb:= @b_48 P w K mg base f T
 unfold Z0m
 refine⟨f,fd,_,Zk F Zfs rfl rfl ?_,(YA F (fun _ _ _ _ _ _ _=>rfl)),F.kp,m⟩
 assumption
variable(c_48:Callee P w K mg base 1 "are_odd_in_all" Z0m)
theorem Zft:FnScope ["square","bars"] ["square"] (Z3 Z23):=⟨rfl,rfl,rfl,by decide+kernel,rfl,by decide+kernel,by decide+kernel⟩
include T c_47 c_48 in
theorem b_49:Zh P w K mg base 11 f ["square","bars"] "bar" Z23 Z9z:=by
 intro cdv A outer s H E hr
 refine Z7 ?_ ?_
 ·refine XT ["marks"] ?_ ?_ ?_ ?_
  ·refine ZQ ?_
   refine Z5 c_47 ?_ ?_
   ·exact hr.lo
   refine Z0 ?_ (Z4) ?_
   ·exact Z1 0
   exact Z2
  ·intro _ _ _ _ _
   exact Zg
  ·intro _ _ _ _ _
   refine VY ?_
   refine Yd ?_
   refine Z5 c_48 ?_ ?_
   ·exact hr.lo
   refine Z0 ?_ (Z4) ?_
   ·exact Z1 0
   exact Z2
  intro _ _ _ _ _
  exact Z1 0
 refine Z6 ?_
 refine Zl ?_
 refine d_if ?_ ?_ ?_
 ·refine Yd ?_
  exact Z1 1
 ·refine ZB ?_ ?_
  ·exact Z1 1
  exact Zb
 exact Z2d
include T c_47 c_48 in
theorem k_49(F:Fun K "bar" "bar" Z23 f fd)(m:mg "bar"=some (.ref f)):Callee P w K mg base 12 "bar" Z4t:=by
 have hb:= @b_49 P w K mg base f T c_47 c_48
 unfold Z4t
 refine⟨f,fd,_,Zk F Zft rfl rfl ?_,(YA F (fun _ _ _ _ _ _ _=>rfl)),F.kp,m⟩
 assumption
variable(c_49:Callee P w K mg base 12 "bar" Z4t)
theorem Zfu:FnScope ["_law_script","_law_many","_law_steps","_law_one","_law_two","_law_square","_law_other","_law_size","_law_orders","_law_mine","_law_theirs","_law_cut","_law_three"] ["_law_script"] (Z3 Ui):=⟨rfl,rfl,rfl,by decide+kernel,rfl,by decide+kernel,by decide+kernel⟩
include T c_0 c_5 c_7 c_20 c_23 c_26 c_30 c_33 c_38 c_40 c_41 c_42 c_49 in
theorem b_50:Zh P w K mg base 13 f ["_law_script","_law_many","_law_steps","_law_one","_law_two","_law_square","_law_other","_law_size","_law_orders","_law_mine","_law_theirs","_law_cut","_law_three"] "law" Ui M_50:=by
 intro cdv A outer s H E hr
 refine Z7 ?_ ?_
 ·refine Y3 ?_
  refine ZB ?_ ?_
  ·refine ZD ?_
   refine X4 ?_
   exact YI _ _ rfl
  refine ZJ ZW ?_ ?_
  ·refine Z5 c_0 ?_ ?_
   ·exact hr.lo
   refine Z0 ?_ ?_ ?_
   ·exact Z1 0
   ·refine Z0 ?_ (Z4) ?_
    ·exact Zb
    exact Zc
   exact Z2
  exact Zb
 refine Z7 ?_ ?_
 ·refine XT ["_law_step","_law_many"] ?_ ?_ ?_ ?_
  ·refine Q7 T.b_range ?_
   refine Z0 ?_ ?_ ?_
   ·exact Zb
   ·refine Z0 ?_ (Z4) ?_
    ·exact Z1 1
    exact Z2
   exact Zc
  ·intro _ _ _ _ _
   exact Zg
  ·intro _ _ _ _ _
   refine VY ?_
   refine Y5 (ZU hr.units) ?_ ?_ X3
   ·refine Z5 c_41 ?_ ?_
    ·exact hr.lo
    refine Z0 ?_ ?_ ?_
    ·exact Z1 1
    ·refine Z0 ?_ (Z4) ?_
     ·exact Z1 0
     exact Z2
    exact Z2
   exact Zb
  intro _ _ _ _ _
  exact Z1 0
 refine Z7 ?_ ?_
 ·refine Y3 ?_
  refine ZB ?_ ?_
  ·exact Z1 2
  refine ZJ ZW ?_ ?_
  ·refine Z5 c_0 ?_ ?_
   ·exact hr.lo
   refine Z0 ?_ ?_ ?_
   ·exact Z1 0
   ·refine Z0 ?_ (Z4) ?_
    ·exact Zb
    exact Zc
   exact Z2
  refine Zf Zu T.b_len boot_len ?_
  refine Z0 ?_ (Z4) ?_
  ·exact Z1 2
  exact Z2
 refine Z7 ?_ ?_
 ·refine Y3 ?_
  refine ZB ?_ ?_
  ·exact Z1 2
  refine ZJ ZW ?_ ?_
  ·refine Z5 c_0 ?_ ?_
   ·exact hr.lo
   refine Z0 ?_ ?_ ?_
   ·exact Z1 0
   ·refine Z0 ?_ (Z4) ?_
    ·exact Zb
    exact Zc
   exact Z2
  refine Zf Zu T.b_len boot_len ?_
  refine Z0 ?_ (Z4) ?_
  ·exact Z1 2
  exact Z2
 refine Z7 ?_ ?_
 ·refine Y9 ?_ ?_ (Zt)
  ·refine Y5 (VV hr.units) ?_ ?_ Z2g
   ·refine Z5 c_30 ?_ ?_
    ·exact hr.lo
    refine Z0 ?_ ?_ ?_
    ·refine Z5 c_38 ?_ ?_
     ·exact hr.lo
     refine Z0 ?_ ?_ ?_
     ·exact Z1 1
     ·refine Z0 ?_ (Z4) ?_
      ·exact Z1 3
      exact Z2
     exact Z2
    ·refine Z0 ?_ (Z4) ?_
     ·refine Z5 c_38 ?_ ?_
      ·exact hr.lo
      refine Z0 ?_ ?_ ?_
      ·exact Z1 1
      ·refine Z0 ?_ (Z4) ?_
       ·exact Z1 4
       exact Z2
      exact Z2
     exact Zp
    exact Zp
   refine Q3 (ZU hr.units) ?_ ?_
   ·refine Z5 c_41 ?_ ?_
    ·exact hr.lo
    refine Z0 ?_ ?_ ?_
    ·exact Z1 1
    ·refine Z0 ?_ (Z4) ?_
     ·refine Zf (Zcn hr) T.b_abs boot_abs ?_
      refine Z0 ?_ (Z4) ?_
      ·refine ZJ Z2e ?_ ?_
       ·exact Z1 3
       exact Z1 4
      exact ZL
     exact Zp
    exact Z2
   exact Zb
  refine Z6 ?_
  refine Zl ?_
  exact Wi
 refine Z7 ?_ ?_
 ·refine Y3 ?_
  refine Z5 c_7 ?_ ?_
  ·exact hr.lo
  refine Z0 ?_ ?_ ?_
  ·exact Z1 0
  ·refine Z0 ?_ ?_ ?_
   ·exact Zb
   ·refine Z0 ?_ (Z4) ?_
    ·refine ZB ?_ ?_
     ·refine ZD ?_
      refine X4 ?_
      exact YI _ _ rfl
     refine ZJ ZW ?_ ?_
     ·refine Z5 c_0 ?_ ?_
      ·exact hr.lo
      refine Z0 ?_ ?_ ?_
      ·exact Z1 0
      ·refine Z0 ?_ (Z4) ?_
       ·exact Zb
       exact Zc
      exact Z2
     exact Zb
    exact Zd
   exact Zc
  exact Z2
 refine Z7 ?_ ?_
 ·refine Y3 ?_
  refine Z5 c_23 ?_ ?_
  ·exact hr.lo
  refine Z0 ?_ (Z4) ?_
  ·exact Z1 5
  exact Z2
 refine Z7 ?_ ?_
 ·refine Y9 ?_ ?_ (Zt)
  ·refine Zaz ?_
   exact Z1 6
  refine Z6 ?_
  refine Zl ?_
  refine d_or ?_ ?_
  ·refine Zat ?_
   refine Z5 c_49 ?_ ?_
   ·exact hr.lo
   refine Z0 ?_ (Z4) ?_
   ·exact Z1 5
   exact Z2
  refine Z2j ?_
  refine Q3 (ZU hr.units) ?_ ?_
  ·refine Z5 c_20 ?_ ?_
   ·exact hr.lo
   refine Z0 ?_ (Z4) ?_
   ·exact Z1 5
   exact Z2
  refine ZD ?_
  refine X4 (Z4)
 refine Z7 ?_ ?_
 ·refine Y3 ?_
  refine Zf Zu T.b_len boot_len ?_
  refine Z0 ?_ (Z4) ?_
  ·exact Z1 5
  exact Z2
 refine Z7 ?_ ?_
 ·refine XT ["_law_k","_law_script","_law_size"] ?_ ?_ ?_ ?_
  ·refine ZK T.b_range ?_
   refine Z0 ?_ (Z4) ?_
   ·exact Zb
   exact Zc
  ·intro _ _ _ _ _
   exact Zg
  ·intro _ _ _ _ _
   exact Zs
  intro _ _ _ _ _
  refine Z5 c_5 ?_ ?_
  ·exact hr.lo
  refine Z0 ?_ ?_ ?_
  ·refine ZJ ZC ?_ ?_
   ·refine Z5 c_0 ?_ ?_
    ·exact hr.lo
    refine Z0 ?_ ?_ ?_
    ·exact Z1 1
    ·refine Z0 ?_ (Z4) ?_
     ·exact Zb
     exact Zc
    exact Z2
   refine ZJ YC ?_ ?_
   ·exact Zb
   exact Z1 0
  ·refine Z0 ?_ (Z4) ?_
   ·exact Z1 2
   exact Z2
  exact ZL
 refine Z7 ?_ ?_
 ·refine Y3 ?_
  refine Z5 c_26 ?_ ?_
  ·exact hr.lo
  refine Z0 ?_ ?_ ?_
  ·exact Z1 5
  ·refine Z0 ?_ ?_ ?_
   ·refine ZB ?_ ?_
    ·exact Z1 8
    exact Zb
   ·refine Z0 ?_ ?_ ?_
    ·refine ZB ?_ ?_
     ·exact Z1 8
     exact Zb
    ·refine Z0 ?_ (Z4) ?_
     ·refine ZB ?_ ?_
      ·exact Z1 8
      exact Zb
     exact Zd
    exact Zd
   exact Zd
  exact Z2
 refine Z7 ?_ ?_
 ·refine Y3 ?_
  refine Z5 c_26 ?_ ?_
  ·exact hr.lo
  refine Z0 ?_ ?_ ?_
  ·exact Z1 6
  ·refine Z0 ?_ ?_ ?_
   ·refine ZB ?_ ?_
    ·exact Z1 8
    exact Zb
   ·refine Z0 ?_ ?_ ?_
    ·refine ZB ?_ ?_
     ·exact Z1 8
     exact Zb
    ·refine Z0 ?_ (Z4) ?_
     ·refine ZB ?_ ?_
      ·exact Z1 8
      exact Zb
     exact Zd
    exact Zd
   exact Zd
  exact Z2
 refine Z7 ?_ ?_
 ·refine Y9 ?_ ?_ (Zt)
  ·refine t_w ?_
   refine Z64 ?_ ?_
   ·refine Yv ?_
    refine Yd ?_
    refine Z5 c_30 ?_ ?_
    ·exact hr.lo
    refine Z0 ?_ ?_ ?_
    ·exact Z1 9
    ·refine Z0 ?_ (Z4) ?_
     ·exact Z1 10
     exact Z2
    exact Z2
   refine Wr ?_
   refine Yv ?_
   refine Yd ?_
   refine Z5 c_30 ?_ ?_
   ·exact hr.lo
   refine Z0 ?_ ?_ ?_
   ·exact Z1 10
   ·refine Z0 ?_ (Z4) ?_
    ·exact Z1 9
    exact Z2
   exact Z2
  refine Z6 ?_
  refine Zl ?_
  exact Wi
 refine Z7 ?_ ?_
 ·refine YF ?_ ?_ ?_
  ·intro _
   refine ZQ ?_
   refine Z5 c_33 ?_ ?_
   ·exact hr.lo
   refine Z0 ?_ ?_ ?_
   ·exact Z1 9
   ·refine Z0 ?_ (Z4) ?_
    ·exact Z1 10
    exact Z2
   exact Z2
  ·intro _
   exact Zg
  intro _
  refine Z6 ?_
  refine Y9 ?_ ?_ (Zt)
  ·refine Yv ?_
   refine Yd ?_
   refine Z5 c_42 ?_ ?_
   ·exact hr.lo
   refine Z0 ?_ ?_ ?_
   ·exact Z1 9
   ·refine Z0 ?_ (Z4) ?_
    ·exact Z1 11
    exact Z2
   exact Z2
  refine Z6 ?_
  refine Zl ?_
  exact Wi
 refine Z7 ?_ ?_
 ·refine YF ?_ ?_ ?_
  ·intro _
   refine ZQ ?_
   refine Z5 c_33 ?_ ?_
   ·exact hr.lo
   refine Z0 ?_ ?_ ?_
   ·exact Z1 10
   ·refine Z0 ?_ (Z4) ?_
    ·exact Z1 9
    exact Z2
   exact Z2
  ·intro _
   exact Zg
  intro _
  refine Z6 ?_
  refine Y9 ?_ ?_ (Zt)
  ·refine Yv ?_
   refine Yd ?_
   refine Z5 c_42 ?_ ?_
   ·exact hr.lo
   refine Z0 ?_ ?_ ?_
   ·exact Z1 10
   ·refine Z0 ?_ (Z4) ?_
    ·exact Z1 11
    exact Z2
   exact Z2
  refine Z6 ?_
  refine Zl ?_
  exact Wi
 refine Z7 ?_ ?_
 ·refine Y3 ?_
  refine Z5 c_38 ?_ ?_
  ·exact hr.lo
  refine Z0 ?_ ?_ ?_
  ·exact Zb
  ·refine Z0 ?_ (Z4) ?_
   ·exact Zb
   exact Zc
  exact Zc
 refine Z7 ?_ ?_
 ·refine Y9 ?_ ?_ (Zt)
  ·refine Y5 JF ?_ ?_ XO
   ·exact Z1 7
   exact Zb
  refine Z6 ?_
  refine Y9 ?_ ?_ (Zt)
  ·refine Yv ?_
   refine Yd ?_
   refine Z5 c_30 ?_ ?_
   ·exact hr.lo
   refine Z0 ?_ ?_ ?_
   ·refine Z5 c_40 ?_ ?_
    ·exact hr.lo
    refine Z0 ?_ ?_ ?_
    ·exact Z1 5
    ·refine Z0 ?_ (Z4) ?_
     ·exact Z1 12
     exact Z2
    exact Z2
   ·refine Z0 ?_ (Z4) ?_
    ·refine Z5 c_40 ?_ ?_
     ·exact hr.lo
     refine Z0 ?_ ?_ ?_
     ·exact Z1 6
     ·refine Z0 ?_ (Z4) ?_
      ·refine Z5 c_38 ?_ ?_
       ·exact hr.lo
       refine Z0 ?_ ?_ ?_
       ·exact Zb
       ·refine Z0 ?_ (Z4) ?_
        ·exact Zb
        exact Zc
       exact Zc
      exact Zp
     exact Z2
    exact Zp
   exact Zp
  refine Z6 ?_
  refine Zl ?_
  exact Wi
 refine Z6 ?_
 refine Zl ?_
 refine Z5 c_30 ?_ ?_
 ·exact hr.lo
 refine Z0 ?_ ?_ ?_
 ·refine Z5 c_40 ?_ ?_
  ·exact hr.lo
  refine Z0 ?_ ?_ ?_
  ·exact Z1 5
  ·refine Z0 ?_ (Z4) ?_
   ·refine Y0 ?_
    refine Z0 ?_ (Z4) ?_
    ·refine Y0 ?_
     refine Z0 ?_ (Z4) ?_
     ·exact Zb
     exact Zc
    exact ZR
   exact ZR
  exact Z2
 ·refine Z0 ?_ (Z4) ?_
  ·refine Z5 c_40 ?_ ?_
   ·exact hr.lo
   refine Z0 ?_ ?_ ?_
   ·exact Z1 6
   ·refine Z0 ?_ (Z4) ?_
    ·refine Y0 ?_
     refine Z0 ?_ (Z4) ?_
     ·refine Y0 ?_
      refine Z0 ?_ (Z4) ?_
      ·exact Zb
      exact Zc
     exact ZR
    exact ZR
   exact Z2
  exact Zp
 exact Zp
end
end L3
namespace L3
open PySem PySem.Spec L2
open PyProof.Rows hiding St
def Jx(K:PySem.W.Frag):Sp:=fun vs H Q _=>∃(a:Addr) (ns:List Int),vs=[.ref a]/\SqL K H a (ns.map V.int)/\ns.length<=63/\∀H',Q (.bl true) H'
theorem Z8h{P:Program}{w:World}{K:PySem.W.Frag}{mg:Str->Option Value}{base:Heap}{k:Nat}{fa:Addr}{fd:FuncData}{ps:List Str}{F:List D->R D}(y:FnOk P w K mg base (CXR P w) k fa fd ps (spD K F))(h:∀ns:List Int,ns.length<=63->F [scr ns]=.ok (.bl true)):FnOk P w K mg base (CXR P w) k fa fd ps (Jx K):=by
 have key:∀vs H Q E,Jx K vs H Q E->spD K F vs H Q E:=by
  rintro vs H Q E ⟨a,ns,rfl,hS,hl,q⟩
  refine⟨fun _=>True,[scr ns],fun _ _=>trivial,RepL.cons ?_ RepL.nil,?_⟩
  ·unfold scr
   simp only[Rep]
   refine⟨a,ns.map V.int,rfl,?_,WB ns⟩
   rcases hS with z|z
   ·exact .inl ⟨z,trivial⟩
   ·exact .inr z
  ·rw[h ns hl]
   intro v H' _ r
   cases r.bl_of
   exact q H'
 exact y.imp key
theorem all_mk{l:PySem.W.OpenLaw}{w:World}{K:PySem.W.Frag}{h:Heap}{mg:Str->Option Value}{fa:Addr}(X:K.In h)(G:h.Ns mainGlobals mg)(hfa:mg "law"=some (.ref fa))
  {f0:Addr} {od0 an0:Option Addr} {sl0:Array (Option Value)} {oc0 kV0 dc0 pm0 cd0 ct0:Value}
  {f1:Addr} {od1 an1:Option Addr} {sl1:Array (Option Value)} {oc1 kV1 dc1 pm1 cd1 ct1:Value}
  {f2:Addr} {od2 an2:Option Addr} {sl2:Array (Option Value)} {oc2 kV2 dc2 pm2 cd2 ct2:Value}
  {f3:Addr} {od3 an3:Option Addr} {sl3:Array (Option Value)} {oc3 kV3 dc3 pm3 cd3 ct3:Value}
  {f4:Addr} {od4 an4:Option Addr} {sl4:Array (Option Value)} {oc4 kV4 dc4 pm4 cd4 ct4:Value}
  {f5:Addr} {od5 an5:Option Addr} {sl5:Array (Option Value)} {oc5 kV5 dc5 pm5 cd5 ct5:Value}
  {f6:Addr} {od6 an6:Option Addr} {sl6:Array (Option Value)} {oc6 kV6 dc6 pm6 cd6 ct6:Value}
  {f7:Addr} {od7 an7:Option Addr} {sl7:Array (Option Value)} {oc7 kV7 dc7 pm7 cd7 ct7:Value}
  {f8:Addr} {od8 an8:Option Addr} {sl8:Array (Option Value)} {oc8 kV8 dc8 pm8 cd8 ct8:Value}
  {f9:Addr} {od9 an9:Option Addr} {sl9:Array (Option Value)} {oc9 kV9 dc9 pm9 cd9 ct9:Value}
  {f10:Addr} {od10 an10:Option Addr} {sl10:Array (Option Value)} {oc10 kV10 dc10 pm10 cd10 ct10:Value}
  {f11:Addr} {od11 an11:Option Addr} {sl11:Array (Option Value)} {oc11 kV11 dc11 pm11 cd11 ct11:Value}
  {f12:Addr} {od12 an12:Option Addr} {sl12:Array (Option Value)} {oc12 kV12 dc12 pm12 cd12 ct12:Value}
  {f13:Addr} {od13 an13:Option Addr} {sl13:Array (Option Value)} {oc13 kV13 dc13 pm13 cd13 ct13:Value}
  {f14:Addr} {od14 an14:Option Addr} {sl14:Array (Option Value)} {oc14 kV14 dc14 pm14 cd14 ct14:Value}
  {f15:Addr} {od15 an15:Option Addr} {sl15:Array (Option Value)} {oc15 kV15 dc15 pm15 cd15 ct15:Value}
  {f16:Addr} {od16 an16:Option Addr} {sl16:Array (Option Value)} {oc16 kV16 dc16 pm16 cd16 ct16:Value}
  {f17:Addr} {od17 an17:Option Addr} {sl17:Array (Option Value)} {oc17 kV17 dc17 pm17 cd17 ct17:Value}
  {f18:Addr} {od18 an18:Option Addr} {sl18:Array (Option Value)} {oc18 kV18 dc18 pm18 cd18 ct18:Value}
  {f19:Addr} {od19 an19:Option Addr} {sl19:Array (Option Value)} {oc19 kV19 dc19 pm19 cd19 ct19:Value}
  {f20:Addr} {od20 an20:Option Addr} {sl20:Array (Option Value)} {oc20 kV20 dc20 pm20 cd20 ct20:Value}
  {f21:Addr} {od21 an21:Option Addr} {sl21:Array (Option Value)} {oc21 kV21 dc21 pm21 cd21 ct21:Value}
  {f22:Addr} {od22 an22:Option Addr} {sl22:Array (Option Value)} {oc22 kV22 dc22 pm22 cd22 ct22:Value}
  {f23:Addr} {od23 an23:Option Addr} {sl23:Array (Option Value)} {oc23 kV23 dc23 pm23 cd23 ct23:Value}
  {f24:Addr} {od24 an24:Option Addr} {sl24:Array (Option Value)} {oc24 kV24 dc24 pm24 cd24 ct24:Value}
  {f25:Addr} {od25 an25:Option Addr} {sl25:Array (Option Value)} {oc25 kV25 dc25 pm25 cd25 ct25:Value}
  {f26:Addr} {od26 an26:Option Addr} {sl26:Array (Option Value)} {oc26 kV26 dc26 pm26 cd26 ct26:Value}
  {f27:Addr} {od27 an27:Option Addr} {sl27:Array (Option Value)} {oc27 kV27 dc27 pm27 cd27 ct27:Value}
  {f28:Addr} {od28 an28:Option Addr} {sl28:Array (Option Value)} {oc28 kV28 dc28 pm28 cd28 ct28:Value}
  {f29:Addr} {od29 an29:Option Addr} {sl29:Array (Option Value)} {oc29 kV29 dc29 pm29 cd29 ct29:Value}
  {f30:Addr} {od30 an30:Option Addr} {sl30:Array (Option Value)} {oc30 kV30 dc30 pm30 cd30 ct30:Value}
  {f31:Addr} {od31 an31:Option Addr} {sl31:Array (Option Value)} {oc31 kV31 dc31 pm31 cd31 ct31:Value}
  {f32:Addr} {od32 an32:Option Addr} {sl32:Array (Option Value)} {oc32 kV32 dc32 pm32 cd32 ct32:Value}
  {f33:Addr} {od33 an33:Option Addr} {sl33:Array (Option Value)} {oc33 kV33 dc33 pm33 cd33 ct33:Value}
  {f34:Addr} {od34 an34:Option Addr} {sl34:Array (Option Value)} {oc34 kV34 dc34 pm34 cd34 ct34:Value}
  {f35:Addr} {od35 an35:Option Addr} {sl35:Array (Option Value)} {oc35 kV35 dc35 pm35 cd35 ct35:Value}
  {f36:Addr} {od36 an36:Option Addr} {sl36:Array (Option Value)} {oc36 kV36 dc36 pm36 cd36 ct36:Value}
  {f37:Addr} {od37 an37:Option Addr} {sl37:Array (Option Value)} {oc37 kV37 dc37 pm37 cd37 ct37:Value}
  {f38:Addr} {od38 an38:Option Addr} {sl38:Array (Option Value)} {oc38 kV38 dc38 pm38 cd38 ct38:Value}
  {f39:Addr} {od39 an39:Option Addr} {sl39:Array (Option Value)} {oc39 kV39 dc39 pm39 cd39 ct39:Value}
  {f40:Addr} {od40 an40:Option Addr} {sl40:Array (Option Value)} {oc40 kV40 dc40 pm40 cd40 ct40:Value}
  {f41:Addr} {od41 an41:Option Addr} {sl41:Array (Option Value)} {oc41 kV41 dc41 pm41 cd41 ct41:Value}
  {f42:Addr} {od42 an42:Option Addr} {sl42:Array (Option Value)} {oc42 kV42 dc42 pm42 cd42 ct42:Value}
  {f43:Addr} {od43 an43:Option Addr} {sl43:Array (Option Value)} {oc43 kV43 dc43 pm43 cd43 ct43:Value}
  {f44:Addr} {od44 an44:Option Addr} {sl44:Array (Option Value)} {oc44 kV44 dc44 pm44 cd44 ct44:Value}
  {f45:Addr} {od45 an45:Option Addr} {sl45:Array (Option Value)} {oc45 kV45 dc45 pm45 cd45 ct45:Value}
  {f46:Addr} {od46 an46:Option Addr} {sl46:Array (Option Value)} {oc46 kV46 dc46 pm46 cd46 ct46:Value}
  {f47:Addr} {od47 an47:Option Addr} {sl47:Array (Option Value)} {oc47 kV47 dc47 pm47 cd47 ct47:Value}
  {f48:Addr} {od48 an48:Option Addr} {sl48:Array (Option Value)} {oc48 kV48 dc48 pm48 cd48 ct48:Value}
  {f49:Addr} {od49 an49:Option Addr} {sl49:Array (Option Value)} {oc49 kV49 dc49 pm49 cd49 ct49:Value}
  {f50:Addr} {od50 an50:Option Addr} {sl50:Array (Option Value)} {oc50 kV50 dc50 pm50 cd50 ct50:Value}
  (a0:PySem.W.nsIn K mainGlobals "_law_cell"=some (some (.ref f0)))
  (l0:K.lookup f0=some ⟨oc0,od0, .func (PySem.W.fnOf "_law_cell" "_law_cell" (Za s_0) (Z9 s_0) (Z3 s_0) .none kV0 dc0 pm0 an0 cd0 ct0),sl0⟩)
  (c0:PySem.W.codeIn K cd0 "_law_cell"=true) (k0:PySem.W.keepIn K (.ref f0)=true)
  (a1:PySem.W.nsIn K mainGlobals "_law_first"=some (some (.ref f1)))
  (l1:K.lookup f1=some ⟨oc1,od1, .func (PySem.W.fnOf "_law_first" "_law_first" (Za s_1) (Z9 s_1) (Z3 s_1) .none kV1 dc1 pm1 an1 cd1 ct1),sl1⟩)
  (c1:PySem.W.codeIn K cd1 "_law_first"=true) (k1:PySem.W.keepIn K (.ref f1)=true)
  (a2:PySem.W.nsIn K mainGlobals "_law_renamed"=some (some (.ref f2)))
  (l2:K.lookup f2=some ⟨oc2,od2, .func (PySem.W.fnOf "_law_renamed" "_law_renamed" (Za s_2) (Z9 s_2) (Z3 s_2) .none kV2 dc2 pm2 an2 cd2 ct2),sl2⟩)
  (c2:PySem.W.codeIn K cd2 "_law_renamed"=true) (k2:PySem.W.keepIn K (.ref f2)=true)
  (a3:PySem.W.nsIn K mainGlobals "_law_mix"=some (some (.ref f3)))
  (l3:K.lookup f3=some ⟨oc3,od3, .func (PySem.W.fnOf "_law_mix" "_law_mix" (Za s_3) (Z9 s_3) (Z3 s_3) .none kV3 dc3 pm3 an3 cd3 ct3),sl3⟩)
  (c3:PySem.W.codeIn K cd3 "_law_mix"=true) (k3:PySem.W.keepIn K (.ref f3)=true)
  (a4:PySem.W.nsIn K mainGlobals "_law_twos"=some (some (.ref f4)))
  (l4:K.lookup f4=some ⟨oc4,od4, .func (PySem.W.fnOf "_law_twos" "_law_twos" (Za s_4) (Z9 s_4) (Z3 s_4) .none kV4 dc4 pm4 an4 cd4 ct4),sl4⟩)
  (c4:PySem.W.codeIn K cd4 "_law_twos"=true) (k4:PySem.W.keepIn K (.ref f4)=true)
  (a5:PySem.W.nsIn K mainGlobals "_law_order"=some (some (.ref f5)))
  (l5:K.lookup f5=some ⟨oc5,od5, .func (PySem.W.fnOf "_law_order" "_law_order" (Za s_5) (Z9 s_5) (Z3 s_5) .none kV5 dc5 pm5 an5 cd5 ct5),sl5⟩)
  (c5:PySem.W.codeIn K cd5 "_law_order"=true) (k5:PySem.W.keepIn K (.ref f5)=true)
  (a6:PySem.W.nsIn K mainGlobals "_law_switched"=some (some (.ref f6)))
  (l6:K.lookup f6=some ⟨oc6,od6, .func (PySem.W.fnOf "_law_switched" "_law_switched" (Za s_6) (Z9 s_6) (Z3 s_6) .none kV6 dc6 pm6 an6 cd6 ct6),sl6⟩)
  (c6:PySem.W.codeIn K cd6 "_law_switched"=true) (k6:PySem.W.keepIn K (.ref f6)=true)
  (a7:PySem.W.nsIn K mainGlobals "_law_sized"=some (some (.ref f7)))
  (l7:K.lookup f7=some ⟨oc7,od7, .func (PySem.W.fnOf "_law_sized" "_law_sized" (Za s_7) (Z9 s_7) (Z3 s_7) .none kV7 dc7 pm7 an7 cd7 ct7),sl7⟩)
  (c7:PySem.W.codeIn K cd7 "_law_sized"=true) (k7:PySem.W.keepIn K (.ref f7)=true)
  (a8:PySem.W.nsIn K mainGlobals "is_number_below"=some (some (.ref f8)))
  (l8:K.lookup f8=some ⟨oc8,od8, .func (PySem.W.fnOf "is_number_below" "is_number_below" (Za s_8) (Z9 s_8) (Z3 s_8) .none kV8 dc8 pm8 an8 cd8 ct8),sl8⟩)
  (c8:PySem.W.codeIn K cd8 "is_number_below"=true) (k8:PySem.W.keepIn K (.ref f8)=true)
  (a9:PySem.W.nsIn K mainGlobals "is_part_of_order"=some (some (.ref f9)))
  (l9:K.lookup f9=some ⟨oc9,od9, .func (PySem.W.fnOf "is_part_of_order" "is_part_of_order" (Za s_9) (Z9 s_9) (Z3 s_9) .none kV9 dc9 pm9 an9 cd9 ct9),sl9⟩)
  (c9:PySem.W.codeIn K cd9 "is_part_of_order"=true) (k9:PySem.W.keepIn K (.ref f9)=true)
  (a10:PySem.W.nsIn K mainGlobals "is_order"=some (some (.ref f10)))
  (l10:K.lookup f10=some ⟨oc10,od10, .func (PySem.W.fnOf "is_order" "is_order" (Za Z10) (Z9 Z10) (Z3 Z10) .none kV10 dc10 pm10 an10 cd10 ct10),sl10⟩)
  (c10:PySem.W.codeIn K cd10 "is_order"=true) (k10:PySem.W.keepIn K (.ref f10)=true)
  (a11:PySem.W.nsIn K mainGlobals "column_of"=some (some (.ref f11)))
  (l11:K.lookup f11=some ⟨oc11,od11, .func (PySem.W.fnOf "column_of" "column_of" (Za Z11) (Z9 Z11) (Z3 Z11) .none kV11 dc11 pm11 an11 cd11 ct11),sl11⟩)
  (c11:PySem.W.codeIn K cd11 "column_of"=true) (k11:PySem.W.keepIn K (.ref f11)=true)
  (a12:PySem.W.nsIn K mainGlobals "columns_of"=some (some (.ref f12)))
  (l12:K.lookup f12=some ⟨oc12,od12, .func (PySem.W.fnOf "columns_of" "columns_of" (Za Z12) (Z9 Z12) (Z3 Z12) .none kV12 dc12 pm12 an12 cd12 ct12),sl12⟩)
  (c12:PySem.W.codeIn K cd12 "columns_of"=true) (k12:PySem.W.keepIn K (.ref f12)=true)
  (a13:PySem.W.nsIn K mainGlobals "is_square"=some (some (.ref f13)))
  (l13:K.lookup f13=some ⟨oc13,od13, .func (PySem.W.fnOf "is_square" "is_square" (Za Z13) (Z9 Z13) (Z3 Z13) .none kV13 dc13 pm13 an13 cd13 ct13),sl13⟩)
  (c13:PySem.W.codeIn K cd13 "is_square"=true) (k13:PySem.W.keepIn K (.ref f13)=true)
  (a14:PySem.W.nsIn K mainGlobals "checked"=some (some (.ref f14)))
  (l14:K.lookup f14=some ⟨oc14,od14, .func (PySem.W.fnOf "checked" "checked" (Za Z14) (Z9 Z14) (Z3 Z14) .none kV14 dc14 pm14 an14 cd14 ct14),sl14⟩)
  (c14:PySem.W.codeIn K cd14 "checked"=true) (k14:PySem.W.keepIn K (.ref f14)=true)
  (a15:PySem.W.nsIn K mainGlobals "check_size"=some (some (.ref f15)))
  (l15:K.lookup f15=some ⟨oc15,od15, .func (PySem.W.fnOf "check_size" "check_size" (Za Z15) (Z9 Z15) (Z3 Z15) .none kV15 dc15 pm15 an15 cd15 ct15),sl15⟩)
  (c15:PySem.W.codeIn K cd15 "check_size"=true) (k15:PySem.W.keepIn K (.ref f15)=true)
  (a16:PySem.W.nsIn K mainGlobals "are_apart"=some (some (.ref f16)))
  (l16:K.lookup f16=some ⟨oc16,od16, .func (PySem.W.fnOf "are_apart" "are_apart" (Za Z16) (Z9 Z16) (Z3 Z16) .none kV16 dc16 pm16 an16 cd16 ct16),sl16⟩)
  (c16:PySem.W.codeIn K cd16 "are_apart"=true) (k16:PySem.W.keepIn K (.ref f16)=true)
  (a17:PySem.W.nsIn K mainGlobals "parting_beyond"=some (some (.ref f17)))
  (l17:K.lookup f17=some ⟨oc17,od17, .func (PySem.W.fnOf "parting_beyond" "parting_beyond" (Za Z17) (Z9 Z17) (Z3 Z17) .none kV17 dc17 pm17 an17 cd17 ct17),sl17⟩)
  (c17:PySem.W.codeIn K cd17 "parting_beyond"=true) (k17:PySem.W.keepIn K (.ref f17)=true)
  (a18:PySem.W.nsIn K mainGlobals "letters_along"=some (some (.ref f18)))
  (l18:K.lookup f18=some ⟨oc18,od18, .func (PySem.W.fnOf "letters_along" "letters_along" (Za Z18) (Z9 Z18) (Z3 Z18) .none kV18 dc18 pm18 an18 cd18 ct18),sl18⟩)
  (c18:PySem.W.codeIn K cd18 "letters_along"=true) (k18:PySem.W.keepIn K (.ref f18)=true)
  (a19:PySem.W.nsIn K mainGlobals "cuts_beginning"=some (some (.ref f19)))
  (l19:K.lookup f19=some ⟨oc19,od19, .func (PySem.W.fnOf "cuts_beginning" "cuts_beginning" (Za Z19) (Z9 Z19) (Z3 Z19) .none kV19 dc19 pm19 an19 cd19 ct19),sl19⟩)
  (c19:PySem.W.codeIn K cd19 "cuts_beginning"=true) (k19:PySem.W.keepIn K (.ref f19)=true)
  (a20:PySem.W.nsIn K mainGlobals "all_cuts"=some (some (.ref f20)))
  (l20:K.lookup f20=some ⟨oc20,od20, .func (PySem.W.fnOf "all_cuts" "all_cuts" (Za Z1a) (Z9 Z1a) (Z3 Z1a) .none kV20 dc20 pm20 an20 cd20 ct20),sl20⟩)
  (c20:PySem.W.codeIn K cd20 "all_cuts"=true) (k20:PySem.W.keepIn K (.ref f20)=true)
  (a21:PySem.W.nsIn K mainGlobals "parting"=some (some (.ref f21)))
  (l21:K.lookup f21=some ⟨oc21,od21, .func (PySem.W.fnOf "parting" "parting" (Za Z1b) (Z9 Z1b) (Z3 Z1b) .none kV21 dc21 pm21 an21 cd21 ct21),sl21⟩)
  (c21:PySem.W.codeIn K cd21 "parting"=true) (k21:PySem.W.keepIn K (.ref f21)=true)
  (a22:PySem.W.nsIn K mainGlobals "numbers_of_cuts"=some (some (.ref f22)))
  (l22:K.lookup f22=some ⟨oc22,od22, .func (PySem.W.fnOf "numbers_of_cuts" "numbers_of_cuts" (Za Z1c) (Z9 Z1c) (Z3 Z1c) .none kV22 dc22 pm22 an22 cd22 ct22),sl22⟩)
  (c22:PySem.W.codeIn K cd22 "numbers_of_cuts"=true) (k22:PySem.W.keepIn K (.ref f22)=true)
  (a23:PySem.W.nsIn K mainGlobals "mate"=some (some (.ref f23)))
  (l23:K.lookup f23=some ⟨oc23,od23, .func (PySem.W.fnOf "mate" "mate" (Za Z1d) (Z9 Z1d) (Z3 Z1d) .none kV23 dc23 pm23 an23 cd23 ct23),sl23⟩)
  (c23:PySem.W.codeIn K cd23 "mate"=true) (k23:PySem.W.keepIn K (.ref f23)=true)
  (a24:PySem.W.nsIn K mainGlobals "check_order"=some (some (.ref f24)))
  (l24:K.lookup f24=some ⟨oc24,od24, .func (PySem.W.fnOf "check_order" "check_order" (Za Z1e) (Z9 Z1e) (Z3 Z1e) .none kV24 dc24 pm24 an24 cd24 ct24),sl24⟩)
  (c24:PySem.W.codeIn K cd24 "check_order"=true) (k24:PySem.W.keepIn K (.ref f24)=true)
  (a25:PySem.W.nsIn K mainGlobals "renamed_row"=some (some (.ref f25)))
  (l25:K.lookup f25=some ⟨oc25,od25, .func (PySem.W.fnOf "renamed_row" "renamed_row" (Za Z1f) (Z9 Z1f) (Z3 Z1f) .none kV25 dc25 pm25 an25 cd25 ct25),sl25⟩)
  (c25:PySem.W.codeIn K cd25 "renamed_row"=true) (k25:PySem.W.keepIn K (.ref f25)=true)
  (a26:PySem.W.nsIn K mainGlobals "renamed"=some (some (.ref f26)))
  (l26:K.lookup f26=some ⟨oc26,od26, .func (PySem.W.fnOf "renamed" "renamed" (Za Z1g) (Z9 Z1g) (Z3 Z1g) .none kV26 dc26 pm26 an26 cd26 ct26),sl26⟩)
  (c26:PySem.W.codeIn K cd26 "renamed"=true) (k26:PySem.W.keepIn K (.ref f26)=true)
  (a27:PySem.W.nsIn K mainGlobals "check_one_size"=some (some (.ref f27)))
  (l27:K.lookup f27=some ⟨oc27,od27, .func (PySem.W.fnOf "check_one_size" "check_one_size" (Za Z1h) (Z9 Z1h) (Z3 Z1h) .none kV27 dc27 pm27 an27 cd27 ct27),sl27⟩)
  (c27:PySem.W.codeIn K cd27 "check_one_size"=true) (k27:PySem.W.keepIn K (.ref f27)=true)
  (a28:PySem.W.nsIn K mainGlobals "places_of_pairs"=some (some (.ref f28)))
  (l28:K.lookup f28=some ⟨oc28,od28, .func (PySem.W.fnOf "places_of_pairs" "places_of_pairs" (Za Z1i) (Z9 Z1i) (Z3 Z1i) .none kV28 dc28 pm28 an28 cd28 ct28),sl28⟩)
  (c28:PySem.W.codeIn K cd28 "places_of_pairs"=true) (k28:PySem.W.keepIn K (.ref f28)=true)
  (a29:PySem.W.nsIn K mainGlobals "clashes"=some (some (.ref f29)))
  (l29:K.lookup f29=some ⟨oc29,od29, .func (PySem.W.fnOf "clashes" "clashes" (Za Z1j) (Z9 Z1j) (Z3 Z1j) .none kV29 dc29 pm29 an29 cd29 ct29),sl29⟩)
  (c29:PySem.W.codeIn K cd29 "clashes"=true) (k29:PySem.W.keepIn K (.ref f29)=true)
  (a30:PySem.W.nsIn K mainGlobals "are_mates"=some (some (.ref f30)))
  (l30:K.lookup f30=some ⟨oc30,od30, .func (PySem.W.fnOf "are_mates" "are_mates" (Za Z1k) (Z9 Z1k) (Z3 Z1k) .none kV30 dc30 pm30 an30 cd30 ct30),sl30⟩)
  (c30:PySem.W.codeIn K cd30 "are_mates"=true) (k30:PySem.W.keepIn K (.ref f30)=true)
  (a31:PySem.W.nsIn K mainGlobals "check_number"=some (some (.ref f31)))
  (l31:K.lookup f31=some ⟨oc31,od31, .func (PySem.W.fnOf "check_number" "check_number" (Za Z1l) (Z9 Z1l) (Z3 Z1l) .none kV31 dc31 pm31 an31 cd31 ct31),sl31⟩)
  (c31:PySem.W.codeIn K cd31 "check_number"=true) (k31:PySem.W.keepIn K (.ref f31)=true)
  (a32:PySem.W.nsIn K mainGlobals "places_of"=some (some (.ref f32)))
  (l32:K.lookup f32=some ⟨oc32,od32, .func (PySem.W.fnOf "places_of" "places_of" (Za Z1m) (Z9 Z1m) (Z3 Z1m) .none kV32 dc32 pm32 an32 cd32 ct32),sl32⟩)
  (c32:PySem.W.codeIn K cd32 "places_of"=true) (k32:PySem.W.keepIn K (.ref f32)=true)
  (a33:PySem.W.nsIn K mainGlobals "cuts_by"=some (some (.ref f33)))
  (l33:K.lookup f33=some ⟨oc33,od33, .func (PySem.W.fnOf "cuts_by" "cuts_by" (Za Z1n) (Z9 Z1n) (Z3 Z1n) .none kV33 dc33 pm33 an33 cd33 ct33),sl33⟩)
  (c33:PySem.W.codeIn K cd33 "cuts_by"=true) (k33:PySem.W.keepIn K (.ref f33)=true)
  (a34:PySem.W.nsIn K mainGlobals "check_many"=some (some (.ref f34)))
  (l34:K.lookup f34=some ⟨oc34,od34, .func (PySem.W.fnOf "check_many" "check_many" (Za Z1o) (Z9 Z1o) (Z3 Z1o) .none kV34 dc34 pm34 an34 cd34 ct34),sl34⟩)
  (c34:PySem.W.codeIn K cd34 "check_many"=true) (k34:PySem.W.keepIn K (.ref f34)=true)
  (a35:PySem.W.nsIn K mainGlobals "have_common_divisor"=some (some (.ref f35)))
  (l35:K.lookup f35=some ⟨oc35,od35, .func (PySem.W.fnOf "have_common_divisor" "have_common_divisor" (Za Z1p) (Z9 Z1p) (Z3 Z1p) .none kV35 dc35 pm35 an35 cd35 ct35),sl35⟩)
  (c35:PySem.W.codeIn K cd35 "have_common_divisor"=true) (k35:PySem.W.keepIn K (.ref f35)=true)
  (a36:PySem.W.nsIn K mainGlobals "is_step"=some (some (.ref f36)))
  (l36:K.lookup f36=some ⟨oc36,od36, .func (PySem.W.fnOf "is_step" "is_step" (Za Z1q) (Z9 Z1q) (Z3 Z1q) .none kV36 dc36 pm36 an36 cd36 ct36),sl36⟩)
  (c36:PySem.W.codeIn K cd36 "is_step"=true) (k36:PySem.W.keepIn K (.ref f36)=true)
  (a37:PySem.W.nsIn K mainGlobals "turning_row"=some (some (.ref f37)))
  (l37:K.lookup f37=some ⟨oc37,od37, .func (PySem.W.fnOf "turning_row" "turning_row" (Za Z1r) (Z9 Z1r) (Z3 Z1r) .none kV37 dc37 pm37 an37 cd37 ct37),sl37⟩)
  (c37:PySem.W.codeIn K cd37 "turning_row"=true) (k37:PySem.W.keepIn K (.ref f37)=true)
  (a38:PySem.W.nsIn K mainGlobals "turning"=some (some (.ref f38)))
  (l38:K.lookup f38=some ⟨oc38,od38, .func (PySem.W.fnOf "turning" "turning" (Za Z1s) (Z9 Z1s) (Z3 Z1s) .none kV38 dc38 pm38 an38 cd38 ct38),sl38⟩)
  (c38:PySem.W.codeIn K cd38 "turning"=true) (k38:PySem.W.keepIn K (.ref f38)=true)
  (a39:PySem.W.nsIn K mainGlobals "row_put_in"=some (some (.ref f39)))
  (l39:K.lookup f39=some ⟨oc39,od39, .func (PySem.W.fnOf "row_put_in" "row_put_in" (Za Z1t) (Z9 Z1t) (Z3 Z1t) .none kV39 dc39 pm39 an39 cd39 ct39),sl39⟩)
  (c39:PySem.W.codeIn K cd39 "row_put_in"=true) (k39:PySem.W.keepIn K (.ref f39)=true)
  (a40:PySem.W.nsIn K mainGlobals "put_in"=some (some (.ref f40)))
  (l40:K.lookup f40=some ⟨oc40,od40, .func (PySem.W.fnOf "put_in" "put_in" (Za Z1u) (Z9 Z1u) (Z3 Z1u) .none kV40 dc40 pm40 an40 cd40 ct40),sl40⟩)
  (c40:PySem.W.codeIn K cd40 "put_in"=true) (k40:PySem.W.keepIn K (.ref f40)=true)
  (a41:PySem.W.nsIn K mainGlobals "_law_gcd"=some (some (.ref f41)))
  (l41:K.lookup f41=some ⟨oc41,od41, .func (PySem.W.fnOf "_law_gcd" "_law_gcd" (Za Z1v) (Z9 Z1v) (Z3 Z1v) .none kV41 dc41 pm41 an41 cd41 ct41),sl41⟩)
  (c41:PySem.W.codeIn K cd41 "_law_gcd"=true) (k41:PySem.W.keepIn K (.ref f41)=true)
  (a42:PySem.W.nsIn K mainGlobals "is_cut"=some (some (.ref f42)))
  (l42:K.lookup f42=some ⟨oc42,od42, .func (PySem.W.fnOf "is_cut" "is_cut" (Za Z1w) (Z9 Z1w) (Z3 Z1w) .none kV42 dc42 pm42 an42 cd42 ct42),sl42⟩)
  (c42:PySem.W.codeIn K cd42 "is_cut"=true) (k42:PySem.W.keepIn K (.ref f42)=true)
  (a43:PySem.W.nsIn K mainGlobals "all_ways_to_mark"=some (some (.ref f43)))
  (l43:K.lookup f43=some ⟨oc43,od43, .func (PySem.W.fnOf "all_ways_to_mark" "all_ways_to_mark" (Za Z1x) (Z9 Z1x) (Z3 Z1x) .none kV43 dc43 pm43 an43 cd43 ct43),sl43⟩)
  (c43:PySem.W.codeIn K cd43 "all_ways_to_mark"=true) (k43:PySem.W.keepIn K (.ref f43)=true)
  (a44:PySem.W.nsIn K mainGlobals "marks_led_to"=some (some (.ref f44)))
  (l44:K.lookup f44=some ⟨oc44,od44, .func (PySem.W.fnOf "marks_led_to" "marks_led_to" (Za Z1y) (Z9 Z1y) (Z3 Z1y) .none kV44 dc44 pm44 an44 cd44 ct44),sl44⟩)
  (c44:PySem.W.codeIn K cd44 "marks_led_to"=true) (k44:PySem.W.keepIn K (.ref f44)=true)
  (a45:PySem.W.nsIn K mainGlobals "is_even_row"=some (some (.ref f45)))
  (l45:K.lookup f45=some ⟨oc45,od45, .func (PySem.W.fnOf "is_even_row" "is_even_row" (Za Z1z) (Z9 Z1z) (Z3 Z1z) .none kV45 dc45 pm45 an45 cd45 ct45),sl45⟩)
  (c45:PySem.W.codeIn K cd45 "is_even_row"=true) (k45:PySem.W.keepIn K (.ref f45)=true)
  (a46:PySem.W.nsIn K mainGlobals "are_even"=some (some (.ref f46)))
  (l46:K.lookup f46=some ⟨oc46,od46, .func (PySem.W.fnOf "are_even" "are_even" (Za Z20) (Z9 Z20) (Z3 Z20) .none kV46 dc46 pm46 an46 cd46 ct46),sl46⟩)
  (c46:PySem.W.codeIn K cd46 "are_even"=true) (k46:PySem.W.keepIn K (.ref f46)=true)
  (a47:PySem.W.nsIn K mainGlobals "all_marks"=some (some (.ref f47)))
  (l47:K.lookup f47=some ⟨oc47,od47, .func (PySem.W.fnOf "all_marks" "all_marks" (Za Z21) (Z9 Z21) (Z3 Z21) .none kV47 dc47 pm47 an47 cd47 ct47),sl47⟩)
  (c47:PySem.W.codeIn K cd47 "all_marks"=true) (k47:PySem.W.keepIn K (.ref f47)=true)
  (a48:PySem.W.nsIn K mainGlobals "are_odd_in_all"=some (some (.ref f48)))
  (l48:K.lookup f48=some ⟨oc48,od48, .func (PySem.W.fnOf "are_odd_in_all" "are_odd_in_all" (Za Z22) (Z9 Z22) (Z3 Z22) .none kV48 dc48 pm48 an48 cd48 ct48),sl48⟩)
  (c48:PySem.W.codeIn K cd48 "are_odd_in_all"=true) (k48:PySem.W.keepIn K (.ref f48)=true)
  (a49:PySem.W.nsIn K mainGlobals "bar"=some (some (.ref f49)))
  (l49:K.lookup f49=some ⟨oc49,od49, .func (PySem.W.fnOf "bar" "bar" (Za Z23) (Z9 Z23) (Z3 Z23) .none kV49 dc49 pm49 an49 cd49 ct49),sl49⟩)
  (c49:PySem.W.codeIn K cd49 "bar"=true) (k49:PySem.W.keepIn K (.ref f49)=true)
  (a50:PySem.W.nsIn K mainGlobals "law"=some (some (.ref f50)))
  (l50:K.lookup f50=some ⟨oc50,od50, .func (PySem.W.fnOf "law" "law" (Za Ui) (Z9 Ui) (Z3 Ui) .none kV50 dc50 pm50 an50 cd50 ct50),sl50⟩)
  (c50:PySem.W.codeIn K cd50 "law"=true) (k50:PySem.W.keepIn K (.ref f50)=true)
  (z0:PySem.W.nsIn K mainGlobals "abs"=some none)
  (z1:PySem.W.nsIn K mainGlobals "all"=some none)
  (z2:PySem.W.nsIn K mainGlobals "any"=some none)
  (z3:PySem.W.nsIn K mainGlobals "bool"=some none)
  (z4:PySem.W.nsIn K mainGlobals "enumerate"=some none)
  (z5:PySem.W.nsIn K mainGlobals "int"=some none)
  (z6:PySem.W.nsIn K mainGlobals "isinstance"=some none)
  (z7:PySem.W.nsIn K mainGlobals "len"=some none)
  (z8:PySem.W.nsIn K mainGlobals "list"=some none)
  (z9:PySem.W.nsIn K mainGlobals "max"=some none)
  (z10:PySem.W.nsIn K mainGlobals "range"=some none)
  (z11:PySem.W.nsIn K mainGlobals "set"=some none)
  (z12:PySem.W.nsIn K mainGlobals "sorted"=some none)
  (z13:PySem.W.nsIn K mainGlobals "sum"=some none)
  (z14:PySem.W.nsIn K mainGlobals "tuple"=some none)
  (z15:PySem.W.nsIn K mainGlobals "zip"=some none)
  {t0:Tok} (y0:PySem.W.nsIn K mainGlobals "LARGEST_FOR_ALL_CUTS"=some (some (.int 7 t0)))
  {t1:Tok} (y1:PySem.W.nsIn K mainGlobals "LARGEST_FOR_PARTING"=some (some (.int 7 t1)))
  {t2:Tok} (y2:PySem.W.nsIn K mainGlobals "LARGEST_SIZE"=some (some (.int 9 t2)))
  (q0:clsB K [0,1,2,5,6,7]=true):
  ∃fd:FuncData,(∀(s:Shared) (v:Value),BindsTo s fd ⟨[v],[]⟩ [("_law_script",v)])/\∀base:Heap,K.In base->base.Ns mainGlobals mg->FnOk l.prog w K mg base (CXR l.prog w) 14 fa fd ["_law_script"] (Jx K):=by
 have e:=hfa.symm.trans (PySem.W.mg_of X G a50)
 cases e
 have T:Txt K mg:=⟨Zc8 X G q0,PySem.W.mg_none_of X G z0,PySem.W.mg_none_of X G z1,PySem.W.mg_none_of X G z2,PySem.W.mg_none_of X G z3,PySem.W.mg_none_of X G z4,PySem.W.mg_none_of X G z5,PySem.W.mg_none_of X G z6,PySem.W.mg_none_of X G z7,PySem.W.mg_none_of X G z8,PySem.W.mg_none_of X G z9,PySem.W.mg_none_of X G z10,PySem.W.mg_none_of X G z11,PySem.W.mg_none_of X G z12,PySem.W.mg_none_of X G z13,PySem.W.mg_none_of X G z14,PySem.W.mg_none_of X G z15,⟨_,PySem.W.mg_of X G y0⟩,⟨_,PySem.W.mg_of X G y1⟩,⟨_,PySem.W.mg_of X G y2⟩⟩
 refine⟨PySem.W.fnOf "law" "law" (Za Ui) (Z9 Ui) (Z3 Ui) .none kV50 dc50 pm50 an50 cd50 ct50,fun s v=>.of_eq rfl,fun base _ _=> ?_⟩
 have x_0:=k_0 (P:=l.prog) (w:=w) (mg:=mg) (base:=base) T (Zj (st:=s_0) l0 c0 k0) (PySem.W.mg_of X G a0)
 have x_1:=k_1 (P:=l.prog) (w:=w) (mg:=mg) (base:=base) T (Zj (st:=s_1) l1 c1 k1) (PySem.W.mg_of X G a1)
 have x_2:=k_2 (P:=l.prog) (w:=w) (mg:=mg) (base:=base) T (Zj (st:=s_2) l2 c2 k2) (PySem.W.mg_of X G a2)
 have x_3:=k_3 (P:=l.prog) (w:=w) (mg:=mg) (base:=base) T (Zj (st:=s_3) l3 c3 k3) (PySem.W.mg_of X G a3)
 have x_4:=k_4 (P:=l.prog) (w:=w) (mg:=mg) (base:=base) T (Zj (st:=s_4) l4 c4 k4) (PySem.W.mg_of X G a4)
 have x_5:=k_5 (P:=l.prog) (w:=w) (mg:=mg) (base:=base) T x_3 (Zj (st:=s_5) l5 c5 k5) (PySem.W.mg_of X G a5)
 have x_6:=k_6 (P:=l.prog) (w:=w) (mg:=mg) (base:=base) T (Zj (st:=s_6) l6 c6 k6) (PySem.W.mg_of X G a6)
 have x_7:=k_7 (P:=l.prog) (w:=w) (mg:=mg) (base:=base) T x_0 x_1 x_2 x_3 x_4 x_5 x_6 (Zj (st:=s_7) l7 c7 k7) (PySem.W.mg_of X G a7)
 have x_8:=k_8 (P:=l.prog) (w:=w) (mg:=mg) (base:=base) T (Zj (st:=s_8) l8 c8 k8) (PySem.W.mg_of X G a8)
 have x_9:=k_9 (P:=l.prog) (w:=w) (mg:=mg) (base:=base) T x_8 (Zj (st:=s_9) l9 c9 k9) (PySem.W.mg_of X G a9)
 have x_10:=k_10 (P:=l.prog) (w:=w) (mg:=mg) (base:=base) T x_9 (Zj (st:=Z10) l10 c10 k10) (PySem.W.mg_of X G a10)
 have x_11:=k_11 (P:=l.prog) (w:=w) (mg:=mg) (base:=base) T (Zj (st:=Z11) l11 c11 k11) (PySem.W.mg_of X G a11)
 have x_12:=k_12 (P:=l.prog) (w:=w) (mg:=mg) (base:=base) T x_11 (Zj (st:=Z12) l12 c12 k12) (PySem.W.mg_of X G a12)
 have x_13:=k_13 (P:=l.prog) (w:=w) (mg:=mg) (base:=base) T x_10 x_12 (Zj (st:=Z13) l13 c13 k13) (PySem.W.mg_of X G a13)
 have x_14:=k_14 (P:=l.prog) (w:=w) (mg:=mg) (base:=base) T x_13 (Zj (st:=Z14) l14 c14 k14) (PySem.W.mg_of X G a14)
 have x_15:=k_15 (P:=l.prog) (w:=w) (mg:=mg) (base:=base) T x_14 (Zj (st:=Z15) l15 c15 k15) (PySem.W.mg_of X G a15)
 have x_16:=k_16 (P:=l.prog) (w:=w) (mg:=mg) (base:=base) T (Zj (st:=Z16) l16 c16 k16) (PySem.W.mg_of X G a16)
 have x_17:=k_17 (P:=l.prog) (w:=w) (mg:=mg) (base:=base) T x_16 (Zj (st:=Z17) l17 c17 k17) (PySem.W.mg_of X G a17) 9
 have x_18:=k_18 (P:=l.prog) (w:=w) (mg:=mg) (base:=base) T (Zj (st:=Z18) l18 c18 k18) (PySem.W.mg_of X G a18)
 have x_19:=k_19 (P:=l.prog) (w:=w) (mg:=mg) (base:=base) T x_18 (Zj (st:=Z19) l19 c19 k19) (PySem.W.mg_of X G a19) 9
 have x_20:=k_20 (P:=l.prog) (w:=w) (mg:=mg) (base:=base) T x_15 x_19 (Zj (st:=Z1a) l20 c20 k20) (PySem.W.mg_of X G a20)
 have x_21:=k_21 (P:=l.prog) (w:=w) (mg:=mg) (base:=base) T x_15 x_17 x_20 (Zj (st:=Z1b) l21 c21 k21) (PySem.W.mg_of X G a21)
 have x_22:=k_22 (P:=l.prog) (w:=w) (mg:=mg) (base:=base) T x_11 (Zj (st:=Z1c) l22 c22 k22) (PySem.W.mg_of X G a22)
 have x_23:=k_23 (P:=l.prog) (w:=w) (mg:=mg) (base:=base) T x_21 x_22 (Zj (st:=Z1d) l23 c23 k23) (PySem.W.mg_of X G a23)
 have x_24:=k_24 (P:=l.prog) (w:=w) (mg:=mg) (base:=base) T x_10 (Zj (st:=Z1e) l24 c24 k24) (PySem.W.mg_of X G a24)
 have x_25:=k_25 (P:=l.prog) (w:=w) (mg:=mg) (base:=base) T (Zj (st:=Z1f) l25 c25 k25) (PySem.W.mg_of X G a25)
 have x_26:=k_26 (P:=l.prog) (w:=w) (mg:=mg) (base:=base) T x_14 x_24 x_25 (Zj (st:=Z1g) l26 c26 k26) (PySem.W.mg_of X G a26)
 have x_27:=k_27 (P:=l.prog) (w:=w) (mg:=mg) (base:=base) T x_14 (Zj (st:=Z1h) l27 c27 k27) (PySem.W.mg_of X G a27)
 have x_28:=k_28 (P:=l.prog) (w:=w) (mg:=mg) (base:=base) T (Zj (st:=Z1i) l28 c28 k28) (PySem.W.mg_of X G a28)
 have x_29:=k_29 (P:=l.prog) (w:=w) (mg:=mg) (base:=base) T x_27 x_28 (Zj (st:=Z1j) l29 c29 k29) (PySem.W.mg_of X G a29)
 have x_30:=k_30 (P:=l.prog) (w:=w) (mg:=mg) (base:=base) T x_29 (Zj (st:=Z1k) l30 c30 k30) (PySem.W.mg_of X G a30)
 have x_31:=k_31 (P:=l.prog) (w:=w) (mg:=mg) (base:=base) T x_8 (Zj (st:=Z1l) l31 c31 k31) (PySem.W.mg_of X G a31)
 have x_32:=k_32 (P:=l.prog) (w:=w) (mg:=mg) (base:=base) T x_14 x_31 (Zj (st:=Z1m) l32 c32 k32) (PySem.W.mg_of X G a32)
 have x_33:=k_33 (P:=l.prog) (w:=w) (mg:=mg) (base:=base) T x_30 x_32 (Zj (st:=Z1n) l33 c33 k33) (PySem.W.mg_of X G a33)
 have x_34:=k_34 (P:=l.prog) (w:=w) (mg:=mg) (base:=base) T x_8 (Zj (st:=Z1o) l34 c34 k34) (PySem.W.mg_of X G a34)
 have x_35:=k_35 (P:=l.prog) (w:=w) (mg:=mg) (base:=base) T (Zj (st:=Z1p) l35 c35 k35) (PySem.W.mg_of X G a35)
 have x_36:=k_36 (P:=l.prog) (w:=w) (mg:=mg) (base:=base) T x_8 x_35 (Zj (st:=Z1q) l36 c36 k36) (PySem.W.mg_of X G a36)
 have x_37:=k_37 (P:=l.prog) (w:=w) (mg:=mg) (base:=base) T (Zj (st:=Z1r) l37 c37 k37) (PySem.W.mg_of X G a37)
 have x_38:=k_38 (P:=l.prog) (w:=w) (mg:=mg) (base:=base) T x_34 x_36 x_37 (Zj (st:=Z1s) l38 c38 k38) (PySem.W.mg_of X G a38)
 have x_39:=k_39 (P:=l.prog) (w:=w) (mg:=mg) (base:=base) T (Zj (st:=Z1t) l39 c39 k39) (PySem.W.mg_of X G a39)
 have x_40:=k_40 (P:=l.prog) (w:=w) (mg:=mg) (base:=base) T x_14 x_39 (Zj (st:=Z1u) l40 c40 k40) (PySem.W.mg_of X G a40)
 have x_41:=k_41 (P:=l.prog) (w:=w) (mg:=mg) (base:=base) T (Zj (st:=Z1v) l41 c41 k41) (PySem.W.mg_of X G a41)
 have x_42:=k_42 (P:=l.prog) (w:=w) (mg:=mg) (base:=base) T x_10 x_14 x_18 (Zj (st:=Z1w) l42 c42 k42) (PySem.W.mg_of X G a42)
 have x_43:=k_43 (P:=l.prog) (w:=w) (mg:=mg) (base:=base) T (Zj (st:=Z1x) l43 c43 k43) (PySem.W.mg_of X G a43) 10
 have x_44:=k_44 (P:=l.prog) (w:=w) (mg:=mg) (base:=base) T x_11 (Zj (st:=Z1y) l44 c44 k44) (PySem.W.mg_of X G a44)
 have x_45:=k_45 (P:=l.prog) (w:=w) (mg:=mg) (base:=base) T (Zj (st:=Z1z) l45 c45 k45) (PySem.W.mg_of X G a45)
 have x_46:=k_46 (P:=l.prog) (w:=w) (mg:=mg) (base:=base) T x_45 (Zj (st:=Z20) l46 c46 k46) (PySem.W.mg_of X G a46)
 have x_47:=k_47 (P:=l.prog) (w:=w) (mg:=mg) (base:=base) T x_14 x_43 x_44 x_46 (Zj (st:=Z21) l47 c47 k47) (PySem.W.mg_of X G a47)
 have x_48:=k_48 (P:=l.prog) (w:=w) (mg:=mg) (base:=base) T (Zj (st:=Z22) l48 c48 k48) (PySem.W.mg_of X G a48)
 have x_49:=k_49 (P:=l.prog) (w:=w) (mg:=mg) (base:=base) T x_47 x_48 (Zj (st:=Z23) l49 c49 k49) (PySem.W.mg_of X G a49)
 have hb:= @b_50 l.prog w K mg base fa T x_0 x_5 x_7 x_20 x_23 x_26 x_30 x_33 x_38 x_40 x_41 x_42 x_49
 refine Z8h (F:=Zct) ?_ Zao
 unfold Zct
 refine Zk (Zj (st:=Ui) l50 c50 k50) Zfu rfl rfl ?_
 assumption
theorem walk{l:PySem.W.OpenLaw}{q:Program}{loose:List Str}{XP:(Str->Option Value)->Heap->Prop}{YP:World->Heap->Prop}{d:DefRec}{K:Params->PySem.W.Frag}(hn:l.most=some 63)(hdf:d.params.defaults=[])(hY:∀(w:World) (h:Heap),YP w h->(K w.params).In h)
  (F:∀(w:World) (mg:Str->Option Value) (fa:Addr) (h:Heap),(K w.params).In h->h.Ns mainGlobals mg->mg d.name=some (.ref fa)->∃fd:FuncData,(∀(s:Shared) (u:Value),BindsTo s fd ⟨[u],[]⟩ [("_law_script",u)])/\
   ∀base:Heap,(K w.params).In base->base.Ns mainGlobals mg->FnOk l.prog w (K w.params) mg base (CXR l.prog w) 14 fa fd ["_law_script"] (Jx (K w.params))):PySem.W.WalkO q loose XP YP l.row.toRowW d [] (fun f vs=>PySem.call f vs):=
 L2.Z8y (n:=63) (k:=14) (x:="_law_script") (CX:=fun w=>CXR l.prog w) (sp:=fun w=>Jx (K w.params)) hn (by decide) hdf ⟨rfl,by decide,by decide⟩ hY F (fun _ _ a ns hl _ hS=>⟨a,ns,rfl,hS,hl,fun _=>rfl⟩) fun _ _ _ _ _ ⟨_,_,_,_,_,z,_⟩=>z
end L3
noncomputable def PySem.W.Fast.tw17687013355854440906:Unit:=()
noncomputable def PySem.W.Fast.tw13811537703557379617:Unit:=()
noncomputable def PySem.W.Fast.tw9192472437541199310:Unit:=()
noncomputable def PySem.W.Fast.tw14727741542945163675:Unit:=()
noncomputable def PySem.W.Fast.tw15347404048150225740:Unit:=()
noncomputable def PySem.W.Fast.tw16197882681511927105:Unit:=()
noncomputable def PySem.W.Fast.tw601318781069300414:Unit:=()
noncomputable def PySem.W.Fast.tw17090016690421356407:Unit:=()
noncomputable def PySem.W.Fast.tw6857371550217889930:Unit:=()
noncomputable def PySem.W.Fast.tw3956962897635854342:Unit:=()
noncomputable def PySem.W.Fast.tw13809258342363192108:Unit:=()
noncomputable def PySem.W.Fast.tw9564129505993209655:Unit:=()
noncomputable def PySem.W.Fast.tw15379950621233530102:Unit:=()
noncomputable def PySem.W.Fast.tw4629976612665562179:Unit:=()
noncomputable def PySem.W.Fast.tw1041524356176548464:Unit:=()
noncomputable def PySem.W.Fast.tw190361969232614619:Unit:=()
noncomputable def PySem.W.Fast.tw14680519267371529738:Unit:=()
noncomputable def PySem.W.Fast.tw14020708344493550079:Unit:=()
noncomputable def PySem.W.Fast.tw14688725119752698494:Unit:=()
noncomputable def PySem.W.Fast.tw12052829497317812189:Unit:=()
noncomputable def PySem.W.Fast.tw7113810617807167038:Unit:=()
noncomputable def PySem.W.Fast.tw1549041615833919321:Unit:=()
noncomputable def PySem.W.Fast.tw16204805571235346718:Unit:=()
noncomputable def PySem.W.Fast.tw8844947193256604069:Unit:=()
noncomputable def PySem.W.Fast.tw16517976720054497484:Unit:=()
noncomputable def PySem.W.Fast.tw18444190183839388453:Unit:=()
noncomputable def PySem.W.Fast.tw6585607184655320531:Unit:=()
noncomputable def PySem.W.Fast.tw4479388312535895257:Unit:=()
open PySem PySem.W PyProof.Rows
set_option maxRecDepth 100000 in
set_option maxHeartbeats 0 in
theorem PySem.Challenge.cw_matesquare_k13_whole_made_mates_holds : PySem.Challenge.rw_matesquare_k13_whole_made_mates.Holds := by
  w_on; o_law; k_head; (case hw => w_witness2)
  k_fill
  refine L3.walk (l := PySem.Challenge.rw_matesquare_k13_whole_made_mates) rfl rfl (fun w h Y => by first | exact PySem.W.kIn_of Y | exact PySem.W.km_in_of Y) ?F
  case F =>
    intro w mg fa h KX G hmg
    refine' L3.all_mk KX G hmg ?_ ?_ ?_ ?_ ?_ ?_ ?_ ?_ ?_ ?_ ?_ ?_ ?_ ?_ ?_ ?_ ?_ ?_ ?_ ?_ ?_ ?_ ?_ ?_ ?_ ?_ ?_ ?_ ?_ ?_ ?_ ?_ ?_ ?_ ?_ ?_ ?_ ?_ ?_ ?_ ?_ ?_ ?_ ?_ ?_ ?_ ?_ ?_ ?_ ?_ ?_ ?_ ?_ ?_ ?_ ?_ ?_ ?_ ?_ ?_ ?_ ?_ ?_ ?_ ?_ ?_ ?_ ?_ ?_ ?_ ?_ ?_ ?_ ?_ ?_ ?_ ?_ ?_ ?_ ?_ ?_ ?_ ?_ ?_ ?_ ?_ ?_ ?_ ?_ ?_ ?_ ?_ ?_ ?_ ?_ ?_ ?_ ?_ ?_ ?_ ?_ ?_ ?_ ?_ ?_ ?_ ?_ ?_ ?_ ?_ ?_ ?_ ?_ ?_ ?_ ?_ ?_ ?_ ?_ ?_ ?_ ?_ ?_ ?_ ?_ ?_ ?_ ?_ ?_ ?_ ?_ ?_ ?_ ?_ ?_ ?_ ?_ ?_ ?_ ?_ ?_ ?_ ?_ ?_ ?_ ?_ ?_ ?_ ?_ ?_ ?_ ?_ ?_ ?_ ?_ ?_ ?_ ?_ ?_ ?_ ?_ ?_ ?_ ?_ ?_ ?_ ?_ ?_ ?_ ?_ ?_ ?_ ?_ ?_ ?_ ?_ ?_ ?_ ?_ ?_ ?_ ?_ ?_ ?_ ?_ ?_ ?_ ?_ ?_ ?_ ?_ ?_ ?_ ?_ ?_ ?_ ?_ ?_ ?_ ?_ ?_ ?_ ?_ ?_ ?_ ?_ ?_ ?_ ?_ ?_ ?_ ?_ ?_ ?_ ?_ ?_ ?_ ?_ ?_ ?_ ?_ ?_ ?_ ?_
    all_goals try first | k_is | kernel_rfl

