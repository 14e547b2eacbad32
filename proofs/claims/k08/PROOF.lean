import PyProof.Rows.All
import Wide.All
import OpenK.AllK
import Wide.FinOn
import Lean
import PyProof.EqAt
import PyProof.EqKinds
import PyProof.TupleCall
import PyProof.StationsW
import OpenK.KRaise
import KE.KTryMore
import PyProof.ExcClass3
import PyProof.RulesAs
import PyProof.PassesOwn
import PyProof.P3In
import PyProof.NeData
import KE.LcSums
import PyProof.IsiSeqPairs
import PyProof.IsiNone
import PyProof.ListRange
import PyProof.CompFree
import KE.KSortTup
import PyProof.TupleOfSeq
import PyProof.Rows.SetFrom
import PyProof.Rows.SeqMore2
import PyProof.Rows.EnumRows
import PyProof.ExcArgsOwn
import PyProof.ExcAttrAll.ValueError
import PyProof.ExcBaseAll.ValueError
import KE.KIsAll
import PyProof.NsDelKeeps
import PyProof.ZipIter
import PyProof.Draws
import PyProof.TupleIter
import PyProof.Rows.FactsT2
import PyProof.Rows.FStr
import PyProof.StrCalls2
import PyProof.StrWalks
import PyProof.SumWalkG
import PyProof.Rows.SumGenD
import PyProof.WalksMore
import KE.KDictSum
import KE.KDictLaws
import KE.KSortKey
import KE.KLam
import PySem.Challenge.RW_matesquare_k08_whole_blocks
set_option compiler.extract_closed false
set_option Elab.async false
set_option linter.all false
set_option maxRecDepth 100000
namespace L2
open PySem PySem.Spec PyProof.Rows
noncomputable abbrev Key:=Sum Int Str
noncomputable def keyIs:Key→Value→Bool
 | .inl k,v=>Value.isInt k v
 | .inr x,v=>Value.isStrOf x v
noncomputable def keyH(w:World):Key→Int
 | .inl k=>hashInt k
 | .inr x=>hashStr w x
theorem keyIs_shape:∀{k:Key} {v:Value},keyIs k v=true→(∃i t,k=Sum.inl i∧v=Value.int i t)∨(∃x t,k=Sum.inr x∧v=Value.str x t)
 | .inl i,v,h=>by
  obtain⟨t,e⟩:=Value.isInt_shape (k:=i) (v:=v) h
  exact .inl ⟨i,t,rfl,e⟩
 | .inr x,v,h=>by
  obtain⟨t,e⟩:=Value.isStrOf_shape (x:=x) (v:=v) h
  exact .inr ⟨x,t,rfl,e⟩
theorem keyIs_int(i:Int)(t:Tok):keyIs (.inl i) (.int i t)=true:=by simp[keyIs,Value.isInt]
theorem keyIs_str(x:Str)(t:Tok):keyIs (.inr x) (.str x t)=true:=by simp[keyIs,Value.isStrOf]
theorem key_ll(a b:Int):decide ((Sum.inl a:Key)=Sum.inl b)=(a == b):=by
 by_cases e:a=b
 ·subst e;simp
 ·have h:¬(Sum.inl a:Key)=Sum.inl b:=fun q=>e (Sum.inl.inj q)
  rw[decide_eq_false h]
  exact(beq_eq_false_iff_ne.mpr e).symm
theorem key_rr(a b:Str):decide ((Sum.inr a:Key)=Sum.inr b)=decide (a=b):=by
 by_cases e:a=b
 ·subst e;simp
 ·have h:¬(Sum.inr a:Key)=Sum.inr b:=fun q=>e (Sum.inr.inj q)
  rw[decide_eq_false h,decide_eq_false e]
theorem key_lr(a:Int)(b:Str):decide ((Sum.inl a:Key)=Sum.inr b)=false:=decide_eq_false (fun q=>nomatch q)
theorem key_rl(a:Str)(b:Int):decide ((Sum.inr a:Key)=Sum.inl b)=false:=decide_eq_false (fun q=>nomatch q)
noncomputable def mixKind(prog:Program)(w:World):PySem.KeyKind prog w Key where
 is:=keyIs
 hash:=keyH w
 inj:=fun v a b ha hb=>by
  rcases keyIs_shape ha with⟨i,t,rfl,rfl⟩|⟨x,t,rfl,rfl⟩
  ·rcases keyIs_shape hb with⟨j,u,rfl,e⟩|⟨y,u,rfl,e⟩
   ·injection e with e1 _;rw[e1]
   ·exact nomatch e
  ·rcases keyIs_shape hb with⟨j,u,rfl,e⟩|⟨y,u,rfl,e⟩
   ·exact nomatch e
   ·injection e with e1 _;rw[e1]
 byValue:=fun k v h=>by
  rcases keyIs_shape h with⟨i,t,rfl,rfl⟩|⟨x,t,rfl,rfl⟩<;>rfl
 pyHash:=fun hv h=>by
  rcases keyIs_shape hv with⟨i,t,rfl,rfl⟩|⟨x,t,rfl,rfl⟩
  ·exact wpAny_pyHash_int h
  ·exact wpAny_pyHash_str h
 eqBool:=fun hu hv h=>by
  rcases keyIs_shape hu with⟨i,t,rfl,rfl⟩|⟨x,t,rfl,rfl⟩
  ·rcases keyIs_shape hv with⟨j,u,rfl,rfl⟩|⟨y,u,rfl,rfl⟩
   ·rw[key_ll]at h;exact wpAny_eqBool_int h
   ·rw[key_lr]at h;exact SeqAt.EqAt.int_str i t y u _ _ _ _ h
  ·rcases keyIs_shape hv with⟨j,u,rfl,rfl⟩|⟨y,u,rfl,rfl⟩
   ·rw[key_rl]at h;exact SeqAt.EqAt.str_int x t j u _ _ _ _ h
   ·rw[key_rr]at h;exact wpAny_eqBool_str h
 «strs» :=fun k x t v h=>by
  rcases keyIs_shape h with⟨i,u,rfl,e⟩|⟨y,u,rfl,e⟩
  ·exact nomatch e
  ·injection e with e1 _
   subst e1
   cases v<;>rfl
theorem mixKind_int(prog:Program)(w:World)(i:Int)(t:Tok):(mixKind prog w).is (.inl i) (.int i t)=true:=keyIs_int i t
theorem mixKind_str(prog:Program)(w:World)(x:Str)(t:Tok):(mixKind prog w).is (.inr x) (.str x t)=true:=keyIs_str x t
end L2
namespace L2
open PySem PySem.Spec PyProof.Rows
inductive V where
 |non|bl (b:Bool)|int (i:Int)|str (x:Str)|byt (b:Array UInt8)|flt (b:UInt64)|ref (a:Addr)|ty (n:String)
 deriving DecidableEq
noncomputable def RelV:V→Value→Prop
 | .non,u=>u=Value.none
 | .bl b,u=>u=Value.bool b
 | .int i,u=>∃t,u=Value.int i t
 | .str x,u=>∃t,u=Value.str x t
 | .byt b,u=>∃t,u=Value.bytes b t
 | .flt b,u=>∃t,u=Value.float b t
 | .ref a,u=>u=Value.ref a
 | .ty n,u=>u=Value.type n
noncomputable abbrev Vals:List V→List Value→Prop:=Paired RelV
theorem Vals.length{xs:List V}{us:List Value}(r:Vals xs us):xs.length=us.length:=Paired.length r
theorem Vals.get:∀{xs:List V} {us:List Value} {i:Nat} {x:V},Vals xs us→xs[i]? =some x→∃u,us[i]? =some u∧RelV x u
 |_,_,_,_, .nil,e=>by simp at e
 |_,_,0,_, .cons r _,e=>by simp at e;subst e;exact⟨_,rfl,r⟩
 |_,_,i+1,x, .cons _ t,e=>by
  obtain⟨u,h1,h2⟩:=Vals.get (i:=i) (x:=x) t (by simpa using e)
  exact⟨u,by simpa using h1,h2⟩
theorem Vals.set{x:V}{u:Value}(r:RelV x u):∀{xs:List V} {us:List Value} (i:Nat),Vals xs us→Vals (xs.set i x) (us.set i u)
 |_,_,_, .nil=>.nil
 |_,_,0, .cons _ t=>.cons r t
 |_,_,i+1, .cons q t=>.cons q (Vals.set r i t)
theorem Vals.append:∀{xs ys:List V} {us ws:List Value},Vals xs us→Vals ys ws→Vals (xs++ys) (us++ws)
 |_,_,_,_, .nil,s=>s
 |_,_,_,_, .cons r t,s=>.cons r (Vals.append t s)
theorem Vals.take:∀{xs:List V} {us:List Value} (n:Nat),Vals xs us→Vals (xs.take n) (us.take n)
 |_,_,0,_=>.nil
 |_,_,_+1, .nil=>.nil
 |_,_,n+1, .cons r t=>.cons r (Vals.take n t)
theorem Vals.drop:∀{xs:List V} {us:List Value} (n:Nat),Vals xs us→Vals (xs.drop n) (us.drop n)
 |_,_,0,r=>r
 |_,_,_+1, .nil=>.nil
 |_,_,n+1, .cons _ t=>Vals.drop n t
noncomputable def RelO:Option V→Option Value→Prop
 |some v,some u=>RelV v u
 |none,none=>True
 |_,_=>False
noncomputable def KV{κ:Type}:List (κ×V)→List (κ×Value)→Prop:=Paired fun(p:κ×V) (q:κ×Value)=>p.1=q.1∧RelV p.2 q.2
noncomputable def kV:Key→V
 | .inl i=>.int i
 | .inr x=>.str x
noncomputable def lamQ:Str:="unlike_letters.<locals>.<lambda>"
inductive HO where
 |lst (xs:List V)
 |tup (xs:List V)
 |dK (kvs:List (Key×V))|dT (kvs:List (List Key×V))
 |set (S:Int→Bool) (n:Nat)
 |ins (C dx:Addr) (fs:List (Str×V))
 |own (x:Addr)
 |xd (fs:List (Str×V))
 |met (f x:Addr)
 |rng (lo hi:Int)
 |frz (o:Obj) (u:HO)
 |tbl
 |ext (φ:Heap→Prop)
noncomputable abbrev Hp:=Addr→Option HO
noncomputable def upd(H:Hp)(a:Addr)(o:HO):Hp:=fun b=>if b=a then some o else H b
theorem upd_same{H:Hp}{a:Addr}{o:HO}:upd H a o a=some o:=by unfold upd;rw[if_pos rfl]
theorem upd_ne{H:Hp}{a b:Addr}{o:HO}(h:b≠a):upd H a o b=H b:=by unfold upd;rw[if_neg h]
theorem ne_of{H:Hp}{a b:Addr}{o u:HO}(h:H a=some o)(h':H b=some u)(d:o≠u):a≠b:=by
 intro e;subst e;rw[h]at h';exact d (Option.some.inj h')
theorem ne_of_none{H:Hp}{a b:Addr}{o:HO}(h:H a=some o)(h':H b=none):a≠b:=by
 intro e;subst e;rw[h]at h';cases h'
noncomputable def TupN(h:Heap)(a:Addr)(its:Array Value):Prop:=IsTup h a its∧∀o,h.get? a=some o→o.dict=none
theorem TupN.new(h:Heap)(its:Array Value):TupN (h.push {cls:=.type "tuple",data:=.seq its}) h.objs.size its:=⟨IsTup.new h its,fun o e=>by rw[Heap.get?_push_size _ rfl]at e;cases e;rfl⟩
section
variable(P:Program)(w:World)
noncomputable def ObjOk(H:Hp)(h:Heap)(a:Addr):HO→Prop
 | .lst xs=>xs.length≤sizeLine∧∃(its:List Value) (n:Nat),Vals xs its∧h.get? a=some {cls:=.type "list",data:=.seq its.toArray n}
 | .tup xs=>xs.length≤sizeLine∧∃its:List Value,Vals xs its∧TupN h a its.toArray
 | .dK kvs=>kvs.length≤sizeLine∧(a == sysModules)=false∧∃vs,KV kvs vs∧h.DictOf (mixKind P w) a vs
 | .dT kvs=>kvs.length≤sizeLine∧(a == sysModules)=false∧∃xs:List (List Key×Addr×Value),
   Paired (fun(p:List Key×V) (q:List Key×Addr×Value)=>p.1=q.1∧H q.2.1=some (.tup (p.1.map kV))∧RelV p.2 q.2.2) kvs xs∧
   ∃o es ep,h.get? a=some o∧o.ExactDict∧o.data=.dict es ep∧es.toList=xs.map (entryOfKey (tupleKind (mixKind P w)))∧(xs.map (·.1)).Nodup
 | .set S n=>h.SetOf (intKind P w) a S n
 | .ins C dx fs=>H dx=some (.own a)∧fs.length≤1000∧dx≠a∧h.get? a=some (PySem.W.instObj C dx)∧
   ∃mA,h.Ns1 dx mA∧(∀f,RelO (fs.lookup f) (mA f))∧PySem.Within mA (fs.map (·.1))
 | .own _=>∃o,h.get? a=some o
 | .xd fs=>∃mA,h.Ns1 a mA∧∀f,RelO (fs.lookup f) (mA f)
 | .rng lo hi=>∃t u v,h.get? a=some {cls:=.type "range",data:=.fields #[.int lo t, .int hi u, .int 1 v]}
 | .frz o u=>h.get? a=some o∧ObjOk H h a u
 | .tbl=>∃ps:Array Value,h.get? a=some {cls:=.none,data:=.fields ps}∧TriplesOk ps.toList∧∀pos v,codeAmong pos ps.toList=some v→∃c oc vs t,v=Value.ref c∧H c=some (.own a)∧h.get? c=some oc∧oc.data=.fields vs∧vs[1]? =some (.str lamQ t)
 | .met f x=>h.get? a=some (PySem.W.methodObj (.ref f) (.ref x))
 | .ext φ=>φ h∧(∃o,h.get? a=some o)∧∀h1 h2:Heap,φ h1→(∀o,h1.get? a=some o→h2.get? a=some o)→φ h2
noncomputable def HOk(H:Hp)(h:Heap):Prop:=∀a o,H a=some o→ObjOk P w H h a o
end
section
variable{P:Program}{w:World}{H H':Hp}{h h':Heap}{a:Addr}{o:HO}
theorem ObjOk.lt(x:ObjOk P w H h a o):a<h.objs.size:=by
 cases o with
 |lst xs=>obtain⟨_,_,_,_,e⟩:=x;exact Heap.lt_size e
 |tup xs=>obtain⟨_,_,_,p,_⟩:=x;exact p.lt
 |dK kvs=>obtain⟨_,_,_,_,o,_,_,e,_⟩:=x;exact Heap.lt_size e
 |dT kvs=>obtain⟨_,_,_,_,o,_,_,e,_⟩:=x;exact Heap.lt_size e
 |set S n=>obtain⟨o,_,_,_,e,_⟩:=x;exact Heap.lt_size e
 |ins C dx fs=>obtain⟨_,_,_,e,_⟩:=x;exact Heap.lt_size e
 |own y=>obtain⟨_,e⟩:=x;exact Heap.lt_size e
 |xd fs=>obtain⟨_,⟨_,_,_,e,_⟩,_⟩:=x;exact Heap.lt_size e
 |rng lo hi=>obtain⟨_,_,_,e⟩:=x;exact Heap.lt_size e
 |frz ob u=>obtain⟨e,_⟩:=x;exact Heap.lt_size e
 |tbl=>obtain⟨_,e,_⟩:=x;exact Heap.lt_size e
 |met f y=>exact Heap.lt_size (show h.get? a=some _ from x)
 |ext φ=>obtain⟨_,⟨_,e⟩,_⟩:=x;exact Heap.lt_size e
theorem Paired.mapP{α β:Type}{F G:α→β→Prop}:∀{l₁:List α} {l₂:List β},Paired F l₁ l₂→(∀a b,F a b→G a b)→Paired G l₁ l₂
 |_,_, .nil,_=>.nil
 |_,_, .cons r t,f=>.cons (f _ _ r) (Paired.mapP t f)
theorem Paired.imp'{α β:Type}{F G:α→β→Prop}(f:∀a b,F a b→G a b){l₁:List α}{l₂:List β}(r:Paired F l₁ l₂):Paired G l₁ l₂:=Paired.mapP r f
theorem ObjOk.stay(x:ObjOk P w H h a o)(k:∀b u,(b=a∨H b=some (.own a))→h.get? b=some u→h'.get? b=some u)
  (ho:∀b,H b=some (.own a)→H' b=some (.own a)) (ht:∀b xs,H b=some (.tup xs)→H' b=some (.tup xs)):ObjOk P w H' h' a o:=by
 induction o with
 |lst xs=>obtain⟨z,its,n,r,e⟩:=x;exact⟨z,its,n,r,k _ _ (.inl rfl) e⟩
 |tup xs=>obtain⟨z,its,r,⟨ob,e,c⟩,d⟩:=x;exact⟨z,its,r,⟨ob,k _ _ (.inl rfl) e,c⟩,fun o z=>by rw[k _ _ (.inl rfl) e]at z;cases z;exact d _ e⟩
 |dK kvs=>obtain⟨z,y,vs,r,ob,es,ep,e,c⟩:=x;exact⟨z,y,vs,r,ob,es,ep,k _ _ (.inl rfl) e,c⟩
 |dT kvs=>
  obtain⟨z,y,xs,r,ob,es,ep,e,c⟩:=x
  exact⟨z,y,xs,Paired.mapP r fun p q z=>⟨z.1,ht _ _ z.2.1,z.2.2⟩,ob,es,ep,k _ _ (.inl rfl) e,c⟩
 |set S n=>obtain⟨ob,es,ep,t,e,c⟩:=x;exact⟨ob,es,ep,t,k _ _ (.inl rfl) e,c⟩
 |ins C dx fs=>
  obtain⟨d,z,ne,e,mA,⟨od,es,ep,e2,c⟩,r⟩:=x
  exact⟨ho _ d,z,ne,k _ _ (.inl rfl) e,mA,⟨od,es,ep,k _ _ (.inr d) e2,c⟩,r⟩
 |own y=>obtain⟨ob,e⟩:=x;exact⟨ob,k _ _ (.inl rfl) e⟩
 |xd fs=>obtain⟨mA,⟨od,es,ep,e,c⟩,r⟩:=x;exact⟨mA,⟨od,es,ep,k _ _ (.inl rfl) e,c⟩,r⟩
 |rng lo hi=>obtain⟨t,u,v,e⟩:=x;exact⟨t,u,v,k _ _ (.inl rfl) e⟩
 |frz ob u ih=>obtain⟨e,q⟩:=x;exact⟨k _ _ (.inl rfl) e,ih q⟩
 |tbl=>obtain⟨ps,e,t,f⟩:=x;exact⟨ps,k _ _ (.inl rfl) e,t,fun pos v q=>let⟨c,oc,vs,t,h1,h2,h3,h4⟩:=f pos v q;⟨c,oc,vs,t,h1,ho _ h2,k _ _ (.inr h2) h3,h4⟩⟩
 |met f y=>
  have e:h.get? a=some (PySem.W.methodObj (.ref f) (.ref y)):=x
  show h'.get? a=some (PySem.W.methodObj (.ref f) (.ref y))
  exact k a _ (.inl rfl) e
 |ext φ=>obtain⟨p,⟨o,e⟩,st⟩:=x;exact⟨st _ _ p fun o q=>k _ _ (.inl rfl) q,⟨o,k _ _ (.inl rfl) e⟩,st⟩
theorem HOk.lt(x:HOk P w H h)(e:H a=some o):a<h.objs.size:=(x a o e).lt
theorem HOk.fresh(x:HOk P w H h)(e:h.objs.size≤a):H a=none:=by
 cases q:H a with
 |none=>rfl
 |some u=>exact absurd (Nat.lt_of_lt_of_le (x.lt q) e) (Nat.lt_irrefl _)
theorem HOk.kept(x:HOk P w H h)(k:∀b u,h.get? b=some u→h'.get? b=some u):HOk P w H h':=fun a o e=>
 (x a o e).stay (fun b u _ q=>k b u q) (fun _ q=>q) fun _ _ q=>q
theorem HOk.laid(x:HOk P w H h)(k:∀b u,h.get? b=some u→h'.get? b=some u)(hp:h.objs.size≤a)(new:ObjOk P w (upd H a o) h' a o):HOk P w (upd H a o) h':=fun b u e=>by
 have hn:=x.fresh hp
 by_cases hb:b=a
 ·subst hb;rw[upd_same]at e;cases e;exact new
 ·rw[upd_ne hb]at e
  exact(x b u e).stay (fun c v _ q=>k c v q) (fun c q=>by rw[upd_ne (ne_of_none q hn)];exact q) fun c xs q=>by rw[upd_ne (ne_of_none q hn)];exact q
end
noncomputable def Rd(H:Hp)(a:Addr)(u:HO):Prop:=H a=some u∨∃o,H a=some (.frz o u)
theorem Rd.ok{P:Program}{w:World}{H:Hp}{h:Heap}{a:Addr}{u:HO}(r:Rd H a u)(x:HOk P w H h):ObjOk P w H h a u:=by
 rcases r with r|⟨o,r⟩
 ·exact x a u r
 ·obtain⟨_,q⟩:=x a _ r
  exact q
noncomputable def Mut:Option HO→Prop
 |some (.lst _)=>True
 |some (.dK _)=>True
 |some (.dT _)=>True
 |some (.set _ _)=>True
 |some (.ins _ _ _)=>True
 |some (.ext _)=>True
 |_=>False
section
variable{P:Program}{w:World}{H:Hp}{h h':Heap}{x e:Addr}{o':HO}
theorem HOk.write(ok:HOk P w H h)(mu:Mut (H x))(he:e=x∨H e=some (.own x))(k:∀b u,b≠e→h.get? b=some u→h'.get? b=some u)(heo:∃u,h'.get? e=some u)
  (new:ObjOk P w (upd H x o') h' x o'):HOk P w (upd H x o') h':=fun b u q=>by
 have nown:∀c y,H c=some (.own y)→c≠x:=fun c y r z=>by subst z;rw[r]at mu;exact mu
 have ntup:∀c xs,H c=some (.tup xs)→c≠x:=fun c xs r z=>by subst z;rw[r]at mu;exact mu
 by_cases hb:b=x
 ·subst hb;rw[upd_same]at q;cases q;exact new
 ·rw[upd_ne hb]at q
  by_cases hbe:b=e
  ·have q':H b=some (.own x):=by
    rcases he with z|z
    ·exact absurd (hbe.trans z) hb
    ·rw[hbe];exact z
   rw[q]at q';cases q'
   obtain⟨v,hv⟩:=heo
   exact⟨v,by rw[hbe];exact hv⟩
  ·refine(ok b u q).stay (fun c v hc r=>k c v ?_ r) (fun c r=>by rw[upd_ne (nown c b r)];exact r) fun c xs r=>by rw[upd_ne (ntup c xs r)];exact r
   rcases hc with rfl|hc
   ·exact hbe
   ·rintro rfl
    rcases he with z|z
    ·exact nown c b hc z
    ·rw[hc]at z;cases z;exact hb rfl
end
structure Un(fs ex:List Addr)(H H':Hp)(h h':Heap):Prop where
 keep:∀b o,h.get? b=some o→H b=none→b∉fs→b∉ex→h'.get? b=some o
 slot:∀b o,h.get? b=some o→H b=none→b∈fs→b∉ex→∃sl,h'.get? b=some {o with slots:=sl}
 free:∀b o,h.get? b=some o→H b=none→b∉ex→H' b=none
 there:∀b o,h.get? b=some o→b∉ex→∃o',h'.get? b=some o'
 tups:∀b xs,H b=some (.tup xs)→H' b=some (.tup xs)
 frzs:∀b o u,H b=some (.frz o u)→H' b=some (.frz o u)
 tbls:∀b,H b=some .tbl→H' b=some .tbl
section
variable{fs fs' ex ex':List Addr}{H H1 H2:Hp}{h h1 h2 h':Heap}{a x e:Addr}{o:HO}
theorem Un.any(u:Un fs ex H H1 h h1){b:Addr}{ob:Obj}(q:h.get? b=some ob)(n:H b=none)(hx:b∉ex):∃sl,h1.get? b=some {ob with slots:=sl}:=by
 by_cases hb:b∈fs
 ·exact u.slot b ob q n hb hx
 ·exact⟨ob.slots,u.keep b ob q n hb hx⟩
theorem Un.kept(k:∀b u,h.get? b=some u→h'.get? b=some u):Un fs ex H H h h':=
 ⟨fun b ob q _ _ _=>k b ob q,fun b ob q _ _ _=>⟨ob.slots,k b ob q⟩,fun _ _ _ n _=>n,fun b ob q _=>⟨ob,k b ob q⟩,fun _ _ q=>q,fun _ _ _ q=>q,fun _ q=>q⟩
theorem Un.refl:Un fs ex H H h h:=Un.kept fun _ _ q=>q
theorem Un.laid(k:∀b u,h.get? b=some u→h'.get? b=some u)(hp:h.objs.size≤a)(hn:H a=none):Un fs ex H (upd H a o) h h' where
 keep:=fun b u q _ _ _=>k b u q
 slot:=fun b u q _ _ _=>⟨u.slots,k b u q⟩
 free:=fun b u q n _=>by rw[upd_ne (Nat.ne_of_lt (Nat.lt_of_lt_of_le (Heap.lt_size q) hp))];exact n
 there:=fun b u q _=>⟨u,k b u q⟩
 tups:=fun b xs q=>by rw[upd_ne (ne_of_none q hn)];exact q
 frzs:=fun b u xs q=>by rw[upd_ne (ne_of_none q hn)];exact q
 tbls:=fun b q=>by rw[upd_ne (ne_of_none q hn)];exact q
theorem Un.write(mu:Mut (H x))(he:e=x∨H e=some (.own x))(k:∀b u,b≠e→h.get? b=some u→h'.get? b=some u)(heo:∃u,h'.get? e=some u):Un fs ex H (upd H x o) h h':=by
 have hx:∀b,H b=none→b≠x:=fun b n z=>by subst z;rw[n]at mu;exact mu
 have hb:∀b,H b=none→b≠e:=fun b n z=>by
  subst z
  rcases he with r|r
  ·exact hx b n r
  ·rw[n]at r;cases r
 have hm:∀b u,H b=some u→¬Mut (some u)→b≠x:=fun b u q nm z=>by subst z;rw[q]at mu;exact nm mu
 refine⟨fun b u q n _ _=>k b u (hb b n) q,fun b u q n _ _=>⟨u.slots,k b u (hb b n) q⟩,fun b u q n _=>by rw[upd_ne (hx b n)];exact n,fun b u q _=> ?_,
  fun b xs q=>by rw[upd_ne (hm b _ q fun z=>z)];exact q,fun b u xs q=>by rw[upd_ne (hm b _ q fun z=>z)];exact q,fun b q=>by rw[upd_ne (hm b _ q fun z=>z)];exact q⟩
 by_cases hbe:b=e
 ·subst hbe;exact heo
 ·exact⟨u,k b u hbe q⟩
end
noncomputable def trk(h:Heap)(H:Hp):List Addr:=(List.range h.objs.size).filter fun a=>(H a).isSome
noncomputable def hidT(h:Heap)(H:Hp):Heap:=PySem.W.hideAll h (trk h H)
theorem hidT_size(h:Heap)(H:Hp):(hidT h H).objs.size=h.objs.size:=PySem.W.hideAll_size _ _
theorem hidT_get{h:Heap}{H:Hp}{b:Addr}{o:Obj}(e:h.get? b=some o)(n:H b=none):(hidT h H).get? b=some o:=
 PySem.W.hideAll_get _ e fun hm=>by
  have q:(H b).isSome=true:=(List.mem_filter.mp hm).2
  rw[n]at q;simp at q
theorem of_hidT{h:Heap}{H:Hp}{b:Addr}{o:Obj}(e:(hidT h H).get? b=some o):h.get? b=some o∧H b=none:=by
 have e':h.get? b=some o:=PySem.W.of_hideAll (trk h H) e
 refine⟨e',?_⟩
 cases q:H b with
 |none=>rfl
 |some x=>
  have hm:b∈trk h H:=List.mem_filter.mpr ⟨List.mem_range.mpr (Heap.lt_size e'),by simp[q]⟩
  have z:(hidT h H).get? b=none:=PySem.W.hideAll_none (trk h H) hm
  rw[z]at e;cases e
noncomputable def allNews(g h:Heap)(L:Addr):List (Addr×Obj):=(List.range h.objs.size).filterMap fun a=>if a=L∨(g.get? a).isSome=true then none else(h.get? a).map fun o=>(a,o)
theorem mem_allNews{g h:Heap}{L a:Addr}{o:Obj}(h1:a≠L)(h2:g.get? a=none)(h3:h.get? a=some o):(a,o)∈allNews g h L:=
 List.mem_filterMap.mpr ⟨a,List.mem_range.mpr (Heap.lt_size h3),by simp[h1,h2,h3]⟩
theorem of_mem_allNews{g h:Heap}{L:Addr}{p:Addr×Obj}(hp:p∈allNews g h L):p.1≠L∧g.get? p.1=none∧h.get? p.1=some p.2:=by
 obtain⟨b,_,e⟩:=List.mem_filterMap.mp hp
 split at e
 ·cases e
 ·rename_i hn
  cases q:h.get? b with
  |none=>rw[q]at e;simp at e
  |some u=>
   rw[q]at e
   simp only[Option.map_some,Option.some.injEq]at e
   subst e
   refine⟨fun z=>hn (.inl z),?_,q⟩
   show g.get? b=none
   cases r:g.get? b with
   |none=>rfl
   |some v=>exact(hn (.inr (by simp[r]))).elim
noncomputable def rest(g h:Heap)(L d:Addr):List (Addr×Obj):=(allNews g h L).filter fun p=>decide (p.1≠d)
theorem rest_ne{g h:Heap}{L d:Addr}:∀p∈rest g h L d,p.1≠d:=fun p hp=>of_decide_eq_true (List.mem_filter.mp hp).2
theorem mem_rest{g h:Heap}{L d a:Addr}{o:Obj}(h1:a≠L)(h2:g.get? a=none)(h3:h.get? a=some o)(h4:a≠d):(a,o)∈rest g h L d:=
 List.mem_filter.mpr ⟨mem_allNews h1 h2 h3,decide_eq_true h4⟩
theorem news_all{g h:Heap}{L:Addr}:News g L h (allNews g h L):=fun p hp=>let⟨a,b,c⟩:=of_mem_allNews hp;⟨c,a,b⟩
theorem kept_of_news{g h h':Heap}{L d:Addr}{m:Str→Option Value}(k:∀b o,g.get? b=some o→h.get? b=some o)(F:Fr g L h' m)(N:News g L h' (rest g h L d)):
  ∀b o,b≠L→b≠d→h.get? b=some o→h'.get? b=some o:=fun b o h1 h2 e=>by
 cases q:g.get? b with
 |some u=>
  have:=k b u q
  rw[e]at this;cases this
  exact F.keep b _ q
 |none=>exact(N (b,o) (mem_rest h1 q e h2)).1
end L2
namespace L2
open PySem PySem.Spec PyProof.Rows
structure Mod(K:PySem.W.Frag)(mg:Str→Option Value)(base:Heap):Prop where
 kin:K.In base
 glob:base.Ns mainGlobals mg
 blt:∃mb,base.Ns builtinsNs mb∧∀x:Str,x≠"__name__"→mb x=bootBuiltins x
 nolimit:base.NoLimit
noncomputable def TabOf(K:PySem.W.Frag)(P:Addr):Prop:=∃c,PySem.W.tabIn K "unlike_letters"=some (c,P)
structure Cx where
 prog:Program
 w:World
 K:PySem.W.Frag
 mg:Str→Option Value
 base:Heap
 A:Around
 N:List Str
 s₀:Shared
 H₀:Hp
 env:Env
 outer:List Env
 stack:List Env
 ex:List Addr
 fn:Str→Bool
 calm:Bool
 pn:List (Addr×Obj)
 xe:Value→Shared→Prop
noncomputable def frs(l:List Env):List Addr:=l.filterMap (·.frame)
noncomputable abbrev Cx.fs(X:Cx):List Addr:=frs X.outer
noncomputable def Vis(sc:Scope)(x:Str):Prop:=sc.names.lookup x=some .local∨sc.names.lookup x=some .cell∨sc.names.lookup x=some .free
noncomputable def Loc(sc:Scope)(x:Str):Prop:=sc.names.lookup x=some .local∨sc.names.lookup x=some .cell
noncomputable def Look(env:Env)(h:Heap)(m:Str→Option Value)(x:Str)(u:Value):Prop:=
 (env.kindOf x=some .local∧m x=some u)∨((env.kindOf x=some .cell∨env.kindOf x=some .free)∧∃c,env.cells.lookup x=some c∧h.IsCell c (some u))
structure Cx.Ok(X:Cx):Prop where
 mod:Mod X.K X.mg X.base
 kind:X.env.scope.kind=.function
 glob:X.env.globals=mainGlobals
 blt:X.env.builtins=builtinsNs
 above:X.s₀.heap.objs.size≤X.env.locals
 inj:∀x y c,X.env.cells.lookup x=some c→X.env.cells.lookup y=some c→x=y
 has:∀x,(X.env.kindOf x=some .cell∨X.env.kindOf x=some .free)→∃c,X.env.cells.lookup x=some c
 cab:∀x c,X.fn x=true→X.env.cells.lookup x=some c→X.s₀.heap.objs.size≤c
 hd:X.calm=true→X.A.handled=none
 frames:X.A.frames=some X.stack
 stk:X.stack=X.outer∨(X.stack=X.env::X.outer∧X.env.frame=some X.env.locals)
 exf:∀b∈X.ex,b≠X.env.locals∧∀x c,X.env.cells.lookup x=some c→c≠b
 bs:∀b o,X.base.get? b=some o→X.s₀.heap.get? b=some o∧X.H₀ b=none
 bsz:X.base.objs.size≤X.s₀.heap.objs.size
 noex:∀b o,X.base.get? b=some o→b∉X.ex
 exfs:∀b∈X.ex,b∉X.fs
 funs:X.s₀.heap.FunFrames X.base X.outer
 frf:∀b∈X.fs,X.H₀ b=none
 tab:∀P,TabOf X.K P→X.H₀ P=some .tbl
structure Inv(X:Cx)(pins:List (Addr×Obj))(σ:List (Option V))(H:Hp)(s:Shared):Prop where
 ok:X.Ok
 os:s.os=X.s₀.os
 bare:AllBare s.gens
 base:Un X.fs X.ex X.H₀ H X.s₀.heap s.heap
 loc:∃m,s.heap.Ns X.env.locals m∧∀(i:Nat) (x:Str) (v:V),X.N[i]? =some x→σ[i]? =some (some v)→Vis X.env.scope x→∃u,RelV v u∧Look X.env s.heap m x u
 cell:∀x c,X.env.cells.lookup x=some c→∃v,s.heap.IsCell c v
 free:H X.env.locals=none
 freeC:∀x c,X.env.cells.lookup x=some c→H c=none
 pin:∀p∈X.pn++pins,s.heap.get? p.1=some p.2∧H p.1=none∧p.1≠X.env.locals∧p.1∉X.fs∧∀v,p.2.data≠ .cell v
 hok:HOk X.prog X.w H s.heap
 len:σ.length=X.N.length
section
variable{X:Cx}{pins:List (Addr×Obj)}{σ:List (Option V)}{H H':Hp}{s:Shared}{h':Heap}
theorem Cx.Ok.nofr(ok:X.Ok){b:Addr}{o:Obj}(e:X.base.get? b=some o):b∉X.fs:=fun hb=>by
 have:=(ok.funs.mem hb).1
 rw[e]at this;cases this
theorem Inv.bs(I:Inv X pins σ H s):∀b o,X.base.get? b=some o→s.heap.get? b=some o∧H b=none:=fun b o e=>
 ⟨I.base.keep b o (I.ok.bs b o e).1 (I.ok.bs b o e).2 (I.ok.nofr e) (I.ok.noex b o e),I.base.free b o (I.ok.bs b o e).1 (I.ok.bs b o e).2 (I.ok.noex b o e)⟩
theorem Inv.bk(I:Inv X pins σ H s):∀b o,X.base.get? b=some o→s.heap.get? b=some o:=fun b o e=>(I.bs b o e).1
theorem Inv.mod(I:Inv X pins σ H s):Mod X.K X.mg X.base:=I.ok.mod
theorem Inv.kIn(I:Inv X pins σ H s):X.K.In s.heap:=I.ok.mod.kin.keeps I.bk
theorem Inv.nolimit(I:Inv X pins σ H s):s.heap.NoLimit:=I.ok.mod.nolimit.keeps I.bk
theorem Inv.lt(I:Inv X pins σ H s):X.env.locals<s.heap.objs.size:=let⟨_,hn,_⟩:=I.loc;hn.lt
theorem Inv.sz(I:Inv X pins σ H s):X.s₀.heap.objs.size≤s.heap.objs.size:=Nat.le_trans I.ok.above (Nat.le_of_lt I.lt)
theorem Inv.nofs(I:Inv X pins σ H s){a:Addr}(h:s.heap.objs.size≤a):a∉X.fs:=fun hb=>by
 obtain⟨_,o,ho,_⟩:=I.ok.funs.mem hb
 exact absurd (Nat.lt_of_lt_of_le (Heap.lt_size ho) (Nat.le_trans I.sz h)) (Nat.lt_irrefl _)
theorem Inv.cne(I:Inv X pins σ H s):∀x c,X.env.cells.lookup x=some c→c≠X.env.locals:=fun x c e z=>by
 obtain⟨v,o,ho,hd⟩:=I.cell x c e
 obtain⟨m,⟨o',es,ep,ho',hd',_⟩,_⟩:=I.loc
 rw[z,ho']at ho;cases ho;rw[hd']at hd;cases hd
theorem Inv.funs(I:Inv X pins σ H s):s.heap.FunFrames X.base X.outer:=by
 have all:∀(l:List Env),(∀b∈frs l,b∈X.fs)→X.s₀.heap.FunFrames X.base l→s.heap.FunFrames X.base l:=by
  intro l
  induction l with
  |nil=>intro _ _;trivial
  |cons env r ih=>
   intro hs hl
   obtain⟨hk,⟨L,o,hf,hn,ho,hd⟩,hr⟩:=hl
   have hL:L∈X.fs:=hs L (by unfold frs;rw[List.filterMap_cons,hf];exact List.mem_cons_self)
   obtain⟨sl,e⟩:=I.base.slot L o ho (I.ok.frf L hL) hL fun z=>I.ok.exfs L z hL
   exact⟨hk,⟨L,_,hf,hn,e,hd⟩,ih (fun b hb=>hs b (by unfold frs;rw[List.filterMap_cons,hf];exact List.mem_cons_of_mem _ hb)) hr⟩
 exact all X.outer (fun _ hb=>hb) I.ok.funs
theorem Inv.stack(I:Inv X pins σ H s):s.heap.FunFrames X.base X.stack:=by
 rcases I.ok.stk with e|⟨e,hf⟩
 ·rw[e];exact I.funs
 ·rw[e]
  obtain⟨m,hn,_⟩:=I.loc
  refine .cons (by rw[I.ok.kind];decide) hf hn ?_ I.funs
  exact Heap.get?_none_of_le (Nat.le_trans I.ok.bsz I.ok.above)
theorem Inv.stkSub(I:Inv X pins σ H s):∀b∈frs X.stack,b∈X.env.locals::X.fs:=fun b hb=>by
 rcases I.ok.stk with e|⟨e,hf⟩
 ·rw[e]at hb;exact List.mem_cons_of_mem _ hb
 ·rw[e]at hb
  unfold frs at hb
  rw[List.filterMap_cons,hf]at hb
  exact hb
theorem Inv.stkFree(I:Inv X pins σ H s):∀b∈frs X.stack,H b=none:=fun b hb=>by
 rcases List.mem_cons.mp (I.stkSub b hb)with e|hb
 ·rw[e];exact I.free
 ·obtain⟨_,o,ho,_⟩:=I.ok.funs.mem hb
  exact I.base.free b o ho (I.ok.frf b hb) fun z=>I.ok.exfs b z hb
theorem Inv.step{g':Array GenState}{t':Nat}{d':Drawn}{ch:List Addr}(I:Inv X pins σ H s)
  (hch:∀b∈ch,(b∈X.ex∨X.s₀.heap.objs.size≤b)∧b≠X.env.locals∧(∀x c,X.env.cells.lookup x=some c→c≠b)∧∀p∈X.pn++pins,p.1≠b)
  (keep:∀b o,b≠X.env.locals→b∉X.fs→b∉ch→s.heap.get? b=some o→H b=none→h'.get? b=some o)
  (slot:∀b o,b≠X.env.locals→b∈X.fs→b∉ch→s.heap.get? b=some o→H b=none→∃sl,h'.get? b=some {o with slots:=sl}) (free:∀b o,b∉ch→s.heap.get? b=some o→H b=none→H' b=none)
  (there:∀b o,b∉ch→s.heap.get? b=some o→∃o',h'.get? b=some o')
  (tups:∀b xs,H b=some (.tup xs)→H' b=some (.tup xs)) (frzs:∀b o u,H b=some (.frz o u)→H' b=some (.frz o u)) (tbls:∀b,H b=some .tbl→H' b=some .tbl)
  (ns:∀m,s.heap.Ns X.env.locals m→h'.Ns X.env.locals m) (hok:HOk X.prog X.w H' h') (hg:AllBare g'):
  Inv X pins σ H' {s with heap:=h',gens:=g',drawn:=d',toks:=t'}:=by
 have neL:∀b o,X.s₀.heap.get? b=some o→b≠X.env.locals:=fun b o e=>Nat.ne_of_lt (Nat.lt_of_lt_of_le (Heap.lt_size e) I.ok.above)
 have neC:∀b o,X.s₀.heap.get? b=some o→b∉X.ex→b∉ch:=fun b o e hx hb=>by
  rcases(hch b hb).1 with z|z
  ·exact hx z
  ·exact absurd (Nat.lt_of_lt_of_le (Heap.lt_size e) z) (Nat.lt_irrefl _)
 have cellK:∀x c,X.env.cells.lookup x=some c→∀v,s.heap.IsCell c v→h'.IsCell c v:=fun x c e v ⟨o,ho,hd⟩=>by
  have nch:c∉ch:=fun z=>(hch c z).2.2.1 x c e rfl
  by_cases hc:c∈X.fs
  ·obtain⟨sl,q⟩:=slot c o (I.cne x c e) hc nch ho (I.freeC x c e)
   exact⟨_,q,hd⟩
  ·exact⟨o,keep c o (I.cne x c e) hc nch ho (I.freeC x c e),hd⟩
 refine⟨I.ok,I.os,hg,⟨fun b o e n hb hx=> ?_,fun b o e n hb hx=> ?_,fun b o e n hx=> ?_,fun b o e hx=> ?_,fun b xs e=>tups b xs (I.base.tups b xs e),fun b o xs e=>frzs b o xs (I.base.frzs b o xs e),fun b e=>tbls b (I.base.tbls b e)⟩,?_,fun x c e=> ?_,?_,fun x c e=> ?_,fun p hp=> ?_,hok,I.len⟩
 ·exact keep b o (neL b o e) hb (neC b o e hx) (I.base.keep b o e n hb hx) (I.base.free b o e n hx)
 ·obtain⟨sl,e1⟩:=I.base.slot b o e n hb hx
  obtain⟨sl',e2⟩:=slot b _ (neL b o e) hb (neC b o e hx) e1 (I.base.free b o e n hx)
  exact⟨sl',e2⟩
 ·obtain⟨o',e1⟩:=I.base.there b o e hx
  exact free b o' (neC b o e hx) e1 (I.base.free b o e n hx)
 ·obtain⟨o',e1⟩:=I.base.there b o e hx
  exact there b o' (neC b o e hx) e1
 ·obtain⟨m,hn,hl⟩:=I.loc
  refine⟨m,ns m hn,fun i x v e1 e2 e3=> ?_⟩
  obtain⟨u,r,l⟩:=hl i x v e1 e2 e3
  refine⟨u,r,?_⟩
  rcases l with l|⟨k,c,e,z⟩
  ·exact .inl l
  ·exact .inr ⟨k,c,e,cellK x c e _ z⟩
 ·obtain⟨v,z⟩:=I.cell x c e
  exact⟨v,cellK x c e v z⟩
 ·obtain⟨m,⟨o,_,_,ho,_⟩,_⟩:=I.loc
  exact free _ o (fun z=>(hch _ z).2.1 rfl) ho I.free
 ·obtain⟨v,o,ho,hd⟩:=I.cell x c e
  exact free c o (fun z=>(hch c z).2.2.1 x c e rfl) ho (I.freeC x c e)
 ·obtain⟨e,n,ne,nf,d⟩:=I.pin p hp
  have nch:p.1∉ch:=fun z=>(hch p.1 z).2.2.2 p hp rfl
  exact⟨keep p.1 p.2 ne nf nch e n,free p.1 p.2 nch e n,ne,nf,d⟩
theorem Inv.un{t':Nat}(I:Inv X pins σ H s)(u:Un X.fs [] H H' s.heap h')(hok:HOk X.prog X.w H' h'):Inv X pins σ H' {s with heap:=h',toks:=t'}:=by
 obtain⟨m,⟨o,es,ep,ho,r⟩,_⟩:=id I.loc
 obtain⟨sl,hL⟩:=u.any ho I.free (by simp)
 exact I.step (g':=s.gens) (d':=s.drawn) (ch:=[]) (fun _ z=>nomatch z) (fun b o _ hb _ e n=>u.keep b o e n hb (by simp)) (fun b o _ hb _ e n=>u.slot b o e n hb (by simp)) (fun b o _ e n=>u.free b o e n (by simp)) (fun b o _ e=>u.there b o e (by simp)) u.tups u.frzs u.tbls (fun m' hm=>by
  obtain⟨o',es',ep',ho',r'⟩:=hm
  rw[ho]at ho';cases ho'
  exact⟨_,es',ep',hL,r'⟩) hok I.bare
theorem Inv.call{g':Array GenState}{t':Nat}{d':Drawn}{ch:List Addr}(I:Inv X pins σ H s)(u:Un (frs X.stack) ch H H' s.heap h')(hok:HOk X.prog X.w H' h')(hg:AllBare g')
  (hch:∀b∈ch,(b∈X.ex∨X.s₀.heap.objs.size≤b)∧b≠X.env.locals∧(∀x c,X.env.cells.lookup x=some c→c≠b)∧∀p∈X.pn++pins,p.1≠b):
  Inv X pins σ H' {s with heap:=h',gens:=g',drawn:=d',toks:=t'}:=by
 obtain⟨m,⟨o,es,ep,ho,r⟩,_⟩:=id I.loc
 obtain⟨sl,hL⟩:=u.any ho I.free fun z=>(hch _ z).2.1 rfl
 exact I.step (ch:=ch) hch (fun b o hL hb hc e n=>u.keep b o e n (fun z=>(List.mem_cons.mp (I.stkSub b z)).elim hL hb) hc) (fun b o _ _ hc e n=>u.any e n hc) (fun b o hc e n=>u.free b o e n hc) (fun b o hc e=>u.there b o e hc) u.tups u.frzs u.tbls (fun m' hm=>by
  obtain⟨o',es',ep',ho',r'⟩:=hm
  rw[ho]at ho';cases ho'
  exact⟨_,es',ep',hL,r'⟩) hok hg
theorem Inv.turned{t':Nat}{it:Addr}(I:Inv X pins σ H s)(k:∀b o,b≠it→s.heap.get? b=some o→h'.get? b=some o)(hn:H it=none)(hL:it≠X.env.locals)
  (h1:it∈X.ex∨X.s₀.heap.objs.size≤it) (h2:∀x c,X.env.cells.lookup x=some c→c≠it) (h3:∀p∈X.pn++pins,p.1≠it):Inv X pins σ H {s with heap:=h',toks:=t'}:=by
 have nit:∀b u,H b=some u→b≠it:=fun b u e z=>by rw[z,hn]at e;cases e
 refine I.step (g':=s.gens) (d':=s.drawn) (ch:=[it]) (fun b hb=> ?_) (fun b o _ _ hc e _=>k b o (fun z=>hc (by simp[z])) e) (fun b o _ _ hc e _=>⟨o.slots,k b o (fun z=>hc (by simp[z])) e⟩) (fun _ _ _ _ n=>n)
  (fun b o hc e=>⟨o,k b o (fun z=>hc (by simp[z])) e⟩) (fun _ _ e=>e) (fun _ _ _ e=>e) (fun _ e=>e) (fun m hm=> ?_) (fun b u e=> ?_) I.bare
 ·have e:b=it:=by simpa using hb
  subst e
  exact⟨h1,hL,h2,h3⟩
 ·obtain⟨o,es,ep,ho,r⟩:=hm
  exact⟨o,es,ep,k _ o (Ne.symm hL) ho,r⟩
 ·refine(I.hok b u e).stay (fun c v hc q=>k c v ?_ q) (fun _ q=>q) fun _ _ q=>q
  rcases hc with z|z
  ·rw[z];exact nit b u e
  ·exact nit c _ z
theorem Inv.tok(I:Inv X pins σ H s)(t:Nat):Inv X pins σ H {s with toks:=t}:=I.un (h':=s.heap) (t':=t) Un.refl I.hok
theorem Inv.kept{t':Nat}(I:Inv X pins σ H s)(k:∀b u,s.heap.get? b=some u→h'.get? b=some u):Inv X pins σ H {s with heap:=h',toks:=t'}:=I.un (Un.kept k) (I.hok.kept k)
theorem Inv.laid{a:Addr}{o:HO}{t':Nat}(I:Inv X pins σ H s)(k:∀b u,s.heap.get? b=some u→h'.get? b=some u)(hp:s.heap.objs.size≤a)(new:ObjOk X.prog X.w (upd H a o) h' a o):
  Inv X pins σ (upd H a o) {s with heap:=h',toks:=t'}:=I.un (Un.laid k hp (I.hok.fresh hp)) (I.hok.laid k hp new)
theorem Inv.write{x e:Addr}{o:HO}{t':Nat}(I:Inv X pins σ H s)(mu:Mut (H x))(he:e=x∨H e=some (.own x))(k:∀b u,b≠e→s.heap.get? b=some u→h'.get? b=some u)(heo:∃u,h'.get? e=some u)
  (new:ObjOk X.prog X.w (upd H x o) h' x o):Inv X pins σ (upd H x o) {s with heap:=h',toks:=t'}:=I.un (Un.write mu he k heo) (I.hok.write mu he k heo new)
theorem Inv.weak{σ':List (Option V)}(I:Inv X pins σ H s)(hl:σ'.length=σ.length)(w:∀(i:Nat) v,σ'[i]? =some (some v)→σ[i]? =some (some v)):Inv X pins σ' H s:=
 ⟨I.ok,I.os,I.bare,I.base,let⟨m,hn,hl'⟩:=I.loc;⟨m,hn,fun i x v e1 e2 e3=>hl' i x v e1 (w i v e2) e3⟩,I.cell,I.free,I.freeC,I.pin,I.hok,hl.trans I.len⟩
theorem Inv.pins_of{pins':List (Addr×Obj)}(I:Inv X pins σ H s)(h:∀p∈pins',s.heap.get? p.1=some p.2∧H p.1=none∧p.1≠X.env.locals∧p.1∉X.fs∧∀v,p.2.data≠ .cell v):Inv X pins' σ H s:=
 ⟨I.ok,I.os,I.bare,I.base,I.loc,I.cell,I.free,I.freeC,fun p hp=>(List.mem_append.mp hp).elim (fun z=>I.pin p (List.mem_append_left _ z)) (h p),I.hok,I.len⟩
theorem nodup_ix{N:List Str}(hN:N.Nodup){i j:Nat}{x:Str}(a:N[i]? =some x)(b:N[j]? =some x):i=j:=by
 obtain⟨h1,e1⟩:=List.getElem?_eq_some_iff.mp a
 obtain⟨h2,e2⟩:=List.getElem?_eq_some_iff.mp b
 exact(List.getElem_inj hN).mp (e1.trans e2.symm)
theorem store_ok2{M:Model}{A:Around}{E:Value→Shared→Prop}{i:Nat}{x:Str}{v:V}{u:Value}{Q:Unit→Shared→Prop}(I:Inv X pins σ H s)(hN:X.N.Nodup)(hi:X.N[i]? =some x)(hx:Loc X.env.scope x)(r:RelV v u)
  (h:∀s',Inv X pins (σ.set i (some v)) H s'→(∃a,Heap.SameBut a s.heap s'.heap∧(a=X.env.locals∨X.env.cells.lookup x=some a))→Q () s') (hf:X.fn x=true∨X.env.scope.names.lookup x=some .local:=by first|exact .inl rfl|exact .inr rfl|assumption):wpAny M A (storeName X.env x u) Q E s:=by
 obtain⟨m,hn,hl⟩:=id I.loc
 have hcls:(X.env.scope.kind == .class || (X.env.scope.kind == .module&&X.env.locals != X.env.globals))=false:=by rw[I.ok.kind];rfl
 have hiσ:i<σ.length:=by rw[I.len];exact(List.getElem?_eq_some_iff.mp hi).1
 have cne:=I.cne
 have tracked:∀{a:Addr} {h':Heap},(∃o,s.heap.get? a=some o∧H a=none)→Heap.SameBut a s.heap h'→HOk X.prog X.w H h':=fun{a h'} ha hs b ob e=>by
  obtain⟨_,_,hfree⟩:=ha
  refine(I.hok b ob e).stay (fun c w' hc q=>(hs.2 c ?_).trans q) (fun _ q=>q) fun _ _ q=>q
  rintro rfl
  rcases hc with rfl|hc
  ·rw[hfree]at e;cases e
  ·rw[hfree]at hc;cases hc
 rcases hx with hk|hk
 ·refine wpAny_storeName_local hk hn (fun h' hn' hs=> ?_) hcls
  obtain⟨oL,_,_,hoL,_⟩:=id hn
  refine h _ ⟨I.ok,I.os,I.bare,⟨fun b o e n hb hx=> ?_,fun b o e n hb hx=> ?_,I.base.free,fun b o e hx=> ?_,I.base.tups,I.base.frzs,I.base.tbls⟩,⟨_,hn',fun j y v' e1 e2 e3=> ?_⟩,fun y c e=> ?_,I.free,I.freeC,fun p hp=> ?_,tracked ⟨oL,hoL,I.free⟩ hs,by simpa using I.len⟩ ⟨_,hs, .inl rfl⟩
  ·exact(hs.2 b (Nat.ne_of_lt (Nat.lt_of_lt_of_le (Heap.lt_size e) I.ok.above))).trans (I.base.keep b o e n hb hx)
  ·obtain⟨sl,e1⟩:=I.base.slot b o e n hb hx
   exact⟨sl,(hs.2 b (Nat.ne_of_lt (Nat.lt_of_lt_of_le (Heap.lt_size e) I.ok.above))).trans e1⟩
  ·obtain⟨o',e1⟩:=I.base.there b o e hx
   exact⟨o',(hs.2 b (Nat.ne_of_lt (Nat.lt_of_lt_of_le (Heap.lt_size e) I.ok.above))).trans e1⟩
  ·by_cases hj:j=i
   ·subst hj
    rw[hi]at e1;cases e1
    rw[List.getElem?_set_self hiσ]at e2
    cases e2
    exact⟨u,r, .inl ⟨hk,by simp⟩⟩
   ·rw[List.getElem?_set_ne (Ne.symm hj)]at e2
    obtain⟨u',r',q⟩:=hl j y v' e1 e2 e3
    refine⟨u',r',?_⟩
    rcases q with⟨k,e⟩|⟨k,c,e,z⟩
    ·refine .inl ⟨k,?_⟩
     have:y≠x:=fun e=>hj (nodup_ix hN e1 (e▸hi))
     simp[this,e]
    ·exact .inr ⟨k,c,e,z.sameBut hs (cne y c e)⟩
  ·obtain⟨w',z⟩:=I.cell y c e
   exact⟨w',z.sameBut hs (cne y c e)⟩
  ·obtain⟨e,n,ne,nf,d⟩:=I.pin p hp
   exact⟨(hs.2 p.1 ne).trans e,n,ne,nf,d⟩
 ·have hfn:X.fn x=true:=by
   rcases hf with z|z
   ·exact z
   ·rw[z]at hk;cases hk
  obtain⟨c,hc⟩:=I.ok.has x (.inl hk)
  obtain⟨w',z⟩:=I.cell x c hc
  refine wpAny_storeName_cell I.ok.kind hk hc z (fun h' hc' hs=> ?_)
  obtain⟨oc,hoc,hocd⟩:=id z
  refine h {s with heap:=h'} ⟨I.ok,I.os,I.bare,⟨fun b o e n hb hx=> ?_,fun b o e n hb hx=> ?_,I.base.free,fun b o e hx=> ?_,I.base.tups,I.base.frzs,I.base.tbls⟩,⟨m,hn.sameBut hs (Ne.symm (cne x c hc)),fun j y v' e1 e2 e3=> ?_⟩,fun y c' e=> ?_,I.free,I.freeC,fun p hp=> ?_,tracked ⟨oc,hoc,I.freeC x c hc⟩ hs,by simpa using I.len⟩ ⟨c,hs, .inr hc⟩
  ·exact(hs.2 b (Nat.ne_of_lt (Nat.lt_of_lt_of_le (Heap.lt_size e) (I.ok.cab x c hfn hc)))).trans (I.base.keep b o e n hb hx)
  ·obtain⟨sl,e1⟩:=I.base.slot b o e n hb hx
   exact⟨sl,(hs.2 b (Nat.ne_of_lt (Nat.lt_of_lt_of_le (Heap.lt_size e) (I.ok.cab x c hfn hc)))).trans e1⟩
  ·obtain⟨o',e1⟩:=I.base.there b o e hx
   exact⟨o',(hs.2 b (Nat.ne_of_lt (Nat.lt_of_lt_of_le (Heap.lt_size e) (I.ok.cab x c hfn hc)))).trans e1⟩
  ·by_cases hj:j=i
   ·subst hj
    rw[hi]at e1;cases e1
    rw[List.getElem?_set_self hiσ]at e2
    cases e2
    exact⟨u,r, .inr ⟨.inl hk,c,hc,hc'⟩⟩
   ·rw[List.getElem?_set_ne (Ne.symm hj)]at e2
    obtain⟨u',r',q⟩:=hl j y v' e1 e2 e3
    refine⟨u',r',?_⟩
    rcases q with q|⟨k,c',e,z'⟩
    ·exact .inl q
    ·refine .inr ⟨k,c',e,z'.sameBut hs ?_⟩
     rintro rfl
     exact hj (nodup_ix hN e1 (I.ok.inj _ _ _ e hc▸hi))
  ·by_cases hcc:c'=c
   ·subst hcc;exact⟨_,hc'⟩
   ·obtain⟨w2,z2⟩:=I.cell y c' e
    exact⟨w2,z2.sameBut hs hcc⟩
  ·obtain⟨e,n,ne,nf,d⟩:=I.pin p hp
   refine⟨(hs.2 p.1 ?_).trans e,n,ne,nf,d⟩
   intro q
   rw[q,hoc]at e
   have q':oc=p.2:=Option.some.inj e
   exact d w' (by rw[←q'];exact hocd)
theorem store_ok{M:Model}{A:Around}{E:Value→Shared→Prop}{i:Nat}{x:Str}{v:V}{u:Value}{Q:Unit→Shared→Prop}(I:Inv X pins σ H s)(hN:X.N.Nodup)(hi:X.N[i]? =some x)(hx:Loc X.env.scope x)(r:RelV v u)
  (h:∀s',Inv X pins (σ.set i (some v)) H s'→Q () s') (hf:X.fn x=true∨X.env.scope.names.lookup x=some .local:=by first|exact .inl rfl|exact .inr rfl|assumption):wpAny M A (storeName X.env x u) Q E s:=
 store_ok2 I hN hi hx r (fun s' I' _=>h s' I') hf
theorem Inv.call'{s':Shared}{ch:List Addr}(I:Inv X pins σ H s)(ho:s'.os=s.os)(u:Un (frs X.stack) ch H H' s.heap s'.heap)(hok:HOk X.prog X.w H' s'.heap)(hg:AllBare s'.gens)
  (hch:∀b∈ch,(b∈X.ex∨X.s₀.heap.objs.size≤b)∧b≠X.env.locals∧(∀x c,X.env.cells.lookup x=some c→c≠b)∧∀p∈X.pn++pins,p.1≠b):Inv X pins σ H' s':=by
 obtain⟨h',g',d',t',o'⟩:=s'
 have e:o'=s.os:=ho
 subst e
 exact I.call (g':=g') (t':=t') (d':=d') u hok hg hch
end
noncomputable abbrev XK:=Value→Option Addr→Hp→Prop
noncomputable abbrev St:=List (Option V)
noncomputable abbrev VK:=V→Hp→Prop
noncomputable abbrev TE:=St→Hp→VK→Prop
noncomputable abbrev TT:=St→Hp→(Bool→Hp→Prop)→Prop
noncomputable abbrev TA:=St→Hp→(List V→Hp→Prop)→Prop
structure Ends where
 nx:St→Hp→Prop
 rt:VK
 bk:St→Hp→Prop:=fun _ _=>False
 ct:St→Hp→Prop:=fun _ _=>False
noncomputable abbrev TS:=Ends→St→Hp→Prop
noncomputable def EP(X:Cx)(pins:List (Addr×Obj))(σ:St)(Q:VK)(u:Value)(s':Shared):Prop:=∃v H',Inv X pins σ H' s'∧RelV v u∧Q v H'
noncomputable def TP(X:Cx)(pins:List (Addr×Obj))(σ:St)(Q:Bool→Hp→Prop)(b:Bool)(s':Shared):Prop:=∃H',Inv X pins σ H' s'∧Q b H'
noncomputable def AP(X:Cx)(pins:List (Addr×Obj))(σ:St)(Q:List V→Hp→Prop)(us:List Value)(s':Shared):Prop:=∃vs H',Inv X pins σ H' s'∧Vals vs us∧Q vs H'
noncomputable def SP(X:Cx)(pins:List (Addr×Obj))(D:Ends)(f:Flow)(s':Shared):Prop:=
 match f with
 | .next=>∃σ' H',Inv X pins σ' H' s'∧D.nx σ' H'
 | .brk=>∃σ' H',Inv X pins σ' H' s'∧D.bk σ' H'
 | .cont=>∃σ' H',Inv X pins σ' H' s'∧D.ct σ' H'
 | .ret u=>∃v σ' H',Inv X pins σ' H' s'∧RelV v u∧D.rt v H'
noncomputable def PE(X:Cx)(e:Expr)(t:TE):Prop:=
 ∀(pins:List (Addr×Obj)) (s:Shared) (σ:St) (H:Hp) (Q:VK),Inv X pins σ H s→t σ H Q→wpAny (model X.prog X.w) X.A (eval e X.env) (EP X pins σ Q) X.xe s
noncomputable def PT(X:Cx)(e:Expr)(t:TT):Prop:=
 ∀(pins:List (Addr×Obj)) (s:Shared) (σ:St) (H:Hp) (Q:Bool→Hp→Prop),Inv X pins σ H s→t σ H Q→wpAny (model X.prog X.w) X.A (isTrue e X.env (eval e X.env)) (TP X pins σ Q) X.xe s
noncomputable def PW(X:Cx)(e:Expr)(t:TT):Prop:=
 ∀(whole:Sem Value) (pins:List (Addr×Obj)) (s:Shared) (σ:St) (H:Hp) (Q:Bool→Hp→Prop),Inv X pins σ H s→t σ H Q→wpAny (model X.prog X.w) X.A (isTrue e X.env whole) (TP X pins σ Q) X.xe s
theorem PW.pt{X:Cx}{e:Expr}{t:TT}(h:PW X e t):PT X e t:=h _
noncomputable def PA(X:Cx)(es:List Expr)(t:TA):Prop:=
 ∀(pos:Pos) (pins:List (Addr×Obj)) (s:Shared) (σ:St) (H:Hp) (Q:List V→Hp→Prop),Inv X pins σ H s→t σ H Q→wpAny (model X.prog X.w) X.A (spliced (backTo pos (starEach es X.env))) (AP X pins σ Q) X.xe s
noncomputable def PS(X:Cx)(st:Stmt)(t:TS):Prop:=
 ∀(pins:List (Addr×Obj)) (s:Shared) (σ:St) (H:Hp) (D:Ends),Inv X pins σ H s→t D σ H→wpAny (model X.prog X.w) X.A (exec st X.env) (SP X pins D) X.xe s
noncomputable def PSs(X:Cx)(st:List Stmt)(t:TS):Prop:=
 ∀(pins:List (Addr×Obj)) (s:Shared) (σ:St) (H:Hp) (D:Ends),Inv X pins σ H s→t D σ H→wpAny (model X.prog X.w) X.A (execs st X.env) (SP X pins D) X.xe s
theorem thn{α:Type}{t:Sem α}{Q Q':α→Shared→Prop}{M:Model}{A:Around}{E:Value→Shared→Prop}{s:Shared}(h:wpAny M A t Q E s)(hQ:∀a s,Q a s→Q' a s):wpAny M A t Q' E s:=wpAny_mono h hQ fun _ _ x=>x
end L2
namespace L2
open PySem PySem.Spec PyProof.Rows
section
variable{X:Cx}
noncomputable def tVar(i:Nat):TE:=fun σ H Q=>∃v,σ[i]? =some (some v)∧Q v H
noncomputable def tC(v:V):TE:=fun _ H Q=>Q v H
theorem pe_var{i:Nat}{x:Str}{pos:Pos}(hN:X.N[i]? =some x)(hv:Vis X.env.scope x)(hd:(x == ("__debug__":Str))=false:=by decide)(hcd:(x == ("__classdict__":Str))=false:=by decide):PE X (.Name x pos) (tVar i):=by
 intro pins s σ H Q I h
 obtain⟨v,e,h⟩:=h
 obtain⟨m,hn,hl⟩:=I.loc
 obtain⟨u,r,l⟩:=hl i x v hN e hv
 have fin:EP X pins σ Q u s:=⟨v,H,I,r,h⟩
 rcases l with⟨hk,hm⟩|⟨hk,c,hc,hcell⟩
 ·exact wpAny_Name (wpAny_loadName_local I.ok.kind hk hn hm fin) hd
 ·rcases hk with hk|hk
  ·exact wpAny_Name (wpAny_loadName_cell I.ok.kind hk hc hcell fin) hd
  ·exact wpAny_Name (wpAny_loadName_free I.ok.kind hk hc hcell fin hcd) hd
theorem pe_int{i j pos}:PE X (.Constant (.int i) j pos) (tC (.int i)):=fun _ _ _ H _ I h=>wpAny_Constant_int ⟨.int i,H,I.tok _,⟨_,rfl⟩,h⟩
theorem pe_bl{b j pos}:PE X (.Constant (.bool b) j pos) (tC (.bl b)):=fun _ _ _ H _ I h=>Constant_bool ⟨.bl b,H,I,rfl,h⟩
theorem pe_non{j pos}:PE X (.Constant .none j pos) (tC .non):=fun _ _ _ H _ I h=>Constant_none ⟨.non,H,I,rfl,h⟩
theorem pe_str{x j pos}:PE X (.Constant (.str x) j pos) (tC (.str x)):=fun _ _ _ H _ I h=>Calls.Constant_str ⟨.str x,H,I.tok _,⟨_,rfl⟩,h⟩
noncomputable def Gl(X:Cx)(x:Str):Prop:=X.env.kindOf x=some .globalImplicit
theorem ld_glob{E:Value→Shared→Prop}{pins:List (Addr×Obj)}{s:Shared}{σ:St}{H:Hp}{x:Str}{u:Value}{pos:Pos}{Q:Value→Shared→Prop}(I:Inv X pins σ H s)(hg:Gl X x)(hm:X.mg x=some u)(h:Q u s)
  (hd:(x == ("__debug__":Str))=false:=by decide):wpAny (model X.prog X.w) X.A (eval (.Name x pos) X.env) Q E s:=
 Calls.Name_function_global I.ok.kind hg (Calls.loadGlobal_global (by rw[I.ok.glob];exact I.mod.glob.keeps I.bk) hm h) hd
theorem ld_blt{E:Value→Shared→Prop}{pins:List (Addr×Obj)}{s:Shared}{σ:St}{H:Hp}{x:Str}{u:Value}{pos:Pos}{Q:Value→Shared→Prop}(I:Inv X pins σ H s)(hg:Gl X x)(hm:X.mg x=none)(hv:bootBuiltins x=some u)(h:Q u s)
  (hn:x≠"__name__":=by decide) (hd:(x == ("__debug__":Str))=false:=by decide):wpAny (model X.prog X.w) X.A (eval (.Name x pos) X.env) Q E s:=by
 obtain⟨mb,h1,h2⟩:=I.mod.blt
 exact Calls.Name_function_global I.ok.kind hg (Calls.loadGlobal_builtin (by rw[I.ok.glob];exact I.mod.glob.keeps I.bk) hm (by rw[I.ok.blt];exact h1.keeps I.bk) ((h2 x hn).trans hv) h) hd
theorem pe_glob{x:Str}{v:V}{u:Value}{pos:Pos}(hg:Gl X x)(hm:X.mg x=some u)(r:RelV v u)(hd:(x == ("__debug__":Str))=false:=by decide):PE X (.Name x pos) (tC v):=
 fun _ _ _ H _ I h=>ld_glob I hg hm ⟨v,H,I,r,h⟩ hd
theorem pe_bltn{x:Str}{v:V}{u:Value}{pos:Pos}(hg:Gl X x)(hm:X.mg x=none)(hv:bootBuiltins x=some u)(r:RelV v u)(hn:x≠"__name__":=by decide)(hd:(x == ("__debug__":Str))=false:=by decide):PE X (.Name x pos) (tC v):=
 fun _ _ _ H _ I h=>ld_blt I hg hm hv ⟨v,H,I,r,h⟩ hn hd
variable{a b:Expr}{ta tb:TE}{pos:Pos}
noncomputable def PC(X:Cx)(op:CmpOp)(a b:Expr)(t:TE):Prop:=
 ∀(pins:List (Addr×Obj)) (s:Shared) (σ:St) (H:Hp) (Q:VK),Inv X pins σ H s→t σ H Q→
  wpAny (model X.prog X.w) X.A (eval a X.env) (fun v s₁=>wpAny (model X.prog X.w) X.A (eval b X.env) (fun u s₂=>wpAny (model X.prog X.w) X.A (compareOp op v u) (EP X pins σ Q) X.xe s₂) X.xe s₁) X.xe s
theorem nobehind(b:Expr){op:CmpOp}(h:op≠ .In)(h2:op≠ .NotIn):behindInMarks op b=false:=by
 have e1:(op == CmpOp.In)=false:=by cases op<;>first|rfl|exact absurd rfl h
 have e2:(op == CmpOp.NotIn)=false:=by cases op<;>first|rfl|exact absurd rfl h2
 cases b<;>simp[behindInMarks,e1,e2]
noncomputable def tIsN(ta:TE):TE:=fun σ H Q=>ta σ H fun x H1=>Q (.bl (decide (x=.non))) H1
noncomputable def tNotN(ta:TE):TE:=fun σ H Q=>ta σ H fun x H1=>Q (.bl (!decide (x=.non))) H1
theorem RelV.none_iff{x:V}{v:Value}(r:RelV x v):(v == Value.none)=decide (x=.non):=by
 cases x with
 |non=>cases r;rfl
 |bl _=>cases r;rfl
 |int _=>obtain⟨t,rfl⟩:=r;rfl
 |str _=>obtain⟨t,rfl⟩:=r;rfl
 |byt _=>obtain⟨t,rfl⟩:=r;rfl
 |flt _=>obtain⟨t,rfl⟩:=r;rfl
 |ref _=>cases r;rfl
 |ty _=>cases r;rfl
theorem pc_isN{j pos'}(ha:PE X a ta):PC X .Is a (.Constant .none j pos') (tIsN ta):=by
 intro pins s σ H Q I h
 refine thn (ha pins s σ H _ I h) fun v s1 ⟨x,H1,I1,r1,q1⟩=> ?_
 exact Constant_none (is_none_gen ⟨.bl _,H1,I1,by rw[r1.none_iff];rfl,q1⟩)
theorem pc_notN{j pos'}(ha:PE X a ta):PC X .IsNot a (.Constant .none j pos') (tNotN ta):=by
 intro pins s σ H Q I h
 refine thn (ha pins s σ H _ I h) fun v s1 ⟨x,H1,I1,r1,q1⟩=> ?_
 exact Constant_none (isnot_none_gen ⟨.bl _,H1,I1,by rw[r1.none_iff];rfl,q1⟩)
noncomputable def tB(t:TE):TT:=fun σ H Q=>t σ H fun x H1=>∃c,x=.bl c∧Q c H1
theorem pe_cmp{op:CmpOp}{t:TE}(h:PC X op a b t)(h1:behindInMarks op b=false:=by first|exact nobehind _ (by decide) (by decide)|rfl):PE X (.Compare a [op] [b] pos) t:=fun pins s σ H Q I hw=>wpAny_Compare1 (h pins s σ H Q I hw) h1
theorem pt_cmp{op:CmpOp}{t:TE}(h:PC X op a b t)(h1:behindInMarks op b=false:=by first|exact nobehind _ (by decide) (by decide)|rfl):PT X (.Compare a [op] [b] pos) (tB t):=by
 intro pins s σ H Q I hw
 refine wpAny_isTrue_Compare1 (thn (h pins s σ H _ I hw) fun v s1 h1=>thn h1 fun u s2 h2=>thn h2 fun c s3 ⟨x,H1,I1,r1,q1⟩=> ?_) h1
 obtain⟨d,rfl,q⟩:=q1
 cases r1
 exact wpAny_truthy_bool ⟨H1,I1,q⟩
theorem pt_val{e:Expr}{t:TE}(h:PE X e t)(he:∀whole,isTrue e X.env whole=(do let v←whole;standAt e.pos;holding [v] (truthy v)):=by intro _;rfl):PT X e (tB t):=by
 intro pins s σ H Q I hw
 refine isTrue_plain (thn (h pins s σ H _ I hw) fun v s1 ⟨x,H1,I1,r1,q1⟩=> ?_) (he _)
 obtain⟨d,rfl,q⟩:=q1
 cases r1
 exact wpAny_truthy_bool ⟨H1,I1,q⟩
variable{tA tB':TT}{rest:List Expr}
noncomputable def tAnd(t u:TT):TT:=fun σ H Q=>t σ H fun c H1=>if c=true then u σ H1 Q else Q false H1
noncomputable def tOr(t u:TT):TT:=fun σ H Q=>t σ H fun c H1=>if c=true then Q true H1 else u σ H1 Q
noncomputable def tNot(t:TT):TT:=fun σ H Q=>t σ H fun c H1=>Q (!c) H1
theorem pw_and1(ha:PT X a tA):PW X (.BoolOp .And [a] pos) tA:=by
 intro wh pins s σ H Q I h
 refine isTrue_and (thn (ha pins s σ H Q I h) fun c s1 e=> ?_)
 cases c with
 |true=>exact isTrue_and_nil e
 |false=>exact e
theorem pw_or1(ha:PT X a tA):PW X (.BoolOp .Or [a] pos) tA:=by
 intro wh pins s σ H Q I h
 refine isTrue_or (thn (ha pins s σ H Q I h) fun c s1 e=> ?_)
 cases c with
 |false=>exact isTrue_or_nil e
 |true=>exact e
theorem pw_and(ha:PT X a tA)(hb:PW X (.BoolOp .And (b::rest) pos) tB'):PW X (.BoolOp .And (a::b::rest) pos) (tAnd tA tB'):=by
 intro wh pins s σ H Q I h
 refine isTrue_and (thn (ha pins s σ H _ I h) fun c s1 ⟨H1,I1,q1⟩=> ?_)
 cases c with
 |true=>exact hb wh pins s1 σ H1 Q I1 q1
 |false=>exact⟨H1,I1,q1⟩
theorem pw_or(ha:PT X a tA)(hb:PW X (.BoolOp .Or (b::rest) pos) tB'):PW X (.BoolOp .Or (a::b::rest) pos) (tOr tA tB'):=by
 intro wh pins s σ H Q I h
 refine isTrue_or (thn (ha pins s σ H _ I h) fun c s1 ⟨H1,I1,q1⟩=> ?_)
 cases c with
 |true=>exact⟨H1,I1,q1⟩
 |false=>exact hb wh pins s1 σ H1 Q I1 q1
theorem pt_not(ha:PT X a tA):PT X (.UnaryOp .Not a pos) (tNot tA):=by
 intro pins s σ H Q I h
 exact isTrue_not (ha pins s σ H (fun c H1=>Q (!c) H1) I h)
noncomputable def tAndV(ta tb:TE):TE:=fun σ H Q=>ta σ H fun x H1=>∃c,x=.bl c∧if c=true then tb σ H1 Q else Q (.bl false) H1
noncomputable def tOrV(ta tb:TE):TE:=fun σ H Q=>ta σ H fun x H1=>∃c,x=.bl c∧if c=true then Q (.bl true) H1 else tb σ H1 Q
theorem pe_one{op}{t:TE}(h:PE X a t):PE X (.BoolOp op [a] pos) t:=fun pins s σ H Q I hw=>BoolOp_one (h pins s σ H Q I hw)
theorem pe_and(ha:PE X a ta)(hb:PE X (.BoolOp .And (b::rest) pos) tb):PE X (.BoolOp .And (a::b::rest) pos) (tAndV ta tb):=by
 intro pins s σ H Q I h
 refine BoolOp_and (thn (ha pins s σ H _ I h) fun v s1 ⟨x,H1,I1,r1,q1⟩=> ?_)
 obtain⟨c,rfl,q1⟩:=q1
 cases r1
 refine wpAny_truthy_bool ?_
 cases c with
 |true=>exact hb pins s1 σ H1 Q I1 q1
 |false=>exact⟨.bl false,H1,I1,rfl,q1⟩
theorem pe_or(ha:PE X a ta)(hb:PE X (.BoolOp .Or (b::rest) pos) tb):PE X (.BoolOp .Or (a::b::rest) pos) (tOrV ta tb):=by
 intro pins s σ H Q I h
 refine BoolOp_or (thn (ha pins s σ H _ I h) fun v s1 ⟨x,H1,I1,r1,q1⟩=> ?_)
 obtain⟨c,rfl,q1⟩:=q1
 cases r1
 refine wpAny_truthy_bool ?_
 cases c with
 |false=>exact hb pins s1 σ H1 Q I1 q1
 |true=>exact⟨.bl true,H1,I1,rfl,q1⟩
end
end L2
namespace L2
open PySem PySem.Spec PyProof.Rows
noncomputable def SqL(K:PySem.W.Frag)(H:Hp)(a:Addr)(xs:List V):Prop:=
 Rd H a (.lst xs)∨
  ∃(o:Obj) (its:Array Value) (n:Nat),K.lookup a=some o∧o.cls=.type "list"∧o.dict=none∧o.data=.seq its n∧its.size≤sizeLine∧Vals xs its.toList
noncomputable def SqT(K:PySem.W.Frag)(H:Hp)(a:Addr)(xs:List V):Prop:=
 Rd H a (.tup xs)∨
  ∃(o:Obj) (its:Array Value) (n:Nat),K.lookup a=some o∧o.cls=.type "tuple"∧o.dict=none∧o.data=.seq its n∧its.size≤sizeLine∧Vals xs its.toList
noncomputable def absV:Value→Option V
 | .none=>some .non
 | .bool b=>some (.bl b)
 | .int i _=>some (.int i)
 | .str x _=>some (.str x)
 | .bytes b _=>some (.byt b)
 | .float b _=>some (.flt b)
 | .ref a=>some (.ref a)
 | .type n=>some (.ty n)
 |_=>none
theorem RelV.abs{x:V}{u:Value}(r:RelV x u):absV u=some x:=by
 cases x with
 |non=>cases r;rfl
 |bl _=>cases r;rfl
 |int _=>obtain⟨t,rfl⟩:=r;rfl
 |str _=>obtain⟨t,rfl⟩:=r;rfl
 |byt _=>obtain⟨t,rfl⟩:=r;rfl
 |flt _=>obtain⟨t,rfl⟩:=r;rfl
 |ref _=>cases r;rfl
 |ty _=>cases r;rfl
theorem RelV.inj{x y:V}{u:Value}(r:RelV x u)(q:RelV y u):x=y:=Option.some.inj (r.abs.symm.trans q.abs)
theorem Vals.inj:∀{xs ys:List V} {us:List Value},Vals xs us→Vals ys us→xs=ys
 |_,_,_, .nil, .nil=>rfl
 |_,_,_, .cons r t, .cons r' t'=>by rw[r.inj r',Vals.inj t t']
section
variable{X:Cx}{pins:List (Addr×Obj)}{σ:St}{H:Hp}{s:Shared}{a:Addr}{xs ys:List V}
theorem SqL.of{K:PySem.W.Frag}(h:H a=some (.lst xs)):SqL K H a xs:=.inl (.inl h)
theorem SqT.of{K:PySem.W.Frag}(h:H a=some (.tup xs)):SqT K H a xs:=.inl (.inl h)
theorem Inv.list(I:Inv X pins σ H s)(h:SqL X.K H a xs):∃its:List Value,Vals xs its∧PlainL s.heap a its.toArray∧xs.length≤sizeLine:=by
 rcases h with h|⟨o,its,n,hk,hc,hd,hs,hz,r⟩
 ·obtain⟨z,its,n,r,e⟩:=h.ok I.hok
  exact⟨its,r,⟨_,n,e,rfl,rfl,rfl⟩,z⟩
 ·refine⟨its.toList,r,⟨o,n,I.kIn a o hk,hc,hd,by simpa using hs⟩,?_⟩
  have e:=r.length
  simp only[Array.length_toList]at e
  omega
theorem Inv.tuple(I:Inv X pins σ H s)(h:SqT X.K H a xs):∃its:List Value,Vals xs its∧IsTup s.heap a its.toArray∧xs.length≤sizeLine:=by
 rcases h with h|⟨o,its,n,hk,hc,_,hs,hz,r⟩
 ·obtain⟨z,its,r,p,_⟩:=h.ok I.hok
  exact⟨its,r,p,z⟩
 ·refine⟨its.toList,r,⟨o,I.kIn a o hk,hc,n,by simpa using hs⟩,?_⟩
  have e:=r.length
  simp only[Array.length_toList]at e
  omega
theorem Inv.tupleD(I:Inv X pins σ H s)(h:SqT X.K H a xs):∃o,s.heap.get? a=some o∧o.dict=none:=by
 rcases h with h|⟨o,its,n,hk,hc,hd,_⟩
 ·obtain⟨z,its,r,⟨o,e,_⟩,d⟩:=h.ok I.hok
  exact⟨o,e,d o e⟩
 ·exact⟨o,I.kIn a o hk,hd⟩
theorem Inv.list_inj(I:Inv X pins σ H s)(h:SqL X.K H a xs)(h':SqL X.K H a ys):xs=ys:=by
 obtain⟨its,r,⟨o,n,e,_,_,d⟩,_⟩:=I.list h
 obtain⟨its',r',⟨o',n',e',_,_,d'⟩,_⟩:=I.list h'
 rw[e]at e';cases e'
 rw[d]at d'
 injection d' with d1 _
 have:its=its':=by simpa using congrArg Array.toList d1
 subst this
 exact r.inj r'
theorem Inv.tuple_inj(I:Inv X pins σ H s)(h:SqT X.K H a xs)(h':SqT X.K H a ys):xs=ys:=by
 obtain⟨its,r,⟨o,e,_,n,d⟩,_⟩:=I.tuple h
 obtain⟨its',r',⟨o',e',_,n',d'⟩,_⟩:=I.tuple h'
 rw[e]at e';cases e'
 rw[d]at d'
 injection d' with d1 _
 have:its=its':=by simpa using congrArg Array.toList d1
 subst this
 exact r.inj r'
end
noncomputable abbrev Cx.wish(X:Cx)(E:Value→Shared→Prop):Cx:={X with xe:=E}
noncomputable abbrev Cx.nox(X:Cx):Cx:=X.wish fun _ _=>False
theorem Cx.Ok.wish{X:Cx}(ok:X.Ok)(E:Value→Shared→Prop):(X.wish E).Ok:=
 ⟨ok.mod,ok.kind,ok.glob,ok.blt,ok.above,ok.inj,ok.has,ok.cab,ok.hd,ok.frames,ok.stk,ok.exf,ok.bs,ok.bsz,ok.noex,ok.exfs,ok.funs,ok.frf,ok.tab⟩
theorem Cx.Ok.unwish{X:Cx}{E:Value→Shared→Prop}(ok:(X.wish E).Ok):X.Ok:=
 ⟨ok.mod,ok.kind,ok.glob,ok.blt,ok.above,ok.inj,ok.has,ok.cab,ok.hd,ok.frames,ok.stk,ok.exf,ok.bs,ok.bsz,ok.noex,ok.exfs,ok.funs,ok.frf,ok.tab⟩
section
variable{X:Cx}{pins:List (Addr×Obj)}{σ:St}{H:Hp}{s:Shared}{E:Value→Shared→Prop}
theorem Inv.wish(I:Inv X pins σ H s)(E:Value→Shared→Prop):Inv (X.wish E) pins σ H s:=⟨I.ok.wish E,I.os,I.bare,I.base,I.loc,I.cell,I.free,I.freeC,I.pin,I.hok,I.len⟩
theorem Inv.unwish(I:Inv (X.wish E) pins σ H s):Inv X pins σ H s:=⟨I.ok.unwish,I.os,I.bare,I.base,I.loc,I.cell,I.free,I.freeC,I.pin,I.hok,I.len⟩
theorem SP.unwish{D:Ends}{f:Flow}{s':Shared}(h:SP (X.wish E) pins D f s'):SP X pins D f s':=by
 cases f with
 |next=>obtain⟨σ',H',I,q⟩:=h;exact⟨σ',H',I.unwish,q⟩
 |brk=>obtain⟨σ',H',I,q⟩:=h;exact⟨σ',H',I.unwish,q⟩
 |cont=>obtain⟨σ',H',I,q⟩:=h;exact⟨σ',H',I.unwish,q⟩
 |ret u=>obtain⟨v,σ',H',I,r,q⟩:=h;exact⟨v,σ',H',I.unwish,r,q⟩
theorem PSs.nox{st:List Stmt}{t:TS}(h:PSs X.nox st t):PSs X st t:=fun pins s σ H D I hw=>
 wpAny_mono (h pins s σ H D (I.wish _) hw) (fun _ _ q=>q.unwish) fun _ _ z=>False.elim z
end
section
variable{X:Cx}{st:Stmt}{rest:List Stmt}{t u:TS}{e:Expr}{te:TE}{pos:Pos}
noncomputable def tNext:TS:=fun D σ H=>D.nx σ H
noncomputable def tSeq(t u:TS):TS:=fun D σ H=>t {D with nx:=u D} σ H
theorem pss_nil:PSs X [] tNext:=fun _ _ σ H _ I h=>wpAny_execs_nil ⟨σ,H,I,h⟩
theorem pss_cons(h1:PS X st t)(h2:PSs X rest u):PSs X (st::rest) (tSeq t u):=by
 intro pins s σ H D I h
 refine wpAny_execs_cons (thn (h1 pins s σ H {D with nx:=u D} I h) fun f s1 q=> ?_)
 cases f with
 |next=>
  obtain⟨σ',H',I',q⟩:=q
  exact h2 pins s1 σ' H' D I' q
 |ret v=>exact q
 |brk=>exact q
 |cont=>exact q
theorem pss_one(h1:PS X st t):PSs X [st] t:=by
 intro pins s σ H D I h
 refine wpAny_execs_cons (thn (h1 pins s σ H D I h) fun f s1 q=> ?_)
 cases f with
 |next=>exact wpAny_execs_nil q
 |ret v=>exact q
 |brk=>exact q
 |cont=>exact q
noncomputable def tCont:TS:=fun D σ H=>D.ct σ H
theorem ps_continue:PS X (.Continue pos) tCont:=fun _ _ σ H _ I h=>wpAny_Continue ⟨σ,H,I,h⟩
theorem Inv.quiet{pins:List (Addr×Obj)}{σ:St}{H:Hp}{s:Shared}(I:Inv X pins σ H s):interactive X.env=false:=by simp[interactive,I.ok.kind]
noncomputable def tDrop(te:TE):TS:=fun D σ H=>te σ H fun _ H1=>D.nx σ H1
theorem ps_expr(he:PE X e te)(hs:swapsWith e none pos.line X.env=pure false:=by rfl):PS X (.Expr e pos) (tDrop te):=by
 intro pins s σ H D I h
 exact wpAny_Expr_any (thn (he pins s σ H _ I h) fun v s1 ⟨x,H1,I1,r1,q1⟩=>⟨σ,H1,I1,q1⟩) I.quiet hs
noncomputable def tRet(te:TE):TS:=fun D σ H=>te σ H D.rt
theorem ps_ret(he:PE X e te):PS X (.Return (some e) pos) (tRet te):=by
 intro pins s σ H D I h
 exact wpAny_Return_some (thn (he pins s σ H _ I h) fun v s1 ⟨x,H1,I1,r1,q1⟩=>⟨x,σ,H1,I1,r1,q1⟩)
noncomputable def tIfS(c:TT)(t u:TS):TS:=fun D σ H=>c σ H fun b H1=>if b=true then t D σ H1 else u D σ H1
theorem ps_if{c:Expr}{a b:List Stmt}{tc:TT}(hc:PT X c tc)(ha:PSs X a t)(hb:PSs X b u):PS X (.If c a b pos) (tIfS tc t u):=by
 intro pins s σ H D I h
 refine wpAny_If (thn (hc pins s σ H _ I h) fun d s1 ⟨H1,I1,q1⟩=> ?_)
 cases d with
 |true=>exact ha pins s1 σ H1 D I1 q1
 |false=>exact hb pins s1 σ H1 D I1 q1
end
noncomputable abbrev TG:=V→St→Hp→(St→Hp→Prop)→Prop
noncomputable abbrev TGs:=List V→St→Hp→(St→Hp→Prop)→Prop
noncomputable def PG(X:Cx)(target:Expr)(t:TG):Prop:=
 ∀(pins:List (Addr×Obj)) (s:Shared) (σ:St) (H:Hp) (v:V) (u:Value) (Q:St→Hp→Prop),Inv X pins σ H s→RelV v u→t v σ H Q→
  wpAny (model X.prog X.w) X.A (assign target X.env u) (fun _ s'=>∃σ' H',Inv X pins σ' H' s'∧Q σ' H') X.xe s
noncomputable def PGs(X:Cx)(ts:List Expr)(t:TGs):Prop:=
 ∀(pins:List (Addr×Obj)) (s:Shared) (σ:St) (H:Hp) (vs:List V) (us:List Value) (Q:St→Hp→Prop),Inv X pins σ H s→Vals vs us→t vs σ H Q→
  wpAny (model X.prog X.w) X.A (assignInOrder ((assignEach ts X.env).map (·.2)) us) (fun _ s'=>∃σ' H',Inv X pins σ' H' s'∧Q σ' H') X.xe s
noncomputable abbrev TSet:=V→V→V→Hp→(Hp→Prop)→Prop
noncomputable def PSet(X:Cx)(t:TSet):Prop:=
 ∀(pins:List (Addr×Obj)) (s:Shared) (σ:St) (H:Hp) (o i v:V) (ov iv u:Value) (Q:Hp→Prop),Inv X pins σ H s→RelV o ov→RelV i iv→RelV v u→t o i v H Q→
  wpAny (model X.prog X.w) X.A (setItem ov iv u) (fun _ s'=>∃H',Inv X pins σ H' s'∧Q H') X.xe s
section
variable{X:Cx}{pos:Pos}
noncomputable def gName(i:Nat):TG:=fun v σ H Q=>Q (σ.set i (some v)) H
theorem pg_name{i:Nat}{x:Str}(hN:X.N.Nodup)(hi:X.N[i]? =some x)(hx:Loc X.env.scope x)(hf:X.fn x=true∨X.env.scope.names.lookup x=some .local:=by first|exact .inl rfl|exact .inr rfl|assumption):PG X (.Name x pos) (gName i):=by
 intro pins s σ H v u Q I r h
 exact wpAny_assign_Name (store_ok I hN hi hx r (fun s' I'=>⟨_,H,I',h⟩) hf)
noncomputable def gNil:TGs:=fun vs σ H Q=>vs=[]∧Q σ H
noncomputable def gCons(t:TG)(u:TGs):TGs:=fun vs σ H Q=>∃v r,vs=v::r∧t v σ H fun σ' H'=>u r σ' H' Q
theorem pgs_nil:PGs X [] gNil:=by
 intro pins s σ H vs us Q I r h
 obtain⟨e,h⟩:=h
 subst e
 cases r
 exact assignInOrder_nil ⟨σ,H,I,h⟩
theorem pgs_cons{e:Expr}{es:List Expr}{t:TG}{u:TGs}(h1:PG X e t)(h2:PGs X es u)
  (hs:(assignEach (e::es) X.env).map (·.2)=assign e X.env::(assignEach es X.env).map (·.2):=by rfl):PGs X (e::es) (gCons t u):=by
 intro pins s σ H vs us Q I r h
 obtain⟨v,vr,e1,h⟩:=h
 subst e1
 cases r with
 |cons r rr=>
  rw[hs]
  refine assignInOrder_cons (thn (h1 pins s σ H _ _ _ I r h) fun _ s1 ⟨σ1,H1,I1,q1⟩=> ?_)
  exact h2 pins s1 σ1 H1 _ _ Q I1 rr q1
noncomputable def gTup(K:PySem.W.Frag)(n:Nat)(t:TGs):TG:=fun v σ H Q=>∃a xs,v=.ref a∧SqT K H a xs∧xs.length=n∧t xs σ H Q
theorem pg_tup{es:List Expr}{k:Nat}{t:TGs}{n:Nat}(hc:X.calm=true)(h:PGs X es t)
  (hn:(assignEach es X.env).length=n:=by rfl) (hst:(assignEach es X.env).findIdx? (·.1)=none:=by rfl):PG X (.Tuple es k pos) (gTup X.K n t):=by
 intro pins s σ H v u Q I r hw
 obtain⟨a,xs,e1,hq,hl,hw⟩:=hw
 subst e1
 cases r
 obtain⟨its,rv,ht,hz⟩:=I.tuple hq
 refine assign_Tuple_tuple (I.ok.hd hc) ht (by simp[hn,←hl,rv.length]) hst fun h' hx=> ?_
 have I1:Inv X pins σ H {s with heap:=h'}:=I.kept (t':=s.toks) fun b o e=>hx b o (Nat.ne_of_lt (Heap.lt_size e)) e
 exact h pins _ σ H xs _ Q I1 (by simpa using rv) hw
noncomputable def gSub(to ti:TE)(t:TSet):TG:=fun v σ H Q=>to σ H fun o H1=>ti σ H1 fun i H2=>t o i v H2 fun H3=>Q σ H3
theorem pg_sub{o i:Expr}{to ti:TE}{t:TSet}(ho:PE X o to)(hi:PE X i ti)(hs:PSet X t)
  (ha:∀v,assign (.Subscript o i pos) X.env v=(do
   let ov←holding [v] (eval o X.env)
   let iv←holding [v,ov] (eval i X.env)
   standAt pos
   holding [v,ov,iv] (setItem ov iv v)
   release [v,ov,iv] []):=by intro _;rfl):PG X (.Subscript o i pos) (gSub to ti t):=by
 intro pins s σ H v u Q I r h
 rw[ha]
 refine wpAny_bind (wpAny_holding (thn (ho pins s σ H _ I h) fun ov s1 ⟨x,H1,I1,r1,q1⟩=> ?_))
 refine wpAny_bind (wpAny_holding (thn (hi pins s1 σ H1 _ I1 q1) fun iv s2 ⟨y,H2,I2,r2,q2⟩=> ?_))
 refine wpAny_bind (wpAny_standAt (wpAny_bind (wpAny_holding (thn (hs pins s2 σ H2 x y v ov iv u _ I2 r1 r2 r q2) fun _ s3 ⟨H3,I3,q3⟩=> ?_))))
 exact wpAny_release ⟨σ,H3,I3,q3⟩
noncomputable def tAsg(te:TE)(g:TG):TS:=fun D σ H=>te σ H fun x H1=>g x σ H1 D.nx
theorem ps_asg{tg e:Expr}{te:TE}{g:TG}(he:PE X e te)(hg:PG X tg g)(hs:swapsWithSole [tg] e pos.line X.env=pure false:=by rfl)(hw:swappedStores [tg] e X.env=pure none:=by rfl)
  (h1:(assignEach [tg] X.env).map (·.2)=[assign tg X.env]:=by rfl):PS X (.Assign [tg] e pos) (tAsg te g):=by
 intro pins s σ H D I h
 refine wpAny_Assign_stores (thn (he pins s σ H _ I h) fun v s1 ⟨x,H1,I1,r1,q1⟩=> ?_) hs hw
 rw[h1]
 exact thn (hg pins s1 σ H1 x v _ I1 r1 q1) fun _ s2 q=>q
theorem ps_set{i:Nat}{x:Str}{e:Expr}{te:TE}{pos':Pos}(hN:X.N.Nodup)(hi:X.N[i]? =some x)(hx:Loc X.env.scope x)(he:PE X e te)(hs:swapsWith e (some (.Name x pos')) pos.line X.env=pure false:=by rfl)(hf:X.fn x=true∨X.env.scope.names.lookup x=some .local:=by first|exact .inl rfl|exact .inr rfl|assumption):
  PS X (.Assign [.Name x pos'] e pos) (tAsg te (gName i)):=by
 intro pins s σ H D I h
 refine wpAny_Assign_Name (thn (he pins s σ H _ I h) fun v s1 ⟨y,H1,I1,r1,q1⟩=> ?_) hs
 exact store_ok I1 hN hi hx r1 (fun s2 I2=>⟨_,H1,I2,q1⟩) hf
end
section
variable{X:Cx}{pos:Pos}
noncomputable def tWhile(c:TT)(tb:TS):TS:=fun D σ H=>∃W:Nat→St→Hp→Prop,(∃m,W m σ H)∧∀m σ H,W m σ H→
 c σ H fun b H1=>if b=true then∃N:St→Hp→Prop,(∀σ' H',N σ' H'→∃m',m'<m∧W m' σ' H')∧tb {D with nx:=N,ct:=N,bk:=D.nx} σ H1 else D.nx σ H1
theorem ps_while{c:Expr}{body:List Stmt}{tc:TT}{tb:TS}(hp:PassesOwn (model X.prog X.w) X.A X.env X.xe)(hc:PT X c tc)(hb:PSs X body tb):PS X (.While c body [] pos) (tWhile tc tb):=by
 intro pins s σ H D I h
 obtain⟨W,⟨m0,w0⟩,turn⟩:=h
 refine wpAny_While (codeAny_whileLoop (fun n s'=>∃σ' H',Inv X pins σ' H' s'∧W n σ' H') ?_ m0 ⟨σ,H,I,w0⟩)
 rintro n s1 ⟨σ1,H1,I1,w1⟩
 refine wpAny_passesOwn hp (thn (hc pins s1 σ1 H1 _ I1 (turn n σ1 H1 w1)) fun b s2 ⟨H2,I2,q2⟩=> ?_)
 cases b with
 |true=>
  obtain⟨N,hN,q2⟩:=q2
  rw[if_pos rfl]
  refine wpAny_passesOwn hp (thn (hb pins s2 σ1 H2 _ I2 q2) fun f s3 q3=> ?_)
  cases f with
  |next=>
   obtain⟨σ3,H3,I3,n3⟩:=q3
   obtain⟨m',hm,w3⟩:=hN σ3 H3 n3
   exact⟨m',hm,σ3,H3,I3,w3⟩
  |cont=>
   obtain⟨σ3,H3,I3,n3⟩:=q3
   obtain⟨m',hm,w3⟩:=hN σ3 H3 n3
   exact⟨m',hm,σ3,H3,I3,w3⟩
  |brk=>exact q3
  |ret v=>exact q3
 |false=>
  rw[if_neg Bool.false_ne_true]
  exact wpAny_execs_nil ⟨σ1,H2,I2,q2⟩
end
structure It where
 go:Nat→Hp→Prop
 yld:Nat→Hp→V→Hp→Prop
 stop:Nat→Hp→Prop
noncomputable def FpOk(X:Cx)(pins:List (Addr×Obj))(H:Hp)(b:Addr):Prop:=
 H b=none∧b≠X.env.locals∧b∉X.fs∧(b∈X.ex∨X.s₀.heap.objs.size≤b)∧(∀x c,X.env.cells.lookup x=some c→c≠b)∧∀p∈X.pn++pins,p.1≠b
theorem Inv.fpOk{X:Cx}{pins:List (Addr×Obj)}{σ:St}{H H':Hp}{s:Shared}{b:Addr}(I:Inv X pins σ H s)(hb:s.heap.objs.size≤b)(hn:H' b=none):FpOk X pins H' b:=by
 refine⟨hn,Nat.ne_of_gt (Nat.lt_of_lt_of_le I.lt hb),I.nofs hb, .inr (Nat.le_trans I.sz hb),fun x c e z=> ?_,fun p hp z=> ?_⟩
 ·obtain⟨v,q⟩:=I.cell x c e
  exact absurd (Nat.lt_of_lt_of_le q.lt (by rw[z];exact hb)) (Nat.lt_irrefl _)
 ·exact absurd (Nat.lt_of_lt_of_le (Heap.lt_size (I.pin p hp).1) (by rw[z];exact hb)) (Nat.lt_irrefl _)
structure Turn(P:Program)(w:World)(K:PySem.W.Frag)(tg:Expr)(J:It)(fp:List Addr)(it:Addr)(tn:Nat→Heap→Prop):Prop where
 mem:it∈fp
 obj:∀i h,tn i h→∀b∈fp,∃o,h.get? b=some o∧∀v,o.data≠ .cell v
 keep:∀i h h',tn i h→(∀b∈fp,∀o,h.get? b=some o→h'.get? b=some o)→tn i h'
 item:∀(X:Cx),X.prog=P→X.w=w→X.K=K→X.calm=true→∀(i:Nat) (pins:List (Addr×Obj)) (s:Shared) (σ:St) (H:Hp) (E:Value→Shared→Prop),Inv X pins σ H s→(∀b∈fp,FpOk X pins H b)→tn i s.heap→J.go i H→
  wpAny (model P w) X.A (pyNext (.ref it)) (fun r s1=>∃u,r=some u∧
   wpAny (model P w) X.A (letOwnedTupleGo tg (.ref it) u) (fun _ s2=>∃x H',Inv X pins σ H' s2∧RelV x u∧J.yld i H x H'∧tn (i+1) s2.heap∧∀b∈fp,H' b=none) E s1) E s
 done:∀(X:Cx),X.prog=P→X.w=w→X.K=K→X.calm=true→∀(i:Nat) (pins:List (Addr×Obj)) (s:Shared) (σ:St) (H:Hp) (E:Value→Shared→Prop),Inv X pins σ H s→(∀b∈fp,FpOk X pins H b)→tn i s.heap→J.stop i H→
  wpAny (model P w) X.A (pyNext (.ref it)) (fun r s1=>r=none∧Inv X pins σ H s1) E s
 self:∀(A:Around) (i:Nat) (s:Shared) (Q:Value→Shared→Prop) (E:Value→Shared→Prop),tn i s.heap→Q (.ref it) s→wpAny (model P w) A (pyIter (.ref it)) Q E s
noncomputable abbrev TI:=St→Hp→(It→Hp→Prop)→Prop
noncomputable def PIE(X:Cx)(pins:List (Addr×Obj))(σ:St)(tg:Expr)(R:It→Hp→Prop)(itv:Value)(s2:Shared):Prop:=
 ∃(it:Addr) (fp:List Addr) (tn:Nat→Heap→Prop) (J:It) (H':Hp),itv=.ref it∧Inv X pins σ H' s2∧Turn X.prog X.w X.K tg J fp it tn∧tn 0 s2.heap∧(∀b∈fp,FpOk X pins H' b)∧R J H'
noncomputable def PI(X:Cx)(tg iter:Expr)(wi:TI):Prop:=
 ∀(pins:List (Addr×Obj)) (s:Shared) (σ:St) (H:Hp) (R:It→Hp→Prop),Inv X pins σ H s→wi σ H R→
  wpAny (model X.prog X.w) X.A (eval iter X.env) (fun v s1=>wpAny (model X.prog X.w) X.A (pyIter v) (PIE X pins σ tg R) X.xe s1) X.xe s
theorem go_of {M : Model} {A : Around} {E : Value → Shared → Prop} {s : Shared} {tg : Expr} {it : Addr} {u : Value} {o : Obj} {n : String} {vs : Array Value} {Q : Unit → Shared → Prop} (ho : s.heap.get? it = some o) (hc : o.cls = .type n) (hd : o.data = .fields vs)
    (hn : ["enumerate", "zip", "dict_itemiterator", "dict_reverseitemiterator", "odict_iterator", "itertools.zip_longest", "itertools.pairwise"].contains n = false) (hQ : Q () s) : wpAny M A (letOwnedTupleGo tg (.ref it) u) Q E s := by
  unfold letOwnedTupleGo
  cases tg <;> first
    | exact wpAny_pure hQ
    | (cases u <;> first
        | exact wpAny_pure hQ
        | (refine wpAny_bind (wpAny_load ho ?_)
           rw [hc, hd]
           show wpAny M A (if (["enumerate", "zip", "dict_itemiterator", "dict_reverseitemiterator", "odict_iterator", "itertools.zip_longest", "itertools.pairwise"].contains n && vs[0]? == some (rawInt _)) = true then _ else _) Q E s
           rw [if_neg (by intro h; rw [hn, Bool.false_and] at h; cases h)]
           exact wpAny_pure hQ))
noncomputable def Itl(K:PySem.W.Frag)(a:Addr):It:=
 ⟨fun i H=>∃xs x,SqL K H a xs∧xs[i]? =some x,fun i H x H'=>H'=H∧∀xs,SqL K H a xs→xs[i]? =some x,fun i H=>∃xs,SqL K H a xs∧xs.length≤i⟩
noncomputable def Itt(K:PySem.W.Frag)(a:Addr):It:=
 ⟨fun i H=>∃xs x,SqT K H a xs∧xs[i]? =some x,fun i H x H'=>H'=H∧∀xs,SqT K H a xs→xs[i]? =some x,fun i H=>∃xs,SqT K H a xs∧xs.length≤i⟩
noncomputable def Itr(lo:Int)(n:Nat):It:=⟨fun i _=>i<n,fun i H x H'=>H'=H∧x=.int (lo+i),fun i _=>n≤i⟩
theorem turn_list{P:Program}{w:World}{K:PySem.W.Frag}{tg:Expr}(a it:Addr):Turn P w K tg (Itl K a) [it] it (fun i h=>h.IsListIter it a i) where
 mem:=by simp
 obj:=fun i h st b hb=>by
  have e:b=it:=by simpa using hb
  subst e
  obtain⟨o,e,c,d⟩:=st
  exact⟨o,e,fun v z=>by rw[d]at z;cases z⟩
 keep:=fun i h h' st k=>st.at fun o e=>k it (by simp) o e
 item:=by
  intro X hP hw hK hc i pins s σ H E I hf st hg
  subst hP hw hK
  obtain⟨xs,x,hq,hx⟩:=hg
  obtain⟨its,rv,p,hz⟩:=I.list hq
  obtain⟨u,hu,ru⟩:=rv.get hx
  obtain⟨f0,f1,f2,f3,f4,f5⟩:=hf it (by simp)
  refine wpAny_pyNext_list_item st p.isList (x:=u) (by simpa using hu) fun h' st' sb=> ?_
  have I1:Inv X pins σ H {s with heap:=h'}:=I.turned (t':=s.toks) (fun b o hb e=>(sb.2 b hb).trans e) f0 f1 f3 f4 f5
  obtain⟨o,e,c,d⟩:=id st'
  exact⟨u,rfl,go_of (s:={s with heap:=h'}) e c d (by decide) ⟨x,H,I1,ru,⟨rfl,fun ys hy=>by rw[I.list_inj hy hq];exact hx⟩,st',fun b hb=>(hf b hb).1⟩⟩
 done:=by
  intro X hP hw hK hc i pins s σ H E I hf st hg
  subst hP hw hK
  obtain⟨xs,hq,hx⟩:=hg
  obtain⟨its,rv,p,hz⟩:=I.list hq
  obtain⟨f0,f1,f2,f3,f4,f5⟩:=hf it (by simp)
  have hl:=rv.length
  exact wpAny_pyNext_list_end (I.ok.hd hc) st p.isList (by simp;omega) fun h' eb=>⟨rfl,I.turned (t':=s.toks) (fun b o hb e=>eb b o hb e) f0 f1 f3 f4 f5⟩
 self:=fun _ _ _ _ _ st h=>wpAny_pyIter_listiter st h
theorem turn_tuple{P:Program}{w:World}{K:PySem.W.Frag}{tg:Expr}(a it:Addr):Turn P w K tg (Itt K a) [it] it (fun i h=>h.IsTupleIter it a i) where
 mem:=by simp
 obj:=fun i h st b hb=>by
  have e:b=it:=by simpa using hb
  subst e
  obtain⟨o,e,c,d⟩:=st
  exact⟨o,e,fun v z=>by rw[d]at z;cases z⟩
 keep:=fun i h h' st k=>st.at fun o e=>k it (by simp) o e
 item:=by
  intro X hP hw hK hc i pins s σ H E I hf st hg
  subst hP hw hK
  obtain⟨xs,x,hq,hx⟩:=hg
  obtain⟨its,rv,p,hz⟩:=I.tuple hq
  obtain⟨u,hu,ru⟩:=rv.get hx
  obtain⟨f0,f1,f2,f3,f4,f5⟩:=hf it (by simp)
  refine wpAny_pyNext_tuple_item st (show s.heap.IsTuple a its.toArray from p) (x:=u) (by simpa using hu) fun h' st' sb=> ?_
  have I1:Inv X pins σ H {s with heap:=h'}:=I.turned (t':=s.toks) (fun b o hb e=>(sb.2 b hb).trans e) f0 f1 f3 f4 f5
  obtain⟨o,e,c,d⟩:=id st'
  exact⟨u,rfl,go_of (s:={s with heap:=h'}) e c d (by decide) ⟨x,H,I1,ru,⟨rfl,fun ys hy=>by rw[I.tuple_inj hy hq];exact hx⟩,st',fun b hb=>(hf b hb).1⟩⟩
 done:=by
  intro X hP hw hK hc i pins s σ H E I hf st hg
  subst hP hw hK
  obtain⟨xs,hq,hx⟩:=hg
  obtain⟨its,rv,p,hz⟩:=I.tuple hq
  obtain⟨f0,f1,f2,f3,f4,f5⟩:=hf it (by simp)
  have hl:=rv.length
  exact wpAny_pyNext_tuple_end (I.ok.hd hc) st (show s.heap.IsTuple a its.toArray from p) (by simp;omega) fun h' eb=>⟨rfl,I.turned (t':=s.toks) (fun b o hb e=>eb b o hb e) f0 f1 f3 f4 f5⟩
 self:=fun _ _ _ _ _ st h=>wpAny_pyIter_tupleiter st h
theorem turn_range{P:Program}{w:World}{K:PySem.W.Frag}{tg:Expr}(it:Addr)(lo:Int)(n:Nat):Turn P w K tg (Itr lo n) [it] it (fun i h=>IsRangeIter h it (lo+(i:Nat) * 1) ((n:Int) - (i:Nat)) 1) where
 mem:=by simp
 obj:=fun i h st b hb=>by
  have e:b=it:=by simpa using hb
  subst e
  exact⟨_,st,fun v z=>by
   have z':Data.fields _=Data.cell v:=z
   cases z'⟩
 keep:=fun i h h' st k=>k it (by simp) _ st
 item:=by
  intro X hP hw hK hc i pins s σ H E I hf st hg
  subst hP hw hK
  obtain⟨f0,f1,f2,f3,f4,f5⟩:=hf it (by simp)
  have W:=Walks.range (prog:=X.prog) (w:=X.w) (I.ok.hd hc) it lo 1 n
  refine W.item i s _ _ hg st fun v h' tk hv st' kk=> ?_
  obtain⟨t,rfl⟩:=hv
  have I1:Inv X pins σ H {s with heap:=h',toks:=tk}:=I.turned (fun b o hb e=>kk b o (by simpa using hb) e) f0 f1 f3 f4 f5
  refine⟨_,rfl,go_of (s:={s with heap:=h',toks:=tk}) (n:="range_iterator") st' rfl rfl (by decide) ⟨.int (lo+i),H,I1,⟨t,?_⟩,⟨rfl,rfl⟩,st',fun b hb=>(hf b hb).1⟩⟩
  rw[Int.mul_one]
 done:=by
  intro X hP hw hK hc i pins s σ H E I hf st hg
  subst hP hw hK
  obtain⟨f0,f1,f2,f3,f4,f5⟩:=hf it (by simp)
  exact wpAny_pyNext_range_end (I.ok.hd hc) st (by have:n≤i:=hg;omega) fun h' eb=>⟨rfl,I.turned (t':=s.toks) (fun b o hb e=>eb b o hb e) f0 f1 f3 f4 f5⟩
 self:=fun _ _ _ _ _ st h=>wpAny_pyIter_rangeiter st h
end L2
namespace L2
open PySem PySem.Spec PyProof.Rows
section
variable{X:Cx}{tg:Expr}
theorem range_it{pins:List (Addr×Obj)}{σ:St}{H:Hp}{s:Shared}{R:It→Hp→Prop}{E:Value→Shared→Prop}{lo hi:Int}{t u v:Tok}{tk:Nat}(I:Inv X pins σ H s)(h1: -(2 ^ 62)≤lo)(h2:lo<2 ^ 62)(h3: -(2 ^ 62)≤hi)(h4:hi<2 ^ 62)
  (q:R (Itr lo (hi - lo).toNat) H):wpAny (model X.prog X.w) X.A (pyIter (.ref s.heap.objs.size)) (PIE X pins σ tg R) E {s with heap:=s.heap.push {cls:=.type "range",data:=.fields #[.int lo t, .int hi u, .int 1 v]},toks:=tk}:=by
 refine wpAny_pyIter_range (IsRange.new ..) (small_one h1 h2 h3 h4) ?_
 have I1:Inv X pins σ H {s with heap:=s.heap.push {cls:=.type "range",data:=.fields #[.int lo t, .int hi u, .int 1 v]},toks:=tk}:=I.kept fun b o e=>Heap.get?_push_of_some _ e
 refine⟨(s.heap.push {cls:=.type "range",data:=.fields #[.int lo t, .int hi u, .int 1 v]}).objs.size,[(s.heap.push {cls:=.type "range",data:=.fields #[.int lo t, .int hi u, .int 1 v]}).objs.size],_,_,H,rfl,
  I1.kept (t':=tk) fun b o e=>Heap.get?_push_of_some _ e,turn_range _ lo (hi - lo).toNat,?_,fun b hb=> ?_,q⟩
 ·have e1:lo+((0:Nat):Int) * 1=lo:=by simp
  have e2:(((hi - lo).toNat:Nat):Int) - ((0:Nat):Int)=Builtin.Range.rangeSize lo hi 1:=by rw[rangeSize_one];split<;>omega
  show IsRangeIter _ _ (lo+((0:Nat):Int) * 1) ((((hi - lo).toNat:Nat):Int) - ((0:Nat):Int)) 1
  rw[e1,e2]
  exact Heap.get?_push_size _ rfl
 ·have e:b=(s.heap.push {cls:=.type "range",data:=.fields #[.int lo t, .int hi u, .int 1 v]}).objs.size:=by simpa using hb
  subst e
  exact I1.fpOk (Nat.le_refl _) (I1.hok.fresh (Nat.le_refl _))
noncomputable def iRng1(ta:TA):TI:=fun σ H R=>ta σ H fun vs H1=>∃j:Int,vs=[.int j]∧ -(2 ^ 62)≤j∧j<2 ^ 62∧R (Itr 0 j.toNat) H1
noncomputable def iRng2(ta:TA):TI:=fun σ H R=>ta σ H fun vs H1=>∃i j:Int,vs=[.int i, .int j]∧(-(2 ^ 62)≤i∧i<2 ^ 62∧ -(2 ^ 62)≤j∧j<2 ^ 62)∧R (Itr i (j - i).toNat) H1
theorem pi_range1{a:Expr}{ta:TA}{p pos:Pos}(hg:Gl X "range")(hm:X.mg "range"=none)(ha:PA X [a] ta)(hs:starEach [a] X.env=[(false,eval a X.env)]:=by rfl):PI X tg (.Call (.Name "range" p) [a] [] pos) (iRng1 ta):=by
 intro pins s σ H R I h
 refine Call_ (ld_blt I hg hm boot_range (PyProof.Rows.callWith_type1 (thn (ha pos pins s σ H _ I h) fun us s1 ⟨vs,H1,I1,r1,q1⟩=> ?_) hs rfl))
 obtain⟨j,e,q1,q2,q⟩:=q1
 subst e
 cases r1 with
 |cons r rr=>
  cases rr
  obtain⟨t,rfl⟩:=r
  exact call_range_1 (range_it I1 (by omega) (by omega) q1 q2 (by simpa using q))
theorem pi_range2{a b:Expr}{ta:TA}{p pos:Pos}(hg:Gl X "range")(hm:X.mg "range"=none)(ha:PA X [a,b] ta)(hs:starEach [a,b] X.env=[(false,eval a X.env),(false,eval b X.env)]:=by rfl)(hs2:starEach [b] X.env=[(false,eval b X.env)]:=by rfl):
  PI X tg (.Call (.Name "range" p) [a,b] [] pos) (iRng2 ta):=by
 intro pins s σ H R I h
 refine Call_ (ld_blt I hg hm boot_range (PyProof.Rows.callWith_type1 (thn (ha pos pins s σ H _ I h) fun us s1 ⟨vs,H1,I1,r1,q1⟩=> ?_) (by rw[hs,hs2]) (by rw[hs2];rfl)))
 obtain⟨i,j,e,⟨q1,q2,q3,q4⟩,q⟩:=q1
 subst e
 cases r1 with
 |cons r rr=>
  cases rr with
  |cons r' rr=>
   cases rr
   obtain⟨t,rfl⟩:=r
   obtain⟨t',rfl⟩:=r'
   exact call_range_2 (range_it I1 q1 q2 q3 q4 q)
noncomputable def tFor(wi:TI)(g:TG)(tb:TS):TS:=fun D σ H=>wi σ H fun J H1=>∃W:Nat→Nat→St→Hp→Prop,(∃m,W 0 m σ H1)∧∀i m σ H,W i m σ H→
 (J.stop i H∧D.nx σ H)∨(J.go i H∧∃N:St→Hp→Prop,(∀σ' H',N σ' H'→∃m',m'<m∧W (i+1) m' σ' H')∧∀x H',J.yld i H x H'→g x σ H' fun σ2 H2=>tb {D with nx:=N,ct:=N,bk:=D.nx} σ2 H2)
noncomputable def pinsAt(fp:List Addr)(h:Heap):List (Addr×Obj):=fp.filterMap fun b=>(h.get? b).map fun o=>(b,o)
theorem mem_pinsAt{fp:List Addr}{h:Heap}{b:Addr}{o:Obj}(hb:b∈fp)(e:h.get? b=some o):(b,o)∈pinsAt fp h:=List.mem_filterMap.mpr ⟨b,hb,by rw[e];rfl⟩
theorem of_pinsAt{fp:List Addr}{h:Heap}{p:Addr×Obj}(hp:p∈pinsAt fp h):p.1∈fp∧h.get? p.1=some p.2:=by
 obtain⟨b,hb,e⟩:=List.mem_filterMap.mp hp
 cases q:h.get? b with
 |none=>rw[q]at e;cases e
 |some o=>
  rw[q]at e
  have e':(b,o)=p:=Option.some.inj e
  subst e'
  exact⟨hb,q⟩
theorem Inv.pinned{pins:List (Addr×Obj)}{σ:St}{H:Hp}{s:Shared}{fp:List Addr}(I:Inv X pins σ H s)(hf:∀b∈fp,FpOk X pins H b)(ho:∀b∈fp,∃o,s.heap.get? b=some o∧∀v,o.data≠ .cell v):Inv X (pins++pinsAt fp s.heap) σ H s:=
 I.pins_of fun p hp=>(List.mem_append.mp hp).elim (fun z=>I.pin p (List.mem_append_right _ z)) fun z=>by
  obtain⟨hb,e⟩:=of_pinsAt z
  obtain⟨f0,f1,f2,_⟩:=hf p.1 hb
  obtain⟨o,e',d⟩:=ho p.1 hb
  rw[e]at e';cases e'
  exact⟨e,f0,f1,f2,d⟩
theorem Inv.unpinned{pins pl:List (Addr×Obj)}{σ:St}{H:Hp}{s:Shared}(I:Inv X (pins++pl) σ H s):Inv X pins σ H s:=I.pins_of fun p hp=>I.pin p (List.mem_append_right _ (List.mem_append_left _ hp))
theorem ps_for{iter:Expr}{body:List Stmt}{wi:TI}{g:TG}{tb:TS}{pos:Pos}(hp:PassesOwn (model X.prog X.w) X.A X.env X.xe)(hc:X.calm=true)(hi:PI X tg iter wi)(hg:PG X tg g)(hb:PSs X body tb)
  (hs:∀x,foldedSetIterable iter X.env x=pure x:=by intro _;rfl):PS X (.For tg iter body [] pos) (tFor wi g tb):=by
 intro pins s σ H D I h
 refine wpAny_For (thn (hi pins s σ H _ I h) fun v s1 h1=>thn h1 fun itv s2 h2=> ?_) hs
 obtain⟨it,fp,tn,J,H2,e,I2,T,st2,f2,W,⟨m0,w0⟩,turn⟩:=h2
 subst e
 have stat:∀{H':Hp},(∀b∈fp,H' b=none)→∀b∈fp,FpOk X pins H' b:=fun hn b hb=>⟨hn b hb,(f2 b hb).2⟩
 refine codeAny_forLoop_any (fun n s'=>∃i σ' H',Inv X pins σ' H' s'∧tn i s'.heap∧(∀b∈fp,H' b=none)∧W i n σ' H') ?_ m0 ⟨0,σ,H2,I2,st2,fun b hb=>(f2 b hb).1,w0⟩
 rintro n s3 ⟨i,σ3,H3,I3,st3,fr3,w3⟩
 rcases turn i n σ3 H3 w3 with⟨stop,qn⟩|⟨go,N,hN,step⟩
 ·refine wpAny_passesOwn hp (thn (T.done X rfl rfl rfl hc i pins s3 σ3 H3 X.xe I3 (stat fr3) st3 stop) fun r s4 ⟨hr,I4⟩=> ?_)
  subst hr
  exact wpAny_execs_nil ⟨σ3,H3,I4,qn⟩
 ·refine wpAny_passesOwn hp (thn (T.item X rfl rfl rfl hc i pins s3 σ3 H3 X.xe I3 (stat fr3) st3 go) fun r s4 ⟨u,hr,h4⟩=> ?_)
  subst hr
  refine wpAny_passesOwn hp (thn h4 fun _ s5 ⟨x,H5,I5,r5,y5,st5,fr5⟩=> ?_)
  have I5':=I5.pinned (stat fr5) (T.obj _ _ st5)
  refine wpAny_passesOwn hp (thn (hg _ s5 σ3 H5 x u _ I5' r5 (step x H5 y5)) fun _ s6 ⟨σ6,H6,I6,q6⟩=> ?_)
  refine wpAny_passesOwn hp (thn (hb _ s6 σ6 H6 _ I6 q6) fun f s7 q7=> ?_)
  have again:∀{σ7:St} {H7:Hp},Inv X (pins++pinsAt fp s5.heap) σ7 H7 s7→N σ7 H7→∃m,m<n∧∃i σ' H',Inv X pins σ' H' s7∧tn i s7.heap∧(∀b∈fp,H' b=none)∧W i m σ' H':=fun{σ7 H7} I7 n7=>by
   obtain⟨m',hm,w7⟩:=hN σ7 H7 n7
   refine⟨m',hm,i+1,σ7,H7,I7.unpinned,T.keep _ _ _ st5 fun b hb o e=>(I7.pin (b,o) (List.mem_append_right _ (List.mem_append_right _ (mem_pinsAt hb e)))).1,fun b hb=> ?_,w7⟩
   obtain⟨o,e,d⟩:=T.obj _ _ st5 b hb
   exact(I7.pin (b,o) (List.mem_append_right _ (List.mem_append_right _ (mem_pinsAt hb e)))).2.1
  cases f with
  |next=>obtain⟨σ7,H7,I7,n7⟩:=q7;exact again I7 n7
  |cont=>obtain⟨σ7,H7,I7,n7⟩:=q7;exact again I7 n7
  |brk=>obtain⟨σ7,H7,I7,q7⟩:=q7;exact⟨σ7,H7,I7.unpinned,q7⟩
  |ret v=>obtain⟨x7,σ7,H7,I7,r7,q7⟩:=q7;exact⟨x7,σ7,H7,I7.unpinned,r7,q7⟩
end
end L2
namespace L2
open PySem PySem.Spec PyProof.Rows
noncomputable abbrev R2:=V→V→Hp→VK→Prop
noncomputable def OpR(X:Cx)(f:Value→Value→Sem Value)(r:R2):Prop:=
 ∀(pins:List (Addr×Obj)) (s:Shared) (σ:St) (H:Hp) (x y:V) (v u:Value) (Q:VK),Inv X pins σ H s→RelV x v→RelV y u→r x y H Q→
  wpAny (model X.prog X.w) X.A (f v u) (EP X pins σ Q) X.xe s
noncomputable def CallR(X:Cx)(f:Value)(r:List V→Hp→VK→Prop):Prop:=
 ∀(pins:List (Addr×Obj)) (s:Shared) (σ:St) (H:Hp) (xs:List V) (us:List Value) (Q:VK),Inv X pins σ H s→Vals xs us→r xs H Q→
  wpAny (model X.prog X.w) X.A (call f us) (EP X pins σ Q) X.xe s
noncomputable def TruR(X:Cx)(r:V→Hp→(Bool→Hp→Prop)→Prop):Prop:=
 ∀(pins:List (Addr×Obj)) (s:Shared) (σ:St) (H:Hp) (x:V) (v:Value) (Q:Bool→Hp→Prop),Inv X pins σ H s→RelV x v→r x H Q→
  wpAny (model X.prog X.w) X.A (truthy v) (TP X pins σ Q) X.xe s
noncomputable def tOp(r:R2)(ta tb:TE):TE:=fun σ H Q=>ta σ H fun x H1=>tb σ H1 fun y H2=>r x y H2 Q
noncomputable def rI(C:Int→Int→Prop)(g:Int→Int→V):R2:=fun x y H Q=>∃i j,x=.int i∧y=.int j∧C i j∧Q (g i j) H
noncomputable def rI0(g:Int→Int→V):R2:=fun x y H Q=>∃i j,x=.int i∧y=.int j∧Q (g i j) H
section
variable{X:Cx}{a b c:Expr}{ta tb tc:TE}{pos:Pos}
theorem binT(ha:PE X a ta)(hb:PE X b tb){pins:List (Addr×Obj)}{s:Shared}{σ:St}{H:Hp}{R:V→V→Hp→Prop}(I:Inv X pins σ H s)
  (h:ta σ H fun x H1=>tb σ H1 fun y H2=>R x y H2) {Q:Value→Shared→Prop} {f:Value→Value→Sem Value}
  (hf:∀v u s2 x y H2,Inv X pins σ H2 s2→RelV x v→RelV y u→R x y H2→wpAny (model X.prog X.w) X.A (f v u) Q X.xe s2):
  wpAny (model X.prog X.w) X.A (eval a X.env) (fun v s₁=>wpAny (model X.prog X.w) X.A (eval b X.env) (fun u s₂=>wpAny (model X.prog X.w) X.A (f v u) Q X.xe s₂) X.xe s₁) X.xe s:=by
 refine thn (ha pins s σ H _ I h) fun v s1 ⟨x,H1,I1,r1,q1⟩=> ?_
 refine thn (hb pins s1 σ H1 _ I1 q1) fun u s2 ⟨y,H2,I2,r2,q2⟩=> ?_
 exact hf v u s2 x y H2 I2 r1 r2 q2
theorem pe_op{op:Operator}{r:R2}(ho:OpR X (binaryOp op) r)(ha:PE X a ta)(hb:PE X b tb):PE X (.BinOp a op b pos) (tOp r ta tb):=by
 intro pins s σ H Q I h
 exact wpAny_BinOp (binT ha hb I h fun v u s2 x y H2 I2 rx ry q=>ho pins s2 σ H2 x y v u Q I2 rx ry q)
theorem opI{f:Value→Value→Sem Value}{C:Int→Int→Prop}{g:Int→Int→Int}
  (rule:∀(i j:Int) (t u:Tok) (s:Shared) (Q:Value→Shared→Prop) (E:Value→Shared→Prop),C i j→Q (.int (g i j) s.toks) {s with toks:=s.toks+1}→wpAny (model X.prog X.w) X.A (f (.int i t) (.int j u)) Q E s):
  OpR X f (rI C fun i j=>.int (g i j)):=by
 intro pins s σ H x y v u Q I rx ry h
 obtain⟨i,j,rfl,rfl,hc,q⟩:=h
 obtain⟨t,rfl⟩:=rx
 obtain⟨t',rfl⟩:=ry
 exact rule i j t t' s _ _ hc ⟨.int (g i j),H,I.tok _,⟨_,rfl⟩,q⟩
theorem opI0{f:Value→Value→Sem Value}{g:Int→Int→Int}
  (rule:∀(i j:Int) (t u:Tok) (s:Shared) (Q:Value→Shared→Prop) (E:Value→Shared→Prop),Q (.int (g i j) s.toks) {s with toks:=s.toks+1}→wpAny (model X.prog X.w) X.A (f (.int i t) (.int j u)) Q E s):
  OpR X f (rI0 fun i j=>.int (g i j)):=by
 intro pins s σ H x y v u Q I rx ry h
 obtain⟨i,j,rfl,rfl,q⟩:=h
 obtain⟨t,rfl⟩:=rx
 obtain⟨t',rfl⟩:=ry
 exact rule i j t t' s _ _ ⟨.int (g i j),H,I.tok _,⟨_,rfl⟩,q⟩
theorem opB0{f:Value→Value→Sem Value}{g:Int→Int→Bool}
  (rule:∀(i j:Int) (t u:Tok) (s:Shared) (Q:Value→Shared→Prop) (E:Value→Shared→Prop),Q (.bool (g i j)) s→wpAny (model X.prog X.w) X.A (f (.int i t) (.int j u)) Q E s):
  OpR X f (rI0 fun i j=>.bl (g i j)):=by
 intro pins s σ H x y v u Q I rx ry h
 obtain⟨i,j,rfl,rfl,q⟩:=h
 obtain⟨t,rfl⟩:=rx
 obtain⟨t',rfl⟩:=ry
 exact rule i j t t' s _ _ ⟨.bl (g i j),H,I,rfl,q⟩
noncomputable def CDiv(i j:Int):Prop:=0<j∧j<1073741824
noncomputable def CMul(i j:Int):Prop:=(-(2 ^ 64)<i∧i<2 ^ 64)∨(-(2 ^ 64)<j∧j<2 ^ 64)
theorem CMul.ok{i j:Int}(h:CMul i j):IntMulOk i j:=by
 rcases h with⟨h1,h2⟩|⟨h1,h2⟩
 ·exact .of_left (intBits_le_64 h1 h2)
 ·exact .of_right (intBits_le_64 h1 h2)
theorem op_add:OpR X (binaryOp .Add) (rI0 fun i j=>.int (i+j)):=opI0 fun _ _ _ _ _ _ _ q=>add_int q
theorem op_sub:OpR X (binaryOp .Sub) (rI0 fun i j=>.int (i - j)):=opI0 fun _ _ _ _ _ _ _ q=>sub_int q
theorem op_mul:OpR X (binaryOp .Mult) (rI CMul fun i j=>.int (i * j)):=opI fun _ _ _ _ _ _ _ hc q=>mul_int q hc.ok
theorem op_fdiv:OpR X (binaryOp .FloorDiv) (rI CDiv fun i j=>.int (i / j)):=opI fun i j _ _ _ _ _ hc q=>by
 have h1:(0:Int)<j:=hc.1
 have h2:j<1073741824:=hc.2
 exact floordiv_int (by omega) (by rw[Int.fdiv_eq_ediv_of_nonneg i (by omega)];exact q) (.inl (PyProof.noPylong_small (by omega)))
theorem op_mod:OpR X (binaryOp .Mod) (rI (fun _ j=>0<j) fun i j=>.int (i%j)):=opI fun i j _ _ _ _ _ hc q=>by
 have h1:(0:Int)<j:=hc
 exact mod_int' (by omega) (by rw[Int.fmod_eq_emod_of_nonneg i (by omega)];exact q)
end
section
variable{X:Cx}{a b c:Expr}{ta tb tc:TE}{pos:Pos}
theorem op_lt:OpR X (compareOp .Lt) (rI0 fun i j=>.bl (decide (i<j))):=opB0 fun _ _ _ _ _ _ _ q=>lt_int q
theorem op_le:OpR X (compareOp .LtE) (rI0 fun i j=>.bl (decide (i≤j))):=opB0 fun _ _ _ _ _ _ _ q=>le_int q
theorem op_gt:OpR X (compareOp .Gt) (rI0 fun i j=>.bl (decide (j<i))):=opB0 fun _ _ _ _ _ _ _ q=>gt_int q
theorem op_ge:OpR X (compareOp .GtE) (rI0 fun i j=>.bl (decide (j≤i))):=opB0 fun _ _ _ _ _ _ _ q=>ge_int q
theorem nomark(b:Expr){op:CmpOp}(h:op≠ .In:=by decide)(h2:op≠ .NotIn:=by decide):behindInMarks op b=false:=by
 have e1:(op == CmpOp.In)=false:=by cases op<;>first|rfl|exact absurd rfl h
 have e2:(op == CmpOp.NotIn)=false:=by cases op<;>first|rfl|exact absurd rfl h2
 cases b<;>simp[behindInMarks,e1,e2]
theorem pe_cmpR{op:CmpOp}{r:R2}(ho:OpR X (compareOp op) r)(ha:PE X a ta)(hb:PE X b tb)(hm:behindInMarks op b=false):PE X (.Compare a [op] [b] pos) (tOp r ta tb):=by
 intro pins s σ H Q I h
 exact wpAny_Compare1 (binT ha hb I h fun v u s2 x y H2 I2 rx ry q=>ho pins s2 σ H2 x y v u Q I2 rx ry q) hm
noncomputable def tTest(t:TE):TT:=fun σ H Q=>t σ H fun x H'=>∃k,x=.bl k∧Q k H'
theorem pt_cmpR{op:CmpOp}{r:R2}(ho:OpR X (compareOp op) r)(ha:PE X a ta)(hb:PE X b tb)(hm:behindInMarks op b=false):PT X (.Compare a [op] [b] pos) (tTest (tOp r ta tb)):=by
 intro pins s σ H Q I h
 refine wpAny_isTrue_Compare1 (thn (ha pins s σ H _ I h) fun v s1 ⟨x,H1,I1,r1,q1⟩=>thn (hb pins s1 σ H1 _ I1 q1) fun u s2 ⟨y,H2,I2,r2,q2⟩=>
  thn (ho pins s2 σ H2 x y v u _ I2 r1 r2 q2) fun c s3 ⟨z,H3,I3,r3,k,e,q3⟩=> ?_) hm
 subst e
 cases r3
 exact wpAny_truthy_bool ⟨H3,I3,q3⟩
noncomputable def tChain(r r':R2)(ta tb tc:TE):TE:=fun σ H Q=>ta σ H fun x H1=>tb σ H1 fun y H2=>r x y H2 fun z H3=>∃k,z=.bl k∧
 (if k=true then tc σ H3 fun w' H4=>r' y w' H4 Q else Q (.bl false) H3)
theorem pe_chain{op op':CmpOp}{r r':R2}(ho:OpR X (compareOp op) r)(ho':OpR X (compareOp op') r')(ha:PE X a ta)(hb:PE X b tb)(hc:PE X c tc)
  (hm:lastMarks [op,op'] [b,c]=false:=by with_unfolding_all rfl):PE X (.Compare a [op,op'] [b,c] pos) (tChain r r' ta tb tc):=by
 intro pins s σ H Q I h
 refine Compare_chain (thn (ha pins s σ H _ I h) fun v s1 ⟨x,H1,I1,r1,q1⟩=>chain_link (thn (hb pins s1 σ H1 _ I1 q1) fun u s2 ⟨y,H2,I2,r2,q2⟩=>
  thn (ho pins s2 σ H2 x y v u _ I2 r1 r2 q2) fun d s3 ⟨z,H3,I3,r3,k,e,q3⟩=> ?_)) hm
 subst e
 cases r3
 refine wpAny_truthy_bool ?_
 cases k with
 |false=>exact ite_ff ⟨.bl false,H3,I3,rfl,q3⟩
 |true=>exact ite_tt (chain_last (thn (hc pins s3 σ H3 _ I3 q3) fun w' s4 ⟨z',H4,I4,r4,q4⟩=>ho' pins s4 σ H4 y z' u w' Q I4 r2 r4 q4))
theorem pt_chain{op op':CmpOp}{r r':R2}(ho:OpR X (compareOp op) r)(ho':OpR X (compareOp op') r')(ha:PE X a ta)(hb:PE X b tb)(hc:PE X c tc)
  (hm:lastMarks [op,op'] [b,c]=false:=by with_unfolding_all rfl):PT X (.Compare a [op,op'] [b,c] pos) (tTest (tChain r r' ta tb tc)):=by
 intro pins s σ H Q I h
 refine isTrue_chain (thn (ha pins s σ H _ I h) fun v s1 ⟨x,H1,I1,r1,q1⟩=>test_link (thn (hb pins s1 σ H1 _ I1 q1) fun u s2 ⟨y,H2,I2,r2,q2⟩=>
  thn (ho pins s2 σ H2 x y v u _ I2 r1 r2 q2) fun d s3 ⟨z,H3,I3,r3,k,e,q3⟩=> ?_)) hm
 subst e
 cases r3
 refine wpAny_truthy_bool ?_
 cases k with
 |false=>
  obtain⟨k',e',q'⟩:=q3
  cases e'
  exact ite_ff ⟨H3,I3,q'⟩
 |true=>
  refine ite_tt (test_last (thn (hc pins s3 σ H3 _ I3 q3) fun w' s4 ⟨z',H4,I4,r4,q4⟩=>thn (ho' pins s4 σ H4 y z' u w' _ I4 r2 r4 q4) fun d' s5 ⟨z2,H5,I5,r5,k2,e2,q5⟩=> ?_))
  subst e2
  cases r5
  exact wpAny_truthy_bool ⟨H5,I5,q5⟩
noncomputable def TruV(K:PySem.W.Frag)(x:V)(H:Hp)(k:Bool):Prop:=
 match x with
 | .non=>k=false
 | .bl b=>k=b
 | .int i=>k=(i != 0)
 | .str y=>y.length≤sizeLine∧k=((y.length:Int) != 0)
 | .byt y=>y.size≤sizeLine∧k=((y.size:Int) != 0)
 | .ref p=>(∃xs,SqL K H p xs∧k= !xs.isEmpty)∨(∃xs,SqT K H p xs∧k= !xs.isEmpty)∨∃kvs,H p=some (.dK kvs)∧k= !kvs.isEmpty
 |_=>False
theorem isEmpty_kv{κ:Type}{kvs:List (κ×V)}{vs:List (κ×Value)}(r:KV kvs vs):(!vs.isEmpty)= !kvs.isEmpty:=by
 cases r<;>rfl
theorem isEmpty_of{xs:List V}{its:List Value}(r:Vals xs its):(!its.toArray.isEmpty)= !xs.isEmpty:=by
 cases r<;>simp
theorem line63:(sizeLine:Nat)<2 ^ 63:=by rw[sizeLine_eq];decide
theorem tru_ok:TruR X (fun x H Q=>∃k,TruV X.K x H k∧Q k H):=by
 intro pins s σ H x v Q I rx h
 obtain⟨k,e,q⟩:=h
 have hl:=line63
 have hs:sizeLine=16777216:=sizeLine_eq
 cases x with
 |non=>
  cases rx
  have e':k=false:=e
  subst e'
  exact truthy_none ⟨H,I,q⟩
 |bl b=>
  cases rx
  have e':k=b:=e
  subst e'
  exact wpAny_truthy_bool ⟨H,I,q⟩
 |int i=>
  obtain⟨t,rfl⟩:=rx
  have e':k=(i != 0):=e
  subst e'
  exact PySem.P.truthy_int ⟨H,I,q⟩
 |str y=>
  obtain⟨t,rfl⟩:=rx
  obtain⟨hy,e'⟩:y.length≤sizeLine∧k=((y.length:Int) != 0):=e
  subst e'
  exact PySem.P.truthy_str (by omega) ⟨H,I.tok _,q⟩
 |byt y=>
  obtain⟨t,rfl⟩:=rx
  obtain⟨hy,e'⟩:y.size≤sizeLine∧k=((y.size:Int) != 0):=e
  subst e'
  exact PySem.W.truthy_bytes (by omega) ⟨H,I.tok _,q⟩
 |ref p=>
  cases rx
  have e':(∃xs,SqL X.K H p xs∧k= !xs.isEmpty)∨(∃xs,SqT X.K H p xs∧k= !xs.isEmpty)∨∃kvs,H p=some (.dK kvs)∧k= !kvs.isEmpty:=e
  rcases e' with⟨xs,hx,e'⟩|⟨xs,hx,e'⟩|⟨kvs,hx,e'⟩
  ·subst e'
   obtain⟨its,r,pl,hz⟩:=I.list hx
   have hlen:=r.length
   exact wpAny_truthy_list pl.isList (by simp only[List.size_toArray];omega) ⟨H,I.tok _,by rw[isEmpty_of r];exact q⟩
  ·subst e'
   obtain⟨its,r,pl,hz⟩:=I.tuple hx
   have hlen:=r.length
   exact truthy_tuple pl (by simp only[List.size_toArray];omega) ⟨H,I.tok _,by rw[isEmpty_of r];exact q⟩
  ·subst e'
   obtain⟨hz,hS,vs,r,m⟩:kvs.length≤sizeLine∧(p == sysModules)=false∧∃vs,KV kvs vs∧s.heap.DictOf (mixKind X.prog X.w) p vs:=I.hok p _ hx
   have hlen:kvs.length=vs.length:=Paired.length r
   exact wpAny_truthy_dict hS m (by omega) ⟨H,I.tok _,by rw[isEmpty_kv r];exact q⟩
 |_=>exact(show False from e).elim
theorem pt_truth(ha:PE X a ta)(he:∀whole,isTrue a X.env whole=(do let v←whole;standAt a.pos;holding [v] (truthy v))):
  PT X a (fun σ H Q=>ta σ H fun x H'=>∃k,TruV X.K x H' k∧Q k H'):=by
 intro pins s σ H Q I h
 exact isTrue_plain (thn (ha pins s σ H _ I h) fun v s1 ⟨x,H1,I1,r1,q1⟩=>tru_ok pins s1 σ H1 x v Q I1 r1 q1) (he _)
theorem vals1{x:V}{us:List Value}(r:Vals [x] us):∃u,us=[u]∧RelV x u:=by
 cases r with
 |cons r1 r2=>cases r2;exact⟨_,rfl,r1⟩
theorem vals2{x y:V}{us:List Value}(r:Vals [x,y] us):∃u w',us=[u,w']∧RelV x u∧RelV y w':=by
 cases r with
 |cons r1 r2=>
  cases r2 with
  |cons r3 r4=>cases r4;exact⟨_,_,rfl,r1,r3⟩
end
end L2
namespace L2
open PySem PySem.Spec PyProof.Rows
structure ObjM(h:Heap)(x dx C:Addr)(mA:Str→Option Value):Prop where
 obj:h.get? x=some (PySem.W.instObj C dx)
 ns:h.Ns1 dx mA
 ne:dx≠x
section
variable{prog:Program}{w:World}{A:Around}{E:Value→Shared→Prop}{s:Shared}{K:PySem.W.Frag}{x dx C f:Addr}{mA:Str→Option Value}{name:Str}{v:Value}
end
theorem RelO.some_of{v:V}{o:Option Value}(r:RelO (some v) o):∃u,o=some u∧RelV v u:=by
 cases o with
 |none=>exact(show False from r).elim
 |some u=>exact⟨u,rfl,r⟩
section
variable{P:Program}{w:World}{H H':Hp}{h h':Heap}{a C dx:Addr}{fs fs':List (Str×V)}
end
structure Cls(K:PySem.W.Frag)(C:Addr):Prop where
 pg:PySem.W.plainGet K C Str.empty=true
 hd:PySem.W.hasDictIn K C=true
 po:PySem.W.plainOver K C=true
 sa:PySem.W.findIn K (.ref C) "__setattr__"=some (some (.builtin "object.__setattr__"))
structure Con(K:PySem.W.Frag)(C:Addr)(f:Str)(v:V)(u:Value):Prop where
 at_:PySem.W.findIn K (.ref C) f=some (some u)
 rel:RelV v u
 get:PySem.W.specialIn K u "__get__"=some none
 cp:PySem.W.copiedNames.contains f=false
structure Meth(K:PySem.W.Frag)(C:Addr)(m:Str)(f:Addr):Prop where
 at_:PySem.W.findIn K (.ref C) m=some (some (.ref f))
 fn:PySem.W.isFn K (.ref f)=true
 kp:PySem.W.keepIn K (.ref f)=true
section
variable{X:Cx}{pins:List (Addr×Obj)}{σ:St}{H:Hp}{s:Shared}{a C dx:Addr}{fs:List (Str×V)}{f:Str}{v:V}{A:Around}{E:Value→Shared→Prop}
theorem Inv.made(I:Inv X pins σ H s):Inv X pins σ (upd (upd H s.heap.objs.size (.own (s.heap.objs.size+1))) (s.heap.objs.size+1) (.ins C s.heap.objs.size []))
  {s with heap:=(s.heap.push PySem.W.emptyDict).push (PySem.W.instObj C s.heap.objs.size)}:=by
 have e1:(s.heap.push PySem.W.emptyDict).get? s.heap.objs.size=some PySem.W.emptyDict:=Heap.get?_push_size s.heap rfl
 have e2:((s.heap.push PySem.W.emptyDict).push (PySem.W.instObj C s.heap.objs.size)).get? (s.heap.objs.size+1)=some (PySem.W.instObj C s.heap.objs.size):=by
  have:=Heap.get?_push_size (s.heap.push PySem.W.emptyDict) (o:=PySem.W.instObj C s.heap.objs.size) rfl
  rwa [Heap.size_push]at this
 have e3:(s.heap.push PySem.W.emptyDict).Ns s.heap.objs.size (fun _=>none):=⟨PySem.W.emptyDict,#[],_,e1,rfl,(fun e he=>absurd he (by simp)),fun _=>rfl⟩
 have I1:=I.laid (a:=s.heap.objs.size) (o:=.own (s.heap.objs.size+1)) (h':=s.heap.push PySem.W.emptyDict) (t':=s.toks) (fun b u q=>Heap.get?_push_of_some _ q) (Nat.le_refl _) ⟨_,e1⟩
 refine I1.laid (a:=s.heap.objs.size+1) (o:=.ins C s.heap.objs.size []) (t':=s.toks) (fun b u q=>Heap.get?_push_of_some _ q) (Nat.le_of_eq (Heap.size_push _ _)) ?_
 have ne:s.heap.objs.size≠s.heap.objs.size+1:=Nat.ne_of_lt (Nat.lt_succ_self _)
 refine⟨by rw[upd_ne ne,upd_same],Nat.zero_le _,ne,e2,fun _=>none,(Heap.Ns1.of_empty e3).at fun o q=>Heap.get?_push_of_some _ q,fun _=>True.intro,fun y hy=>absurd rfl hy⟩
end
section
variable{X:Cx}{o e value:Expr}{f:Str}{pos pos' tpos:Pos}{ta tv:TE}
end
section
variable{X:Cx}{pins:List (Addr×Obj)}{σ:St}{H:Hp}{s:Shared}{A:Around}{E:Value→Shared→Prop}{Q:Value→Shared→Prop}{c:Value}{b:Bool}
inductive TyOf(K:PySem.W.Frag)(H:Hp):V→Value→Prop where
 |non:TyOf K H .non (.type "NoneType")
 |bl (x:Bool):TyOf K H (.bl x) (.type "bool")
 |int (i:Int):TyOf K H (.int i) (.type "int")
 |str (x:Str):TyOf K H (.str x) (.type "str")
 |flt (x:UInt64):TyOf K H (.flt x) (.type "float")
 |lst {a:Addr} {xs:List V} (e:H a=some (.lst xs)):TyOf K H (.ref a) (.type "list")
 |frz {a:Addr} {o:Obj} {xs:List V} (e:H a=some (.frz o (.lst xs))):TyOf K H (.ref a) (.type "list")
 |tup {a:Addr} {xs:List V} (e:H a=some (.tup xs)):TyOf K H (.ref a) (.type "tuple")
 |dK {a:Addr} {kvs:List (Key×V)} (e:H a=some (.dK kvs)):TyOf K H (.ref a) (.type "dict")
 |dT {a:Addr} {kvs:List (List Key×V)} (e:H a=some (.dT kvs)):TyOf K H (.ref a) (.type "dict")
 |ins {a C dx:Addr} {fs:List (Str×V)} (e:H a=some (.ins C dx fs)) (cl:Cls K C) (ha:PySem.W.findIn K (.ref C) "__class__"=some (some (.builtin "object.__class__")))
   (hn:PySem.W.specialIn K (.builtin "object.__class__") "__get__"=some (some (.builtin "getset_descriptor.__get__"))) (htk:PySem.W.takesIn K (.builtin "object.__class__")=some true)
   (hm:PySem.W.mroIn K C (.type "object")=some true):TyOf K H (.ref a) (.ref C)
end
end L2
namespace L2
open PySem PySem.Spec PyProof.Rows
structure Room(k:Nat)(A:Around):Prop where
 hd:A.handled=none
 dp:A.depth+3 * k+5<recursionLimit
 un:A.units+16 * k+200<cLine
theorem Room.mono{j k:Nat}{A:Around}(r:Room k A)(h:j≤k):Room j A:=⟨r.hd,by have:=r.dp;omega,by have:=r.un;omega⟩
theorem Room.deeper{k:Nat}{A:Around}(r:Room (k+1) A)(env:Env):Room k (A.deeper env):=
 ⟨r.hd,by have:=r.dp;show A.depth+1+3 * k+5<_;omega,by have:=r.un;show A.units+3+16 * k+200<_;omega⟩
theorem Room.in1{k:Nat}{A:Around}(r:Room (k+1) A):Room k A.in1:=
 ⟨r.hd,by have:=r.dp;show A.depth+3 * k+5<_;omega,by have:=r.un;show A.units+1+16 * k+200<_;omega⟩
theorem Room.depth{k:Nat}{A:Around}(r:Room k A):A.depth<recursionLimit:=by have:=r.dp;omega
theorem Room.units{k:Nat}{A:Around}(r:Room k A):A.units+64<cLine:=by have:=r.un;omega
noncomputable def tNil:TA:=fun _ H Q=>Q [] H
noncomputable def tCons(ta:TE)(tr:TA):TA:=fun σ H Q=>ta σ H fun x H1=>tr σ H1 fun xs H2=>Q (x::xs) H2
section
variable{X:Cx}{e:Expr}{es:List Expr}{te:TE}{t:TA}{pos:Pos}
theorem pa_nil:PA X [] tNil:=fun _ _ _ _ H Q I h=>Calls.spliced_nil ⟨[],H,I, .nil,h⟩
theorem pa_cons(ha:PE X e te)(hr:PA X es t)(hs:starEach (e::es) X.env=(false,eval e X.env)::starEach es X.env:=by rfl):PA X (e::es) (tCons te t):=by
 intro pos pins s σ H Q I h
 rw[hs]
 show wpAny _ _ (spliced ((false,eval e X.env)::backTo pos (starEach es X.env))) _ _ s
 refine Calls.spliced_cons (thn (ha pins s σ H _ I h) fun u s1 ⟨x,H1,I1,r1,q1⟩=> ?_)
 exact thn (hr pos pins s1 σ H1 _ I1 q1) fun us s2 ⟨xs,H2,I2,r2,q2⟩=>⟨x::xs,H2,I2, .cons r1 r2,q2⟩
noncomputable def tTup(t:TA):TE:=fun σ H Q=>t σ H fun xs H1=>xs.length≤sizeLine∧∀p,H1 p=none→Q (.ref p) (upd H1 p (.tup xs))
noncomputable def tLst(t:TA):TE:=fun σ H Q=>t σ H fun xs H1=>xs.length≤sizeLine∧∀p,H1 p=none→Q (.ref p) (upd H1 p (.lst xs))
theorem pe_tup{x1}(h:PA X es t):PE X (.Tuple es x1 pos) (tTup t):=by
 intro pins s σ H Q I hq
 refine wpAny_Tuple_spliced (thn (h pos pins s σ H _ I hq) fun us s1 ⟨xs,H1,I1,r,z,q⟩=>⟨by rw[←r.length];exact z,?_⟩)
 have hf:H1 s1.heap.objs.size=none:=I1.hok.fresh (Nat.le_refl _)
 refine⟨.ref s1.heap.objs.size,upd H1 s1.heap.objs.size (.tup xs),I1.laid (t':=s1.toks) (fun b u e=>Heap.get?_push_of_some _ e) (Nat.le_refl _) ?_,rfl,q _ hf⟩
 exact⟨z,us,r,TupN.new _ _⟩
theorem pe_lst(h:PA X es t):PE X (.List es pos) (tLst t):=by
 intro pins s σ H Q I hq
 refine wpAny_List_spliced (thn (h pos pins s σ H _ I hq) fun us s1 ⟨xs,H1,I1,r,z,q⟩=>⟨by rw[←r.length];exact z,?_⟩)
 have hf:H1 s1.heap.objs.size=none:=I1.hok.fresh (Nat.le_refl _)
 refine⟨.ref s1.heap.objs.size,upd H1 s1.heap.objs.size (.lst xs),I1.laid (t':=s1.toks) (fun b u e=>Heap.get?_push_of_some _ e) (Nat.le_refl _) ?_,rfl,q _ hf⟩
 exact⟨z,us,0,r,Heap.get?_push_size _ rfl⟩
end
noncomputable abbrev Sp:=List V→Hp→VK→XK→Prop
noncomputable abbrev CXT:=List Env→Hp→Shared→XK→Value→Shared→Prop
structure Env0(P:Program)(w:World)(K:PySem.W.Frag)(mg:Str→Option Value)(base:Heap)(A:Around)(outer:List Env)(s:Shared)(H:Hp):Prop where
 frames:A.frames=some outer
 mod:Mod K mg base
 bs:∀b o,base.get? b=some o→s.heap.get? b=some o∧H b=none
 bsz:base.objs.size≤s.heap.objs.size
 funs:s.heap.FunFrames base outer
 frf:∀b∈frs outer,H b=none
 hok:HOk P w H s.heap
 bare:AllBare s.gens
 tab:∀P,TabOf K P→H P=some .tbl
noncomputable def CE(outer:List Env)(P:Program)(w:World)(H:Hp)(s:Shared)(Q:VK)(u:Value)(s':Shared):Prop:=
 ∃v H',s'.os=s.os∧AllBare s'.gens∧Un (frs outer) [] H H' s.heap s'.heap∧HOk P w H' s'.heap∧RelV v u∧Q v H'
noncomputable def CR(CX:CXT)(outer:List Env)(P:Program)(w:World)(H:Hp)(s:Shared)(Q:VK)(E:XK)(r:Result)(s':Shared):Prop:=
 match r with
 | .ok (.ret u)=>CE outer P w H s Q u s'
 | .ok _=>False
 | .error e=>CX outer H s E e s'
structure FnOk(P:Program)(w:World)(K:PySem.W.Frag)(mg:Str→Option Value)(base:Heap)(CX:CXT)(k:Nat)(f:Addr)(fd:FuncData)(ps:List Str)(sp:Sp):Prop where
 len:∀vs H Q E,sp vs H Q E→vs.length=ps.length
 run:∀(A:Around) (outer:List Env) (s:Shared) (H:Hp) (args:Args) (us:List Value) (vs:List V) (Q:VK) (E:XK),Room k A→Env0 P w K mg base A outer s H→BindsTo s fd args (ps.zip us)→Vals vs us→sp vs H Q E→
  codeAny (model P w) A (.call (.ref f) args) (CR CX outer P w H s Q E) s
theorem FnOk.imp{P:Program}{w:World}{K:PySem.W.Frag}{mg:Str→Option Value}{base:Heap}{CX:CXT}{k:Nat}{f:Addr}{fd:FuncData}{ps:List Str}{sp sp':Sp}(F:FnOk P w K mg base CX k f fd ps sp)
  (h:∀vs H Q E,sp' vs H Q E→sp vs H Q E):FnOk P w K mg base CX k f fd ps sp':=
 ⟨fun vs H Q E q=>F.len vs H Q E (h _ _ _ _ q),fun A outer s H args us vs Q E hr he hb hv hs=>F.run A outer s H args us vs Q E hr he hb hv (h _ _ _ _ hs)⟩
section
variable{X:Cx}{pins:List (Addr×Obj)}{σ:St}{H:Hp}{s s':Shared}
theorem Inv.env0(I:Inv X pins σ H s):Env0 X.prog X.w X.K X.mg X.base X.A X.stack s H:=
 ⟨I.ok.frames,I.ok.mod,I.bs,Nat.le_trans I.ok.bsz I.sz,I.stack,I.stkFree,I.hok,I.bare,fun P t=>I.base.tbls P (I.ok.tab P t)⟩
theorem Inv.after{Q:VK}{u:Value}(I:Inv X pins σ H s)(h:CE X.stack X.prog X.w H s Q u s'):EP X pins σ Q u s':=by
 obtain⟨v,H',os,bare,un,hok,r,q⟩:=h
 obtain⟨hh,g,d,t,os'⟩:=s'
 obtain rfl:os'=s.os:=os
 exact⟨v,H',I.call (h':=hh) (g':=g) (d':=d) (t':=t) (ch:=[]) un hok bare (fun b z=>absurd z (by simp)),r,q⟩
end
noncomputable def tCall(sp:Sp)(dvs:List V)(E:XK)(t:TA):TE:=fun σ H Q=>t σ H fun vs H1=>sp (vs++dvs) H1 Q E
noncomputable def Binds(K:PySem.W.Frag)(fd:FuncData)(ps:List Str)(ds:List Value):Prop:=
 ∀(s:Shared) (us:List Value),K.In s.heap→(us++ds).length=ps.length→BindsTo s fd ⟨us,[]⟩ (ps.zip (us++ds))
theorem Binds.all{K:PySem.W.Frag}{fd:FuncData}{ps:List Str}(h:∀us:List Value,us.length=ps.length→bindArgs fd ⟨us,[]⟩=pure (ps.zip us)):Binds K fd ps []:=fun s us _ hl=>by
 rw[List.append_nil]at hl ⊢
 exact .of_eq (h us hl)
noncomputable def Passes(CX:CXT)(X:Cx)(E:XK):Prop:=∀(pins:List (Addr×Obj)) (σ:St) (H:Hp) (s:Shared) (e:Value) (s':Shared),Inv X pins σ H s→CX X.stack H s E e s'→X.xe e s'
section
variable{X:Cx}{CX:CXT}{k:Nat}{f C:Addr}{fd:FuncData}{ps:List Str}{sp:Sp}{dvs:List V}{ds:List Value}{E:XK}{x m:Str}{p pos apos:Pos}{e o:Expr}{es:List Expr}{ta:TE}{t:TA}
theorem run_fn{pins:List (Addr×Obj)}{σ:St}{H:Hp}{s:Shared}{Q:VK}{us:List Value}{vs:List V}(F:FnOk X.prog X.w X.K X.mg X.base CX k f fd ps sp)(hr:Room k X.A)(hb:Binds X.K fd ps ds)(hd:Vals dvs ds)(hx:Passes CX X E)
  (I:Inv X pins σ H s) (r:Vals vs us) (h:sp (vs++dvs) H Q E):wpAny (model X.prog X.w) X.A (call (.ref f) us) (EP X pins σ Q) X.xe s:=by
 have r2:Vals (vs++dvs) (us++ds):=r.append hd
 have hl:(us++ds).length=ps.length:=by rw[←r2.length];exact F.len _ _ _ _ h
 refine wpAny_call (codeAny_mono (F.run X.A X.stack s H ⟨us,[]⟩ (us++ds) (vs++dvs) Q E hr I.env0 (hb s us I.kIn hl) r2 h) fun r s' hq=> ?_)
 cases r with
 |error e=>exact hx pins σ H s e s' I hq
 |ok fl=>
  cases fl with
  |ret u=>exact I.after hq
  |next=>exact False.elim hq
  |brk=>exact False.elim hq
  |cont=>exact False.elim hq
theorem pe_call(F:FnOk X.prog X.w X.K X.mg X.base CX k f fd ps sp)(hr:Room k X.A)(hg:Gl X x)(hm:X.mg x=some (.ref f))(hk:PySem.W.keepIn X.K (.ref f)=true)(hb:Binds X.K fd ps ds)(hd:Vals dvs ds)(hx:Passes CX X E)
  (ha:PA X (e::es) t) (hdb:(x == ("__debug__":Str))=false:=by decide) (he:starEach (e::es) X.env=(false,eval e X.env)::starEach es X.env:=by rfl) (hpl:(backTo pos (starEach es X.env)).any (·.1)=false:=by rfl):
  PE X (.Call (.Name x p) (e::es) [] pos) (tCall sp dvs E t):=by
 intro pins s σ H Q I h
 refine wpAny_Call_Name_kw (ld_glob I hg hm ?_ hdb)
 refine PySem.W.callWith_K (h₀:=X.base) I.ok.mod.kin hk (thn (ha pos pins s σ H _ I h) fun us s1 ⟨vs,H1,I1,r,q⟩=>⟨I1.kIn,?_⟩) he hpl
 exact run_fn F hr hb hd hx I1 r q
structure Mk(K:PySem.W.Frag)(C f:Addr):Prop where
 makes:PySem.W.makesIn K C=true
 init:PySem.W.findIn K (.ref C) "__init__"=some (some (.ref f))
 fn:PySem.W.isFn K (.ref f)=true
 kp:PySem.W.keepIn K (.ref C)=true
end
section
variable{X:Cx}{CX:CXT}{k:Nat}{f C:Addr}{fd:FuncData}{ps ks:List Str}{sp:Sp}{E:XK}{x m:Str}{p pos apos kpos:Pos}{e o:Expr}{es:List Expr}{kws:List Keyword}{te ta:TE}{t tk:TA}{nm:Option Str}
structure KBinds(K:PySem.W.Frag)(fd:FuncData)(ps ks:List Str)(g:List Value→List Value→List Value)(gV:List V→List V→List V):Prop where
 to:∀(s:Shared) (us ws:List Value),K.In s.heap→(g us ws).length=ps.length→BindsTo s fd ⟨us,ks.zip ws⟩ (ps.zip (g us ws))
 rel:∀{vs:List V} {us:List Value} {zs:List V} {ws:List Value},Vals vs us→Vals zs ws→Vals (gV vs zs) (g us ws)
variable{g:List Value→List Value→List Value}{gV:List V→List V→List V}
end
structure FnScope(N P:List Str)(sc:Scope):Prop where
 kind:sc.kind=.function
 co:sc.isCoroutine=false
 gen:sc.isGenerator=false
 nd:N.Nodup
 pre:N.take P.length=P
 par:∀x∈P,sc.names.lookup x=some .local∨sc.names.lookup x=some .cell
 nofree:∀y∈sc.names,y.2≠ .free
theorem bindL_out{kindOf:Str→Option NameKind}{x:Str}:∀{binds:List (Str×Value)} {m:Str→Option Value},(∀v,(x,v)∉binds)→bindL kindOf binds m x=m x
 | [],_,_=>rfl
 |(n,v)::r,m,h=>by
  unfold bindL
  rw[bindL_out fun w hw=>h w (List.mem_cons_of_mem _ hw)]
  split
  ·have:x≠n:=by rintro rfl;exact h v List.mem_cons_self
   simp[this]
  ·rfl
theorem bindC_out{kindOf:Str→Option NameKind}{x:Str}:∀{binds:List (Str×Value)} {m:Str→Option Value},(∀v,(x,v)∉binds)→bindC kindOf binds m x=m x
 | [],_,_=>rfl
 |(n,v)::r,m,h=>by
  unfold bindC
  rw[bindC_out fun w hw=>h w (List.mem_cons_of_mem _ hw)]
  split
  ·rfl
  ·have:x≠n:=by rintro rfl;exact h v List.mem_cons_self
   simp[this]
theorem bindL_get{kindOf:Str→Option NameKind}{x:Str}{v:Value}:∀{P:List Str} {vs:List Value} {i:Nat} {m:Str→Option Value},P.Nodup→P[i]? =some x→vs[i]? =some v→kindOf x=some .local→
  bindL kindOf (P.zip vs) m x=some v
 | [],_,_,_,_,h,_,_=>by simp at h
 |_::_,[],_,_,_,_,h,_=>by simp at h
 |p::P,w::vs,0,m,nd,h1,h2,hk=>by
  simp at h1 h2;subst h1;subst h2
  show bindL kindOf ((p,w)::P.zip vs) m p=_
  unfold bindL
  rw[bindL_out fun v hv=>(List.nodup_cons.mp nd).1 (List.of_mem_zip hv).1,if_pos hk]
  simp
 |p::P,w::vs,i+1,m,nd,h1,h2,hk=>by
  show bindL kindOf ((p,w)::P.zip vs) m x=_
  unfold bindL
  exact bindL_get (i:=i) (List.nodup_cons.mp nd).2 (by simpa using h1) (by simpa using h2) hk
theorem bindC_get{kindOf:Str→Option NameKind}{x:Str}{v:Value}:∀{P:List Str} {vs:List Value} {i:Nat} {m:Str→Option Value},P.Nodup→P[i]? =some x→vs[i]? =some v→kindOf x≠some .local→
  bindC kindOf (P.zip vs) m x=some v
 | [],_,_,_,_,h,_,_=>by simp at h
 |_::_,[],_,_,_,_,h,_=>by simp at h
 |p::P,w::vs,0,m,nd,h1,h2,hk=>by
  simp at h1 h2;subst h1;subst h2
  show bindC kindOf ((p,w)::P.zip vs) m p=_
  unfold bindC
  rw[bindC_out fun v hv=>(List.nodup_cons.mp nd).1 (List.of_mem_zip hv).1,if_neg hk]
  simp
 |p::P,w::vs,i+1,m,nd,h1,h2,hk=>by
  show bindC kindOf ((p,w)::P.zip vs) m x=_
  unfold bindC
  exact bindC_get (i:=i) (List.nodup_cons.mp nd).2 (by simpa using h1) (by simpa using h2) hk
noncomputable def start(N:List Str)(vs:List V):St:=vs.map some++List.replicate (N.length - vs.length) none
noncomputable def cxOf(CX:CXT)(P:Program)(w:World)(K:PySem.W.Frag)(mg:Str→Option Value)(base:Heap)(N:List Str)(qual:Str)(scope:Scope)(f:Addr)(cd:Value)(A:Around)(outer:List Env)(s:Shared)(H:Hp)(E:XK):Cx where
 prog:=P
 w:=w
 K:=K
 mg:=mg
 base:=base
 A:=A.deeper (envOfC qual scope s.heap.objs.size f cd)
 N:=N
 s₀:=s
 H₀:=H
 env:=envOfC qual scope s.heap.objs.size f cd
 outer:=outer
 stack:=envOfC qual scope s.heap.objs.size f cd::outer
 ex:=[]
 calm:=true
 fn:=fun _=>true
 pn:=[]
 xe:=fun e s'=>wpAny (model P w) (A.deeper (envOfC qual scope s.heap.objs.size f cd)) (leaving (envOfC qual scope s.heap.objs.size f cd) e) (fun _ s''=>CX outer H s E e s'') (fun e' s''=>CX outer H s E e' s'') s'
theorem cell_has{sc:Scope}{n:Nat}{x:Str}(h:sc.names.lookup x=some .cell):∃c,(cellsFrom n sc.names []).lookup x=some c:=by
 have q:=PySem.W.cellsFrom_some sc.names n [] (.inl h)
 exact Option.isSome_iff_exists.mp q
theorem inv_start{CX:CXT}{P:Program}{w:World}{K:PySem.W.Frag}{mg:Str→Option Value}{base:Heap}{N ps:List Str}{qual:Str}{scope:Scope}{f:Addr}{cd:Value}{A:Around}{outer:List Env}{s s1:Shared}{H:Hp}{E:XK}{us:List Value}{vs:List V}
  (S:FnScope N ps scope) (hd:A.handled=none) (e0:Env0 P w K mg base A outer s H) (hl:vs.length=ps.length) (r:Vals vs us)
  (x:InCallC s s.heap.objs.size (bindL (envOfC qual scope s.heap.objs.size f cd).kindOf (ps.zip us) fun _=>none) (cellsFrom (s.heap.objs.size+1) scope.names []) (bindC (envOfC qual scope s.heap.objs.size f cd).kindOf (ps.zip us) fun _=>none) s1):
  Inv (cxOf CX P w K mg base N qual scope f cd A outer s H E) [] (start N vs) H s1:=by
 have hpl:ps.length≤N.length:=by have:=congrArg List.length S.pre;rw[List.length_take]at this;omega
 obtain⟨h1,tk,rfl,hk⟩:=x.done
 have noA:∀b:Addr,b∉(cxOf CX P w K mg base N qual scope f cd A outer s H E).ex:=fun b z=>absurd (show b∈([]:List Addr)from z) (by simp)
 refine⟨⟨e0.mod,S.kind,rfl,rfl,Nat.le_refl _,fun y z c h1 h2=> ?_,fun y hy=> ?_,fun y c _ h=> ?_,fun _=>hd,Around.frames_deeper e0.frames, .inr ⟨rfl,rfl⟩,fun b z=>absurd z (noA b),e0.bs,e0.bsz,fun b _ _=>noA b,fun b z=>absurd z (noA b),e0.funs,e0.frf,e0.tab⟩,
  rfl,e0.bare,Un.kept hk,⟨_,x.toInCall.ns,fun i y v h1 h2 h3=> ?_⟩,fun y c h=>⟨_,x.cell y c h⟩,e0.hok.fresh (Nat.le_refl _),fun y c h=> ?_,fun p hp=>absurd (show p∈([]:List (Addr×Obj))from hp) (by simp),e0.hok.kept hk,?_⟩
 ·exact name_of_addr x.apart (PySem.mem_of_lookup h1) (PySem.mem_of_lookup h2)
 ·have hy:scope.names.lookup y=some .cell∨scope.names.lookup y=some .free:=hy
  rcases hy with hy|hy
  ·exact cell_has hy
  ·exact absurd rfl (S.nofree _ (PySem.mem_of_lookup hy))
 ·exact Nat.le_of_lt (x.above y c (PySem.mem_of_lookup h))
 ·have hi:i<vs.length:=by
   unfold start at h2
   by_cases hi:i<vs.length
   ·exact hi
   ·rw[List.getElem?_append_right (by simpa using hi)]at h2
    rw[List.getElem?_replicate]at h2
    split at h2<;>cases h2
  have ha:vs[i]? =some v:=by
   unfold start at h2
   rw[List.getElem?_append_left (by simpa using hi),List.getElem?_map]at h2
   cases e:vs[i]? with
   |none=>rw[e]at h2;cases h2
   |some a=>rw[e]at h2;cases h2;rfl
  obtain⟨u,hu,rv⟩:=r.get ha
  have hp:ps[i]? =some y:=by
   rw[←S.pre,List.getElem?_take_of_lt (by omega)];exact h1
  have ndP:ps.Nodup:=by rw[←S.pre];exact S.nd.sublist (List.take_sublist _ _)
  refine⟨u,rv,?_⟩
  rcases S.par y (List.mem_of_getElem? hp)with k|k
  ·exact .inl ⟨k,bindL_get ndP hp hu k⟩
  ·obtain⟨c,e⟩:=cell_has (n:=s.heap.objs.size+1) k
   refine .inr ⟨.inl k,c,e,?_⟩
   have q:=x.cell y c e
   rw[bindC_get ndP hp hu (by show scope.names.lookup y≠_;rw[k];decide)]at q
   exact q
 ·exact e0.hok.fresh (Nat.le_of_lt (x.above y c (PySem.mem_of_lookup h)))
 ·unfold start
  show _=N.length
  rw[List.length_append,List.length_map,List.length_replicate]
  omega
theorem fn_of{CX:CXT}{P:Program}{w:World}{K:PySem.W.Frag}{mg:Str→Option Value}{base:Heap}{k:Nat}{f:Addr}{name qual:Str}{params:Arguments}{body:List Stmt}{scope:Scope}{dV kV doc pm cdv ct oc:Value}{an od:Option Addr}
  {osl:Array (Option Value)} {N ps:List Str} {sp:Sp} (lk:K.lookup f=some ⟨oc,od, .func (PySem.W.fnOf name qual params body scope dV kV doc pm an cdv ct),osl⟩) (hcd:PySem.W.codeIn K cdv qual=true) (S:FnScope N ps scope)
  (len:∀vs H Q E,sp vs H Q E→vs.length=ps.length)
  (hbody:∀(A:Around) (outer:List Env) (s:Shared) (H:Hp) (vs:List V) (Q:VK) (E:XK),Room k (A.deeper (envOfC qual scope s.heap.objs.size f cdv))→sp vs H Q E→
   ∃t,PSs (cxOf CX P w K mg base N qual scope f cdv A outer s H E) body t∧t {nx:=fun _ H'=>Q .non H',rt:=Q} (start N vs) H):
  FnOk P w K mg base CX (k+1) f (PySem.W.fnOf name qual params body scope dV kV doc pm an cdv ct) ps sp:=by
 refine⟨len,fun A outer s H args us vs Q E hr e0 hb r hsp=> ?_⟩
 have hl:=len _ _ _ _ hsp
 have KX:K.In s.heap:=e0.mod.kin.keeps fun b o e=>(e0.bs b o e).1
 have lim:s.heap.NoLimit:=e0.mod.nolimit.keeps fun b o e=>(e0.bs b o e).1
 have hkind:∀y∈ps.zip us,scope.names.lookup y.1=some .local∨(scope.names.lookup y.1=some .cell∧((cellsFrom (s.heap.objs.size+1) scope.names []).lookup y.1).isSome=true):=fun⟨n,v⟩ hy=>by
  rcases S.par n (List.of_mem_zip hy).1 with q|q
  ·exact .inl q
  ·exact .inr ⟨q,PySem.W.cellsFrom_some _ _ _ (.inl q)⟩
 refine codeAny_call_function hr.depth (KX _ _ lk) rfl S.co S.gen rfl (PySem.W.codeRec_of KX hcd) (hb _ _ _ _ ?_)
 refine wpAny_newFunctionEnv_cells S.kind hkind fun env he s1 x=> ?_
 subst he
 refine⟨lim.keeps x.toInCall.keep,codeAny_func ?_⟩
 obtain⟨t,ht,hq⟩:=hbody A outer s H vs Q E (hr.deeper _) hsp
 have I:Inv (cxOf CX P w K mg base N qual scope f cdv A outer s H E) [] (start N vs) H s1:=inv_start S hr.hd e0 hl r x
 refine wpAny_mono (ht [] s1 (start N vs) H _ I hq) (fun fl s' hs=> ?_) fun e s' hs=>hs
 have fin:∀{σ':St} {H':Hp} {v:V} {u:Value},Inv (cxOf CX P w K mg base N qual scope f cdv A outer s H E) [] σ' H' s'→RelV v u→Q v H'→CE outer P w H s Q u s':=
  fun{σ' H' v u} J rv q=>⟨v,H',J.os,J.bare,J.base,J.hok,rv,q⟩
 cases fl with
 |ret u=>
  obtain⟨v,σ',H',J,rv,q⟩:=hs
  exact fin J rv q
 |next=>
  obtain⟨σ',H',J,q⟩:=hs
  exact fin (v:=V.non) (u:=Value.none) J rfl q
 |brk=>
  obtain⟨_,_,_,q⟩:=hs
  exact False.elim q
 |cont=>
  obtain⟨_,_,_,q⟩:=hs
  exact False.elim q
end L2
namespace L2
open PySem PySem.Spec PyProof.Rows
section
variable{X:Cx}{x:Str}{p pos:Pos}{e:Expr}{es:List Expr}{t:TA}{id T:String}{r:List V→Hp→VK→Prop}
noncomputable def tCB(r:List V→Hp→VK→Prop)(t:TA):TE:=fun σ H Q=>t σ H fun vs H1=>r vs H1 Q
theorem pe_callB(hc:CallR X (.builtin id) r)(hg:Gl X x)(hm:X.mg x=none)(hv:bootBuiltins x=some (.builtin id))(ha:PA X (e::es) t)(hn:x≠"__name__":=by decide)(hdb:(x == ("__debug__":Str))=false:=by decide)
  (he:starEach (e::es) X.env=(false,eval e X.env)::starEach es X.env:=by rfl) (hpl:(backTo pos (starEach es X.env)).any (·.1)=false:=by rfl):PE X (.Call (.Name x p) (e::es) [] pos) (tCB r t):=by
 intro pins s σ H Q I h
 refine wpAny_Call_Name_kw (ld_blt I hg hm hv ?_ hn hdb)
 exact PyProof.Rows.callWith_builtin1 (thn (ha pos pins s σ H _ I h) fun us s1 ⟨vs,H1,I1,r1,q1⟩=>hc pins s1 σ H1 vs us Q I1 r1 q1) he hpl
theorem pe_callTy(hc:CallR X (.type T) r)(hg:Gl X x)(hm:X.mg x=none)(hv:bootBuiltins x=some (.type T))(ha:PA X (e::es) t)(hn:x≠"__name__":=by decide)(hdb:(x == ("__debug__":Str))=false:=by decide)
  (he:starEach (e::es) X.env=(false,eval e X.env)::starEach es X.env:=by rfl) (hpl:(backTo pos (starEach es X.env)).any (·.1)=false:=by rfl):PE X (.Call (.Name x p) (e::es) [] pos) (tCB r t):=by
 intro pins s σ H Q I h
 refine wpAny_Call_Name_kw (ld_blt I hg hm hv ?_ hn hdb)
 exact PyProof.Rows.callWith_type1 (thn (ha pos pins s σ H _ I h) fun us s1 ⟨vs,H1,I1,r1,q1⟩=>hc pins s1 σ H1 vs us Q I1 r1 q1) he hpl
end
end L2
namespace HT
open PySem PyProof.Rows
noncomputable def lexLt:List Int→List Int→Bool
 | [],[]=>false
 | [],_::_=>true
 |_::_,[]=>false
 |x::xs,y::ys=>if x=y then lexLt xs ys else decide (x<y)
theorem lexLt_cons(x y:Int)(xs ys:List Int):lexLt (x::xs) (y::ys)=if x=y then lexLt xs ys else decide (x<y):=rfl
theorem rcLt_int(A:Around)(s:Shared)(a:Int)(t:Tok)(c:Int)(u:Tok)(prog:Program)(w:World)(E:Value→Shared→Prop)(Q:Value→Shared→Prop)(h:Q (.bool (decide (a<c))) s):
  wpAny (model prog w) A (richCompare .Lt (.int a t) (.int c u)) Q E s:=
 (PyProof.Rows.lt_int h:wpAny (model prog w) A (compareOp .Lt (.int a t) (.int c u)) Q E s)
section
open PySem.SeqAt
open PySem.AutoSeq1 (wpAny_loadPart')
open PySem.MeetsSeq PySem.MeetsSeq2 PySem.MeetsSeq3
end
section
variable{prog:Program}{w:World}{A:Around}{E:Value→Shared→Prop}{s:Shared}
theorem cat_tup{t b:Addr}{vs ws:List Value}{Q:Value→Shared→Prop}(ht:IsTup s.heap t vs.toArray)(hb:IsTup s.heap b ws.toArray)(hv:vs≠[])
  (h1:ws=[]→Q (.ref t) s) (h2:ws≠[]→Q (.ref s.heap.objs.size) {s with heap:=s.heap.push {cls:=.type "tuple",data:=.seq (vs++ws).toArray}})
  (hsz:vs.length+ws.length≤sizeLine):wpAny (model prog w) A (binaryOp .Add (.ref t) (.ref b)) Q E s:=by
 obtain⟨⟨cls,dd,data,sl⟩,ho,hc,n,hd⟩:=id ht
 obtain⟨⟨cls2,dd2,data2,sl2⟩,ho2,hc2,n2,hd2⟩:=id hb
 simp only at hc hd hc2 hd2
 subst hc hd hc2 hd2
 have e:vs.toArray++ws.toArray=(vs++ws).toArray:=by simp
 by_cases hw:ws=[]
 ·exact concat_meets ⟨_,ho,rfl⟩ ⟨_,ho2,rfl⟩ noFill_tuple_add seq_tuple_add PySem.F.slot_tuple_add PySem.F.entry_tuple_add (PySem.F.args_tuple_add_2 _ _)
   (tuple_addW1 t b vs.toArray ws.toArray n n2 dd dd2 sl sl2 (by simpa using hv) (by simp[hw])) ⟨ho,ho2,h1 hw⟩
 ·refine concat_meets ⟨_,ho,rfl⟩ ⟨_,ho2,rfl⟩ noFill_tuple_add seq_tuple_add PySem.F.slot_tuple_add PySem.F.entry_tuple_add (PySem.F.args_tuple_add_2 _ _)
   (tuple_addW2 t b vs.toArray ws.toArray n n2 dd dd2 sl sl2 (by simpa using hv) (by simpa using hw) (by rw[List.size_toArray,List.size_toArray];exact hsz)) ⟨ho,ho2,?_⟩
  rw[e]
  exact h2 hw
noncomputable def sIx(n d:Nat):Option Int→Nat
 |none=>d
 |some v=>if v<0 then(v+(n:Int)).toNat else min v.toNat n
theorem sIx_none(n d:Nat):sIx n d none=d:=rfl
theorem sIx_nat(n d k:Nat):sIx n d (some (k:Int))=min k n:=by
 show(if(k:Int)<0 then((k:Int)+(n:Int)).toNat else min (k:Int).toNat n)=min k n
 rw[if_neg (by omega),Int.toNat_natCast]
theorem sIx_le(n d:Nat)(hd:d≤n)(o:Option Int):sIx n d o≤n:=by
 cases o with
 |none=>exact hd
 |some v=>
  show(if v<0 then(v+(n:Int)).toNat else min v.toNat n)≤n
  by_cases hv:v<0
  ·rw[if_pos hv];omega
  ·rw[if_neg hv];exact Nat.min_le_right _ _
theorem clip_eq(v:Int)(n d:Nat):(if v<0 then max (v+(n:Int)) 0 else min v (n:Int))=((sIx n d (some v):Nat):Int):=by
 show(if v<0 then max (v+(n:Int)) 0 else min v (n:Int))=(((if v<0 then(v+(n:Int)).toNat else min v.toNat n):Nat):Int)
 by_cases hv:v<0
 ·simp only[if_pos hv];omega
 ·simp only[if_neg hv];omega
theorem adjust_gen(lo hi:Option Int)(n:Nat):Builtin.Slice.sliceAdjust lo hi 1 (n:Int)=(((sIx n 0 lo:Nat):Int),((sIx n n hi:Nat):Int)):=by
 have h1:¬((1:Int)<0):=by omega
 unfold Builtin.Slice.sliceAdjust
 simp only[h1,if_false]
 refine Prod.ext ?_ ?_
 ·cases lo with
  |none=>rfl
  |some v=>exact clip_eq v n 0
 ·cases hi with
  |none=>rfl
  |some v=>exact clip_eq v n n
theorem places_gen(i j:Nat):Builtin.Slice.slicePlaces (i:Int) (j:Int) 1=j - i:=by
 unfold Builtin.Slice.slicePlaces
 have h1:(1:Int)>0:=by omega
 simp only[h1,if_true,Int.ediv_one]
 split<;>omega
theorem slicePart_{v:Value}{o:Option Int}{Q:Option Int→Shared→Prop}(p:IsPart v o)(h:Q o s):wpAny (model prog w) A (Builtin.Slice.slicePartIndex v) Q E s:=by
 cases p with
 |none=>exact slicePart_none h
 |int i t=>exact slicePart_int h
theorem sliceApplied_gen{sl:Addr}{vl vu:Value}{lo hi:Option Int}{n:Nat}{Q:Int×Int×Nat→Shared→Prop}(hs:s.heap.IsSliceOf sl vl vu .none)(pl:IsPart vl lo)(pu:IsPart vu hi)
  (h:Q (((sIx n 0 lo:Nat):Int),1,sIx n n hi - sIx n 0 lo) s):wpAny (model prog w) A (Builtin.Slice.sliceApplied (.ref sl) (pure (n:Int))) Q E s:=by
 obtain⟨os,hos,hcs,hds⟩:=id hs
 unfold Builtin.Slice.sliceApplied Builtin.Slice.sliceFields
 refine wpAny_bind (wpAny_bind (wpAny_field hos hds (x:=vl) rfl (wpAny_bind (wpAny_field hos hds (x:=vu) rfl (wpAny_bind (wpAny_field hos hds (x:=.none) rfl (wpAny_pure ?_)))))))
 refine wpAny_bind (slicePart_none ?_)
 show wpAny _ _ (if((1:Int) == 0)=true then _ else _) _ _ s
 rw[if_neg (by decide)]
 refine wpAny_bind (slicePart_ pl (wpAny_bind (slicePart_ pu (wpAny_bind (wpAny_pure ?_)))))
 show wpAny _ _ (match Builtin.Slice.sliceAdjust lo hi 1 (n:Int)with|(lo,hi)=>pure (lo,(1:Int),Builtin.Slice.slicePlaces lo hi 1)) _ _ s
 rw[adjust_gen lo hi n]
 show wpAny _ _ (pure (((sIx n 0 lo:Nat):Int),(1:Int),Builtin.Slice.slicePlaces ((sIx n 0 lo:Nat):Int) ((sIx n n hi:Nat):Int) 1)) _ _ s
 rw[places_gen]
 exact wpAny_pure h
theorem pick_gen(xs:Array Value)(i k:Nat):((List.range k).filterMap fun(m:Nat)=>xs[((i:Int)+(m:Int) * 1).toNat]?).toArray=((xs.toList.drop i).take k).toArray:=by
 have e:(fun(m:Nat)=>xs[((i:Int)+(m:Int) * 1).toNat]?)=fun m=>xs[i+m]? :=by
  funext m
  have:((i:Int)+(m:Int) * 1).toNat=i+m:=by omega
  rw[this]
 rw[e]
 have:=pick_run xs i k
 rw[List.filterMap_map]at this
 have e2:((fun x=>xs[x]?)∘fun x=>i+x)=fun m=>xs[i+m]? :=rfl
 rw[e2]at this
 rw[this]
theorem getItem_tuple_cut{t sl:Addr}{items:Array Value}{vl vu:Value}{lo hi:Option Int}{Q:Value→Shared→Prop}(ht:IsTup s.heap t items)(hs:s.heap.IsSliceOf sl vl vu .none)(pl:IsPart vl lo)(pu:IsPart vu hi)
  (hw:¬(sIx items.size 0 lo=0∧sIx items.size items.size hi=items.size))
  (h:Q (.ref s.heap.objs.size) {s with heap:=s.heap.push {cls:=.type "tuple",data:=.seq ((items.toList.drop (sIx items.size 0 lo)).take (sIx items.size items.size hi - sIx items.size 0 lo)).toArray}})
  (hsz:items.size≤sizeLine):wpAny (model prog w) A (getItem (.ref t) (.ref sl)) Q E s:=by
 have htake:sizeOk (.seq ((items.toList.drop (sIx items.size 0 lo)).take (sIx items.size items.size hi - sIx items.size 0 lo)).toArray):=by
  show((items.toList.drop (sIx items.size 0 lo)).take (sIx items.size items.size hi - sIx items.size 0 lo)).toArray.size≤sizeLine
  rw[List.size_toArray,List.length_take,List.length_drop,Array.length_toList]
  omega
 have hj:sIx items.size items.size hi≤items.size:=sIx_le _ _ (Nat.le_refl _) hi
 obtain⟨os,hos,hcs,hds⟩:=id hs
 have hTs:s.TypeIs (.ref sl) "slice":=⟨os,hos,hcs⟩
 unfold getItem
 try with_reducible refine wpAny_holding ?_
 first|refine wpAny_bind (wpAny_pure ?_)|skip
 refine wpAny_bind (wpAny_sequenceKey ht.typeIs (by decide) ?_)
 refine wpAny_bind (wpAny_callSpecial?_slot (name:=Str.ofString "__getitem__") ht.typeIs PyProof.Rows.slot_tuple_getitem
  (wpAny_call_entry PyProof.Rows.slot_tuple_getitem ht.typeIs entry_tuple_getitem ?_ (args_tuple_getitem _ _)))
 show wpAny _ _ (Builtin.Tuple.tupleItemsOf (.ref t)>>=_) _ _ s
 refine wpAny_bind (tupleItemsOf_ ht ?_)
 refine wpAny_bind (wpAny_typeOf hTs ?_)
 rw[if_pos (by decide)]
 refine wpAny_bind (sliceApplied_gen hs pl pu ?_)
 have hno:¬((((sIx items.size 0 lo:Nat):Int) == 0&&(1:Int) == 1&&(sIx items.size items.size hi - sIx items.size 0 lo) == items.size)=true):=by
  intro q
  rw[Bool.and_eq_true,Bool.and_eq_true]at q
  have q1:((sIx items.size 0 lo:Nat):Int)=0:=eq_of_beq q.1.1
  have q2:sIx items.size items.size hi - sIx items.size 0 lo=items.size:=eq_of_beq q.2
  exact hw ⟨by omega,by omega⟩
 show wpAny _ _ (if(((sIx items.size 0 lo:Nat):Int) == 0&&(1:Int) == 1&&(sIx items.size items.size hi - sIx items.size 0 lo) == items.size)=true then _ else _) _ _ s
 rw[if_neg hno,pick_gen]
 first
  |exact wpAny_bind (m:=Builtin.Tuple.tupleExact _) (wpAny_newObj_type (wpAny_pure ⟨_,rfl,wpAny_pure h⟩) htake)
  |exact wpAny_bind (m:=Builtin.Tuple.tupleExact _) (wpAny_newObj_type (wpAny_bind (wpAny_pure (wpAny_pure ⟨_,rfl,wpAny_pure h⟩))) htake)
  |exact wpAny_bind (wpAny_bind (m:=Builtin.Tuple.tupleExact _) (wpAny_newObj_type (wpAny_pure (wpAny_pure ⟨_,rfl,wpAny_pure h⟩)) htake))
  |exact wpAny_bind (wpAny_bind (m:=Builtin.Tuple.tupleExact _) (wpAny_newObj_type (wpAny_pure ⟨_,rfl,wpAny_pure h⟩) htake))
end
end HT
namespace L2
open PySem PySem.Spec PyProof.Rows
noncomputable abbrev TO:=St→Hp→(Option Int→Hp→Prop)→Prop
noncomputable def PO(X:Cx)(e:Option Expr)(t:TO):Prop:=
 ∀(pins:List (Addr×Obj)) (s:Shared) (σ:St) (H:Hp) (Q:Option Int→Hp→Prop),Inv X pins σ H s→t σ H Q→
  wpAny (model X.prog X.w) X.A (evalPart e X.env) (fun u s'=>∃o H',Inv X pins σ H' s'∧IsPart u o∧Q o H') X.xe s
noncomputable def tNoPart:TO:=fun _ H Q=>Q none H
noncomputable def tPart(t:TE):TO:=fun σ H Q=>t σ H fun x H1=>∃i,x=.int i∧Q (some i) H1
theorem intsAre_of{ns:List Int}:∀{us:List Value},Vals (ns.map V.int) us→IntsAre us ns:=by
 induction ns with
 |nil=>intro us r;rw[List.map_nil]at r;cases r;exact .nil
 |cons n ns ih=>
  intro us r
  rw[List.map_cons]at r
  cases r with
  |cons r1 r2=>
   obtain⟨t,e⟩:=r1
   subst e
   exact .cons n t (ih r2)
section
variable{X:Cx}{e:Expr}{te:TE}{lo hi:Option Expr}{tl th:TO}{pos p2:Pos}
theorem po_none:PO X none tNoPart:=by
 intro pins s σ H Q I h
 rw[evalPart_none]
 exact wpAny_pure ⟨none,H,I, .none,h⟩
theorem po_some(h:PE X e te):PO X (some e) (tPart te):=by
 intro pins s σ H Q I hw
 rw[evalPart_some]
 refine thn (h pins s σ H _ I hw) fun u s1 ⟨x,H1,I1,r1,q1⟩=> ?_
 obtain⟨i,rfl,q⟩:=q1
 obtain⟨t,rfl⟩:=r1
 exact⟨some i,H1,I1, .int i t,q⟩
noncomputable def SlR(X:Cx)(r:V→Option Int→Option Int→Hp→VK→Prop):Prop:=
 ∀(pins:List (Addr×Obj)) (s:Shared) (σ:St) (H:Hp) (x:V) (v vl vu:Value) (lo hi:Option Int) (sl:Addr) (Q:VK),Inv X pins σ H s→RelV x v→s.heap.IsSliceOf sl vl vu .none→IsPart vl lo→IsPart vu hi→r x lo hi H Q→
  ∃T id,typeLookup (.type T) "__getitem__"=pure (some (.builtin id))∧s.TypeIs v T∧wpAny (model X.prog X.w) X.A (getItem v (.ref sl)) (EP X pins σ Q) X.xe s
theorem SlR.or{r r':V→Option Int→Option Int→Hp→VK→Prop}(h:SlR X r)(h':SlR X r'):SlR X (fun x lo hi H Q=>r x lo hi H Q∨r' x lo hi H Q):=by
 intro pins s σ H x v vl vu lo hi sl Q I rx hs pl pu q
 rcases q with q|q
 ·exact h pins s σ H x v vl vu lo hi sl Q I rx hs pl pu q
 ·exact h' pins s σ H x v vl vu lo hi sl Q I rx hs pl pu q
noncomputable def tSl(r:V→Option Int→Option Int→Hp→VK→Prop)(te:TE)(tl th:TO):TE:=fun σ H Q=>te σ H fun x H1=>tl σ H1 fun l H2=>th σ H2 fun u H3=>r x l u H3 Q
theorem pe_slice{r:V→Option Int→Option Int→Hp→VK→Prop}(hr:SlR X r)(he:PE X e te)(hl:PO X lo tl)(hu:PO X hi th):PE X (.Subscript e (.Slice lo hi none p2) pos) (tSl r te tl th):=by
 intro pins s σ H Q I h
 refine Subscript_ (thn (he pins s σ H _ I h) fun v s1 ⟨x,H1,I1,r1,q1⟩=> ?_)
 refine wpAny_Slice (thn (hl pins s1 σ H1 _ I1 q1) fun vl s2 ⟨l,H2,I2,pl,q2⟩=>thn (hu pins s2 σ H2 _ I2 q2) fun vu s3 ⟨u,H3,I3,pu,q3⟩=> ?_)
 rw[evalPart_none]
 refine wpAny_pure ?_
 have I4:Inv X pins σ H3 {s3 with heap:=s3.heap.push {cls:=.type "slice",data:=.fields #[vl,vu, .none]}}:=I3.kept (t':=s3.toks) fun b ob q=>Heap.get?_push_of_some _ q
 obtain⟨T,id,hT,ht,hg⟩:=hr pins {s3 with heap:=s3.heap.push {cls:=.type "slice",data:=.fields #[vl,vu, .none]}} σ H3 x v vl vu l u s3.heap.objs.size Q I4 r1 (Heap.IsSliceOf.new ..) pl pu q3
 show wpAny (model X.prog X.w) X.A (subscriptTail e (.Slice lo hi none p2) v (.ref s3.heap.objs.size)) (EP X pins σ Q) X.xe {s3 with heap:=s3.heap.push {cls:=.type "slice",data:=.fields #[vl,vu, .none]}}
 exact tail_any (ops:=[.ref s3.heap.objs.size,v]) ht hT hg (by with_unfolding_all rfl)
noncomputable def cutV(xs:List V)(lo hi:Option Int):List V:=(xs.drop (HT.sIx xs.length 0 lo)).take (HT.sIx xs.length xs.length hi - HT.sIx xs.length 0 lo)
theorem cutV_length(xs:List V)(lo hi:Option Int):(cutV xs lo hi).length≤xs.length:=by
 unfold cutV
 rw[List.length_take,List.length_drop]
 omega
noncomputable def rSlT(K:PySem.W.Frag):V→Option Int→Option Int→Hp→VK→Prop:=fun x lo hi H Q=>∃a xs,x=.ref a∧SqT K H a xs∧
 ¬(HT.sIx xs.length 0 lo=0∧HT.sIx xs.length xs.length hi=xs.length)∧∀p,H p=none→Q (.ref p) (upd H p (.tup (cutV xs lo hi)))
theorem sl_tup:SlR X (rSlT X.K):=by
 intro pins s σ H x v vl vu lo hi sl Q I rx hs pl pu h
 obtain⟨a,xs,rfl,hx,hw,q⟩:=h
 cases rx
 obtain⟨its,r,ht,hz⟩:=I.tuple hx
 have hlen:its.toArray.size=xs.length:=by rw[List.size_toArray];exact r.length.symm
 refine⟨"tuple",_,PyProof.Rows.slot_tuple_getitem.lookup,ht.typeIs,?_⟩
 refine HT.getItem_tuple_cut ht hs pl pu (by rw[hlen];exact hw) ?_ (by rw[hlen];exact hz)
 rw[hlen]
 refine⟨.ref s.heap.objs.size,_,I.laid (t':=s.toks) (o:=.tup (cutV xs lo hi)) (fun b ob q=>Heap.get?_push_of_some _ q) (Nat.le_refl _) ?_,rfl,q _ (I.hok.fresh (Nat.le_refl _))⟩
 exact⟨Nat.le_trans (cutV_length xs lo hi) hz,_,(r.drop (HT.sIx xs.length 0 lo)).take (HT.sIx xs.length xs.length hi - HT.sIx xs.length 0 lo),TupN.new _ _⟩
noncomputable def rCatT(K:PySem.W.Frag):R2:=fun x y H Q=>∃a b xs ys,x=.ref a∧y=.ref b∧SqT K H a xs∧SqT K H b ys∧xs≠[]∧xs.length+ys.length≤sizeLine∧
 (ys=[]→Q (.ref a) H)∧(ys≠[]→∀p,H p=none→Q (.ref p) (upd H p (.tup (xs++ys))))
theorem Vals.nil_iff{xs:List V}{us:List Value}(r:Vals xs us):us=[]↔xs=[]:=by
 cases r with
 |nil=>simp
 |cons _ _=>simp
theorem op_catT:OpR X (binaryOp .Add) (rCatT X.K):=by
 intro pins s σ H x y v u Q I rx ry h
 obtain⟨a,b,xs,ys,rfl,rfl,ha,hb,hx,hz,q1,q2⟩:=h
 cases rx
 cases ry
 obtain⟨its,r1,p1,_⟩:=I.tuple ha
 obtain⟨its2,r2,p2,_⟩:=I.tuple hb
 refine HT.cat_tup p1 p2 (fun z=>hx (r1.nil_iff.mp z)) (fun z=>⟨.ref a,H,I,rfl,q1 (r2.nil_iff.mp z)⟩) (fun z=> ?_) (by rw[←r1.length,←r2.length];exact hz)
 refine⟨.ref s.heap.objs.size,_,I.laid (t':=s.toks) (o:=.tup (xs++ys)) (fun b ob q=>Heap.get?_push_of_some _ q) (Nat.le_refl _) ?_,rfl,q2 (fun w=>z (r2.nil_iff.mpr w)) _ (I.hok.fresh (Nat.le_refl _))⟩
 exact⟨by rw[List.length_append];exact hz,_,r1.append r2,TupN.new _ _⟩
end
end L2
namespace L2
open PySem PySem.Spec PyProof.Rows
noncomputable def ixN(n:Nat)(i:Int):Option Nat:=if 0≤i then(if i<n then some i.toNat else none)else if -(n:Int)≤i then some (i+n).toNat else none
noncomputable def atI{α:Type}(xs:List α)(i:Int):Option α:=(ixN xs.length i).bind fun j=>xs[j]?
theorem ixN_seq{n:Nat}{i:Int}{j:Nat}(h:ixN n i=some j):seqIndex? i n=some j∧j<n∧ -(n:Int)≤i∧i<n:=by
 unfold ixN at h
 by_cases h0:0≤i
 ·rw[if_pos h0]at h
  by_cases h1:i<n
  ·rw[if_pos h1]at h
   have e:i.toNat=j:=Option.some.inj h
   exact⟨by rw[seqIndex_of h0 h1,e],by omega,by omega,h1⟩
  ·rw[if_neg h1]at h;cases h
 ·rw[if_neg h0]at h
  by_cases h1: -(n:Int)≤i
  ·rw[if_pos h1]at h
   have e:(i+n).toNat=j:=Option.some.inj h
   exact⟨by rw[seqIndex_neg (by omega) h1,e],by omega,h1,by omega⟩
  ·rw[if_neg h1]at h;cases h
theorem atI_get{α:Type}{xs:List α}{i:Int}{v:α}(h:atI xs i=some v):∃j,seqIndex? i xs.length=some j∧xs[j]? =some v∧j<xs.length∧ -(xs.length:Int)≤i∧i<xs.length:=by
 unfold atI at h
 cases e:ixN xs.length i with
 |none=>rw[e]at h;cases h
 |some j=>
  rw[e]at h
  obtain⟨h1,h2,h3,h4⟩:=ixN_seq e
  exact⟨j,h1,h,h2,h3,h4⟩
theorem atI_nat{α:Type}{xs:List α}{j:Nat}{v:α}(h:xs[j]? =some v):atI xs (j:Int)=some v:=by
 have hj:j<xs.length:=(List.getElem?_eq_some_iff.mp h).1
 have e:ixN xs.length (j:Int)=some j:=by
  unfold ixN
  rw[if_pos (by omega),if_pos (by omega)];simp
 unfold atI;rw[e];exact h
noncomputable def PlainIx(b:Expr):Prop:=∀o i,subscripted b false o i=operate [o,i] (getItem o i)
noncomputable def IxR(X:Cx)(r:R2):Prop:=
 ∀(value slice:Expr) (pins:List (Addr×Obj)) (s:Shared) (σ:St) (H:Hp) (x y:V) (v u:Value) (Q:VK),Inv X pins σ H s→RelV x v→RelV y u→r x y H Q→
  subscripted slice false v u=operate [v,u] (getItem v u)→wpAny (model X.prog X.w) X.A (subscriptTail value slice v u) (EP X pins σ Q) X.xe s
noncomputable def MtR(X:Cx)(id:String)(r:V→List V→Hp→VK→Prop):Prop:=
 ∀(pins:List (Addr×Obj)) (s:Shared) (σ:St) (H:Hp) (x:V) (xs:List V) (v:Value) (us:List Value) (Q:VK),Inv X pins σ H s→RelV x v→Vals xs us→r x xs H Q→
  wpAny (model X.prog X.w) X.A (call (.builtin id) (v::us)) (EP X pins σ Q) X.xe s
section
variable{X:Cx}{a b:Expr}{ta tb:TE}{pos:Pos}
theorem pe_ix{r:R2}(hr:IxR X r)(ha:PE X a ta)(hb:PE X b tb)(hs:PlainIx b):PE X (.Subscript a b pos) (tOp r ta tb):=by
 intro pins s σ H Q I h
 exact Subscript_ (binT ha hb I h fun v u s2 x y H2 I2 rx ry q=>hr a b pins s2 σ H2 x y v u Q I2 rx ry q (hs _ _))
noncomputable def rIxL(K:PySem.W.Frag):R2:=fun x y H Q=>∃p xs i v,x=.ref p∧y=.int i∧SqL K H p xs∧atI xs i=some v∧Q v H
noncomputable def rIxT(K:PySem.W.Frag):R2:=fun x y H Q=>∃p xs i v,x=.ref p∧y=.int i∧SqT K H p xs∧atI xs i=some v∧Q v H
theorem ix_list:IxR X (rIxL X.K):=by
 intro value slice pins s σ H x y v u Q I rx ry h hs
 obtain⟨p,xs,i,z,rfl,rfl,hq,he,q⟩:=h
 cases rx
 obtain⟨t,rfl⟩:=ry
 obtain⟨its,r,pl,hz⟩:=I.list hq
 obtain⟨j,h1,h2,h3,h4,h5⟩:=atI_get he
 obtain⟨w,ew,rw'⟩:=r.get h2
 have hl:=r.length
 have hn:=line63
 have fin:EP X pins σ Q w s:=⟨z,H,I,rw',q⟩
 by_cases h0:0≤i
 ·have hj:i.toNat=j:=by
   rw[seqIndex_of h0 h5]at h1
   exact Option.some.inj h1
  exact item_listR pl.isList h0 (by omega) (by rw[hj];simpa using ew) fin hs
 ·have hj:(i+(its.toArray.size:Int)).toNat=j:=by
   rw[seqIndex_neg (by omega) h4]at h1
   rw[List.size_toArray,←hl]
   exact Option.some.inj h1
  exact subscriptTail_builtinR (x:=w) pl.isList.typeIs slot_list_getitem.lookup
   (wpAny_getItem_list_neg (Q:=fun r s'=>r=w∧EP X pins σ Q r s') pl.isList (by omega) (by rw[List.size_toArray]<;>omega) (by omega) (by rw[hj];simpa using ew) ⟨rfl,fin⟩) hs
theorem ix_tup:IxR X (rIxT X.K):=by
 intro value slice pins s σ H x y v u Q I rx ry h hs
 obtain⟨p,xs,i,z,rfl,rfl,hq,he,q⟩:=h
 cases rx
 obtain⟨t,rfl⟩:=ry
 obtain⟨its,r,pl,hz⟩:=I.tuple hq
 obtain⟨j,h1,h2,h3,h4,h5⟩:=atI_get he
 obtain⟨w,ew,rw'⟩:=r.get h2
 have hl:=r.length
 have hn:=line63
 have fin:EP X pins σ Q w s:=⟨z,H,I,rw',q⟩
 exact subscriptTail_builtinR (x:=w) pl.typeIs slot_tuple_getitem.lookup
  (getItem_tuple (j:=j) (Q:=fun r s'=>r=w∧EP X pins σ Q r s') pl (by omega) (by omega) (by rw[List.size_toArray,←hl];exact h1) (by simpa using ew) ⟨rfl,fin⟩) hs
theorem mapSeq_set(its:List Value)(n j:Nat)(u:Value):Obj.mapSeq (·.setIfInBounds j u) {cls:=.type "list",data:=.seq its.toArray n}={cls:=.type "list",data:=.seq (its.set j u).toArray n}:=by
 simp[Obj.mapSeq]
theorem Inv.lst{pins:List (Addr×Obj)}{σ:St}{H:Hp}{s:Shared}{p:Addr}{xs:List V}(I:Inv X pins σ H s)(h:H p=some (.lst xs)):
  ∃(its:List Value) (n:Nat),Vals xs its∧s.heap.get? p=some {cls:=.type "list",data:=.seq its.toArray n}∧xs.length≤sizeLine:=by
 obtain⟨z,its,n,r,e⟩:=I.hok p _ h
 exact⟨its,n,r,e,z⟩
theorem Inv.lstUpd{pins:List (Addr×Obj)}{σ:St}{H:Hp}{s:Shared}{p:Addr}{xs ys:List V}{its its':List Value}{n n':Nat}{f:Obj→Obj}(I:Inv X pins σ H s)(h:H p=some (.lst xs))
  (ho:s.heap.get? p=some {cls:=.type "list",data:=.seq its.toArray n}) (hf:f {cls:=.type "list",data:=.seq its.toArray n}={cls:=.type "list",data:=.seq its'.toArray n'}) (r:Vals ys its') (hz:ys.length≤sizeLine) (t:Nat):
  Inv X pins σ (upd H p (.lst ys)) {s with heap:=s.heap.update p f,toks:=t}:=by
 have e:(s.heap.update p f).get? p=some {cls:=.type "list",data:=.seq its'.toArray n'}:=by
  rw[Heap.get?_update_self f ho (by rw[hf]<;>rfl),hf]
 refine I.write (x:=p) (e:=p) (by rw[h];trivial) (.inl rfl) (fun b u hb q=>(Heap.get?_update_other _ _ (Ne.symm hb)).trans q) ⟨_,e⟩ ?_
 exact⟨hz,its',n',r,e⟩
noncomputable def rSetL:V→V→V→Hp→(Hp→Prop)→Prop:=fun o i v H Q=>∃p xs k j,o=.ref p∧i=.int k∧H p=some (.lst xs)∧ixN xs.length k=some j∧Q (upd H p (.lst (xs.set j v)))
theorem set_list:PSet X rSetL:=by
 intro pins s σ H o i v ov iv u Q I ro ri rv h
 obtain⟨p,xs,k,j,rfl,rfl,hp,hj,q⟩:=h
 cases ro
 obtain⟨t,rfl⟩:=ri
 obtain⟨its,n,r,ho,hz⟩:=I.lst hp
 obtain⟨h1,h2,h3,h4⟩:=ixN_seq hj
 have hl:=r.length
 have hn:=line63
 have I':Inv X pins σ (upd H p (.lst (xs.set j v))) {s with heap:=s.heap.update p (Obj.mapSeq (·.setIfInBounds j u))}:=
  I.lstUpd hp ho (mapSeq_set its n j u) (r.set rv j) (by rw[List.length_set];exact hz) s.toks
 by_cases h0:0≤k
 ·have hk:k.toNat=j:=by
   rw[seqIndex_of h0 h4]at h1
   exact Option.some.inj h1
  exact PySem.W.ki_setAt ho h0 (by omega) (by rw[List.size_toArray,←hl];exact h4) (by rw[hk];exact⟨_,I',q⟩)
 ·have hk:(k+(its.toArray.size:Int)).toNat=j:=by
   rw[seqIndex_neg (by omega) h3]at h1
   rw[List.size_toArray,←hl]
   exact Option.some.inj h1
  exact PySem.W.ki_setBack ho (by omega) (by rw[List.size_toArray,←hl];exact h3) (by omega) (by rw[hk];exact⟨_,I',q⟩)
theorem slice_bounds(lo hi:Option Int)(n:Nat):(sliceBounds lo hi none n).1=((HT.sIx n 0 lo:Nat):Int)∧(sliceBounds lo hi none n).2.1=((HT.sIx n n hi:Nat):Int)∧(sliceBounds lo hi none n).2.2=1:=by
 refine⟨?_,?_,rfl⟩
 ·cases lo with
  |none=>simp[sliceBounds,HT.sIx]
  |some i=>
   simp only[sliceBounds,HT.sIx,Option.getD_none,show(1:Int)>0 by decide,if_true]
   by_cases h:i<0
   ·simp only[h,if_true]<;>omega
   ·simp only[h,if_false]<;>omega
 ·cases hi with
  |none=>simp[sliceBounds,HT.sIx]
  |some i=>
   simp only[sliceBounds,HT.sIx,Option.getD_none,show(1:Int)>0 by decide,if_true]
   by_cases h:i<0
   ·simp only[h,if_true]<;>omega
   ·simp only[h,if_false]<;>omega
theorem slicePick_cut(its:List Value)(lo hi:Option Int):slicePick its.toArray lo hi none=((its.drop (HT.sIx its.length 0 lo)).take (HT.sIx its.length its.length hi - HT.sIx its.length 0 lo)).toArray:=by
 obtain⟨h1,h2,h3⟩:=slice_bounds lo hi its.toArray.size
 unfold slicePick
 rw[h1,h2,h3]
 simp only[sliceRange_one,pick_run,List.size_toArray]<;>rfl
noncomputable def rSlL(K:PySem.W.Frag):V→Option Int→Option Int→Hp→VK→Prop:=fun x lo hi H Q=>∃a xs,x=.ref a∧SqL K H a xs∧∀p,H p=none→Q (.ref p) (upd H p (.lst (cutV xs lo hi)))
theorem sl_list:SlR X (rSlL X.K):=by
 intro pins s σ H x v vl vu lo hi sl Q I rx hs pl pu h
 obtain⟨a,xs,rfl,hx,q⟩:=h
 cases rx
 obtain⟨its,r,ht,hz⟩:=I.list hx
 have hlen:=r.length
 refine⟨"list",_,slot_list_getitem.lookup,ht.isList.typeIs,?_⟩
 refine wpAny_getItem_list_slice ht.isList hs pl pu .none (by simp) ?_ (by rw[List.size_toArray]<;>omega)
 rw[slicePick_cut,←hlen]
 refine⟨.ref s.heap.objs.size,_,I.laid (t':=s.toks) (o:=.lst (cutV xs lo hi)) (fun b ob q=>Heap.get?_push_of_some _ q) (Nat.le_refl _) ?_,rfl,q _ (I.hok.fresh (Nat.le_refl _))⟩
 exact⟨Nat.le_trans (cutV_length xs lo hi) hz,_,0,(r.drop (HT.sIx xs.length 0 lo)).take (HT.sIx xs.length xs.length hi - HT.sIx xs.length 0 lo),Heap.get?_push_size _ rfl⟩
theorem call_len_seq:CallR X (.builtin "len") (fun xs H Q=>∃p ys,xs=[.ref p]∧(SqL X.K H p ys∨SqT X.K H p ys)∧Q (.int ys.length) H):=by
 intro pins s σ H xs us Q I r h
 obtain⟨p,ys,rfl,hq,q⟩:=h
 obtain⟨u,rfl,rx⟩:=vals1 r
 cases rx
 have hn:=line63
 rcases hq with hq|hq
 ·obtain⟨its,r',pl,hz⟩:=I.list hq
  have hlen:=r'.length
  exact Calls.call_len_list pl.isList (by simp only[List.size_toArray]<;>omega) ⟨.int ys.length,H,I.tok _,⟨s.toks+1,by rw[List.size_toArray,hlen]⟩,q⟩
 ·obtain⟨its,r',pl,hz⟩:=I.tuple hq
  have hlen:=r'.length
  exact len_tuple pl (by simp only[List.size_toArray]<;>omega) ⟨.int ys.length,H,I.tok _,⟨s.toks+1,by rw[List.size_toArray,hlen]⟩,q⟩
theorem call_len_str:CallR X (.builtin "len") (fun xs H Q=>∃z,xs=[.str z]∧z.length≤sizeLine∧Q (.int z.length) H):=by
 intro pins s σ H xs us Q I r h
 obtain⟨z,rfl,hz,q⟩:=h
 obtain⟨u,rfl,t,rfl⟩:=vals1 r
 have hn:=line63
 exact len_str (by omega) ⟨.int z.length,H,I.tok _,⟨_,rfl⟩,q⟩
theorem call_list_of:CallR X (.type "list") (fun xs H Q=>∃p ys,xs=[.ref p]∧(SqL X.K H p ys∨SqT X.K H p ys)∧∀l,H l=none→Q (.ref l) (upd H l (.lst ys))):=by
 intro pins s σ H xs us Q I r h
 obtain⟨p,ys,rfl,hq,q⟩:=h
 obtain⟨u,rfl,rx⟩:=vals1 r
 cases rx
 have fin:∀(its:List Value),Vals ys its→ys.length≤sizeLine→∀(h':Heap) (c':Nat),(∀b o',s.heap.get? b=some o'→h'.get? b=some o')→
   h'.get? s.heap.objs.size=some {cls:=.type "list",dict:=none,data:=.seq its.toArray c',slots:= #[]}→EP X pins σ Q (.ref s.heap.objs.size) {s with heap:=h'}:=fun its r' hz h' c' kp e=>
  ⟨.ref s.heap.objs.size,_,I.laid (t':=s.toks) kp (Nat.le_refl _) (show ObjOk X.prog X.w _ h' _ (.lst ys)from⟨hz,its,c',r',e⟩),rfl,q _ (I.hok.fresh (Nat.le_refl _))⟩
 rcases hq with hq|hq
 ·obtain⟨its,r',pl,hz⟩:=I.list hq
  have hlen:=r'.length
  obtain⟨o,ho,hc,n,hd⟩:=pl.isList
  exact call_list_seq p (.inl rfl) ho hc hd (fun h' c' kp e=>fin its r' hz h' c' kp e) (by simp only[List.size_toArray]<;>omega)
 ·obtain⟨its,r',pl,hz⟩:=I.tuple hq
  have hlen:=r'.length
  obtain⟨o,ho,hc,n,hd⟩:=pl
  exact call_list_seq p (.inr rfl) ho hc hd (fun h' c' kp e=>fin its r' hz h' c' kp e) (by simp only[List.size_toArray]<;>omega)
theorem call_tuple_of:CallR X (.type "tuple") (fun xs H Q=>∃p ys,xs=[.ref p]∧((SqL X.K H p ys∧∀l,H l=none→Q (.ref l) (upd H l (.tup ys)))∨(SqT X.K H p ys∧Q (.ref p) H))):=by
 intro pins s σ H xs us Q I r h
 obtain⟨p,ys,rfl,h⟩:=h
 obtain⟨u,rfl,rx⟩:=vals1 r
 cases rx
 rcases h with⟨hq,q⟩|⟨hq,q⟩
 ·obtain⟨its,r',pl,hz⟩:=I.list hq
  have hlen:=r'.length
  refine call_tuple_list pl.isList (fun h' kp=> ?_) (by simp only[List.size_toArray]<;>omega)
  have I1:Inv X pins σ H {s with heap:=h'}:=I.kept (t':=s.toks) kp
  have I2:Inv X pins σ (upd H h'.objs.size (.tup ys)) {s with heap:=h'.push {cls:=.type "tuple",data:=.seq its.toArray}}:=
   I1.laid (t':=s.toks) (fun b o e=>Heap.get?_push_of_some _ e) (Nat.le_refl _) (show ObjOk X.prog X.w _ _ _ (.tup ys)from⟨hz,its,r',TupN.new _ _⟩)
  exact⟨.ref h'.objs.size,_,I2,rfl,q _ (I1.hok.fresh (Nat.le_refl _))⟩
 ·obtain⟨its,r',pl,hz⟩:=I.tuple hq
  exact call_tuple_same pl ⟨.ref p,H,I,rfl,q⟩
noncomputable def tyV(K:PySem.W.Frag)(T:String)(x:V)(H:Hp):Prop:=match x with
 | .str _=>T="str"
 | .int _=>T="int"
 | .ref p=>(T="list"∧∃xs,SqL K H p xs)∨(T="tuple"∧∃o,K.lookup p=some o∧o.cls=.type "tuple"∧o.dict=none)∨
   (T="dict"∧((∃kvs,H p=some (.dK kvs))∨∃kvs,H p=some (.dT kvs)))∨(T="set"∧∃S n,H p=some (.set S n))
 |_=>False
theorem tyV_is{pins:List (Addr×Obj)}{σ:St}{H:Hp}{s:Shared}{T:String}{x:V}{v:Value}(I:Inv X pins σ H s)(r:RelV x v)(ty:tyV X.K T x H):
  s.TypeIs v T∧∀a,v=.ref a→∃ob,s.heap.get? a=some ob∧ob.dict=none:=by
 cases x with
 |str z=>
  obtain⟨t,rfl⟩:=r
  cases (show T="str" from ty)
  exact⟨typeIs_str s z t,fun _ e=>nomatch e⟩
 |int i=>
  obtain⟨t,rfl⟩:=r
  cases (show T="int" from ty)
  exact⟨typeIs_int s i t,fun _ e=>nomatch e⟩
 |ref p=>
  cases r
  rcases ty with⟨rfl,xs,hq⟩|⟨rfl,o,hk,hc,hd⟩|⟨rfl,hk⟩|⟨rfl,S,n,hk⟩
  ·obtain⟨its,_,pl,_⟩:=I.list hq
   refine⟨pl.isList.typeIs,fun a e=> ?_⟩
   cases e
   obtain⟨o,n,e,c,hd,_⟩:=pl
   exact⟨o,e,hd⟩
  ·refine⟨⟨o,I.kIn p o hk,hc⟩,fun a e=> ?_⟩
   cases e
   exact⟨o,I.kIn _ o hk,hd⟩
  ·have z:∃o,s.heap.get? p=some o∧o.ExactDict:=by
    rcases hk with⟨kvs,hk⟩|⟨kvs,hk⟩
    ·obtain⟨_,_,_,_,o,_,_,e,ex,_⟩:=I.hok p _ hk
     exact⟨o,e,ex⟩
    ·obtain⟨_,_,_,_,o,_,_,e,ex,_⟩:=I.hok p _ hk
     exact⟨o,e,ex⟩
   obtain⟨o,e,ex⟩:=z
   refine⟨⟨o,e,ex.1⟩,fun a e2=> ?_⟩
   cases e2
   exact⟨o,e,ex.2.1⟩
  ·obtain⟨o,_,_,_,e,ex,_⟩:=I.hok p _ hk
   refine⟨⟨o,e,ex.1⟩,fun a e2=> ?_⟩
   cases e2
   exact⟨o,e,ex.2.1⟩
 |_=>exact False.elim ty
noncomputable def tBM(K:PySem.W.Frag)(T:String)(r:V→List V→Hp→VK→Prop)(to:TE)(t:TA):TE:=fun σ H Q=>to σ H fun x H1=>tyV K T x H1∧t σ H1 fun xs H2=>r x xs H2 Q
variable{o e:Expr}{es:List Expr}{to:TE}{t:TA}{name:Str}{apos cpos:Pos}{T id:String}{r:V→List V→Hp→VK→Prop}
theorem pe_bm(pa:PlainAttrs T)(slot:Slot T name id)(hty:typeOf (.builtin id)=pure (.type "method_descriptor"))(hm:MtR X id r)(ho:PE X o to)(ha:PA X (e::es) t)
  (hbase:attributeBase o name X.env (eval o X.env)=eval o X.env:=by rfl)
  (hfew:((backTo cpos (starEach (e::es) X.env)).all (fun x=> !x.1)&&(backToKw cpos (keywordEach [] X.env)).all (fun x=>x.1.isSome)
   &&decide ((e::es).length+([]:List Keyword).length+(if([]:List Keyword).isEmpty then 0 else 1)<30))=true:=by rfl)
  (hline:(apos.endLine == cpos.line)=true:=by rfl) (hs:starEach (e::es) X.env=(false,eval e X.env)::starEach es X.env:=by rfl) (hplain:(backTo cpos (starEach es X.env)).any (·.1)=false:=by rfl):
  PE X (.Call (.Attribute o name apos) (e::es) [] cpos) (tBM X.K T r to t):=by
 intro pins s σ H Q I h
 refine wpAny_Call_method_late hbase hfew hline rfl (thn (ho pins s σ H _ I h) fun v s1 ⟨x,H1,I1,r1,ty,q1⟩=> ?_)
 obtain⟨h1,h2⟩:=tyV_is I1 r1 ty
 refine⟨T,id,pa,slot,hty,h1,h2,?_⟩
 have hA:=ha cpos pins s1 σ H1 _ I1 q1
 rw[hs]at hA ⊢
 refine Calls.callWith_builtin (by show(false || (backTo cpos (starEach es X.env)).any (·.1))=false;rw[hplain]<;>rfl) (Calls.evalArgs_plain ?_)
 exact thn hA fun us s2 ⟨vs,H2,I2,r2,q2⟩=>hm pins s2 σ H2 x vs v us Q I2 r1 r2 q2
end
end L2
namespace L2
open PySem PySem.Spec PyProof.Rows
noncomputable def MtM(X:Cx)(id:String)(r:V→List V→Hp→VK→Prop):Prop:=
 ∀(pins:List (Addr×Obj)) (s:Shared) (σ:St) (H:Hp) (x:V) (xs:List V) (v:Value) (us:List Value) (Q:VK),Inv X pins σ H s→RelV x v→Vals xs us→r x xs H Q→
  wpAny (model X.prog X.w) X.A (call (.builtin id) (v::us)) (EP X pins σ Q) X.xe s
theorem Vals.one:∀{x:V} {us:List Value},Vals [x] us→∃u,us=[u]∧RelV x u
 |_,_, .cons r .nil=>⟨_,rfl,r⟩
theorem Vals.two:∀{x y:V} {us:List Value},Vals [x,y] us→∃u v,us=[u,v]∧RelV x u∧RelV y v
 |_,_,_, .cons r (.cons q .nil)=>⟨_,_,rfl,r,q⟩
theorem Vals.zero:∀{us:List Value},Vals [] us→us=[]
 |_, .nil=>rfl
theorem Vals.rep{xs:List V}{us:List Value}(h:Vals xs us):∀k:Nat,Vals (List.replicate k xs).flatten (List.replicate k us).flatten
 |0=>.nil
 |k+1=>by
  rw[List.replicate_succ,List.replicate_succ,List.flatten_cons,List.flatten_cons]
  exact Vals.append h (Vals.rep h k)
theorem foldl_rep(its:List Value):∀(k:Nat) (acc:List Value),
  List.foldl (fun x1 x2=>x1++x2) acc.toArray (List.replicate k its.toArray)=(acc++(List.replicate k its).flatten).toArray
 |0,acc=>by simp
 |k+1,acc=>by
  have e:acc.toArray++its.toArray=(acc++its).toArray:=by simp
  have e2:(acc++its)++(List.replicate k its).flatten=acc++(List.replicate (k+1) its).flatten:=by
   rw[List.replicate_succ,List.flatten_cons,List.append_assoc]
  rw[←e2,←foldl_rep its k (acc++its),←e,List.replicate_succ,List.foldl_cons]
section
variable{X:Cx}{pins:List (Addr×Obj)}{σ:St}{H:Hp}{s:Shared}{l b:Addr}{xs ys zs:List V}
theorem Inv.lset{its its':List Value}{n:Nat}{f:Array Value→Array Value}{t':Nat}(I:Inv X pins σ H s)(hH:H l=some (.lst xs))
  (e:s.heap.get? l=some {cls:=.type "list",data:=.seq its.toArray n}) (hf:f its.toArray=its'.toArray) (hv:Vals ys its') (hz:ys.length≤sizeLine):
  Inv X pins σ (upd H l (.lst ys)) {s with heap:=s.heap.update l (Obj.mapSeq f),toks:=t'}:=by
 have q:=PySem.IsL.update e f
 rw[hf]at q
 refine I.write (x:=l) (e:=l) (by rw[hH];exact trivial) (.inl rfl) (fun b' u hb hu=>(Heap.get?_update_other s.heap (Obj.mapSeq f) (Ne.symm hb)).trans hu) ⟨_,q⟩ ?_
 exact⟨hz,its',_,hv,q⟩
theorem Inv.lnew{its:List Value}{t':Nat}(I:Inv X pins σ H s)(hv:Vals ys its)(hz:ys.length≤sizeLine):
  Inv X pins σ (upd H s.heap.objs.size (.lst ys)) {s with heap:=s.heap.push {cls:=.type "list",data:=.seq its.toArray},toks:=t'}:=
 I.laid (fun _ _ q=>Heap.get?_push_of_some _ q) (Nat.le_refl _) ⟨hz,its,0,hv,Heap.get?_push_size _ rfl⟩
theorem Inv.fresh(I:Inv X pins σ H s):H s.heap.objs.size=none:=I.hok.fresh (Nat.le_refl _)
theorem Inv.lstM(I:Inv X pins σ H s)(hH:H l=some (.lst xs)):xs.length≤sizeLine∧∃(its:List Value) (n:Nat),Vals xs its∧xs.length=its.length∧s.heap.get? l=some {cls:=.type "list",data:=.seq its.toArray n}:=by
 obtain⟨z,its,n,r,e⟩:=I.hok l _ hH
 exact⟨z,its,n,r,r.length,e⟩
theorem notLongL{n:Nat}(h:n≤sizeLine):Builtin.List.listTooLong n=false:=by
 unfold Builtin.List.listTooLong
 exact decide_eq_false (by omega)
end
section
variable{X:Cx}
noncomputable def rAppend:V→List V→Hp→VK→Prop:=fun x vs H Q=>∃l xs y,x=.ref l∧vs=[y]∧H l=some (.lst xs)∧xs.length<sizeLine∧Q .non (upd H l (.lst (xs++[y])))
theorem mt_append:MtM X "list.append" rAppend:=by
 intro pins s σ H x vs v us Q I rx rv h
 obtain⟨l,xs,y,rfl,rfl,hH,hz,q⟩:=h
 cases rx
 obtain⟨u,rfl,ru⟩:=rv.one
 obtain⟨z,its,n,r,hl,e⟩:=I.lstM hH
 refine call_meets F.slot_list_append ⟨_,e,rfl⟩ F.entry_list_append (F.args_list_append_2 _ _) (PySem.list_append l its.toArray n u (by rw[List.size_toArray];omega)) ⟨e,?_⟩
 refine⟨.non,_,I.lset (its':=its++[u]) hH e (by simp) (r.append (.cons ru .nil)) ?_,rfl,q⟩
 rw[List.length_append,List.length_singleton]
 omega
noncomputable def rRep:R2:=fun x y H Q=>∃l k xs,x=.ref l∧y=.int k∧H l=some (.lst xs)∧ -(2 ^ 63)≤k∧k<2 ^ 63∧xs.length * k.toNat≤sizeLine∧
 ∀p,H p=none→Q (.ref p) (upd H p (.lst (List.replicate k.toNat xs).flatten))
theorem len_rep{α:Type}(xs:List α)(k:Nat):(List.replicate k xs).flatten.length=k * xs.length:=by
 induction k with
 |zero=>simp
 |succ k ih=>rw[List.replicate_succ,List.flatten_cons,List.length_append,ih,Nat.succ_mul,Nat.add_comm]
theorem op_rep:OpR X (binaryOp .Mult) rRep:=by
 intro pins s σ H x y v u Q I rx ry h
 obtain⟨l,k,xs,rfl,rfl,hH,h1,h2,hz,q⟩:=h
 cases rx
 obtain⟨t,rfl⟩:=ry
 obtain⟨z,its,n,r,hl,e⟩:=I.lstM hH
 have hlen:its.toArray.size * k.toNat≤sizeLine:=by rw[List.size_toArray,←hl];exact hz
 have hcap:¬its.toArray.size * k.toNat>(2 ^ 63 - 1) / 8:=by
  have:(sizeLine:Nat)≤(2 ^ 63 - 1) / 8:=by decide
  omega
 have hfit:¬(!Builtin.List.listFitsIndex k)=true:=by
  rw[fitsIndex_both h1 h2]
  exact Bool.false_ne_true
 have hlong:¬Builtin.List.listTooLong (its.toArray.size * k.toNat)=true:=by
  rw[notLongL hlen]
  exact Bool.false_ne_true
 have hnew:List.foldl (fun x1 x2=>x1++x2) #[] (List.replicate (if its.toArray.isEmpty=true then 0 else k.toNat) its.toArray)=(List.replicate k.toNat its).flatten.toArray:=by
  have f0:∀m:Nat,List.foldl (fun x1 x2=>x1++x2) #[] (List.replicate m its.toArray)=(List.replicate m its).flatten.toArray:=fun m=>by
   have:=foldl_rep its m []
   rw[List.nil_append]at this
   exact this
  rw[f0]
  cases its with
  |nil=>simp
  |cons a r'=>rw[if_neg (by simp)]
 refine wpAny_binaryOp_repeat_ref (T:="list") (U:="int") (by decide) ⟨_,e,rfl⟩ (fun s'=>typeIs_int s' k t) noFill_list_mul F.fills_int_mul F.slot_int_rmul repeat_list F.slot_int_index.lookup
  (call_meets F.slot_int_rmul (typeIs_int s k t) F.entry_int_rmul (F.args_int_rmul_2 _ _) (int___rmul___int_list k t l its.toArray n)
   ⟨e,rfl,⟨_,e,rfl⟩,call_meets F.slot_list_mul ⟨_,e,rfl⟩ F.entry_list_mul (F.args_list_mul_2 _ _) (AutoListH.list___mul___list_int_3 l its.toArray n k t hfit hcap hlong) ⟨e,?_⟩⟩)
 rw[hnew]
 exact⟨.ref _,_,I.lnew (t':=s.toks) (r.rep k.toNat) (by rw[len_rep,Nat.mul_comm];exact hz),rfl,q _ I.fresh⟩
end
section
variable{prog:Program}{w:World}{A:Around}{E:Value→Shared→Prop}{s:Shared}
set_option maxRecDepth 100000 in
end
section
variable{X:Cx}
end
end L2
namespace Att
open PySem PySem.W PySem.Calls PyProof.Rows
theorem ints_of_wellAll{P:Params}{h:Heap}:∀(ns:List Int) (vs:List Value),WellAll P h vs (ns.map WData.int)→IntsAre vs ns:=by
 intro ns
 induction ns with
 |nil=>
  intro vs w
  rw[List.map_nil]at w
  cases w
  exact .nil
 |cons n ns ih=>
  intro vs w
  rw[List.map_cons]at w
  cases w with
  |cons a b=>
   cases a
   exact .cons _ _ (ih _ b)
theorem script_of{l:OpenLaw}{n:Nat}(hn:l.most=some n){P:Params}{h:Heap}{args:List WData}{vals:List Value}
  (hpre:l.row.toRowW.claim.pre args=true) (hwl:WellAll P h vals args):
  ∃a vs ns,vals=[Value.ref a]∧args=[WData.list (ns.map WData.int)]∧h.get? a=some {cls:=.type "list",data:=.seq vs.toArray}∧IntsAre vs ns∧ns.length≤n:=by
 have hsh:WShape.hasAll [] args [.list .int]=true:=(pre_splitW hpre).1
 have hc:l.pre.holds [] {args:=args}=true:=(pre_splitW hpre).2
 obtain⟨d,r,rfl,h1,h2⟩:=hasAllW_cons hsh
 obtain rfl:=hasAllW_nil h2
 obtain⟨xs,rfl,h3⟩:=hasW_list h1
 obtain⟨ns,rfl⟩:=items_int h3
 have hlen:ns.length≤n:=by
  unfold OpenLaw.pre at hc
  have h4:(WTm.not (.lt (.lit (.int (n:Int))) (.len (.arg 0)))).holds [] {args:=[.list (ns.map .int)]}=true:=by
   have h4:=(holds_andW hc).1
   rw[hn]at h4
   exact h4
  have h5:=condW_of h4 (w_not (w_lt w_lit (w_len_list (w_arg rfl))))
  rw[List.length_map]at h5
  refine Nat.le_of_not_lt fun q=> ?_
  have q':(n:Int)<((ns.length:Nat):Int):=by omega
  first
   |(rw[decide_eq_true q']at h5;exact absurd h5 (by decide))
   |(simp at h5;omega)
 cases hwl with
 |cons w1 w2=>
  cases w2
  cases w1 with
  |list ho hall=>exact⟨_,_,ns,rfl,rfl,ho,ints_of_wellAll ns _ hall,hlen⟩
theorem post_true(l:OpenLaw)(args:List WData):l.row.toRowW.claim.post args (.bool true) args=true:=
 postW_of (r:=l.row.toRowW) (X:=(true == true))
  (show WShape.has [] (.bool true) .bool=true by first|rfl|decide|simp[WShape.has,WShape.arms,WShape.armsAll])
  (show(WTm.eq .res (.lit (.bool true))).value [] {args:=args,res:=some (.bool true),after:=args}=some (.bool (true == true))from w_eq_bool (w_res rfl) w_lit) rfl
theorem attach_call{l:OpenLaw}{n:Nat}{q:Program}{loose:List Str}{XP:(Str→Option Value)→Heap→Prop}{YP:World→Heap→Prop}{d:DefRec}
  (hn:l.most=some n) (hdf:d.params.defaults=[])
  (call:∀(w:World) (s₀ s₁:Shared) (mg mb:Str→Option Value) (fa:Addr) (o:Obj) (pm cd doc:Value) (a:Addr) (vs:List Value) (ns:List Int),
   Ground q loose [] XP w s₀ mg mb s₁.heap→YP w s₁.heap→
   s₁.heap.get? fa=some o→o.data=.func (docDef d.name d.params d.body d.scope pm cd doc)→s₁.heap.CodeRec cd d.name→mg d.name=some (.ref fa)→
   s₁.heap.get? a=some {cls:=.type "list",data:=.seq vs.toArray}→IntsAre vs ns→ns.length≤n→s₁.gens= #[]→
   codeAny (model l.prog w) callerA (.call (.ref fa) ⟨[.ref a],[]⟩) (fun r s'=>r=.ok (.ret (.bool true))∧OldK s₁.heap s'.heap∧s'.os=s₁.os∧AllBare s'.gens) s₁):
  WalkO q loose XP YP l.row.toRowW d [] (fun f vs=>PySem.call f vs):=by
 intro w s₀ s₁ mg mb G Y fa o pm cd doc dV kV ho hd hcd hD hmg hg args vals as hpre hlay hrd hwl hlo
 obtain rfl:dV=.none:=Dflts.none hD hdf
 obtain rfl:kV=.none:=Dflts.noKw hD
 obtain⟨a,vs,ns,rfl,rfl,hobj,hints,hlen⟩:=script_of hn hpre hwl
 refine enter_call (codeAny_mono (call w s₀ s₁ mg mb fa o pm cd doc a vs ns G Y ho (fd_plain hd) hcd hmg hobj hints hlen hg) fun r s' hq=> ?_)
 obtain⟨rfl,h2,h3,h4⟩:=hq
 exact⟨.inl ⟨.bool true, .bool true,[],rfl,fun _=>rfl, .bool true,post_true l _,fun _=>⟨List.Pairwise.nil,fun _ hm=>(nomatch hm)⟩⟩,h2,h3,h4⟩
section
variable{prog:Program}{w:World}{A:Around}{E:Value→Shared→Prop}{s:Shared}{K:Frag}
noncomputable def ledger(h:Heap)(L d:Addr):List (Addr×Obj):=(List.range h.objs.size).filterMap fun a=>if a=L∨a=d then none else(h.get? a).map fun o=>(a,o)
end
end Att
namespace L2
open PySem PySem.Spec PyProof.Rows
theorem vals_ints:∀{vs:List Value} {ns:List Int},IntsAre vs ns→Vals (ns.map V.int) vs
 |_,_, .nil=>.nil
 |_,_, .cons n t h=>.cons ⟨t,rfl⟩ (vals_ints h)
end L2
namespace L2
open PySem PySem.Spec PyProof.Rows
noncomputable def defArgs(s:Stmt):Arguments:=match s with
 | .FunctionDef _ a _ _ _ _ _ _ _ _=>a
 |_=>{posonlyargs:=[],args:=[],vararg:=none,kwonlyargs:=[],kw_defaults:=[],kwarg:=none,defaults:=[]}
noncomputable def defBody(s:Stmt):List Stmt:=match s with
 | .FunctionDef _ _ b _ _ _ _ _ _ _=>b
 |_=>[]
noncomputable def defScope(s:Stmt):Scope:=match s with
 | .FunctionDef _ _ _ _ _ _ sc _ _ _=>sc
 |_=>{kind:=.function,names:=[],isGenerator:=false,isCoroutine:=false}
structure Fun(K:PySem.W.Frag)(x qual:Str)(st:Stmt)(f:Addr)(fd:FuncData):Prop where
 ex:∃(oc:Value) (od:Option Addr) (kV doc pm:Value) (an:Option Addr) (cdv ct:Value) (osl:Array (Option Value)),
  fd=PySem.W.fnOf x qual (defArgs st) (defBody st) (defScope st) .none kV doc pm an cdv ct∧K.lookup f=some ⟨oc,od, .func fd,osl⟩∧PySem.W.codeIn K cdv qual=true
 kp:PySem.W.keepIn K (.ref f)=true
section
variable{P:Program}{w:World}{K:PySem.W.Frag}{mg:Str→Option Value}{base:Heap}
theorem Fun.binds{x qual:Str}{st:Stmt}{f:Addr}{fd:FuncData}{ps:List Str}(F:Fun K x qual st f fd)
  (h:∀(kV doc pm:Value) (an:Option Addr) (cdv ct:Value) (us:List Value),us.length=ps.length→bindArgs (PySem.W.fnOf x qual (defArgs st) (defBody st) (defScope st) .none kV doc pm an cdv ct) ⟨us,[]⟩=pure (ps.zip us)):Binds K fd ps []:=by
 obtain⟨oc,od,kV,doc,pm,an,cdv,ct,osl,rfl,lk,hcd⟩:=F.ex
 exact .all (h kV doc pm an cdv ct)
theorem fun_mk{x qual:Str}{st:Stmt}{f:Addr}{oc:Value}{od an:Option Addr}{osl:Array (Option Value)}{kV doc pm cdv ct:Value}(l:K.lookup f=some ⟨oc,od, .func (PySem.W.fnOf x qual (defArgs st) (defBody st) (defScope st) .none kV doc pm an cdv ct),osl⟩)
  (c:PySem.W.codeIn K cdv qual=true) (k:PySem.W.keepIn K (.ref f)=true):Fun K x qual st f (PySem.W.fnOf x qual (defArgs st) (defBody st) (defScope st) .none kV doc pm an cdv ct):=⟨⟨oc,od,kV,doc,pm,an,cdv,ct,osl,rfl,l,c⟩,k⟩
end
section
variable{X:Cx}
end
noncomputable def Same(H H':Hp):Prop:=∀b o,H b=some o→H' b=some o
theorem Same.refl(H:Hp):Same H H:=fun _ _ h=>h
theorem Same.trans{H H1 H2:Hp}(a:Same H H1)(b:Same H1 H2):Same H H2:=fun c o h=>b c o (a c o h)
theorem Same.free{H H':Hp}(e:Same H H'){l:Addr}(h:H' l=Option.none):H l=Option.none:=by
 cases q:H l with
 |none=>rfl
 |some o=>
  rw[e l o q]at h
  cases h
theorem Same.seq{K:PySem.W.Frag}{H H':Hp}{a:Addr}{xs:List V}(e:Same H H')(h:SqL K H a xs):SqL K H' a xs:=by
 rcases h with(h|⟨o,h⟩)|h
 ·exact .inl (.inl (e _ _ h))
 ·exact .inl (.inr ⟨o,e _ _ h⟩)
 ·exact .inr h
end L2
set_option maxHeartbeats 8000000
namespace L2
open PySem PySem.Spec PyProof.Rows
section
variable{κ:Type}[DecidableEq κ]
noncomputable def valV(kvs:List (κ×V))(k:κ):Option V:=(kvs.find? fun kv=>decide (kv.1=k)).map (·.2)
noncomputable def putK(kvs:List (κ×V))(k:κ)(v:V):List (κ×V):=
 if(kvs.any fun kv=>decide (kv.1=k))=true then kvs.map (fun kv=>if kv.1=k then(kv.1,v)else kv)else kvs++[(k,v)]
theorem valV_pos{p:κ×V}{r:List (κ×V)}{k:κ}(e:p.1=k):valV (p::r) k=some p.2:=by simp[valV,List.find?_cons,e]
theorem valV_neg{p:κ×V}{r:List (κ×V)}{k:κ}(e:¬p.1=k):valV (p::r) k=valV r k:=by simp[valV,List.find?_cons,e]
theorem valV_any(k:κ):∀kvs:List (κ×V),(kvs.any fun kv=>decide (kv.1=k))=(valV kvs k).isSome
 | []=>rfl
 |p::r=>by
  rw[List.any_cons]
  by_cases e:p.1=k
  ·simp only[valV_pos e,decide_eq_true e,Bool.true_or,Option.isSome_some]
  ·rw[valV_neg e,decide_eq_false e,Bool.false_or];exact valV_any k r
theorem length_putK(kvs:List (κ×V))(k:κ)(v:V):(putK kvs k v).length≤kvs.length+1:=by
 unfold putK
 split
 ·rw[List.length_map];omega
 ·rw[List.length_append,List.length_cons,List.length_nil];omega
theorem putK_new{kvs:List (κ×V)}{k:κ}(v:V)(h:valV kvs k=none):putK kvs k v=kvs++[(k,v)]:=by
 unfold putK
 rw[valV_any,h]
 exact if_neg (by decide)
theorem RelO.isSome_eq{o:Option V}{u:Option Value}(r:RelO o u):o.isSome=u.isSome:=by
 cases o with
 |none=>cases u with
  |none=>rfl
  |some _=>exact(show False from r).elim
 |some _=>cases u with
  |none=>exact(show False from r).elim
  |some _=>rfl
theorem KV.val{kvs:List (κ×V)}{vs:List (κ×Value)}(r:KV kvs vs)(k:κ):RelO (valV kvs k) (valueAt vs k):=by
 unfold KV at r
 induction r with
 |nil=>exact True.intro
 | @cons p q ps qs h t ih=>
  obtain⟨h1,h2⟩:=h
  by_cases e:p.1=k
  ·have e':q.1=k:=h1.symm.trans e
   have b:valueAt (q::qs) k=some q.2:=by simp[valueAt,List.find?_cons,e']
   rw[valV_pos e,b];exact h2
  ·have e':¬q.1=k:=fun z=>e (h1.trans z)
   have b:valueAt (q::qs) k=valueAt qs k:=by simp[valueAt,List.find?_cons,e']
   rw[valV_neg e,b];exact ih
theorem KV.any{kvs:List (κ×V)}{vs:List (κ×Value)}(r:KV kvs vs)(k:κ):(kvs.any fun kv=>decide (kv.1=k))=vs.any fun kv=>decide (kv.1=k):=by
 unfold KV at r
 induction r with
 |nil=>rfl
 |cons h t ih=>rw[List.any_cons,List.any_cons,ih,h.1]
theorem KV.repl{kvs:List (κ×V)}{vs:List (κ×Value)}(r:KV kvs vs)(k:κ){y:V}{u:Value}(ry:RelV y u):
  KV (kvs.map fun kv=>if kv.1=k then(kv.1,y)else kv) (vs.map fun kv=>if kv.1=k then(kv.1,u)else kv):=by
 unfold KV at r ⊢
 induction r with
 |nil=>exact .nil
 | @cons p q ps qs h t ih=>
  rw[List.map_cons,List.map_cons]
  refine .cons ?_ ih
  obtain⟨h1,h2⟩:=h
  by_cases e:p.1=k
  ·rw[if_pos e,if_pos (h1.symm.trans e)];exact⟨h1,ry⟩
  ·rw[if_neg e,if_neg (fun z=>e (h1.trans z))];exact⟨h1,h2⟩
theorem KV.put{kvs:List (κ×V)}{vs:List (κ×Value)}(r:KV kvs vs)(k:κ){y:V}{u:Value}(ry:RelV y u):KV (putK kvs k y) (stored vs k u):=by
 unfold putK stored
 rw[r.any k]
 by_cases e:(vs.any fun kv=>decide (kv.1=k))=true
 ·rw[if_pos e,if_pos e];exact r.repl k ry
 ·rw[if_neg e,if_neg e];exact Paired.snoc r ⟨rfl,ry⟩
theorem KV.keys{kvs:List (κ×V)}{vs:List (κ×Value)}(r:KV kvs vs):kvs.map (·.1)=vs.map (·.1):=by
 unfold KV at r
 induction r with
 |nil=>rfl
 |cons h t ih=>rw[List.map_cons,List.map_cons,ih,h.1]
theorem KV.length{kvs:List (κ×V)}{vs:List (κ×Value)}(r:KV kvs vs):kvs.length=vs.length:=Paired.length r
end
theorem kV_is{P:Program}{w:World}{k:Key}{u:Value}(r:RelV (kV k) u):(mixKind P w).is k u=true:=by
 cases k with
 |inl i=>obtain⟨t,e⟩:=(show∃t,u=Value.int i t from r);subst e;exact mixKind_int P w i t
 |inr x=>obtain⟨t,e⟩:=(show∃t,u=Value.str x t from r);subst e;exact mixKind_str P w x t
theorem items_are{P:Program}{w:World}:∀{ks:List Key} {us:List Value},Vals (ks.map kV) us→ItemsAre (mixKind P w) ks us
 | [],_,r=>by rw[List.map_nil]at r;cases r;exact .nil
 |k::ks,_,r=>by
  rw[List.map_cons]at r
  cases r with
  |cons h t=>exact .cons (kV_is h) (items_are t)
noncomputable abbrev KT(H:Hp):List (List Key×V)→List (List Key×Addr×Value)→Prop:=Paired fun p q=>p.1=q.1∧H q.2.1=some (.tup (p.1.map kV))∧RelV p.2 q.2.2
theorem KT.val{H:Hp}{kvs:List (List Key×V)}{xs:List (List Key×Addr×Value)}(r:KT H kvs xs)(k:List Key):RelO (valV kvs k) ((atKey xs k).map (·.2)):=by
 induction r with
 |nil=>exact True.intro
 | @cons p q ps qs h t ih=>
  obtain⟨h1,_,h2⟩:=h
  by_cases e:p.1=k
  ·have e':q.1=k:=h1.symm.trans e
   have b:atKey (q::qs) k=some q.2:=by simp[atKey,List.find?_cons,e']
   rw[valV_pos e,b];exact h2
  ·have e':¬q.1=k:=fun z=>e (h1.trans z)
   have b:atKey (q::qs) k=atKey qs k:=by simp[atKey,List.find?_cons,e']
   rw[valV_neg e,b];exact ih
theorem KT.repl{H:Hp}{kvs:List (List Key×V)}{xs:List (List Key×Addr×Value)}(r:KT H kvs xs)(k:List Key){y:V}{u:Value}(ry:RelV y u):
  KT H (kvs.map fun kv=>if kv.1=k then(kv.1,y)else kv) (xs.map (putAt k u)):=by
 induction r with
 |nil=>exact .nil
 | @cons p q ps qs h t ih=>
  rw[List.map_cons,List.map_cons]
  refine .cons ?_ ih
  obtain⟨h1,h2,h3⟩:=h
  unfold putAt
  by_cases e:p.1=k
  ·rw[if_pos e,if_pos (h1.symm.trans e)];exact⟨h1,h2,ry⟩
  ·rw[if_neg e,if_neg (fun z=>e (h1.trans z))];exact⟨h1,h2,h3⟩
theorem KT.put{H:Hp}{kvs:List (List Key×V)}{xs:List (List Key×Addr×Value)}(r:KT H kvs xs)(k:List Key){b:Addr}{y:V}{u:Value}(hb:H b=some (.tup (k.map kV)))(ry:RelV y u):
  KT H (putK kvs k y) (storedH xs k b u):=by
 have e:(kvs.any fun kv=>decide (kv.1=k))=(atKey xs k).isSome:=by
  rw[valV_any,(r.val k).isSome_eq,Option.isSome_map]
 unfold putK storedH
 rw[e]
 by_cases q:(atKey xs k).isSome=true
 ·rw[if_pos q,if_pos q];exact r.repl k ry
 ·rw[if_neg q,if_neg q];exact Paired.snoc r ⟨rfl,hb,ry⟩
theorem KT.keeps{H H':Hp}{kvs:List (List Key×V)}{xs:List (List Key×Addr×Value)}(r:KT H kvs xs)(ht:∀b ys,H b=some (.tup ys)→H' b=some (.tup ys)):KT H' kvs xs:=
 Paired.mapP r fun _ _ z=>⟨z.1,ht _ _ z.2.1,z.2.2⟩
section
variable{P:Program}{w:World}{H:Hp}{h:Heap}{a:Addr}
theorem rd_of{u:HO}(ok:HOk P w H h)(e:Rd H a u):ObjOk P w H h a u:=e.ok ok
theorem dk_rd{kvs:List (Key×V)}(ok:HOk P w H h)(e:Rd H a (.dK kvs)):kvs.length≤sizeLine∧(a == sysModules)=false∧∃vs,KV kvs vs∧h.DictOf (mixKind P w) a vs:=
 show ObjOk P w H h a (.dK kvs)from rd_of ok e
theorem dk_of{kvs:List (Key×V)}(ok:HOk P w H h)(e:H a=some (.dK kvs)):kvs.length≤sizeLine∧(a == sysModules)=false∧∃vs,KV kvs vs∧h.DictOf (mixKind P w) a vs:=dk_rd ok (.inl e)
theorem key_of{ks:List Key}(ok:HOk P w H h)(e:H a=some (.tup (ks.map kV))):(tupleKind (mixKind P w)).is h ks a:=by
 obtain⟨_,its,r,⟨o,h1,h2,n,h3⟩,_⟩:=(show ObjOk P w H h a (.tup (ks.map kV))from ok a _ e)
 exact⟨o,its.toArray,n,h1,h2,h3,by simpa using items_are r⟩
theorem dt_rd{kvs:List (List Key×V)}(ok:HOk P w H h)(e:Rd H a (.dT kvs)):kvs.length≤sizeLine∧(a == sysModules)=false∧
  ∃xs,KT H kvs xs∧h.DictOfH (tupleKind (mixKind P w)) a xs:=by
 obtain⟨z,y,xs,r,o,es,ep,h1,h2,h3,h4,h5⟩:=(show ObjOk P w H h a (.dT kvs)from rd_of ok e)
 refine⟨z,y,xs,r,o,es,ep,h1,h2,h3,h4,fun x hx=> ?_,h5⟩
 have all:∀{l:List (List Key×V)} {m:List (List Key×Addr×Value)},KT H l m→∀x∈m,(tupleKind (mixKind P w)).is h x.1 x.2.1:=by
  intro l m q
  induction q with
  |nil=>intro x hx;exact nomatch hx
  | @cons p q ps qs hq t ih=>
   intro x hx
   rcases List.mem_cons.mp hx with e|hx
   ·subst e
    exact key_of ok (by rw[←hq.1];exact hq.2.1)
   ·exact ih x hx
 exact all r x hx
theorem dt_of{kvs:List (List Key×V)}(ok:HOk P w H h)(e:H a=some (.dT kvs)):kvs.length≤sizeLine∧(a == sysModules)=false∧
  ∃xs,KT H kvs xs∧h.DictOfH (tupleKind (mixKind P w)) a xs:=dt_rd ok (.inl e)
end
noncomputable def DGet(H:Hp)(a:Addr)(y:V)(r:Option V):Prop:=
 (∃kvs k,Rd H a (.dK kvs)∧y=kV k∧r=valV kvs k)∨∃kvs k b,Rd H a (.dT kvs)∧y=.ref b∧H b=some (.tup (k.map kV))∧r=valV kvs k
noncomputable def DPut(H:Hp)(a:Addr)(y v:V)(H':Hp):Prop:=
 (∃kvs k,H a=some (.dK kvs)∧y=kV k∧kvs.length<sizeLine∧H'=upd H a (.dK (putK kvs k v)))∨
 ∃kvs k b,H a=some (.dT kvs)∧y=.ref b∧H b=some (.tup (k.map kV))∧kvs.length<sizeLine∧H'=upd H a (.dT (putK kvs k v))
theorem DGet.k{H:Hp}{a:Addr}{kvs:List (Key×V)}{k:Key}(e:H a=some (.dK kvs)):DGet H a (kV k) (valV kvs k):=.inl ⟨kvs,k, .inl e,rfl,rfl⟩
theorem DGet.t{H:Hp}{a b:Addr}{kvs:List (List Key×V)}{k:List Key}(e:H a=some (.dT kvs))(eb:H b=some (.tup (k.map kV))):DGet H a (.ref b) (valV kvs k):=.inr ⟨kvs,k,b, .inl e,rfl,eb,rfl⟩
theorem DPut.k{H:Hp}{a:Addr}{kvs:List (Key×V)}{k:Key}{v:V}(e:H a=some (.dK kvs))(hl:kvs.length<sizeLine):DPut H a (kV k) v (upd H a (.dK (putK kvs k v))):=.inl ⟨kvs,k,e,rfl,hl,rfl⟩
section
variable{X:Cx}{pins:List (Addr×Obj)}{σ:St}{H:Hp}{s:Shared}{a:Addr}{y v:V}{u r:Value}{o:Option V}{A:Around}{E:Value→Shared→Prop}
theorem Inv.big(I:Inv X pins σ H s):sysModules<s.heap.objs.size:=by
 have h:mainGlobals<s.heap.objs.size:=(I.mod.glob.keeps I.bk).lt
 exact Nat.lt_trans (by decide) h
theorem d_getItem{Q:Value→Shared→Prop}(hu:A.units+1<cLine)(I:Inv X pins σ H s)(g:DGet H a y (some v))(ry:RelV y u)(h:∀w' s',Inv X pins σ H s'→RelV v w'→Q w' s'):
  wpAny (model X.prog X.w) A (getItem (.ref a) u) Q E s:=by
 rcases g with⟨kvs,k,e,ey,l⟩|⟨kvs,k,b,e,ey,eb,l⟩
 ·subst ey
  obtain⟨z,hd,vs,rel,dd⟩:=dk_rd I.hok e
  obtain⟨w',hw,rw'⟩:=RelO.some_of (v:=v) (o:=valueAt vs k) (by rw[l];exact rel.val k)
  exact wpAny_getItem_of (kV_is ry) dd.mapOf hw (h w' _ (I.tok _) rw')
 ·subst ey
  cases (show u=Value.ref b from ry)
  obtain⟨z,hd,xs,rel,dd⟩:=dt_rd I.hok e
  obtain⟨w',hw,rw'⟩:=RelO.some_of (v:=v) (o:=(atKey xs k).map (·.2)) (by rw[l];exact rel.val k)
  obtain⟨p,hp,hp2⟩:=Option.map_eq_some_iff.mp hw
  refine wpAny_getItem_heap (tupleKind_room_in1 hu) (key_of I.hok eb) dd hp ?_
  rw[hp2]
  exact h w' _ (I.tok _) rw'
theorem d_in{Q:Value→Shared→Prop}(hu:A.units+1<cLine)(I:Inv X pins σ H s)(g:DGet H a y o)(ry:RelV y u)(h:∀s',Inv X pins σ H s'→Q (.bool o.isSome) s'):
  wpAny (model X.prog X.w) A (compareOp .In u (.ref a)) Q E s:=by
 rcases g with⟨kvs,k,e,ey,l⟩|⟨kvs,k,b,e,ey,eb,l⟩
 ·subst ey
  obtain⟨z,hd,vs,rel,dd⟩:=dk_rd I.hok e
  refine wpAny_in_of (kV_is ry) hd dd.mapOf ?_
  rw[←(rel.val k).isSome_eq,←l]
  exact h _ (I.tok _)
 ·subst ey
  cases (show u=Value.ref b from ry)
  obtain⟨z,hd,xs,rel,dd⟩:=dt_rd I.hok e
  refine wpAny_in_heap (tupleKind_room_in1 hu) (key_of I.hok eb) hd dd ?_
  have q:=(rel.val k).isSome_eq
  rw[Option.isSome_map]at q
  rw[←q,←l]
  exact h _ (I.tok _)
theorem d_notIn{Q:Value→Shared→Prop}(hu:A.units+1<cLine)(I:Inv X pins σ H s)(g:DGet H a y o)(ry:RelV y u)(h:∀s',Inv X pins σ H s'→Q (.bool (!o.isSome)) s'):
  wpAny (model X.prog X.w) A (compareOp .NotIn u (.ref a)) Q E s:=by
 rcases g with⟨kvs,k,e,ey,l⟩|⟨kvs,k,b,e,ey,eb,l⟩
 ·subst ey
  obtain⟨z,hd,vs,rel,dd⟩:=dk_rd I.hok e
  refine wpAny_notIn_of (kV_is ry) hd dd.mapOf ?_
  rw[←(rel.val k).isSome_eq,←l]
  exact h _ (I.tok _)
 ·subst ey
  cases (show u=Value.ref b from ry)
  obtain⟨z,hd,xs,rel,dd⟩:=dt_rd I.hok e
  refine wpAny_notIn_heap (tupleKind_room_in1 hu) (key_of I.hok eb) hd dd ?_
  have q:=(rel.val k).isSome_eq
  rw[Option.isSome_map]at q
  rw[←q,←l]
  exact h _ (I.tok _)
theorem d_write{h':Heap}{t':Nat}{ob:HO}(I:Inv X pins σ H s)(mu:Mut (H a))(hs:Heap.SameBut a s.heap h')(he:∃q,h'.get? a=some q)(new:ObjOk X.prog X.w (upd H a ob) h' a ob):
  Inv X pins σ (upd H a ob) {s with heap:=h',toks:=t'}:=
 I.write (x:=a) (e:=a) mu (.inl rfl) (fun b q hb z=>(hs.2 b hb).trans z) he new
theorem dk_new{P:Program}{w:World}{H':Hp}{h':Heap}{kvs:List (Key×V)}{vs:List (Key×Value)}(z:kvs.length≤sizeLine)(hd:(a == sysModules)=false)(rel:KV kvs vs)(dd:h'.DictOf (mixKind P w) a vs):
  ObjOk P w H' h' a (.dK kvs):=⟨z,hd,vs,rel,dd⟩
theorem d_setItem{H':Hp}{Q:Unit→Shared→Prop}(hu:A.units+1<cLine)(I:Inv X pins σ H s)(g:DPut H a y v H')(ry:RelV y u)(rv:RelV v r)(h:∀s',Inv X pins σ H' s'→Q () s'):
  wpAny (model X.prog X.w) A (setItem (.ref a) u r) Q E s:=by
 rcases g with⟨kvs,k,e,ey,l,eH⟩|⟨kvs,k,b,e,ey,eb,l,eH⟩
 ·subst ey eH
  obtain⟨z,hd,vs,rel,dd⟩:=dk_of I.hok e
  have hz:vs.length≤sizeLine:=by rw[←rel.length];exact z
  have hl:(putK kvs k v).length≤sizeLine:=by have:=length_putK kvs k v;omega
  refine wpAny_setItem_pairs (hsz:=hz) (kV_is ry) dd fun h' dd' hs=>h _ ?_
  have he:∃q,h'.get? a=some q:=let⟨q,_,_,hq,_⟩:=dd';⟨q,hq⟩
  exact d_write I (by rw[e];exact True.intro) hs he (dk_new hl hd (rel.put k rv) dd')
 ·subst ey eH
  cases (show u=Value.ref b from ry)
  obtain⟨z,hd,xs,rel,dd⟩:=dt_of I.hok e
  have hz:xs.length≤sizeLine:=by rw[←Paired.length rel];exact z
  have hl:(putK kvs k v).length≤sizeLine:=by have:=length_putK kvs k v;omega
  refine wpAny_setItem_heap (hsz:=hz) (tupleKind_room_in1 hu) (key_of I.hok eb) dd fun h' dd' hs=>h _ ?_
  obtain⟨q,es,ep,hq,h2,h3,h4,_,h5⟩:=dd'
  refine d_write I (by rw[e];exact True.intro) hs ⟨q,hq⟩ ⟨hl,hd,_,(rel.put k eb rv).keeps fun c ys ec=> ?_,q,es,ep,hq,h2,h3,h4,h5⟩
  rw[upd_ne (ne_of ec e (fun z=>nomatch z))]
  exact ec
end
section
variable{X:Cx}{pins:List (Addr×Obj)}{σ:St}{H:Hp}{s:Shared}{a:Addr}{kvs:List (Key×V)}{k:Key}{u:Value}{A:Around}{E:Value→Shared→Prop}
end
noncomputable def NoSl(i:Expr):Prop:=∀ov iv,subscripted i false ov iv=operate [ov,iv] (getItem ov iv)
theorem subD_of{prog:Program}{w:World}{A:Around}{E:Value→Shared→Prop}{s:Shared}{env:Env}{value slice:Expr}{pos:Pos}{T id:String}{Q:Value→Shared→Prop}
  (hl:typeLookup (.type T) "__getitem__"=pure (some (.builtin id))) (hs:NoSl slice)
  (h:wpAny (model prog w) A (eval value env) (fun o s₁=>wpAny (model prog w) A (eval slice env) (fun i s₂=>s₂.TypeIs o T∧wpAny (model prog w) A (getItem o i) Q E s₂) E s₁) E s):
  wpAny (model prog w) A (eval (.Subscript value slice pos) env) Q E s:=by
 refine Subscript_ (wpAny_mono h (fun o s₁ h₁=>wpAny_mono h₁ (fun i s₂ h₂=> ?_) fun _ _ x=>x) fun _ _ x=>x)
 obtain⟨hT,h₂⟩:=h₂
 unfold subscriptTail
 refine wpAny_bind ?_
 rw[getitemInPython_of_ne hT.not_modules]
 refine wpAny_bind (wpAny_specialOf hT hl ?_)
 have fin:wpAny (model prog w) A (subscripted slice false o i) (fun r s₃=>wpAny (model prog w) A (letTemporaryGo value o r>>=fun _=>pure r) Q E s₃) E s₂:=by
  rw[hs o i]
  exact wpAny_operating (wpAny_mono h₂ (fun r s₃ h₃=>wpAny_bind (wpAny_letTemporaryGo (wpAny_pure h₃))) fun _ _ x=>x)
 first
  |exact wpAny_pure (wpAny_bind fin)
  |exact wpAny_bind (wpAny_pure (wpAny_bind fin))
  |exact wpAny_bind fin
theorem dict_typeIs{X:Cx}{pins:List (Addr×Obj)}{σ:St}{H:Hp}{s:Shared}{a:Addr}{y:V}{o:Option V}(I:Inv X pins σ H s)(g:DGet H a y o):s.TypeIs (.ref a) "dict":=by
 rcases g with⟨kvs,k,e,_,_⟩|⟨kvs,k,b,e,_,_,_⟩
 ·obtain⟨_,_,vs,_,dd⟩:=dk_rd I.hok e
  exact dd.typeIs
 ·obtain⟨_,_,xs,_,dd⟩:=dt_rd I.hok e
  exact dd.typeIs
noncomputable def tDGet(td ty:TE):TE:=fun σ H Q=>td σ H fun x H1=>ty σ H1 fun y H2=>∃a v,x=.ref a∧DGet H2 a y (some v)∧Q v H2
noncomputable def tDIn(ty td:TE):TE:=fun σ H Q=>ty σ H fun y H1=>td σ H1 fun x H2=>∃a o,x=.ref a∧DGet H2 a y o∧Q (.bl o.isSome) H2
noncomputable def tDNotIn(ty td:TE):TE:=fun σ H Q=>ty σ H fun y H1=>td σ H1 fun x H2=>∃a o,x=.ref a∧DGet H2 a y o∧Q (.bl (!o.isSome)) H2
noncomputable def sDPut(td ty tv:TE):TS:=fun D σ H=>tv σ H fun v H1=>td σ H1 fun x H2=>ty σ H2 fun y H3=>∃a H4,x=.ref a∧DPut H3 a y v H4∧D.nx σ H4
section
variable{X:Cx}{o i e value:Expr}{pos pos' tpos:Pos}{td ty tv:TE}
theorem pe_dget(hu:X.A.units+1<cLine)(ho:PE X o td)(hi:PE X i ty)(hs:NoSl i):PE X (.Subscript o i pos) (tDGet td ty):=by
 intro pins s σ H Q I h
 refine subD_of PySem.F.slot_dict_getitem.lookup hs (thn (ho pins s σ H _ I h) fun u s1 ⟨x,H1,I1,rx,q1⟩=>thn (hi pins s1 σ H1 _ I1 q1) fun iv s2 ⟨y,H2,I2,ry,a,v,ex,g,q2⟩=> ?_)
 subst ex
 obtain rfl:u=Value.ref a:=rx
 exact⟨dict_typeIs I2 g,d_getItem hu I2 g ry fun w' s3 I3 rw'=>⟨v,H2,I3,rw',q2⟩⟩
theorem pc_din(hu:X.A.units+1<cLine)(hi:PE X i ty)(ho:PE X o td):PC X .In i o (tDIn ty td):=by
 intro pins s σ H Q I h
 refine thn (hi pins s σ H _ I h) fun iv s1 ⟨y,H1,I1,ry,q1⟩=>thn (ho pins s1 σ H1 _ I1 q1) fun u s2 ⟨x,H2,I2,rx,a,ov,ex,g,q2⟩=> ?_
 subst ex
 obtain rfl:u=Value.ref a:=rx
 exact d_in hu I2 g ry fun s3 I3=>⟨.bl ov.isSome,H2,I3,rfl,q2⟩
theorem pc_dnotin(hu:X.A.units+1<cLine)(hi:PE X i ty)(ho:PE X o td):PC X .NotIn i o (tDNotIn ty td):=by
 intro pins s σ H Q I h
 refine thn (hi pins s σ H _ I h) fun iv s1 ⟨y,H1,I1,ry,q1⟩=>thn (ho pins s1 σ H1 _ I1 q1) fun u s2 ⟨x,H2,I2,rx,a,ov,ex,g,q2⟩=> ?_
 subst ex
 obtain rfl:u=Value.ref a:=rx
 exact d_notIn hu I2 g ry fun s3 I3=>⟨.bl (!ov.isSome),H2,I3,rfl,q2⟩
theorem ps_dput(hu:X.A.units+1<cLine)(ho:PE X o td)(hi:PE X i ty)(hv:PE X value tv)(hs:swapsWith value (some (.Subscript o i pos')) pos.line X.env=pure false):
  PS X (.Assign [.Subscript o i pos'] value pos) (sDPut td ty tv):=by
 intro pins s σ H D I h
 refine wpAny_Assign_Subscript (thn (hv pins s σ H _ I h) fun r s1 ⟨v,H1,I1,rv,q1⟩=>thn (ho pins s1 σ H1 _ I1 q1) fun u s2 ⟨x,H2,I2,rx,q2⟩=>thn (hi pins s2 σ H2 _ I2 q2) fun iv s3 ⟨y,H3,I3,ry,a,H4,ex,g,q3⟩=> ?_) hs
 subst ex
 obtain rfl:u=Value.ref a:=rx
 exact d_setItem hu I3 g ry rv fun s4 I4=>⟨σ,H4,I4,q3⟩
end
theorem dk_empty{P:Program}{w:World}{H:Hp}(h:Heap)(hb:sysModules<h.objs.size):ObjOk P w H (h.push {cls:=.type "dict",data:=.dict #[]}) h.objs.size (.dK []):=
 ⟨Nat.zero_le _,beq_eq_false_iff_ne.mpr (Ne.symm (Nat.ne_of_lt hb)),[], .nil,Heap.DictOf.new h⟩
noncomputable def tDNewK:TE:=fun _ H Q=>∀p,H p=none→Q (.ref p) (upd H p (.dK []))
section
variable{X:Cx}{pos:Pos}
theorem pe_dnewK:PE X (.Dict [] [] pos) tDNewK:=fun pins s σ H Q I h=>
 wpAny_Dict_empty ⟨.ref s.heap.objs.size,_,I.laid (a:=s.heap.objs.size) (o:=.dK []) (t':=s.toks) (fun _ _ q=>Heap.get?_push_of_some _ q) (Nat.le_refl _) (dk_empty s.heap I.big),rfl,h _ (I.hok.fresh (Nat.le_refl _))⟩
end
structure M1(X:Cx)(o:Expr)(m:Str)(apos:Pos)(e:Expr)(cpos:Pos):Prop where
 base:attributeBase o m X.env (eval o X.env)=eval o X.env
 few:((backTo cpos (starEach [e] X.env)).all (fun x=> !x.1)&&(backToKw cpos (keywordEach [] X.env)).all (fun x=>x.1.isSome)
  &&decide (([e]:List Expr).length+([]:List Keyword).length+(if([]:List Keyword).isEmpty then 0 else 1)<30))=true
 line:(apos.endLine == cpos.line)=true
 trees:backTo cpos (starEach [e] X.env)=[(false,eval e X.env)]
structure M2(X:Cx)(o:Expr)(m:Str)(apos:Pos)(e f:Expr)(cpos:Pos):Prop where
 base:attributeBase o m X.env (eval o X.env)=eval o X.env
 few:((backTo cpos (starEach [e,f] X.env)).all (fun x=> !x.1)&&(backToKw cpos (keywordEach [] X.env)).all (fun x=>x.1.isSome)
  &&decide (([e,f]:List Expr).length+([]:List Keyword).length+(if([]:List Keyword).isEmpty then 0 else 1)<30))=true
 line:(apos.endLine == cpos.line)=true
 trees:backTo cpos (starEach [e,f] X.env)=[(false,eval e X.env),(false,eval f X.env)]
section
variable{X:Cx}{pins:List (Addr×Obj)}{σ:St}{H:Hp}{s:Shared}{a:Addr}{y d:V}{u r:Value}{o:Option V}{A:Around}{E:Value→Shared→Prop}
end
section
variable{X:Cx}{o e f:Expr}{apos cpos:Pos}{td ty tx:TE}
end
section
variable{X:Cx}{pins:List (Addr×Obj)}{σ:St}{H:Hp}{s:Shared}{a:Addr}{kvs:List (Key×V)}{A:Around}{E:Value→Shared→Prop}
end
section
variable{X:Cx}{pins:List (Addr×Obj)}{σ:St}{H:Hp}{s:Shared}{a:Addr}{y:V}{u:Value}{A:Around}{E:Value→Shared→Prop}
end
end L2
namespace L3
open PySem PySem.Spec L2
open PyProof.Rows hiding St
structure Cov(X:Cx)(pins:List (Addr×Obj))(H:Hp)(B:Heap):Prop where
 trk:∀b o,H b=some o→∃u,B.get? b=some u
 old:∀b o,X.s₀.heap.get? b=some o→b∉frs X.stack→∃u,B.get? b=some u
 pin:∀p∈X.pn++pins,∃u,B.get? p.1=some u
noncomputable def NewAt(h:Heap)(e C:Addr):Prop:=∃oe vs a0,h.get? e=some oe∧oe.cls=.ref C∧oe.data=.fields vs∧vs[1]? =some .none∧vs[0]? =some a0
noncomputable def FlyB(B:Heap)(stk:List Env)(e C:Addr)(h:Heap):Prop:=
 B.StaysIn h∧B.get? e=none∧h.FunFrames B stk∧((∃a0,h.TracedW B e (.ref C) a0)∨NewAt h e C∨∃L a0,(stk.head?.bind fun v=>v.frame)=some L∧h.TracedAtW B e (.ref C) a0 (rawInt L))
noncomputable def Fly(X:Cx)(pins:List (Addr×Obj))(H:Hp)(e C:Addr)(h:Heap):Prop:=∃B,Cov X pins H B∧FlyB B X.stack e C h
theorem _root_.L2.ObjOk.thereO{P:Program}{w:World}{H:Hp}{h:Heap}{a:Addr}{o:HO}(x:ObjOk P w H h a o):∃u,h.get? a=some u:=by
 cases o with
 |lst xs=>obtain⟨_,_,_,_,q⟩:=x;exact⟨_,q⟩
 |tup xs=>obtain⟨_,_,_,⟨u,q,_⟩,_⟩:=x;exact⟨u,q⟩
 |dK kvs=>obtain⟨_,_,_,_,u,_,_,q,_⟩:=x;exact⟨u,q⟩
 |dT kvs=>obtain⟨_,_,_,_,u,_,_,q,_⟩:=x;exact⟨u,q⟩
 |set S n=>obtain⟨u,_,_,_,q,_⟩:=x;exact⟨u,q⟩
 |ins C dx fs=>obtain⟨_,_,_,q,_⟩:=x;exact⟨_,q⟩
 |own y=>exact x
 |xd fs=>obtain⟨_,⟨u,_,_,q,_⟩,_⟩:=x;exact⟨u,q⟩
 |rng lo hi=>obtain⟨_,_,_,q⟩:=x;exact⟨_,q⟩
 |frz ob u=>exact⟨_,x.1⟩
 |tbl=>obtain⟨_,q,_⟩:=x;exact⟨_,q⟩
 |met f y=>exact⟨_,x⟩
 |ext φ=>exact x.2.1
section
variable{X:Cx}{pins:List (Addr×Obj)}{σ:St}{H H':Hp}{s:Shared}{h' B:Heap}{e C:Addr}
theorem noFr(I:Inv X pins σ H s){b:Addr}(h1:b≠X.env.locals)(h2:b∉X.fs):b∉frs X.stack:=fun z=>(List.mem_cons.mp (I.stkSub b z)).elim h1 h2
theorem oldNe(I:Inv X pins σ H s){b:Addr}{o:Obj}(q:X.s₀.heap.get? b=some o):b≠X.env.locals:=Nat.ne_of_lt (Nat.lt_of_lt_of_le (Heap.lt_size q) I.ok.above)
theorem Inv.flew{t':Nat}(I:Inv X pins σ H s)(hex:X.ex=[])(cv:Cov X pins H B)(h1:B.StaysIn s.heap)(h2:B.StaysIn h')(U:s.heap.UpToSlots h'):Inv X pins σ H {s with heap:=h',toks:=t'}:=by
 have nx:∀b:Addr,b∉X.ex:=fun b z=>by rw[hex]at z;cases z
 have st:∀{b:Addr} {u o:Obj},B.get? b=some u→s.heap.get? b=some o→h'.get? b=some o:=fun{b u o} q z=>by
  have y:=h1 b u q
  rw[z]at y
  cases y
  exact h2 b _ q
 have old:∀b o,X.s₀.heap.get? b=some o→b∉X.fs→∀o',s.heap.get? b=some o'→h'.get? b=some o':=fun b o q hb o' z=>by
  obtain⟨u,w⟩:=cv.old b o q (noFr I (oldNe I q) hb)
  exact st w z
 have slt:∀b o,X.s₀.heap.get? b=some o→b∈X.fs→∃sl,h'.get? b=some {o with slots:=sl}:=fun b o q hb=>by
  obtain⟨sl,z⟩:=I.base.slot b o q (I.ok.frf b hb) hb (nx b)
  obtain⟨_,o',ho',hd⟩:=I.ok.funs.mem hb
  rw[q]at ho'
  cases ho'
  obtain⟨sl',z'⟩:=U b _ z hd
  exact⟨sl',z'⟩
 have cel:∀c v,s.heap.IsCell c v→Heap.IsCell h' c v:=fun c v ⟨o,ho,hd⟩=>by
  obtain⟨sl,z⟩:=U c o ho fun vs q=>by rw[hd]at q;cases q
  exact⟨_,z,hd⟩
 refine⟨I.ok,I.os,I.bare,⟨fun b o q n hb hx=>old b o q hb o (I.base.keep b o q n hb hx),fun b o q n hb hx=>slt b o q hb,I.base.free,fun b o q hx=> ?_,I.base.tups,I.base.frzs,I.base.tbls⟩,?_,fun x c q=> ?_,I.free,I.freeC,fun p hp=> ?_,fun b u q=> ?_,I.len⟩
 ·by_cases hb:b∈X.fs
  ·obtain⟨sl,z⟩:=slt b o q hb
   exact⟨_,z⟩
  ·obtain⟨o',z⟩:=I.base.there b o q hx
   exact⟨o',old b o q hb o' z⟩
 ·obtain⟨m,hn,hl⟩:=I.loc
  refine⟨m,U.ns hn,fun i x v e1 e2 e3=> ?_⟩
  obtain⟨u,r,l⟩:=hl i x v e1 e2 e3
  refine⟨u,r,?_⟩
  rcases l with l|⟨k,c,q,z⟩
  ·exact .inl l
  ·exact .inr ⟨k,c,q,cel c _ z⟩
 ·obtain⟨v,z⟩:=I.cell x c q
  exact⟨v,cel c v z⟩
 ·obtain⟨z,r⟩:=I.pin p hp
  obtain⟨u,w⟩:=cv.pin p hp
  exact⟨st w z,r⟩
 ·refine(I.hok b u q).stay (fun c v hc z=> ?_) (fun _ z=>z) fun _ _ z=>z
  rcases hc with hc|hc
  ·rw[hc]at z ⊢
   obtain⟨w,y⟩:=cv.trk b u q
   exact st y z
  ·obtain⟨w,y⟩:=cv.trk c _ hc
   exact st y z
theorem cov_all(I:Inv X pins σ H s)(hex:X.ex=[]):Cov X pins H (PySem.W.hideAll s.heap (frs X.stack)):=by
 refine⟨fun b o q=> ?_,fun b o q nb=> ?_,fun p hp=> ?_⟩
 ·have:∃u,s.heap.get? b=some u:=(I.hok b o q).thereO
  obtain⟨u,z⟩:=this
  exact⟨u,PySem.W.hideAll_get _ z fun hb=>by rw[I.stkFree b hb]at q;cases q⟩
 ·obtain⟨u,z⟩:=I.base.there b o q (by rw[hex];simp)
  exact⟨u,PySem.W.hideAll_get _ z nb⟩
 ·obtain⟨z,_,n1,n2,_⟩:=I.pin p hp
  exact⟨p.2,PySem.W.hideAll_get _ z (noFr I n1 n2)⟩
theorem fly_new{vs:List Value}(I:Inv X pins σ H s)(hex:X.ex=[])(m:Heap.MadeExcOf s.heap h' e (.ref C) vs):Inv X pins σ H {s with heap:=h'}∧Fly X pins H e C h':=by
 refine⟨I.kept (t':=s.toks) m.keeps,_,cov_all I hex,fun b o q=>m.keeps b o (PySem.W.of_hideAll _ q),?_,?_, .inr (.inl ?_)⟩
 ·cases q:(PySem.W.hideAll s.heap (frs X.stack)).get? e with
  |none=>rfl
  |some o=>have:=PySem.W.of_hideAll _ q;rw[m.new]at this;cases this
 ·have F:=PySem.W.funFrames_hide (as:=frs X.stack) I.stack fun env he a ha=>List.mem_filterMap.mpr ⟨env,he,ha⟩
  exact F.of_keeps fun b o q _=>⟨o,m.keeps b o q,rfl⟩
 ·obtain⟨t,a,_,_⟩:=m.there
  exact⟨_,_,_,a,rfl,rfl,rfl,rfl⟩
theorem set_fl{M:Model}{A:Around}{E:Value→Shared→Prop}{stk:List Env}{cl a0 fl:Value}{to:Option Addr}{Q:Unit→Shared→Prop}(k1:B.StaysIn s.heap)(k2:s.heap.FunFrames B stk)(tr:s.heap.TracedAtW B e cl a0 fl)
  (done:∀g,B.StaysIn g→g.FunFrames B stk→g.TracedAtW B e cl a0 (to.elim Value.none fun f=>rawInt f)→s.heap.UpToSlots g→Q () {s with heap:=g}):wpAny M A (setFlight (.ref e) to) Q E s:=by
 obtain⟨oe,vs,T,oT,ts,g1,g2,g3,g4,g5,g6,g7,g8,g9⟩:=tr
 have sz:3<ts.size:=(Array.getElem?_eq_some_iff.mp g9).1
 let U:=s.heap.update T (Obj.mapFields (·.setIfInBounds 3 (to.elim Value.none fun f=>rawInt f)))
 have ot:∀b,b≠T→U.get? b=s.heap.get? b:=fun b nb=>Heap.get?_update_other _ _ (Ne.symm nb)
 have nr:∀b o,s.heap.get? b=some o→(∀vs,o.data≠ .fields vs)→b≠T:=fun b o q nf z=>by
  rw[z,g7]at q
  cases q
  exact nf ts g8
 unfold setFlight
 refine wpAny_bind (wpAny_field g1 g3 g4 ?_)
 rw[if_pos (by simp:(Value.ref T != Value.none)=true)]
 refine wpAny_setField g7 g8 sz (done U (fun b o q=> ?_) (k2.of_keeps fun b o q nf=>⟨o,?_,rfl⟩) ?_ fun b o q nf=>⟨o.slots,?_⟩)
 ·rw[ot b fun z=>by rw[z,g5]at q;cases q]
  exact k1 b o q
 ·rw[ot b (nr b o q nf)];exact q
 ·refine⟨oe,vs,T,_,_,?_,g2,g3,g4,g5,g6,Heap.get?_update_self _ g7 (Obj.isFreed_of_fields (Obj.data_mapFields g8 _)),Obj.data_mapFields g8 _,?_⟩
  ·rw[ot e (Ne.symm g6)];exact g1
  ·simp[sz]
 ·rw[ot b (nr b o q nf)];exact q
theorem note_ok{M:Model}{E:Value→Shared→Prop}{Q:Unit→Shared→Prop}{env:Env}{out:List Env}{L:Addr}{A:Around}(hfr:A.frames=some (env::out))(hL:env.frame=some L)(f:FlyB B (env::out) e C s.heap)
  (done:∀g a0,B.StaysIn g→g.FunFrames B (env::out)→g.TracedAtW B e (.ref C) a0 (rawInt L)→s.heap.UpToSlots g→Q () {s with heap:=g}):wpAny M A (noteFrame (.ref e) env) Q E s:=by
 obtain⟨f1,f2,f3,f4⟩:=f
 rcases f4 with⟨a0,tr⟩|⟨oe,vs,a0,q1,q2,q3,q4,q5⟩|⟨L',a0,hl,tr⟩
 ·exact wpAny_noteFrame_onW hfr f3 hL tr f1 f2 fun g ⟨k1,k2,k3,k4⟩=>done g a0 k1 k2 k3 k4
 ·unfold noteFrame
  simp only[hL]
  refine wpAny_bind (wpAny_field q1 q3 q4 ?_)
  rw[if_neg (by decide)]
  exact wpAny_entryW hfr f3 hL q1 f1 f2 q3 (Array.getElem?_eq_some_iff.mp q4).1 q5 fun g ⟨k1,k2,k3,k4⟩=>done g a0 k1 k2 (q2▸k3) k4
 ·have:L'=L:=by
   have hl:env.frame=some L':=hl
   rw[hL]at hl
   exact(Option.some.inj hl).symm
  subst this
  exact wpAny_noteFrame_againW hL tr (done s.heap a0 f1 f3 tr (Heap.UpToSlots.refl _))
theorem left_ok{M:Model}{E:Value→Shared→Prop}{Q:Unit→Shared→Prop}{env:Env}{out:List Env}{L:Addr}{A:Around}(hfr:A.frames=some (env::out))(hL:env.frame=some L)(f:FlyB B (env::out) e C s.heap)
  (done:∀g,FlyB B out e C g→s.heap.UpToSlots g→Q () {s with heap:=g}):wpAny M A (leaving env (.ref e)) Q E s:=by
 unfold leaving
 refine wpAny_bind (note_ok hfr hL f fun g a0 k1 k2 k3 k4=> ?_)
 exact set_fl (s:={s with heap:=g}) (to:=none) k1 k2 k3 fun g' j1 ⟨_,_,j2⟩ j3 j4=>done g' ⟨j1,f.2.1,j2, .inl ⟨a0,j3⟩⟩ (k4.trans j4)
end
end L3
namespace L3
open PySem PySem.Spec L2
open PyProof.Rows hiding St
inductive D where
 |non|bl (b:Bool)|int (i:Int)|str (x:Str)|tup (xs:List D)|lst (xs:List D)|exc (c:Nat)|dct (kvs:List (List Int×List (List Int)))
noncomputable def clsN:Nat→Str
 |0=>"SquareError"|1=>"BadSquare"|2=>"BadPlace"|3=>"BadCut"|4=>"BadBlock"|5=>"BadOrder"|6=>"BadNumber"|7=>"TooBig"|_=>"BadText"
noncomputable def clsA(K:PySem.W.Frag)(c:Nat):Addr:=match PySem.W.nsIn K mainGlobals (clsN c)with
 |some (some (.ref a))=>a
 |_=>0
noncomputable def excP(a c:Addr):Heap→Prop:=fun h=>∃o,h.get? a=some o∧o.cls=.ref c
inductive R(α:Type) where
 |ok (a:α)|ex (c:Nat)|bad
noncomputable def R.bind{α β:Type}(r:R α)(k:α→R β):R β:=match r with
 | .ok a=>k a
 | .ex c=>.ex c
 | .bad=>.bad
noncomputable instance:Monad R where
 pure:=R.ok
 bind:=R.bind
theorem R.ok_bind{α β:Type}(a:α)(k:α→R β):(R.ok a>>=k)=k a:=rfl
noncomputable abbrev Rho:=List (Option D)
noncomputable def LstAt(K:PySem.W.Frag)(G:Addr→Prop)(H:Hp)(a:Addr)(xs:List V):Prop:=
 (Rd H a (.lst xs)∧G a)∨
  ∃(o:Obj) (its:Array Value) (n:Nat),K.lookup a=some o∧o.cls=.type "list"∧o.dict=none∧o.data=.seq its n∧its.size≤sizeLine∧Vals xs its.toList
theorem LstAt.sq{K:PySem.W.Frag}{G:Addr→Prop}{H:Hp}{a:Addr}{xs:List V}(h:LstAt K G H a xs):SqL K H a xs:=h.elim (fun q=>.inl q.1) .inr
theorem LstAt.of{K:PySem.W.Frag}{G:Addr→Prop}{H:Hp}{a:Addr}{xs:List V}(h:H a=some (.lst xs))(g:G a):LstAt K G H a xs:=.inl ⟨.inl h,g⟩
noncomputable def LTI(K:PySem.W.Frag)(G:Addr→Prop)(H:Hp)(ts:List (List Int))(v:V):Prop:=
 ∃b xs,v=.ref b∧LstAt K G H b xs∧Paired (fun(t:List Int) (x:V)=>∃c,x=.ref c∧SqT K H c (t.map V.int)) ts xs
noncomputable def DctAt(K:PySem.W.Frag)(G:Addr→Prop)(H:Hp)(a:Addr)(kvs:List (List Int×List (List Int))):Prop:=
 ∃es:List (List Key×V),H a=some (.dT es)∧G a∧Paired (fun(p:List Int×List (List Int)) (q:List Key×V)=>q.1=p.1.map Sum.inl∧LTI K G H p.2 q.2) kvs es
theorem LTI.imp{K:PySem.W.Frag}{G G':Addr→Prop}{H H':Hp}(hl:∀a xs,LstAt K G H a xs→LstAt K G' H' a xs)(ht:∀a xs,SqT K H a xs→SqT K H' a xs){ts:List (List Int)}{v:V}(h:LTI K G H ts v):LTI K G' H' ts v:=by
 obtain⟨b,xs,e,l,p⟩:=h
 exact⟨b,xs,e,hl _ _ l,Paired.imp' (fun _ _ ⟨c,e,s⟩=>⟨c,e,ht _ _ s⟩) p⟩
theorem DctAt.imp{K:PySem.W.Frag}{G G':Addr→Prop}{H H':Hp}{a:Addr}(hd:∀es,H a=some (.dT es)→G a→H' a=some (.dT es)∧G' a)(hl:∀a xs,LstAt K G H a xs→LstAt K G' H' a xs)(ht:∀a xs,SqT K H a xs→SqT K H' a xs){kvs:List (List Int×List (List Int))}(h:DctAt K G H a kvs):DctAt K G' H' a kvs:=by
 obtain⟨es,e,g,p⟩:=h
 obtain⟨e',g'⟩:=hd es e g
 exact⟨es,e',g',Paired.imp' (fun _ _ ⟨q1,q2⟩=>⟨q1,q2.imp hl ht⟩) p⟩
mutual
noncomputable def Rep(K:PySem.W.Frag)(G:Addr→Prop)(H:Hp):D→V→Prop
 | .non,v=>v=.non
 | .bl b,v=>v=.bl b
 | .int i,v=>v=.int i
 | .str x,v=>v=.str x∧x.length≤sizeLine∧PyData.strOk x=true
 | .tup ds,v=>∃a xs,v=.ref a∧SqT K H a xs∧RepL K G H ds xs
 | .lst ds,v=>∃a xs,v=.ref a∧LstAt K G H a xs∧RepL K G H ds xs
 | .exc c,v=>∃a,v=.ref a∧H a=some (.ext (excP a (clsA K c)))
 | .dct kvs,v=>∃a,v=.ref a∧DctAt K G H a kvs
noncomputable def RepL(K:PySem.W.Frag)(G:Addr→Prop)(H:Hp):List D→List V→Prop
 | [],xs=>xs=[]
 |d::ds,xs=>∃x r,xs=x::r∧Rep K G H d x∧RepL K G H ds r
end
theorem LstAt.mono{K:PySem.W.Frag}{G G':Addr→Prop}{H H':Hp}{a:Addr}{xs:List V}(e:Same H H')(g:∀a,G a→G' a)(h:LstAt K G H a xs):LstAt K G' H' a xs:=by
 rcases h with⟨h|⟨o,h⟩,ga⟩|h
 ·exact .inl ⟨.inl (e _ _ h),g a ga⟩
 ·exact .inl ⟨.inr ⟨o,e _ _ h⟩,g a ga⟩
 ·exact .inr h
theorem Same.seqT{K:PySem.W.Frag}{H H':Hp}{a:Addr}{xs:List V}(e:Same H H')(h:SqT K H a xs):SqT K H' a xs:=by
 rcases h with(h|⟨o,h⟩)|h
 ·exact .inl (.inl (e _ _ h))
 ·exact .inl (.inr ⟨o,e _ _ h⟩)
 ·exact .inr h
section
variable{K:PySem.W.Frag}{G G':Addr→Prop}{H H':Hp}
mutual
theorem Rep.mono(e:Same H H')(g:∀a,G a→G' a):∀(d:D) {v:V},Rep K G H d v→Rep K G' H' d v
 | .non,_,h=>by simpa only[Rep]using h
 | .bl _,_,h=>by simpa only[Rep]using h
 | .int _,_,h=>by simpa only[Rep]using h
 | .str _,_,h=>by simpa only[Rep]using h
 | .tup ds,v,h=>by
  simp only[Rep]at h ⊢
  obtain⟨a,xs,rfl,s,r⟩:=h
  exact⟨a,xs,rfl,Same.seqT e s,RepL.mono e g ds r⟩
 | .lst ds,v,h=>by
  simp only[Rep]at h ⊢
  obtain⟨a,xs,rfl,s,r⟩:=h
  exact⟨a,xs,rfl,s.mono e g,RepL.mono e g ds r⟩
 | .exc c,v,h=>by
  simp only[Rep]at h ⊢
  obtain⟨a,rfl,q⟩:=h
  exact⟨a,rfl,e _ _ q⟩
 | .dct kvs,v,h=>by
  simp only[Rep]at h ⊢
  obtain⟨a,rfl,q⟩:=h
  exact⟨a,rfl,q.imp (fun es z y=>⟨e _ _ z,g _ y⟩) (fun _ _ z=>z.mono e g) fun _ _ z=>Same.seqT e z⟩
theorem RepL.mono(e:Same H H')(g:∀a,G a→G' a):∀(ds:List D) {xs:List V},RepL K G H ds xs→RepL K G' H' ds xs
 | [],_,h=>by simpa only[RepL]using h
 |d::ds,xs,h=>by
  simp only[RepL]at h ⊢
  obtain⟨x,r,rfl,h1,h2⟩:=h
  exact⟨x,r,rfl,Rep.mono e g d h1,RepL.mono e g ds h2⟩
end
theorem Rep.same{d:D}{v:V}(h:Rep K G H d v)(e:Same H H'):Rep K G H' d v:=Rep.mono e (fun _ x=>x) d h
theorem RepL.same{ds:List D}{xs:List V}(h:RepL K G H ds xs)(e:Same H H'):RepL K G H' ds xs:=RepL.mono e (fun _ x=>x) ds h
theorem RepL.nil:RepL K G H [] []:=by simp only[RepL]
theorem RepL.cons{d:D}{ds:List D}{x:V}{xs:List V}(h:Rep K G H d x)(t:RepL K G H ds xs):RepL K G H (d::ds) (x::xs):=by
 simp only[RepL];exact⟨x,xs,rfl,h,t⟩
theorem RepL.uncons{d:D}{ds:List D}{xs:List V}(h:RepL K G H (d::ds) xs):∃x r,xs=x::r∧Rep K G H d x∧RepL K G H ds r:=by
 simpa only[RepL]using h
theorem RepL.nil_of{xs:List V}(h:RepL K G H [] xs):xs=[]:=by simpa only[RepL]using h
theorem RepL.length:∀{ds:List D} {xs:List V},RepL K G H ds xs→xs.length=ds.length
 | [],_,h=>by rw[h.nil_of];rfl
 |d::ds,xs,h=>by
  obtain⟨x,r,rfl,_,t⟩:=h.uncons
  simp[t.length]
theorem RepL.get:∀{ds:List D} {xs:List V} {i:Nat} {d:D},RepL K G H ds xs→ds[i]? =some d→∃x,xs[i]? =some x∧Rep K G H d x
 | [],_,_,_,_,e=>by simp at e
 |d::ds,xs,0,d',h,e=>by
  obtain⟨x,r,rfl,h1,_⟩:=h.uncons
  simp at e;subst e
  exact⟨x,rfl,h1⟩
 |d::ds,xs,i+1,d',h,e=>by
  obtain⟨x,r,rfl,_,t⟩:=h.uncons
  obtain⟨y,h1,h2⟩:=RepL.get (i:=i) t (by simpa using e)
  exact⟨y,by simpa using h1,h2⟩
theorem RepL.get':∀{ds:List D} {xs:List V} {i:Nat} {x:V},RepL K G H ds xs→xs[i]? =some x→∃d,ds[i]? =some d∧Rep K G H d x
 | [],_,_,_,h,e=>by rw[h.nil_of]at e;simp at e
 |d::ds,xs,0,x',h,e=>by
  obtain⟨x,r,rfl,h1,_⟩:=h.uncons
  simp at e;subst e
  exact⟨d,rfl,h1⟩
 |d::ds,xs,i+1,x',h,e=>by
  obtain⟨x,r,rfl,_,t⟩:=h.uncons
  obtain⟨y,h1,h2⟩:=RepL.get' (i:=i) t (by simpa using e)
  exact⟨y,by simpa using h1,h2⟩
theorem RepL.append:∀{ds es:List D} {xs ys:List V},RepL K G H ds xs→RepL K G H es ys→RepL K G H (ds++es) (xs++ys)
 | [],_,_,_,h,t=>by rw[h.nil_of];exact t
 |d::ds,es,xs,ys,h,t=>by
  obtain⟨x,r,rfl,h1,h2⟩:=h.uncons
  exact RepL.cons h1 (RepL.append h2 t)
theorem RepL.drop:∀{ds:List D} {xs:List V} (n:Nat),RepL K G H ds xs→RepL K G H (ds.drop n) (xs.drop n)
 |ds,xs,0,h=>by simpa using h
 | [],_,n+1,h=>by rw[h.nil_of];simpa using RepL.nil
 |d::ds,xs,n+1,h=>by
  obtain⟨x,r,rfl,_,t⟩:=h.uncons
  simpa using RepL.drop n t
theorem RepL.take:∀{ds:List D} {xs:List V} (n:Nat),RepL K G H ds xs→RepL K G H (ds.take n) (xs.take n)
 |ds,xs,0,h=>by simpa using RepL.nil
 | [],_,n+1,h=>by rw[h.nil_of];simpa using RepL.nil
 |d::ds,xs,n+1,h=>by
  obtain⟨x,r,rfl,h1,t⟩:=h.uncons
  simpa using RepL.cons h1 (RepL.take n t)
theorem RepL.set{d':D}{x':V}(h':Rep K G H d' x'):∀{ds:List D} {xs:List V} (n:Nat),RepL K G H ds xs→RepL K G H (ds.set n d') (xs.set n x')
 | [],_,n,h=>by rw[h.nil_of];simpa using RepL.nil
 |d::ds,xs,0,h=>by
  obtain⟨x,r,rfl,h1,t⟩:=h.uncons
  simpa using RepL.cons h' t
 |d::ds,xs,n+1,h=>by
  obtain⟨x,r,rfl,h1,t⟩:=h.uncons
  simpa using RepL.cons h1 (RepL.set h' n t)
theorem Rep.tup_of{ds:List D}{v:V}(h:Rep K G H (.tup ds) v):∃a xs,v=.ref a∧SqT K H a xs∧RepL K G H ds xs:=by simpa only[Rep]using h
theorem Rep.lst_of{ds:List D}{v:V}(h:Rep K G H (.lst ds) v):∃a xs,v=.ref a∧LstAt K G H a xs∧RepL K G H ds xs:=by simpa only[Rep]using h
theorem Rep.dct_of{kvs:List (List Int×List (List Int))}{v:V}(h:Rep K G H (.dct kvs) v):∃a,v=.ref a∧DctAt K G H a kvs:=by simpa only[Rep]using h
theorem Rep.exc_of{c:Nat}{v:V}(h:Rep K G H (.exc c) v):∃a,v=.ref a∧H a=some (.ext (excP a (clsA K c))):=by simpa only[Rep]using h
theorem Rep.int_of{i:Int}{v:V}(h:Rep K G H (.int i) v):v=.int i:=by simpa only[Rep]using h
theorem Rep.bl_of{i:Bool}{v:V}(h:Rep K G H (.bl i) v):v=.bl i:=by simpa only[Rep]using h
theorem Rep.int{i:Int}:Rep K G H (.int i) (.int i):=by simp only[Rep]
theorem Rep.bl{i:Bool}:Rep K G H (.bl i) (.bl i):=by simp only[Rep]
theorem Rep.non:Rep K G H .non .non:=by simp only[Rep]
theorem Rep.tup{ds:List D}{a:Addr}{xs:List V}(s:SqT K H a xs)(r:RepL K G H ds xs):Rep K G H (.tup ds) (.ref a):=by simp only[Rep];exact⟨a,xs,rfl,s,r⟩
theorem Rep.lst{ds:List D}{a:Addr}{xs:List V}(s:H a=some (.lst xs))(g:G a)(r:RepL K G H ds xs):Rep K G H (.lst ds) (.ref a):=by simp only[Rep];exact⟨a,xs,rfl, .of s g,r⟩
end
section
variable{K:PySem.W.Frag}{G G':Addr→Prop}{H H':Hp}
mutual
theorem Rep.there:∀(d:D) {v:V},Rep K G H d v→Rep K (fun a=>G a∧H a≠none) H d v
 | .non,_,h=>by simpa only[Rep]using h
 | .bl _,_,h=>by simpa only[Rep]using h
 | .int _,_,h=>by simpa only[Rep]using h
 | .str _,_,h=>by simpa only[Rep]using h
 | .tup ds,v,h=>by
  obtain⟨a,xs,rfl,s,r⟩:=h.tup_of
  exact Rep.tup s (RepL.there ds r)
 | .lst ds,v,h=>by
  obtain⟨a,xs,rfl,s,r⟩:=h.lst_of
  simp only[Rep]
  refine⟨a,xs,rfl,?_,RepL.there ds r⟩
  rcases s with⟨s,ga⟩|s
  ·refine .inl ⟨s,ga,?_⟩
   rcases s with s|⟨o,s⟩<;>rw[s]<;>simp
  ·exact .inr s
 | .exc c,v,h=>by simpa only[Rep]using h
 | .dct kvs,v,h=>by
  obtain⟨a,rfl,q⟩:=h.dct_of
  simp only[Rep]
  refine⟨a,rfl,q.imp (fun es z y=>⟨z,y,by rw[z];simp⟩) (fun b xs s=> ?_) fun _ _ z=>z⟩
  rcases s with⟨s,ga⟩|s
  ·refine .inl ⟨s,ga,?_⟩
   rcases s with s|⟨o,s⟩<;>rw[s]<;>simp
  ·exact .inr s
theorem RepL.there:∀(ds:List D) {xs:List V},RepL K G H ds xs→RepL K (fun a=>G a∧H a≠none) H ds xs
 | [],_,h=>by simpa only[RepL]using h
 |d::ds,xs,h=>by
  obtain⟨x,r,rfl,h1,h2⟩:=h.uncons
  exact RepL.cons (Rep.there d h1) (RepL.there ds h2)
end
theorem RepL.off{p:Addr}{ds:List D}{xs:List V}(h:RepL K G H ds xs)(hp:H p=none):RepL K (fun a=>G a∧a≠p) H ds xs:=
 RepL.mono (Same.refl H) (fun a z=>⟨z.1,fun e=>z.2 (by rw[e];exact hp)⟩) ds (RepL.there ds h)
end
noncomputable def Free(G:Addr→Prop)(H:Hp):Prop:=∀a,H a=none→G a
theorem Free.same{G:Addr→Prop}{H H':Hp}(f:Free G H)(e:Same H H'):Free G H':=fun a h=>f a (e.free h)
theorem same_new{H:Hp}{p:Addr}(h:H p=none)(o:HO):Same H (upd H p o):=fun b u q=>by rw[upd_ne (ne_of_none q h)];exact q
noncomputable def RepS(K:PySem.W.Frag)(G:Addr→Prop)(H:Hp)(ρ:Rho)(σ:St):Prop:=∀(i:Nat) (d:D),ρ[i]? =some (some d)→∃v,σ[i]? =some (some v)∧Rep K G H d v
theorem RepS.same{K:PySem.W.Frag}{G:Addr→Prop}{H H':Hp}{ρ:Rho}{σ:St}(h:RepS K G H ρ σ)(e:Same H H'):RepS K G H' ρ σ:=fun i d q=>let⟨v,a,b⟩:=h i d q;⟨v,a,b.same e⟩
noncomputable def XQ(X:Cx)(σ:St)(H:Hp)(c:Nat):Prop:=X.ex=[]∧∀(pins:List (Addr×Obj)) (e:Addr) (s':Shared) (H':Hp),Same H H'→Inv X pins σ H' s'→Fly X pins H' e (clsA X.K c) s'.heap→X.xe (.ref e) s'
theorem XQ.mono{X:Cx}{σ:St}{H H1:Hp}{c:Nat}(h:XQ X σ H c)(e:Same H H1):XQ X σ H1 c:=⟨h.1,fun pins a s' H' e'=>h.2 pins a s' H' (e.trans e')⟩
noncomputable def DQ{α β:Type}(X:Cx)(σ:St)(rep:Hp→α→β→Prop)(H:Hp)(r:R α)(Q:β→Hp→Prop):Prop:=match r with
 | .ok a=>∀b H',Same H H'→rep H' a b→Q b H'
 | .ex c=>XQ X σ H c
 | .bad=>False
theorem DQ.mono{α β:Type}{X:Cx}{σ:St}{rep:Hp→α→β→Prop}{H H1:Hp}{r:R α}{Q:β→Hp→Prop}(h:DQ X σ rep H r Q)(e:Same H H1):DQ X σ rep H1 r Q:=by
 cases r with
 |ok a=>exact fun b H' e' q=>h b H' (e.trans e') q
 |ex c=>exact XQ.mono h e
 |bad=>exact h
theorem DQ.bind{α β γ δ:Type}{X:Cx}{σ:St}{rep:Hp→α→β→Prop}{rep':Hp→γ→δ→Prop}{H:Hp}{r:R α}{k:α→R γ}{Q:δ→Hp→Prop}(h:DQ X σ rep' H (r>>=k) Q):
  DQ X σ rep H r (fun b H1=>∃a,r=.ok a∧Same H H1∧rep H1 a b∧DQ X σ rep' H1 (k a) Q):=by
 cases r with
 |ok a=>exact fun b H1 e q=>⟨a,rfl,e,q,DQ.mono (r:=k a) h e⟩
 |ex c=>exact h
 |bad=>exact h
theorem DQ.wk{α β:Type}{X:Cx}{σ:St}{rep:Hp→α→β→Prop}{H:Hp}{r:R α}{Q Q':β→Hp→Prop}(h:DQ X σ rep H r Q)(w:∀b H',Same H H'→Q b H'→Q' b H'):DQ X σ rep H r Q':=by
 cases r with
 |ok a=>exact fun b H' e' q=>w b H' e' (h b H' e' q)
 |ex c=>exact h
 |bad=>exact h
noncomputable def repB:Hp→Bool→Bool→Prop:=fun _ a b=>b=a
noncomputable def tD(X:Cx)(m:Rho→R D):TE:=fun σ H Q=>∃(G:Addr→Prop) (ρ:Rho),Free G H∧RepS X.K G H ρ σ∧DQ X σ (Rep X.K G) H (m ρ) Q
noncomputable def tDT(X:Cx)(m:Rho→R Bool):TT:=fun σ H Q=>∃(G:Addr→Prop) (ρ:Rho),Free G H∧RepS X.K G H ρ σ∧DQ X σ repB H (m ρ) Q
noncomputable def tDA(X:Cx)(m:Rho→R (List D)):TA:=fun σ H Q=>∃(G:Addr→Prop) (ρ:Rho),Free G H∧RepS X.K G H ρ σ∧DQ X σ (RepL X.K G) H (m ρ) Q
noncomputable def PD(X:Cx)(e:Expr)(m:Rho→R D):Prop:=PE X e (tD X m)
noncomputable def PDT(X:Cx)(e:Expr)(m:Rho→R Bool):Prop:=PT X e (tDT X m)
noncomputable def PDW(X:Cx)(e:Expr)(m:Rho→R Bool):Prop:=PW X e (tDT X m)
noncomputable def PDA(X:Cx)(es:List Expr)(m:Rho→R (List D)):Prop:=PA X es (tDA X m)
theorem _root_.L2.PE.imp{X:Cx}{e:Expr}{t t':TE}(h:PE X e t)(i:∀σ H Q,t' σ H Q→t σ H Q):PE X e t':=fun pins s σ H Q I q=>h pins s σ H Q I (i σ H Q q)
theorem _root_.L2.PT.imp{X:Cx}{e:Expr}{t t':TT}(h:PT X e t)(i:∀σ H Q,t' σ H Q→t σ H Q):PT X e t':=fun pins s σ H Q I q=>h pins s σ H Q I (i σ H Q q)
theorem _root_.L2.PW.imp{X:Cx}{e:Expr}{t t':TT}(h:PW X e t)(i:∀σ H Q,t' σ H Q→t σ H Q):PW X e t':=fun wh pins s σ H Q I q=>h wh pins s σ H Q I (i σ H Q q)
theorem _root_.L2.PA.imp{X:Cx}{e:List Expr}{t t':TA}(h:PA X e t)(i:∀σ H Q,t' σ H Q→t σ H Q):PA X e t':=fun pos pins s σ H Q I q=>h pos pins s σ H Q I (i σ H Q q)
noncomputable def vr(i:Nat):Rho→R D:=fun ρ=>match ρ[i]? with
 |some (some d)=>.ok d
 |_=>.bad
noncomputable def cn(d:D):Rho→R D:=fun _=>.ok d
section
variable{X:Cx}
theorem d_var(i:Nat){x:Str}{pos:Pos}(hN:X.N[i]? =some x:=by rfl)(hv:Vis X.env.scope x:=by first|exact Or.inl rfl|exact Or.inr (Or.inl rfl)|exact Or.inr (Or.inr rfl))(hd:(x == ("__debug__":Str))=false:=by decide)
  (hcd:(x == ("__classdict__":Str))=false:=by decide):PD X (.Name x pos) (vr i):=(pe_var hN hv hd hcd).imp fun σ H Q ⟨G,ρ,hG,hρ,q⟩=>by
 unfold vr at q
 cases e:ρ[i]? with
 |none=>rw[e]at q;exact q.elim
 |some o=>
  cases o with
  |none=>rw[e]at q;exact q.elim
  |some d=>
   rw[e]at q
   obtain⟨v,h1,h2⟩:=hρ i d e
   exact⟨v,h1,q v H (Same.refl H) h2⟩
theorem d_int{i j pos}:PD X (.Constant (.int i) j pos) (cn (.int i)):=pe_int.imp fun σ H Q ⟨G,ρ,hG,hρ,q⟩=>q _ H (Same.refl H) Rep.int
theorem d_bl{i j pos}:PD X (.Constant (.bool i) j pos) (cn (.bl i)):=pe_bl.imp fun σ H Q ⟨G,ρ,hG,hρ,q⟩=>q _ H (Same.refl H) Rep.bl
theorem d_non{j pos}:PD X (.Constant .none j pos) (cn .non):=pe_non.imp fun σ H Q ⟨G,ρ,hG,hρ,q⟩=>q _ H (Same.refl H) Rep.non
theorem d_str{x:Str}{j pos}(hx:x.length≤sizeLine:=by decide)(hy:PyData.strOk x=true:=by decide+kernel):PD X (.Constant (.str x) j pos) (cn (.str x)):=pe_str.imp fun σ H Q ⟨G,ρ,hG,hρ,q⟩=>q _ H (Same.refl H) (by simp only[Rep];exact⟨trivial,hx,hy⟩)
theorem d_gint{x:Str}{i:Int}{t:Tok}{pos:Pos}(hg:Gl X x)(hm:X.mg x=some (.int i t))(hd:(x == ("__debug__":Str))=false:=by decide):PD X (.Name x pos) (cn (.int i)):=
 (pe_glob (v:=.int i) hg hm ⟨t,rfl⟩ hd).imp fun σ H Q ⟨G,ρ,hG,hρ,q⟩=>q _ H (Same.refl H) Rep.int
noncomputable def bi(op:D→D→R D)(ma mb:Rho→R D):Rho→R D:=fun ρ=>ma ρ>>=fun x=>mb ρ>>=fun y=>op x y
noncomputable def OpD(X:Cx)(f:Value→Value→Sem Value)(op:D→D→R D):Prop:=
 OpR X f fun x y H Q=>∃(G:Addr→Prop) (σ:St) (d e:D),Free G H∧Rep X.K G H d x∧Rep X.K G H e y∧DQ X σ (Rep X.K G) H (op d e) Q
theorem two_of{σ:St}{H:Hp}{Q:VK}{ma mb:Rho→R D}{op:D→D→R D}(h:tD X (bi op ma mb) σ H Q):
  tD X ma σ H fun x H1=>tD X mb σ H1 fun y H2=>∃(G:Addr→Prop) (σ:St) (d e:D),Free G H2∧Rep X.K G H2 d x∧Rep X.K G H2 e y∧DQ X σ (Rep X.K G) H2 (op d e) Q:=by
 obtain⟨G,ρ,hG,hρ,q⟩:=h
 refine⟨G,ρ,hG,hρ,(DQ.bind q).wk fun x H1 e1 ⟨d,_,_,rd,q1⟩=>⟨G,ρ,hG.same e1,hρ.same e1,(DQ.bind q1).wk fun y H2 e2 ⟨e,_,_,re,q2⟩=> ?_⟩⟩
 exact⟨G,σ,d,e,(hG.same e1).same e2,rd.same e2,re,q2⟩
theorem d_op{a b:Expr}{op:Operator}{f:D→D→R D}{ma mb:Rho→R D}{pos:Pos}(ho:OpD X (binaryOp op) f)(ha:PD X a ma)(hb:PD X b mb):PD X (.BinOp a op b pos) (bi f ma mb):=
 (pe_op ho ha hb).imp fun σ H Q h=>two_of h
theorem d_cmp{a b:Expr}{op:CmpOp}{f:D→D→R D}{ma mb:Rho→R D}{pos:Pos}(ho:OpD X (compareOp op) f)(ha:PD X a ma)(hb:PD X b mb)(hm:behindInMarks op b=false:=by first|exact nomark _|with_unfolding_all rfl):PD X (.Compare a [op] [b] pos) (bi f ma mb):=
 (pe_cmpR ho ha hb hm).imp fun σ H Q h=>two_of h
noncomputable def addD:D→D→R D
 | .int i, .int j=>.ok (.int (i+j))
 | .tup xs, .tup ys=>if xs.length+ys.length≤sizeLine then .ok (.tup (xs++ys))else .bad
 | .lst xs, .lst ys=>if xs.length+ys.length≤sizeLine then .ok (.lst (xs++ys))else .bad
 |_,_=>.bad
noncomputable def subD:D→D→R D
 | .int i, .int j=>.ok (.int (i - j))
 |_,_=>.bad
noncomputable def mulD:D→D→R D
 | .int i, .int j=>if i.natAbs≤1000000000000∨j.natAbs≤1000000000000 then .ok (.int (i * j))else .bad
 |_,_=>.bad
noncomputable def modD:D→D→R D
 | .int i, .int j=>if 0<j then .ok (.int (i%j))else .bad
 |_,_=>.bad
noncomputable def divD:D→D→R D
 | .int i, .int j=>if 0<j∧j.natAbs≤1000000 then .ok (.int (i / j))else .bad
 |_,_=>.bad
noncomputable def cmpD(p:Int→Int→Bool):D→D→R D
 | .int i, .int j=>.ok (.bl (p i j))
 |_,_=>.bad
theorem opd_sub:OpD X (binaryOp .Sub) subD:=by
 intro pins s σ H x y v u Q I rx ry ⟨G,σ',d,e,hG,rd,re,q⟩
 cases d<;>cases e<;>first|exact q.elim|skip
 rename_i i j
 cases rd.int_of;cases re.int_of
 exact op_sub pins s σ H _ _ v u Q I rx ry ⟨_,_,rfl,rfl,q _ H (Same.refl H) Rep.int⟩
theorem opd_mul:OpD X (binaryOp .Mult) mulD:=by
 intro pins s σ H x y v u Q I rx ry ⟨G,σ',d,e,hG,rd,re,q⟩
 cases d<;>cases e<;>first|exact q.elim|skip
 rename_i i j
 cases rd.int_of;cases re.int_of
 simp only[mulD]at q
 split at q
 ·rename_i hc
  have hc:(-(2 ^ 64)<i∧i<2 ^ 64)∨(-(2 ^ 64)<j∧j<2 ^ 64):=by omega
  exact op_mul pins s σ H _ _ v u Q I rx ry ⟨_,_,rfl,rfl,hc,q _ H (Same.refl H) Rep.int⟩
 ·exact q.elim
theorem opd_mod:OpD X (binaryOp .Mod) modD:=by
 intro pins s σ H x y v u Q I rx ry ⟨G,σ',d,e,hG,rd,re,q⟩
 cases d<;>cases e<;>first|exact q.elim|skip
 rename_i i j
 cases rd.int_of;cases re.int_of
 simp only[modD]at q
 split at q
 ·rename_i hc
  exact op_mod pins s σ H _ _ v u Q I rx ry ⟨_,_,rfl,rfl,hc,q _ H (Same.refl H) Rep.int⟩
 ·exact q.elim
theorem opd_div:OpD X (binaryOp .FloorDiv) divD:=by
 intro pins s σ H x y v u Q I rx ry ⟨G,σ',d,e,hG,rd,re,q⟩
 cases d<;>cases e<;>first|exact q.elim|skip
 rename_i i j
 cases rd.int_of;cases re.int_of
 simp only[divD]at q
 split at q
 ·rename_i hc
  have hc:0<j∧j<1073741824:=by omega
  exact op_fdiv pins s σ H _ _ v u Q I rx ry ⟨_,_,rfl,rfl,hc,q _ H (Same.refl H) Rep.int⟩
 ·exact q.elim
theorem opd_cmpI{f:Value→Value→Sem Value}{p:Int→Int→Bool}(ho:OpR X f (rI0 fun i j=>.bl (p i j))):OpD X f (cmpD p):=by
 intro pins s σ H x y v u Q I rx ry ⟨G,σ',d,e,hG,rd,re,q⟩
 cases d<;>cases e<;>first|exact q.elim|skip
 rename_i i j
 cases rd.int_of;cases re.int_of
 exact ho pins s σ H _ _ v u Q I rx ry ⟨_,_,rfl,rfl,q _ H (Same.refl H) Rep.bl⟩
theorem opd_lt:OpD X (compareOp .Lt) (cmpD fun i j=>decide (i<j)):=opd_cmpI op_lt
theorem opd_le:OpD X (compareOp .LtE) (cmpD fun i j=>decide (i≤j)):=opd_cmpI op_le
theorem opd_gt:OpD X (compareOp .Gt) (cmpD fun i j=>decide (j<i)):=opd_cmpI op_gt
theorem opd_ge:OpD X (compareOp .GtE) (cmpD fun i j=>decide (j≤i)):=opd_cmpI op_ge
end
end L3
namespace L3
open PySem PySem.Spec L2
open PyProof.Rows hiding St
noncomputable def deepP:Nat→PyData
 |0=>.none
 |n+1=>.tuple [deepP n]
noncomputable def far:PyData:=deepP 50
theorem far_depth:40<far.depth:=by decide+kernel
mutual
noncomputable def toP:D→PyData
 | .non=>.none
 | .bl b=>.bool b
 | .int i=>.int i
 | .str x=>.str x
 | .tup xs=>.tuple (toPs xs)
 | .lst xs=>.list (toPs xs)
 | .exc _=>far
 | .dct _=>far
noncomputable def toPs:List D→List PyData
 | []=>[]
 |x::xs=>toP x::toPs xs
end
noncomputable def dep(d:D):Nat:=(toP d).depth
noncomputable def deps(ds:List D):Nat:=PyData.depthAll (toPs ds)
noncomputable def eqB(x y:D):Bool:=PyData.eqv (toP x) (toP y)
section
variable{X:Cx}{pins:List (Addr×Obj)}{σ:St}{H:Hp}{s:Shared}{G:Addr→Prop}
mutual
theorem reads(I:Inv X pins σ H s):∀(d:D) {v:V} {u:Value},Rep X.K G H d v→RelV v u→dep d≤40→(∃as,Reads s.heap u (toP d) as)∧(toP d).canLay0=true
 | .non,v,u,h,r,hd=>by
  simp only[Rep]at h;subst h;cases r
  exact⟨⟨_, .none⟩,rfl⟩
 | .bl b,v,u,h,r,hd=>by
  simp only[Rep]at h;subst h;cases r
  exact⟨⟨_, .bool b⟩,rfl⟩
 | .int i,v,u,h,r,hd=>by
  simp only[Rep]at h;subst h;obtain⟨t,rfl⟩:=r
  exact⟨⟨_, .int i t⟩,rfl⟩
 | .str x,v,u,h,r,hd=>by
  simp only[Rep]at h;obtain⟨rfl,h1,h2⟩:=h;obtain⟨t,rfl⟩:=r
  exact⟨⟨_, .str x t⟩,h2⟩
 | .tup ds,v,u,h,r,hd=>by
  simp only[Rep]at h;obtain⟨a,xs,rfl,hs,hr⟩:=h;cases r
  obtain⟨its,rv,⟨o,e,c,n,d⟩,_⟩:=I.tuple hs
  obtain⟨⟨as,q⟩,c2⟩:=readsL I ds hr rv (Nat.le_of_lt hd)
  exact⟨⟨_, .tuple e c d (by simpa using q)⟩,c2⟩
 | .lst ds,v,u,h,r,hd=>by
  simp only[Rep]at h;obtain⟨a,xs,rfl,hs,hr⟩:=h;cases r
  obtain⟨its,rv,⟨o,n,e,c,_,d⟩,_⟩:=I.list hs.sq
  obtain⟨⟨as,q⟩,c2⟩:=readsL I ds hr rv (Nat.le_of_lt hd)
  exact⟨⟨_, .list e c d (by simpa using q)⟩,c2⟩
 | .exc c,v,u,h,r,hd=>absurd hd (Nat.not_le.mpr far_depth)
 | .dct c,v,u,h,r,hd=>absurd hd (Nat.not_le.mpr far_depth)
theorem readsL(I:Inv X pins σ H s):∀(ds:List D) {xs:List V} {us:List Value},RepL X.K G H ds xs→Vals xs us→deps ds≤40→(∃as,ReadsAll s.heap us (toPs ds) as)∧PyData.canLayAll0 (toPs ds)=true
 | [],xs,us,h,r,hd=>by
  rw[h.nil_of]at r;cases r
  exact⟨⟨_, .nil⟩,rfl⟩
 |d::ds,xs,us,h,r,hd=>by
  obtain⟨x,rr,rfl,h1,h2⟩:=h.uncons
  cases r with
  |cons r1 r2=>
   obtain⟨⟨as,q1⟩,c1⟩:=reads I d h1 r1 (Nat.le_trans (Nat.le_max_left ..) hd)
   obtain⟨⟨bs,q2⟩,c2⟩:=readsL I ds h2 r2 (Nat.le_trans (Nat.le_max_right ..) hd)
   refine⟨⟨_, .cons q1 q2⟩,?_⟩
   show(PyData.canLay0 (toP d)&&PyData.canLayAll0 (toPs ds))=true
   rw[c1,c2];rfl
end
end
noncomputable def shal(x y:D):Bool:=decide (dep x≤40∧dep y≤40)
noncomputable def eqD(x y:D):R D:=if shal x y then .ok (.bl (eqB x y))else .bad
noncomputable def neD(x y:D):R D:=if shal x y then .ok (.bl (!eqB x y))else .bad
noncomputable def inB(x:D)(ys:List D):Bool:=ys.any fun y=>eqB y x
noncomputable def ninD:D→D→R D
 |x, .tup ys=>if deps ys≤39∧dep x≤40 then .ok (.bl (!inB x ys))else .bad
 |x, .lst ys=>if deps ys≤39∧dep x≤40 then .ok (.bl (!inB x ys))else .bad
 |_,_=>.bad
theorem any_toPs(x:D):∀ys:List D,((toPs ys).any fun y=>PyData.eqv y (toP x))=inB x ys
 | []=>rfl
 |y::ys=>by
  show(PyData.eqv (toP y) (toP x) || (toPs ys).any _)=(eqB y x || inB x ys)
  rw[any_toPs x ys];rfl
section
variable{X:Cx}
theorem opd_eq(hu:X.A.units+64<cLine):OpD X (compareOp .Eq) eqD:=by
 intro pins s σ H x y v u Q I rx ry ⟨G,σ',d,e,hG,rd,re,q⟩
 unfold eqD at q
 split at q
 ·rename_i hs
  have hs:dep d≤40∧dep e≤40:=of_decide_eq_true hs
  obtain⟨⟨as,r1⟩,c1⟩:=reads I d rd rx hs.1
  obtain⟨⟨bs,r2⟩,c2⟩:=reads I e re ry hs.2
  exact SeqAt.rcAt_reads r1 r2 c1 c2 (by show X.A.units+min (dep d) (dep e)<cLine;omega) _ _ _ _ ⟨.bl _,H,I,rfl,q _ H (Same.refl H) Rep.bl⟩
 ·exact q.elim
theorem opd_ne(hu:X.A.units+64<cLine):OpD X (compareOp .NotEq) neD:=by
 intro pins s σ H x y v u Q I rx ry ⟨G,σ',d,e,hG,rd,re,q⟩
 unfold neD at q
 split at q
 ·rename_i hs
  have hs:dep d≤40∧dep e≤40:=of_decide_eq_true hs
  obtain⟨⟨as,r1⟩,c1⟩:=reads I d rd rx hs.1
  obtain⟨⟨bs,r2⟩,c2⟩:=reads I e re ry hs.2
  exact SeqAt.compareNe_reads r1 r2 c1 c2 (by show X.A.units+min (dep d) (dep e)<cLine;omega) ⟨.bl _,H,I,rfl,q _ H (Same.refl H) Rep.bl⟩
 ·exact q.elim
theorem opd_nin(hu:X.A.units+64<cLine):OpD X (compareOp .NotIn) ninD:=by
 intro pins s σ H x y v u Q I rx ry ⟨G,σ',d,e,hG,rd,re,q⟩
 cases e<;>first|exact q.elim|skip
 all_goals
  rename_i ys
  simp only[ninD]at q
  split at q
  ·rename_i hs
   obtain⟨⟨as,r1⟩,c1⟩:=reads I d rd rx hs.2
   obtain⟨⟨bs,r2⟩,c2⟩:=reads I _ re ry (Nat.succ_le_succ hs.1)
   first
    |exact SeqAt.notIn_tuple_reads r2 r1 c2 c1 (by show X.A.units+1+min (deps ys) (dep d)<cLine;omega) ⟨.bl _,H,I,rfl,by rw[any_toPs];exact q _ H (Same.refl H) Rep.bl⟩
    |exact SeqAt.notIn_list_reads r2 r1 c2 c1 (by show X.A.units+1+min (deps ys) (dep d)<cLine;omega) ⟨.bl _,H,I,rfl,by rw[any_toPs];exact q _ H (Same.refl H) Rep.bl⟩
  ·exact q.elim
noncomputable def isNonD(x:D):Bool:=match x with| .non=>true|_=>false
theorem isNon_of{K:PySem.W.Frag}{G:Addr→Prop}{H:Hp}{d:D}{v:V}(h:Rep K G H d v):decide (v=.non)=isNonD d:=by
 cases d with
 |non=>simp only[Rep]at h;subst h;rfl
 |bl b=>simp only[Rep]at h;subst h;rfl
 |int b=>simp only[Rep]at h;subst h;rfl
 |str b=>simp only[Rep]at h;obtain⟨rfl,_⟩:=h;rfl
 |tup b=>obtain⟨a,xs,rfl,_⟩:=h.tup_of;rfl
 |lst b=>obtain⟨a,xs,rfl,_⟩:=h.lst_of;rfl
 |exc b=>obtain⟨a,rfl,_⟩:=h.exc_of;rfl
 |dct b=>obtain⟨a,rfl,_⟩:=h.dct_of;rfl
noncomputable def un(f:D→R D)(ma:Rho→R D):Rho→R D:=fun ρ=>ma ρ>>=f
theorem d_isN{a:Expr}{ma:Rho→R D}{j pos pos'}(ha:PD X a ma):PD X (.Compare a [.Is] [.Constant .none j pos'] pos) (un (fun x=>.ok (.bl (isNonD x))) ma):=
 (pe_cmp (pc_isN ha)).imp fun σ H Q ⟨G,ρ,hG,hρ,q⟩=>⟨G,ρ,hG,hρ,(DQ.bind q).wk fun v H1 e ⟨d,_,_,rd,q1⟩=>by rw[isNon_of rd];exact q1 _ H1 (Same.refl H1) Rep.bl⟩
theorem d_notN{a:Expr}{ma:Rho→R D}{j pos pos'}(ha:PD X a ma):PD X (.Compare a [.IsNot] [.Constant .none j pos'] pos) (un (fun x=>.ok (.bl (!isNonD x))) ma):=
 (pe_cmp (pc_notN ha)).imp fun σ H Q ⟨G,ρ,hG,hρ,q⟩=>⟨G,ρ,hG,hρ,(DQ.bind q).wk fun v H1 e ⟨d,_,_,rd,q1⟩=>by rw[isNon_of rd];exact q1 _ H1 (Same.refl H1) Rep.bl⟩
theorem op_catT0:OpR X (binaryOp .Add) (fun x y H Q=>∃a b ys,x=.ref a∧y=.ref b∧SqT X.K H a []∧SqT X.K H b ys∧Q (.ref b) H):=by
 intro pins s σ H x y v u Q I rx ry h
 obtain⟨a,b,ys,rfl,rfl,ha,hb,q⟩:=h
 cases rx
 cases ry
 obtain⟨its,r1,⟨⟨cls,dd,data,sl⟩,ho,hc,n,hd⟩,_⟩:=I.tuple ha
 obtain⟨its2,r2,⟨⟨cls2,dd2,data2,sl2⟩,ho2,hc2,n2,hd2⟩,_⟩:=I.tuple hb
 cases r1
 simp only at hc hd hc2 hd2
 subst hc hd hc2 hd2
 exact concat_meets ⟨_,ho,rfl⟩ ⟨_,ho2,rfl⟩ noFill_tuple_add seq_tuple_add PySem.F.slot_tuple_add PySem.F.entry_tuple_add (PySem.F.args_tuple_add_2 _ _)
  (tuple_addW0 a b _ _ n n2 dd dd2 sl sl2 (by simp)) ⟨ho,ho2,⟨.ref b,H,I,rfl,q⟩⟩
theorem op_catL:OpR X (binaryOp .Add) (fun x y H Q=>∃l b xs zs,x=.ref l∧y=.ref b∧SqL X.K H l xs∧SqL X.K H b zs∧xs.length+zs.length≤sizeLine∧∀p,H p=none→Q (.ref p) (upd H p (.lst (xs++zs)))):=by
 intro pins s σ H x y v u Q I rx ry h
 obtain⟨l,b,xs,zs,rfl,rfl,hH,hB,hz,q⟩:=h
 cases rx
 cases ry
 obtain⟨its,r,⟨⟨cls,dd,data,sl⟩,n,ho,hc,hdd,hd⟩,z1⟩:=I.list hH
 obtain⟨its2,r2,⟨⟨cls2,dd2,data2,sl2⟩,n2,ho2,hc2,hdd2,hd2⟩,z2⟩:=I.list hB
 simp only at hc hd hc2 hd2 hdd hdd2
 subst hc hd hc2 hd2 hdd hdd2
 refine concat_meets ⟨_,ho,rfl⟩ ⟨_,ho2,rfl⟩ noFill_list_add seq_list_add PySem.F.slot_list_add PySem.F.entry_list_add (PySem.F.args_list_add_2 _ _)
  (list_addW l b its.toArray its2.toArray n n2 _ _ sl sl2 (by rw[List.size_toArray,List.size_toArray,←r.length,←r2.length];exact hz)) ⟨ho,ho2,?_⟩
 have ea:its.toArray++its2.toArray=(its++its2).toArray:=by simp
 rw[ea]
 exact⟨.ref _,_,I.lnew (t':=s.toks) (r.append r2) (by rw[List.length_append];omega),rfl,q _ I.fresh⟩
theorem opd_add:OpD X (binaryOp .Add) addD:=by
 intro pins s σ H x y v u Q I rx ry ⟨G,σ',d,e,hG,rd,re,q⟩
 cases d<;>cases e<;>first|exact q.elim|skip
 ·rename_i i j
  cases rd.int_of;cases re.int_of
  exact op_add pins s σ H _ _ v u Q I rx ry ⟨_,_,rfl,rfl,q _ H (Same.refl H) Rep.int⟩
 ·rename_i xs ys
  simp only[addD]at q
  split at q
  ·rename_i hl
   obtain⟨a,vs,rfl,h1,r1⟩:=rd.tup_of
   obtain⟨b,ws,rfl,h2,r2⟩:=re.tup_of
   have l1:=r1.length
   have l2:=r2.length
   by_cases e1:vs=[]
   ·subst e1
    have:xs=[]:=by cases xs with|nil=>rfl|cons _ _=>simp at l1
    subst this
    exact op_catT0 pins s σ H _ _ v u Q I rx ry ⟨a,b,ws,rfl,rfl,h1,h2,q _ H (Same.refl H) (Rep.tup h2 r2)⟩
   ·refine op_catT pins s σ H _ _ v u Q I rx ry ⟨a,b,vs,ws,rfl,rfl,h1,h2,e1,by omega,fun e2=> ?_,fun _ p hp=> ?_⟩
    ·subst e2
     have:ys=[]:=by cases ys with|nil=>rfl|cons _ _=>simp at l2
     subst this
     exact q _ H (Same.refl H) (by rw[List.append_nil];exact Rep.tup h1 r1)
    ·have g:=same_new hp (.tup (vs++ws))
     exact q _ _ g (Rep.tup (SqT.of upd_same) ((r1.same g).append (r2.same g)))
  ·exact q.elim
 ·rename_i xs ys
  simp only[addD]at q
  split at q
  ·rename_i hl
   obtain⟨a,vs,rfl,h1,r1⟩:=rd.lst_of
   obtain⟨b,ws,rfl,h2,r2⟩:=re.lst_of
   have l1:=r1.length
   have l2:=r2.length
   refine op_catL pins s σ H _ _ v u Q I rx ry ⟨a,b,vs,ws,rfl,rfl,h1.sq,h2.sq,by omega,fun p hp=> ?_⟩
   have g:=same_new hp (.lst (vs++ws))
   exact q _ _ g (Rep.lst upd_same (hG p hp) ((r1.same g).append (r2.same g)))
  ·exact q.elim
noncomputable def truB:D→Bool
 | .exc _=>true
 | .dct _=>true
 | .non=>false
 | .bl b=>b
 | .int i=>i != 0
 | .str x=>(x.length:Int) != 0
 | .tup xs=> !xs.isEmpty
 | .lst xs=> !xs.isEmpty
noncomputable def opq:D→Bool
 | .exc _=>true
 | .dct _=>true
 |_=>false
theorem tru_of{K:PySem.W.Frag}{G:Addr→Prop}{H:Hp}{d:D}{v:V}(hn:opq d=false)(h:Rep K G H d v):TruV K v H (truB d):=by
 cases d with
 |exc c=>cases hn
 |dct c=>cases hn
 |non=>simp only[Rep]at h;subst h;rfl
 |bl b=>simp only[Rep]at h;subst h;rfl
 |int b=>simp only[Rep]at h;subst h;rfl
 |str b=>simp only[Rep]at h;obtain⟨rfl,h1,_⟩:=h;exact⟨h1,rfl⟩
 |tup b=>
  obtain⟨a,xs,rfl,h1,r⟩:=h.tup_of
  have e:(!xs.isEmpty)= !b.isEmpty:=by
   have:=r.length
   cases xs<;>cases b<;>simp_all
  exact .inr (.inl ⟨xs,h1,e.symm⟩)
 |lst b=>
  obtain⟨a,xs,rfl,h1,r⟩:=h.lst_of
  have e:(!xs.isEmpty)= !b.isEmpty:=by
   have:=r.length
   cases xs<;>cases b<;>simp_all
  exact .inl ⟨xs,h1.sq,e.symm⟩
noncomputable def truR:D→R Bool
 | .exc _=>.bad
 | .dct _=>.bad
 |d=>.ok (truB d)
noncomputable def tst(m:Rho→R D):Rho→R Bool:=fun ρ=>m ρ>>=truR
theorem truR_cases(d:D):truR d=.bad∨(truR d=.ok (truB d)∧opq d=false):=by
 cases d<;>first|exact .inl rfl|exact .inr ⟨rfl,rfl⟩
theorem t_val{a:Expr}{m:Rho→R D}(ha:PD X a m)(he:∀whole,isTrue a X.env whole=(do let v←whole;standAt a.pos;holding [v] (truthy v)):=by intro _;rfl):PDT X a (tst m):=
 (pt_truth ha he).imp fun σ H Q ⟨G,ρ,hG,hρ,q⟩=>⟨G,ρ,hG,hρ,(DQ.bind q).wk fun v H1 e ⟨d,_,_,rd,q1⟩=>by
  rcases truR_cases d with h|⟨h,hn⟩
  ·rw[h]at q1;exact q1.elim
  ·rw[h]at q1;exact⟨truB d,tru_of hn rd,q1 _ H1 (Same.refl H1) rfl⟩⟩
theorem t_cmp{a b:Expr}{op:CmpOp}{f:D→D→R D}{ma mb:Rho→R D}{pos:Pos}(ho:OpD X (compareOp op) f)(ha:PD X a ma)(hb:PD X b mb)
  (hf:∀x y d,f x y=.ok d→∃k,d=.bl k) (hm:behindInMarks op b=false:=by first|exact nomark _|with_unfolding_all rfl):PDT X (.Compare a [op] [b] pos) (tst (bi f ma mb)):=
 (pt_cmpR ho ha hb hm).imp fun σ H Q ⟨G,ρ,hG,hρ,q⟩=>by
  refine two_of (op:=f) ⟨G,ρ,hG,hρ,(DQ.bind q).wk fun v H1 e ⟨d,ed,_,rd,q1⟩=> ?_⟩
  have:∃k,d=.bl k:=by
   simp only[bi]at ed
   cases h1:ma ρ with
   |ok x=>
    cases h2:mb ρ with
    |ok y=>
     rw[h1,h2]at ed
     exact hf x y d ed
    |ex c=>rw[h1,h2]at ed;cases ed
    |bad=>rw[h1,h2]at ed;cases ed
   |ex c=>rw[h1]at ed;cases ed
   |bad=>rw[h1]at ed;cases ed
  obtain⟨k,rfl⟩:=this
  exact⟨k,rd.bl_of,q1 _ H1 (Same.refl H1) rfl⟩
theorem bl_cmp{p:Int→Int→Bool}:∀x y d,cmpD p x y=.ok d→∃k,d=.bl k:=by
 intro x y d h
 unfold cmpD at h
 split at h
 ·cases h;exact⟨_,rfl⟩
 ·cases h
theorem bl_eq:∀x y d,eqD x y=.ok d→∃k,d=.bl k:=by
 intro x y d h;unfold eqD at h;split at h
 ·cases h;exact⟨_,rfl⟩
 ·cases h
theorem bl_ne:∀x y d,neD x y=.ok d→∃k,d=.bl k:=by
 intro x y d h;unfold neD at h;split at h
 ·cases h;exact⟨_,rfl⟩
 ·cases h
theorem bl_nin:∀x y d,ninD x y=.ok d→∃k,d=.bl k:=by
 intro x y d h;unfold ninD at h;split at h
 ·split at h<;>cases h;exact⟨_,rfl⟩
 ·split at h<;>cases h;exact⟨_,rfl⟩
 ·cases h
noncomputable def andT(m n:Rho→R Bool):Rho→R Bool:=fun ρ=>m ρ>>=fun c=>if c=true then n ρ else .ok false
noncomputable def orT(m n:Rho→R Bool):Rho→R Bool:=fun ρ=>m ρ>>=fun c=>if c=true then .ok true else n ρ
noncomputable def notT(m:Rho→R Bool):Rho→R Bool:=fun ρ=>m ρ>>=fun c=>.ok (!c)
theorem w_one{a:Expr}{m:Rho→R Bool}{pos:Pos}(ha:PDT X a m):PDW X (.BoolOp .And [a] pos) m:=pw_and1 ha
theorem w_one'{a:Expr}{m:Rho→R Bool}{pos:Pos}(ha:PDT X a m):PDW X (.BoolOp .Or [a] pos) m:=pw_or1 ha
theorem w_and{a b:Expr}{rest:List Expr}{m n:Rho→R Bool}{pos:Pos}(ha:PDT X a m)(hb:PDW X (.BoolOp .And (b::rest) pos) n):PDW X (.BoolOp .And (a::b::rest) pos) (andT m n):=
 (pw_and ha hb).imp fun σ H Q ⟨G,ρ,hG,hρ,q⟩=>⟨G,ρ,hG,hρ,(DQ.bind q).wk fun c H1 e ⟨c',_,_,rc,q1⟩=>by
  cases rc
  cases c with
  |true=>exact⟨G,ρ,hG.same e,hρ.same e,q1⟩
  |false=>exact q1 _ H1 (Same.refl H1) rfl⟩
theorem w_or{a b:Expr}{rest:List Expr}{m n:Rho→R Bool}{pos:Pos}(ha:PDT X a m)(hb:PDW X (.BoolOp .Or (b::rest) pos) n):PDW X (.BoolOp .Or (a::b::rest) pos) (orT m n):=
 (pw_or ha hb).imp fun σ H Q ⟨G,ρ,hG,hρ,q⟩=>⟨G,ρ,hG,hρ,(DQ.bind q).wk fun c H1 e ⟨c',_,_,rc,q1⟩=>by
  cases rc
  cases c with
  |false=>exact⟨G,ρ,hG.same e,hρ.same e,q1⟩
  |true=>exact q1 _ H1 (Same.refl H1) rfl⟩
theorem t_w{a:Expr}{m:Rho→R Bool}(h:PDW X a m):PDT X a m:=PW.pt h
theorem t_not{a:Expr}{m:Rho→R Bool}{pos:Pos}(ha:PDT X a m):PDT X (.UnaryOp .Not a pos) (notT m):=
 (pt_not ha).imp fun σ H Q ⟨G,ρ,hG,hρ,q⟩=>⟨G,ρ,hG,hρ,(DQ.bind q).wk fun c H1 e ⟨c',_,_,rc,q1⟩=>by cases rc;exact q1 _ H1 (Same.refl H1) rfl⟩
noncomputable def blR:D→R Bool
 | .bl b=>.ok b
 |_=>.bad
noncomputable def andV(m n:Rho→R D):Rho→R D:=fun ρ=>m ρ>>=fun d=>blR d>>=fun c=>if c=true then n ρ else .ok (.bl false)
noncomputable def orV(m n:Rho→R D):Rho→R D:=fun ρ=>m ρ>>=fun d=>blR d>>=fun c=>if c=true then .ok (.bl true)else n ρ
theorem d_one{op}{a:Expr}{m:Rho→R D}{pos:Pos}(ha:PD X a m):PD X (.BoolOp op [a] pos) m:=pe_one ha
theorem d_and{a b:Expr}{rest:List Expr}{m n:Rho→R D}{pos:Pos}(ha:PD X a m)(hb:PD X (.BoolOp .And (b::rest) pos) n):PD X (.BoolOp .And (a::b::rest) pos) (andV m n):=
 (pe_and ha hb).imp fun σ H Q ⟨G,ρ,hG,hρ,q⟩=>⟨G,ρ,hG,hρ,(DQ.bind q).wk fun v H1 e ⟨d,_,_,rd,q1⟩=>by
  cases d with
  |bl c=>
   cases rd.bl_of
   refine⟨c,rfl,?_⟩
   cases c with
   |true=>exact⟨G,ρ,hG.same e,hρ.same e,q1⟩
   |false=>exact q1 _ H1 (Same.refl H1) Rep.bl
  |_=>exact q1.elim⟩
theorem d_or{a b:Expr}{rest:List Expr}{m n:Rho→R D}{pos:Pos}(ha:PD X a m)(hb:PD X (.BoolOp .Or (b::rest) pos) n):PD X (.BoolOp .Or (a::b::rest) pos) (orV m n):=
 (pe_or ha hb).imp fun σ H Q ⟨G,ρ,hG,hρ,q⟩=>⟨G,ρ,hG,hρ,(DQ.bind q).wk fun v H1 e ⟨d,_,_,rd,q1⟩=>by
  cases d with
  |bl c=>
   cases rd.bl_of
   refine⟨c,rfl,?_⟩
   cases c with
   |false=>exact⟨G,ρ,hG.same e,hρ.same e,q1⟩
   |true=>exact q1 _ H1 (Same.refl H1) Rep.bl
  |_=>exact q1.elim⟩
noncomputable def notD(d:D):R D:=truR d>>=fun b=>.ok (.bl (!b))
noncomputable def ifV(c:Rho→R Bool)(m n:Rho→R D):Rho→R D:=fun ρ=>c ρ>>=fun b=>if b=true then m ρ else n ρ
noncomputable def chn(f g:D→D→R D)(ma mb mc:Rho→R D):Rho→R D:=fun ρ=>ma ρ>>=fun x=>mb ρ>>=fun y=>f x y>>=fun z=>blR z>>=fun k=>if k=true then mc ρ>>=fun w=>g y w else .ok (.bl false)
theorem chn_of{a b c:Expr}{f g:D→D→R D}{ma mb mc:Rho→R D}{σ:St}{H:Hp}{Q:VK}(h:tD X (chn f g ma mb mc) σ H Q):
  tChain (fun x y H Q=>∃(G:Addr→Prop) (σ:St) (d e:D),Free G H∧Rep X.K G H d x∧Rep X.K G H e y∧DQ X σ (Rep X.K G) H (f d e) Q)
   (fun x y H Q=>∃(G:Addr→Prop) (σ:St) (d e:D),Free G H∧Rep X.K G H d x∧Rep X.K G H e y∧DQ X σ (Rep X.K G) H (g d e) Q) (tD X ma) (tD X mb) (tD X mc) σ H Q:=by
 obtain⟨G,ρ,hG,hρ,q⟩:=h
 refine⟨G,ρ,hG,hρ,(DQ.bind q).wk fun x H1 e1 ⟨d,_,_,rd,q1⟩=>⟨G,ρ,hG.same e1,hρ.same e1,(DQ.bind q1).wk fun y H2 e2 ⟨e,_,_,re,q2⟩=> ?_⟩⟩
 have e12:=e1.trans e2
 refine⟨G,σ,d,e,hG.same e12,rd.same e2,re,(DQ.bind q2).wk fun z H3 e3 ⟨dz,_,_,rz,q3⟩=> ?_⟩
 have e13:=e12.trans e3
 cases dz with
 |bl k=>
  refine⟨k,rz.bl_of,?_⟩
  cases k with
  |false=>exact q3 _ H3 (Same.refl H3) Rep.bl
  |true=>
   refine⟨G,ρ,hG.same e13,hρ.same e13,(DQ.bind (k:=fun w=>g e w) q3).wk fun w H4 e4 ⟨dw,_,_,rw',q4⟩=> ?_⟩
   exact⟨G,σ,e,dw,hG.same (e13.trans e4),re.same (e3.trans e4),rw',q4⟩
 |_=>exact q3.elim
theorem d_chain{a b c:Expr}{op op':CmpOp}{f g:D→D→R D}{ma mb mc:Rho→R D}{pos:Pos}(ho:OpD X (compareOp op) f)(ho':OpD X (compareOp op') g)(ha:PD X a ma)(hb:PD X b mb)(hc:PD X c mc)
  (hm:lastMarks [op,op'] [b,c]=false:=by with_unfolding_all rfl):PD X (.Compare a [op,op'] [b,c] pos) (chn f g ma mb mc):=
 (pe_chain ho ho' ha hb hc hm).imp fun σ H Q h=>chn_of (a:=a) (b:=b) (c:=c) h
theorem bl_chn{f g:D→D→R D}{ma mb mc:Rho→R D}(hg:∀x y d,g x y=.ok d→∃k,d=.bl k){ρ:Rho}{d:D}(h:chn f g ma mb mc ρ=.ok d):∃k,d=.bl k:=by
 unfold chn at h
 cases h1:ma ρ with
 |ok x=>
  cases h2:mb ρ with
  |ok y=>
   rw[h1,h2]at h
   have h:(f x y>>=fun z=>blR z>>=fun k=>if k=true then mc ρ>>=fun w=>g y w else .ok (.bl false))=.ok d:=h
   cases h3:f x y with
   |ok z=>
    rw[h3]at h
    have h:(blR z>>=fun k=>if k=true then mc ρ>>=fun w=>g y w else .ok (.bl false))=.ok d:=h
    cases h4:blR z with
    |ok k=>
     rw[h4]at h
     have h:(if k=true then mc ρ>>=fun w=>g y w else .ok (.bl false))=.ok d:=h
     cases k with
     |false=>cases h;exact⟨_,rfl⟩
     |true=>
      cases h5:mc ρ with
      |ok w=>rw[h5]at h;exact hg _ _ _ h
      |ex c=>rw[h5]at h;cases h
      |bad=>rw[h5]at h;cases h
    |ex c=>rw[h4]at h;cases h
    |bad=>rw[h4]at h;cases h
   |ex c=>rw[h3]at h;cases h
   |bad=>rw[h3]at h;cases h
  |ex c=>rw[h1,h2]at h;cases h
  |bad=>rw[h1,h2]at h;cases h
 |ex c=>rw[h1]at h;cases h
 |bad=>rw[h1]at h;cases h
theorem t_chain{a b c:Expr}{op op':CmpOp}{f g:D→D→R D}{ma mb mc:Rho→R D}{pos:Pos}(ho:OpD X (compareOp op) f)(ho':OpD X (compareOp op') g)(ha:PD X a ma)(hb:PD X b mb)(hc:PD X c mc)
  (hg:∀x y d,g x y=.ok d→∃k,d=.bl k) (hm:lastMarks [op,op'] [b,c]=false:=by with_unfolding_all rfl):PDT X (.Compare a [op,op'] [b,c] pos) (tst (chn f g ma mb mc)):=
 (pt_chain ho ho' ha hb hc hm).imp fun σ H Q ⟨G,ρ,hG,hρ,q⟩=>by
  refine chn_of (a:=a) (b:=b) (c:=c) ⟨G,ρ,hG,hρ,(DQ.bind q).wk fun v H1 e ⟨d,ed,_,rd,q1⟩=> ?_⟩
  obtain⟨k,rfl⟩:=bl_chn hg ed
  exact⟨k,rd.bl_of,q1 _ H1 (Same.refl H1) rfl⟩
noncomputable def nl:Rho→R (List D):=fun _=>.ok []
noncomputable def cs(m:Rho→R D)(n:Rho→R (List D)):Rho→R (List D):=fun ρ=>m ρ>>=fun d=>n ρ>>=fun ds=>.ok (d::ds)
theorem a_nil:PDA X [] nl:=pa_nil.imp fun σ H Q ⟨G,ρ,hG,hρ,q⟩=>q _ H (Same.refl H) RepL.nil
theorem a_cons{e:Expr}{es:List Expr}{m:Rho→R D}{n:Rho→R (List D)}(ha:PD X e m)(hr:PDA X es n)(hs:starEach (e::es) X.env=(false,eval e X.env)::starEach es X.env:=by rfl):PDA X (e::es) (cs m n):=
 (pa_cons ha hr hs).imp fun σ H Q ⟨G,ρ,hG,hρ,q⟩=>⟨G,ρ,hG,hρ,(DQ.bind q).wk fun v H1 e1 ⟨d,_,_,rd,q1⟩=>⟨G,ρ,hG.same e1,hρ.same e1,(DQ.bind q1).wk fun vs H2 e2 ⟨ds,_,_,rds,q2⟩=>
  q2 _ H2 (Same.refl H2) (RepL.cons (rd.same e2) rds)⟩⟩
noncomputable def tpl(n:Rho→R (List D)):Rho→R D:=fun ρ=>n ρ>>=fun ds=>if ds.length≤sizeLine then .ok (.tup ds)else .bad
theorem d_tup{es:List Expr}{n:Rho→R (List D)}{x1}{pos:Pos}(h:PDA X es n):PD X (.Tuple es x1 pos) (tpl n):=
 (pe_tup h).imp fun σ H Q ⟨G,ρ,hG,hρ,q⟩=>⟨G,ρ,hG,hρ,(DQ.bind q).wk fun vs H1 e ⟨ds,_,_,rd,q1⟩=>by
  split at q1
  ·rename_i hl
   refine⟨by rw[rd.length];exact hl,fun p hp=> ?_⟩
   have g:=same_new hp (.tup vs)
   exact q1 _ _ g (Rep.tup (SqT.of upd_same) (rd.same g))
  ·exact q1.elim⟩
noncomputable def tN(X:Cx)(m:Rho→R (List D)):TE:=fun σ H Q=>∃(G:Addr→Prop) (ρ:Rho),Free G H∧RepS X.K G H ρ σ∧
 DQ X σ (fun H' ds v=>∃p xs,v=.ref p∧H p=none∧H' p=some (.lst xs)∧RepL X.K (fun a=>G a∧a≠p) H' ds xs) H (m ρ) Q
noncomputable def PN(X:Cx)(e:Expr)(m:Rho→R (List D)):Prop:=PE X e (tN X m)
noncomputable def asL(m:Rho→R (List D)):Rho→R D:=fun ρ=>m ρ>>=fun ds=>.ok (.lst ds)
theorem d_new{e:Expr}{m:Rho→R (List D)}(h:PN X e m):PD X e (asL m):=PE.imp h fun σ H Q ⟨G,ρ,hG,hρ,q⟩=>⟨G,ρ,hG,hρ,(DQ.bind q).wk fun v H1 e ⟨ds,_,_,⟨p,xs,ev,hp,h1,r⟩,q1⟩=>by
  subst ev
  exact q1 _ H1 (Same.refl H1) (Rep.lst h1 (hG p hp) (RepL.mono (Same.refl H1) (fun a z=>z.1) _ r))⟩
noncomputable def lim(n:Rho→R (List D)):Rho→R (List D):=fun ρ=>n ρ>>=fun ds=>if ds.length≤sizeLine then .ok ds else .bad
theorem n_lst{es:List Expr}{n:Rho→R (List D)}{pos:Pos}(h:PDA X es n):PN X (.List es pos) (lim n):=
 (pe_lst h).imp fun σ H Q ⟨G,ρ,hG,hρ,q⟩=>by
  refine⟨G,ρ,hG,hρ,(DQ.bind q).wk fun vs H1 e ⟨ds,_,_,rd,q1⟩=> ?_⟩
  split at q1
  ·rename_i hl
   refine⟨by rw[rd.length];exact hl,fun p hp=> ?_⟩
   have g:=same_new hp (.lst vs)
   exact q1 _ _ g ⟨p,vs,rfl,e.free hp,upd_same,(rd.off hp).same g⟩
  ·exact q1.elim
end
end L3
namespace L3
open PySem PySem.Spec L2
open PyProof.Rows hiding St
noncomputable def ixD:D→D→R D
 | .tup xs, .int i=>match atI xs i with|some d=>.ok d|none=>.bad
 | .lst xs, .int i=>match atI xs i with|some d=>.ok d|none=>.bad
 |_,_=>.bad
theorem RepL.atI{K:PySem.W.Frag}{G:Addr→Prop}{H:Hp}{ds:List D}{xs:List V}(r:RepL K G H ds xs){i:Int}{d:D}(h:L2.atI ds i=some d):∃x,L2.atI xs i=some x∧Rep K G H d x:=by
 unfold L2.atI at h ⊢
 rw[r.length]
 cases e:ixN ds.length i with
 |none=>rw[e]at h;cases h
 |some j=>
  rw[e]at h
  exact r.get h
section
variable{X:Cx}
noncomputable def IxD(X:Cx)(op:D→D→R D):Prop:=
 IxR X fun x y H Q=>∃(G:Addr→Prop) (σ:St) (d e:D),Free G H∧Rep X.K G H d x∧Rep X.K G H e y∧DQ X σ (Rep X.K G) H (op d e) Q
theorem ixd:IxD X ixD:=by
 intro value slice pins s σ H x y v u Q I rx ry ⟨G,σ',d,e,hG,rd,re,q⟩ hsub
 cases d with
 |tup xs=>
  cases e with
  |int i=>
   obtain⟨a,vs,rfl,h1,r1⟩:=rd.tup_of
   cases re.int_of
   simp only[ixD]at q
   cases ha:atI xs i with
   |none=>rw[ha]at q;exact q.elim
   |some d=>
    rw[ha]at q
    obtain⟨z,hz,rz⟩:=r1.atI ha
    exact ix_tup value slice pins s σ H _ _ v u Q I rx ry ⟨a,vs,i,z,rfl,rfl,h1,hz,q _ H (Same.refl H) rz⟩ hsub
  |_=>exact q.elim
 |lst xs=>
  cases e with
  |int i=>
   obtain⟨a,vs,rfl,h1,r1⟩:=rd.lst_of
   cases re.int_of
   simp only[ixD]at q
   cases ha:atI xs i with
   |none=>rw[ha]at q;exact q.elim
   |some d=>
    rw[ha]at q
    obtain⟨z,hz,rz⟩:=r1.atI ha
    exact ix_list value slice pins s σ H _ _ v u Q I rx ry ⟨a,vs,i,z,rfl,rfl,h1.sq,hz,q _ H (Same.refl H) rz⟩ hsub
  |_=>exact q.elim
 |_=>exact q.elim
theorem d_ix{a b:Expr}{ma mb:Rho→R D}{pos:Pos}(ha:PD X a ma)(hb:PD X b mb)(hs:PlainIx b:=by intro _ _;rfl):PD X (.Subscript a b pos) (bi ixD ma mb):=
 (pe_ix ixd ha hb hs).imp fun σ H Q h=>two_of h
noncomputable def cutD(xs:List D)(lo hi:Option Int):List D:=(xs.drop (HT.sIx xs.length 0 lo)).take (HT.sIx xs.length xs.length hi - HT.sIx xs.length 0 lo)
noncomputable def slD:D→Option Int→Option Int→R D
 | .tup xs,lo,hi=>if HT.sIx xs.length 0 lo=0∧HT.sIx xs.length xs.length hi=xs.length then .bad else .ok (.tup (cutD xs lo hi))
 | .lst xs,lo,hi=>.ok (.lst (cutD xs lo hi))
 |_,_,_=>.bad
noncomputable def noP:Rho→R (Option Int):=fun _=>.ok none
noncomputable def soP(m:Rho→R D):Rho→R (Option Int):=fun ρ=>m ρ>>=fun d=>match d with| .int i=>.ok (some i)|_=>.bad
noncomputable def sli(m:Rho→R D)(l h:Rho→R (Option Int)):Rho→R D:=fun ρ=>m ρ>>=fun d=>l ρ>>=fun lo=>h ρ>>=fun hi=>slD d lo hi
noncomputable def tDO(X:Cx)(m:Rho→R (Option Int)):TO:=fun σ H Q=>∃(G:Addr→Prop) (ρ:Rho),Free G H∧RepS X.K G H ρ σ∧DQ X σ (fun _ a b=>b=a) H (m ρ) Q
noncomputable def PDO(X:Cx)(e:Option Expr)(m:Rho→R (Option Int)):Prop:=PO X e (tDO X m)
theorem _root_.L2.PO.imp{X:Cx}{e:Option Expr}{t t':TO}(h:PO X e t)(i:∀σ H Q,t' σ H Q→t σ H Q):PO X e t':=fun pins s σ H Q I q=>h pins s σ H Q I (i σ H Q q)
theorem o_none:PDO X none noP:=po_none.imp fun σ H Q ⟨G,ρ,hG,hρ,q⟩=>q _ H (Same.refl H) rfl
theorem o_some{e:Expr}{m:Rho→R D}(h:PD X e m):PDO X (some e) (soP m):=(po_some h).imp fun σ H Q ⟨G,ρ,hG,hρ,q⟩=>⟨G,ρ,hG,hρ,(DQ.bind q).wk fun v H1 e ⟨d,_,_,rd,q1⟩=>by
  cases d with
  |int i=>exact⟨i,rd.int_of,q1 _ H1 (Same.refl H1) rfl⟩
  |_=>exact q1.elim⟩
theorem cut_of{K:PySem.W.Frag}{G:Addr→Prop}{H:Hp}{ds:List D}{xs:List V}(r:RepL K G H ds xs)(lo hi:Option Int):RepL K G H (cutD ds lo hi) (cutV xs lo hi):=by
 unfold cutD cutV
 rw[r.length]
 exact(r.drop _).take _
theorem d_slice{e:Expr}{lo hi:Option Expr}{m:Rho→R D}{l h:Rho→R (Option Int)}{pos p2:Pos}(he:PD X e m)(hl:PDO X lo l)(hh:PDO X hi h):PD X (.Subscript e (.Slice lo hi none p2) pos) (sli m l h):=
 (pe_slice (sl_tup.or sl_list) he hl hh).imp fun σ H Q ⟨G,ρ,hG,hρ,q⟩=>by
  refine⟨G,ρ,hG,hρ,(DQ.bind q).wk fun v H1 e1 ⟨d,_,_,rd,q1⟩=> ?_⟩
  refine⟨G,ρ,hG.same e1,hρ.same e1,(DQ.bind (rep:=fun _ a b=>b=a) q1).wk fun lo' H2 e2 ⟨lo'',_,_,rl,q2⟩=> ?_⟩
  subst rl
  have e12:=e1.trans e2
  refine⟨G,ρ,hG.same e12,hρ.same e12,(DQ.bind (rep:=fun _ a b=>b=a) q2).wk fun hi' H3 e3 ⟨hi'',_,_,rh,q3⟩=> ?_⟩
  subst rh
  have e23:=e2.trans e3
  have hG3:=hG.same (e12.trans e3)
  cases d with
  |tup xs=>
   obtain⟨a,vs,rfl,h1,r1⟩:=rd.tup_of
   simp only[slD]at q3
   split at q3
   ·exact q3.elim
   ·rename_i hw
    refine .inl ⟨a,vs,rfl,Same.seqT e23 h1,by rw[r1.length];exact hw,fun p hp=> ?_⟩
    have g:=same_new hp (.tup (cutV vs lo' hi'))
    exact q3 _ _ g (Rep.tup (SqT.of upd_same) (cut_of ((r1.same e23).same g) _ _))
  |lst xs=>
   obtain⟨a,vs,rfl,h1,r1⟩:=rd.lst_of
   refine .inr ⟨a,vs,rfl,e23.seq h1.sq,fun p hp=> ?_⟩
   have g:=same_new hp (.lst (cutV vs lo' hi'))
   exact q3 _ _ g (Rep.lst upd_same (hG3 p hp) (cut_of ((r1.same e23).same g) _ _))
  |_=>exact q3.elim
noncomputable def CallD(X:Cx)(f:Value)(g:List D→R D):Prop:=
 CallR X f fun xs H Q=>∃(G:Addr→Prop) (σ:St) (ds:List D),Free G H∧RepL X.K G H ds xs∧DQ X σ (Rep X.K G) H (g ds) Q
noncomputable def ap(g:List D→R D)(n:Rho→R (List D)):Rho→R D:=fun ρ=>n ρ>>=g
theorem ap_of{σ:St}{H:Hp}{Q:VK}{g:List D→R D}{n:Rho→R (List D)}(h:tD X (ap g n) σ H Q):
  tDA X n σ H fun xs H1=>∃(G:Addr→Prop) (σ:St) (ds:List D),Free G H1∧RepL X.K G H1 ds xs∧DQ X σ (Rep X.K G) H1 (g ds) Q:=by
 obtain⟨G,ρ,hG,hρ,q⟩:=h
 exact⟨G,ρ,hG,hρ,(DQ.bind q).wk fun xs H1 e ⟨ds,_,_,rd,q1⟩=>⟨G,σ,ds,hG.same e,rd,q1⟩⟩
theorem d_callB{x:Str}{p pos:Pos}{e:Expr}{es:List Expr}{id:String}{g:List D→R D}{n:Rho→R (List D)}(hc:CallD X (.builtin id) g)(hm:X.mg x=none)(hv:bootBuiltins x=some (.builtin id))(ha:PDA X (e::es) n)
  (hg:Gl X x:=by rfl) (hn:x≠"__name__":=by decide) (hdb:(x == ("__debug__":Str))=false:=by decide)
  (he:starEach (e::es) X.env=(false,eval e X.env)::starEach es X.env:=by rfl) (hpl:(backTo pos (starEach es X.env)).any (·.1)=false:=by rfl):PD X (.Call (.Name x p) (e::es) [] pos) (ap g n):=
 (pe_callB hc hg hm hv ha hn hdb he hpl).imp fun σ H Q h=>ap_of h
theorem d_callTy{x:Str}{p pos:Pos}{e:Expr}{es:List Expr}{T:String}{g:List D→R D}{n:Rho→R (List D)}(hc:CallD X (.type T) g)(hm:X.mg x=none)(hv:bootBuiltins x=some (.type T))(ha:PDA X (e::es) n)
  (hg:Gl X x:=by rfl) (hn:x≠"__name__":=by decide) (hdb:(x == ("__debug__":Str))=false:=by decide)
  (he:starEach (e::es) X.env=(false,eval e X.env)::starEach es X.env:=by rfl) (hpl:(backTo pos (starEach es X.env)).any (·.1)=false:=by rfl):PD X (.Call (.Name x p) (e::es) [] pos) (ap g n):=
 (pe_callTy hc hg hm hv ha hn hdb he hpl).imp fun σ H Q h=>ap_of h
noncomputable def lenD:List D→R D
 | [.tup xs]=>.ok (.int xs.length)
 | [.lst xs]=>.ok (.int xs.length)
 | [.str x]=>.ok (.int x.length)
 |_=>.bad
theorem one_of{K:PySem.W.Frag}{G:Addr→Prop}{H:Hp}{d:D}{xs:List V}(r:RepL K G H [d] xs):∃x,xs=[x]∧Rep K G H d x:=by
 obtain⟨x,t,rfl,h1,h2⟩:=r.uncons
 rw[h2.nil_of]
 exact⟨x,rfl,h1⟩
theorem lenD_cases(ds:List D):lenD ds=.bad∨(∃ys,ds=[.tup ys])∨(∃ys,ds=[.lst ys])∨∃y,ds=[.str y]:=by
 unfold lenD
 split
 ·exact .inr (.inl ⟨_,rfl⟩)
 ·exact .inr (.inr (.inl ⟨_,rfl⟩))
 ·exact .inr (.inr (.inr ⟨_,rfl⟩))
 ·exact .inl rfl
theorem cd_len:CallD X (.builtin "len") lenD:=by
 intro pins s σ H xs us Q I r ⟨G,σ',ds,hG,rd,q⟩
 rcases lenD_cases ds with h|⟨ys,rfl⟩|⟨ys,rfl⟩|⟨y,rfl⟩
 ·rw[h]at q;exact q.elim
 ·obtain⟨x,rfl,rx⟩:=one_of rd
  obtain⟨a,vs,rfl,h1,r1⟩:=rx.tup_of
  exact call_len_seq pins s σ H _ us Q I r ⟨a,vs,rfl, .inr h1,by rw[r1.length];exact q _ H (Same.refl H) Rep.int⟩
 ·obtain⟨x,rfl,rx⟩:=one_of rd
  obtain⟨a,vs,rfl,h1,r1⟩:=rx.lst_of
  exact call_len_seq pins s σ H _ us Q I r ⟨a,vs,rfl, .inl h1.sq,by rw[r1.length];exact q _ H (Same.refl H) Rep.int⟩
 ·obtain⟨x,rfl,rx⟩:=one_of rd
  simp only[Rep]at rx
  obtain⟨rfl,h1,_⟩:=rx
  exact call_len_str pins s σ H _ us Q I r ⟨y,rfl,h1,q _ H (Same.refl H) Rep.int⟩
noncomputable def tupD:List D→R D
 | [.tup xs]=>.ok (.tup xs)
 | [.lst xs]=>.ok (.tup xs)
 |_=>.bad
theorem tupD_cases(ds:List D):tupD ds=.bad∨(∃ys,ds=[.tup ys])∨∃ys,ds=[.lst ys]:=by
 unfold tupD
 split
 ·exact .inr (.inl ⟨_,rfl⟩)
 ·exact .inr (.inr ⟨_,rfl⟩)
 ·exact .inl rfl
theorem cd_tup:CallD X (.type "tuple") tupD:=by
 intro pins s σ H xs us Q I r ⟨G,σ',ds,hG,rd,q⟩
 rcases tupD_cases ds with h|⟨ys,rfl⟩|⟨ys,rfl⟩
 ·rw[h]at q;exact q.elim
 ·obtain⟨x,rfl,rx⟩:=one_of rd
  obtain⟨a,vs,rfl,h1,r1⟩:=rx.tup_of
  exact call_tuple_of pins s σ H _ us Q I r ⟨a,vs,rfl, .inr ⟨h1,q _ H (Same.refl H) (Rep.tup h1 r1)⟩⟩
 ·obtain⟨x,rfl,rx⟩:=one_of rd
  obtain⟨a,vs,rfl,h1,r1⟩:=rx.lst_of
  refine call_tuple_of pins s σ H _ us Q I r ⟨a,vs,rfl, .inl ⟨h1.sq,fun p hp=> ?_⟩⟩
  have g:=same_new hp (.tup vs)
  exact q _ _ g (Rep.tup (SqT.of upd_same) (r1.same g))
noncomputable def CallN(X:Cx)(f:Value)(g:List D→R (List D)):Prop:=
 CallR X f fun xs H Q=>∃(G:Addr→Prop) (σ:St) (ds:List D),Free G H∧RepL X.K G H ds xs∧DQ X σ (fun H' ds v=>∃p xs,v=.ref p∧H p=none∧H' p=some (.lst xs)∧RepL X.K (fun a=>G a∧a≠p) H' ds xs) H (g ds) Q
noncomputable def apN(g:List D→R (List D))(n:Rho→R (List D)):Rho→R (List D):=fun ρ=>n ρ>>=g
theorem apN_of{σ:St}{H:Hp}{Q:VK}{g:List D→R (List D)}{n:Rho→R (List D)}(h:tN X (apN g n) σ H Q):
  tDA X n σ H fun xs H1=>∃(G:Addr→Prop) (σ:St) (ds:List D),Free G H1∧RepL X.K G H1 ds xs∧DQ X σ (fun H' ds v=>∃p xs,v=.ref p∧H1 p=none∧H' p=some (.lst xs)∧RepL X.K (fun a=>G a∧a≠p) H' ds xs) H1 (g ds) Q:=by
 obtain⟨G,ρ,hG,hρ,q⟩:=h
 refine⟨G,ρ,hG,hρ,(DQ.bind q).wk fun xs H1 e ⟨ds,_,_,rd,q1⟩=>⟨G,σ,ds,hG.same e,rd,?_⟩⟩
 cases hg:g ds with
 |ok es=>rw[hg]at q1;exact fun v H2 e2 ⟨p,zs,ev,hp,h2,r2⟩=>q1 v H2 e2 ⟨p,zs,ev,e.free hp,h2,r2⟩
 |ex c=>rw[hg]at q1;exact q1
 |bad=>rw[hg]at q1;exact q1.elim
theorem n_callB{x:Str}{p pos:Pos}{e:Expr}{es:List Expr}{id:String}{g:List D→R (List D)}{n:Rho→R (List D)}(hc:CallN X (.builtin id) g)(hm:X.mg x=none)(hv:bootBuiltins x=some (.builtin id))(ha:PDA X (e::es) n)
  (hg:Gl X x:=by rfl) (hn:x≠"__name__":=by decide) (hdb:(x == ("__debug__":Str))=false:=by decide)
  (he:starEach (e::es) X.env=(false,eval e X.env)::starEach es X.env:=by rfl) (hpl:(backTo pos (starEach es X.env)).any (·.1)=false:=by rfl):PN X (.Call (.Name x p) (e::es) [] pos) (apN g n):=
 (pe_callB hc hg hm hv ha hn hdb he hpl).imp fun σ H Q h=>apN_of h
theorem n_callTy{x:Str}{p pos:Pos}{e:Expr}{es:List Expr}{T:String}{g:List D→R (List D)}{n:Rho→R (List D)}(hc:CallN X (.type T) g)(hm:X.mg x=none)(hv:bootBuiltins x=some (.type T))(ha:PDA X (e::es) n)
  (hg:Gl X x:=by rfl) (hn:x≠"__name__":=by decide) (hdb:(x == ("__debug__":Str))=false:=by decide)
  (he:starEach (e::es) X.env=(false,eval e X.env)::starEach es X.env:=by rfl) (hpl:(backTo pos (starEach es X.env)).any (·.1)=false:=by rfl):PN X (.Call (.Name x p) (e::es) [] pos) (apN g n):=
 (pe_callTy hc hg hm hv ha hn hdb he hpl).imp fun σ H Q h=>apN_of h
noncomputable def lisD:List D→R (List D)
 | [.tup xs]=>.ok xs
 | [.lst xs]=>.ok xs
 |_=>.bad
theorem lisD_cases(ds:List D):lisD ds=.bad∨(∃ys,ds=[.tup ys]∧lisD ds=.ok ys)∨∃ys,ds=[.lst ys]∧lisD ds=.ok ys:=by
 unfold lisD
 split
 ·exact .inr (.inl ⟨_,rfl,rfl⟩)
 ·exact .inr (.inr ⟨_,rfl,rfl⟩)
 ·exact .inl rfl
theorem cn_list:CallN X (.type "list") lisD:=by
 intro pins s σ H xs us Q I r ⟨G,σ',ds,hG,rd,q⟩
 rcases lisD_cases ds with e|⟨ys,e0,e⟩|⟨ys,e0,e⟩<;>rw[e]at q
 ·exact q.elim
 ·rw[e0]at rd
  obtain⟨x,rfl,rx⟩:=one_of rd
  obtain⟨a,vs,rfl,h1,r1⟩:=rx.tup_of
  refine call_list_of pins s σ H _ us Q I r ⟨a,vs,rfl, .inr h1,fun p hp=> ?_⟩
  have g:=same_new hp (.lst vs)
  exact q _ _ g ⟨p,vs,rfl,hp,upd_same,(r1.off hp).same g⟩
 ·rw[e0]at rd
  obtain⟨x,rfl,rx⟩:=one_of rd
  obtain⟨a,vs,rfl,h1,r1⟩:=rx.lst_of
  refine call_list_of pins s σ H _ us Q I r ⟨a,vs,rfl, .inl h1.sq,fun p hp=> ?_⟩
  have g:=same_new hp (.lst vs)
  exact q _ _ g ⟨p,vs,rfl,hp,upd_same,(r1.off hp).same g⟩
noncomputable def bls:List D→Option (List Bool)
 | []=>some []
 | .bl b::ds=>(bls ds).map (b:: ·)
 |_=>none
theorem bls_of{K:PySem.W.Frag}{G:Addr→Prop}{H:Hp}:∀{ds:List D} {bs:List Bool} {xs:List V} {us:List Value},bls ds=some bs→RepL K G H ds xs→Vals xs us→LSm.BoolsAre us bs
 | [],bs,xs,us,e,r,rv=>by
  cases e
  rw[r.nil_of]at rv
  cases rv
  exact .nil
 | .bl b::ds,bs,xs,us,e,r,rv=>by
  obtain⟨x,t,rfl,h1,h2⟩:=r.uncons
  cases h1.bl_of
  cases rv with
  |cons r1 r2=>
   simp only[bls]at e
   cases hb:bls ds with
   |none=>rw[hb]at e;cases e
   |some bs'=>
    rw[hb]at e
    cases e
    cases r1
    exact .cons b (bls_of hb h2 r2)
 | .non::_,_,_,_,e,_,_=>by cases e
 | .int _::_,_,_,_,e,_,_=>by cases e
 | .str _::_,_,_,_,e,_,_=>by cases e
 | .tup _::_,_,_,_,e,_,_=>by cases e
 | .lst _::_,_,_,_,e,_,_=>by cases e
noncomputable def allD:List D→R D
 | [.lst xs]=>match bls xs with|some bs=>.ok (.bl (bs.all id))|none=>.bad
 |_=>.bad
theorem allD_cases(ds:List D):allD ds=.bad∨∃ys,ds=[.lst ys]:=by
 unfold allD
 split
 ·exact .inr ⟨_,rfl⟩
 ·exact .inl rfl
theorem cd_all(hh:X.A.handled=none):CallD X (.builtin "all") allD:=by
 intro pins s σ H xs us Q I r ⟨G,σ',ds,hG,rd,q⟩
 rcases allD_cases ds with h|⟨ys,rfl⟩
 ·rw[h]at q;exact q.elim
 ·obtain⟨x,rfl,rx⟩:=one_of rd
  obtain⟨a,vs,rfl,h1,r1⟩:=rx.lst_of
  obtain⟨u,rfl,ru⟩:=vals1 r
  cases ru
  simp only[allD]at q
  cases hb:bls ys with
  |none=>rw[hb]at q;exact q.elim
  |some bs=>
   rw[hb]at q
   obtain⟨its,rv,pl,hz⟩:=I.list h1.sq
   have hB:=bls_of hb r1 rv
   have hl:=pl.isList
   have hlt:a<s.heap.objs.size:=by obtain⟨_,e,_⟩:=hl;exact Heap.lt_size e
   refine call_all_walk (wpAny_pyIter_list hl ?_)
   refine⟨s.heap.objs.size,[s.heap.objs.size,a],[s.heap.objs.size],its.toArray.size,_,_,fun i=>(bs[i]?).getD true,rfl,Walks.list (A:=X.A.in1) hh _ a (Nat.ne_of_lt hlt) its.toArray,
    ⟨⟨_,Heap.get?_push_size _ rfl,rfl,rfl⟩,hl.push _⟩,fun i v s' Q' E' hP hQ=> ?_,fun h' tk hk=> ?_⟩
   ·obtain⟨b,e,rfl⟩:=hB.get i v (by simpa using hP)
    simp only[e,Option.getD_some]at hQ
    exact wpAny_truthy_bool hQ
   ·have e:((List.range its.toArray.size).all fun i=>(bs[i]?).getD true)=bs.all id:=by
     rw[List.size_toArray,hB.length];exact LSm.range_all bs
    rw[e]
    exact⟨.bl _,H,I.kept (t':=tk) (LSm.kept_iter hk),rfl,q _ H (Same.refl H) Rep.bl⟩
inductive Ty where
 |tuple|list|int|bool|str|dict
noncomputable def Ty.nm:Ty→String
 | .tuple=>"tuple"| .list=>"list"| .int=>"int"| .bool=>"bool"| .str=>"str"| .dict=>"dict"
noncomputable def isT:Ty→D→Bool
 | .tuple, .tup _=>true
 | .list, .lst _=>true
 | .int, .int _=>true
 | .int, .bl _=>true
 | .bool, .bl _=>true
 | .str, .str _=>true
 |_,_=>false
theorem isT_call{A:Around}{E:Value→Shared→Prop}{pins:List (Addr×Obj)}{σ:St}{H:Hp}{s:Shared}{G:Addr→Prop}{d:D}{v:V}{u:Value}{Q:Value→Shared→Prop}(I:Inv X pins σ H s)(hn:opq d=false)(rd:Rep X.K G H d v)(rv:RelV v u)(T:Ty)
  (h:∀tk,Q (.bool (isT T d)) {s with toks:=tk}):wpAny (model X.prog X.w) A (call (.builtin "isinstance") [u, .type T.nm]) Q E s:=by
 cases d with
 |exc c=>cases hn
 |dct c=>cases hn
 |non=>
  simp only[Rep]at rd;subst rd;cases rv
  cases T
  ·exact IsiPair.NoneType_tuple (h _)
  ·exact IsiPair.NoneType_list (h _)
  ·exact IsiPair.NoneType_int (h _)
  ·exact IsiPair.NoneType_bool (h _)
  ·exact IsiPair.NoneType_str (h _)
  ·exact IsiPair.NoneType_dict (h _)
 |bl b=>
  cases rd.bl_of;cases rv
  cases T
  ·exact IsiPair.bool_tuple (h _)
  ·exact IsiPair.bool_list (h _)
  ·exact IsiPair.bool_int (h s.toks)
  ·exact IsiPair.bool_bool (h s.toks)
  ·exact IsiPair.bool_str (h _)
  ·exact IsiPair.bool_dict (h _)
 |int b=>
  cases rd.int_of;obtain⟨t,rfl⟩:=rv
  cases T
  ·exact IsiPair.int_tuple (h _)
  ·exact IsiPair.int_list (h _)
  ·exact IsiPair.int_int (h s.toks)
  ·exact IsiPair.int_bool (h _)
  ·exact IsiPair.int_str (h _)
  ·exact IsiPair.int_dict (h _)
 |str b=>
  simp only[Rep]at rd;obtain⟨rfl,_⟩:=rd;obtain⟨t,rfl⟩:=rv
  cases T
  ·exact IsiPair.str_tuple (h _)
  ·exact IsiPair.str_list (h _)
  ·exact IsiPair.str_int (h _)
  ·exact IsiPair.str_bool (h _)
  ·exact IsiPair.str_str (h s.toks)
  ·exact IsiPair.str_dict (h _)
 |tup b=>
  obtain⟨a,xs,rfl,h1,_⟩:=rd.tup_of
  cases rv
  obtain⟨its,r,⟨o,e,c,_⟩,_⟩:=I.tuple h1
  cases T
  ·exact IsiPair.tuple_tuple e c (h s.toks)
  ·exact IsiPair.tuple_list e c (h _)
  ·exact IsiPair.tuple_int e c (h _)
  ·exact IsiPair.tuple_bool e c (h _)
  ·exact IsiPair.tuple_str e c (h _)
  ·exact IsiPair.tuple_dict e c (h _)
 |lst b=>
  obtain⟨a,xs,rfl,h1,_⟩:=rd.lst_of
  cases rv
  obtain⟨its,r,⟨o,n,e,c,_⟩,_⟩:=I.list h1.sq
  cases T
  ·exact IsiPair.list_tuple e c (h _)
  ·exact IsiPair.list_list e c (h s.toks)
  ·exact IsiPair.list_int e c (h _)
  ·exact IsiPair.list_bool e c (h _)
  ·exact IsiPair.list_str e c (h _)
  ·exact IsiPair.list_dict e c (h _)
noncomputable def isiR(T:Ty)(K:PySem.W.Frag):List V→Hp→VK→Prop:=fun xs H Q=>∃(G:Addr→Prop) (d:D) (x:V),xs=[x, .ty T.nm]∧opq d=false∧Rep K G H d x∧Q (.bl (isT T d)) H
theorem isi_ok(T:Ty):CallR X (.builtin "isinstance") (isiR T X.K):=by
 intro pins s σ H xs us Q I r ⟨G,d,x,e,hn,rd,q⟩
 subst e
 obtain⟨u,w',rfl,r1,r2⟩:=vals2 r
 cases r2
 exact isT_call I hn rd r1 T fun tk=>⟨.bl _,H,I.tok tk,rfl,q⟩
noncomputable def isiD(T:Ty):D→R D
 | .exc _=>.bad
 | .dct _=>.bad
 |d=>.ok (.bl (isT T d))
theorem d_isi{a:Expr}{m:Rho→R D}{y:Str}{p p2 pos:Pos}(T:Ty)(ha:PD X a m)(hm:X.mg "isinstance"=none)(hmy:X.mg y=none)(hvy:bootBuiltins y=some (.type T.nm))(hgy:Gl X y:=by rfl)
  (hg:Gl X "isinstance":=by rfl) (hse:starEach [a, .Name y p2] X.env=(false,eval a X.env)::starEach [.Name y p2] X.env:=by rfl) (hny:y≠"__name__":=by decide) (hdy:(y == ("__debug__":Str))=false:=by decide):
  PD X (.Call (.Name "isinstance" p) [a, .Name y p2] [] pos) (un (isiD T) m):=by
 refine(pe_callB (he:=hse) (isi_ok T) hg hm PyProof.Rows.boot_isinstance (pa_cons (hs:=hse) ha (pa_cons (pe_bltn (v:=.ty T.nm) hgy hmy hvy rfl hny hdy) pa_nil))).imp fun σ H Q ⟨G,ρ,hG,hρ,q⟩=> ?_
 refine⟨G,ρ,hG,hρ,(DQ.bind q).wk fun v H1 e ⟨d,_,_,rd,q1⟩=> ?_⟩
 cases d with
 |exc c=>exact q1.elim
 |dct c=>exact q1.elim
 |_=>exact⟨G,_,v,rfl,rfl,rd,q1 _ H1 (Same.refl H1) Rep.bl⟩
end
end L3
namespace L3
open PySem PySem.Spec L2
open PyProof.Rows hiding St
theorem cells_one:∀(names:List (Str×NameKind)) (n:Nat) (acc:List (Str×Addr)),(∀p∈acc,p.2<n)→∀p q,p∈cellsFrom n names acc→q∈cellsFrom n names acc→p.2=q.2→p=q∨(p∈acc∧q∈acc)
 | [],_,_,_,_,_,h1,h2,_=>.inr ⟨h1,h2⟩
 |(x,k)::r,n,acc,ha,p,q,h1,h2,e=>by
  unfold cellsFrom at h1 h2
  split at h1
  ·rename_i hk
   rw[if_pos hk]at h2
   have ha':∀p∈(x,n)::acc,p.2<n+1:=fun p hp=>by
    rcases List.mem_cons.mp hp with rfl|hp
    ·exact Nat.lt_succ_self _
    ·exact Nat.lt_succ_of_lt (ha p hp)
   rcases cells_one r (n+1) _ ha' p q h1 h2 e with z|⟨z1,z2⟩
   ·exact .inl z
   ·rcases List.mem_cons.mp z1 with rfl|z1<;>rcases List.mem_cons.mp z2 with rfl|z2
    ·exact .inl rfl
    ·exact absurd (show q.2<q.2 from Nat.lt_of_lt_of_eq (ha q z2) e) (Nat.lt_irrefl _)
    ·exact absurd (show p.2<p.2 from Nat.lt_of_lt_of_eq (ha p z1) e.symm) (Nat.lt_irrefl _)
    ·exact .inr ⟨z1,z2⟩
  ·rename_i hk
   rw[if_neg hk]at h2
   exact cells_one r n acc ha p q h1 h2 e
theorem cells_own{x:Str}{c:Addr}:∀(names:List (Str×NameKind)) (n:Nat) (acc:List (Str×Addr)),(cellsFrom n names acc).lookup x=some c→n≤c∨(acc.lookup x=some c∧(x,NameKind.cell)∉names)
 | [],_,_,e=>.inr ⟨e,by simp⟩
 |(y,k)::r,n,acc,e=>by
  unfold cellsFrom at e
  split at e
  ·rename_i hk
   rcases cells_own r (n+1) _ e with q|⟨q1,q2⟩
   ·exact .inl (Nat.le_of_succ_le q)
   ·rw[List.lookup_cons]at q1
    cases hxy:x == y with
    |true=>rw[hxy]at q1;cases q1;exact .inl (Nat.le_refl _)
    |false=>
     rw[hxy]at q1
     refine .inr ⟨q1,fun hm=> ?_⟩
     rcases List.mem_cons.mp hm with z|z
     ·cases z;simp at hxy
     ·exact q2 z
  ·rename_i hk
   rcases cells_own r n acc e with q|⟨q1,q2⟩
   ·exact .inl q
   ·refine .inr ⟨q1,fun hm=> ?_⟩
    rcases List.mem_cons.mp hm with z|z
    ·cases z;simp at hk
    ·exact q2 z
theorem cells_not{x:Str}:∀(names:List (Str×NameKind)) (n:Nat) (acc:List (Str×Addr)),(x,NameKind.cell)∉names→(cellsFrom n names acc).lookup x=acc.lookup x
 | [],_,_,_=>rfl
 |(y,k)::r,n,acc,h=>by
  unfold cellsFrom
  split
  ·rename_i hk
   have hk':k=.cell:=by simpa using hk
   subst hk'
   have hxy:(x == y)=false:=by
    cases hb:x == y with
    |false=>rfl
    |true=>exact absurd (by rw[beq_iff_eq.mp hb];exact List.mem_cons_self) h
   rw[cells_not r (n+1) _ fun z=>h (List.mem_cons_of_mem _ z),List.lookup_cons,hxy]
  ·exact cells_not r n acc fun z=>h (List.mem_cons_of_mem _ z)
theorem cells_new:∀(names:List (Str×NameKind)) (h:Heap) (acc:List (Str×Addr)) (p:Str×Addr),p∈cellsFrom h.objs.size names acc→p∈acc∨(pushCells h names).IsCell p.2 none
 | [],_,_,_,hp=>.inl hp
 |(y,k)::r,h,acc,p,hp=>by
  unfold cellsFrom at hp
  unfold pushCells
  split at hp
  ·rename_i hk
   rw[if_pos hk]
   have e:h.objs.size+1=(h.push {cls:=.type "cell",data:=.cell none}).objs.size:=(Heap.size_push ..).symm
   rw[e]at hp
   rcases cells_new r _ _ p hp with q|q
   ·rcases List.mem_cons.mp q with rfl|q
    ·exact .inr ⟨_,pushCells_keeps r _ _ _ (Heap.get?_push_size _ rfl),rfl⟩
    ·exact .inl q
   ·exact .inr q
  ·rename_i hk
   rw[if_neg hk]
   exact cells_new r h acc p hp
theorem closure_ok{scope:Scope}{env:Env}(h:∀y∈scope.names,y.2=.free→∃c,env.cells.lookup y.1=some c):
  ∃cl,closureFor scope env=pure cl∧(∀p∈cl,env.cells.lookup p.1=some p.2)∧∀x,(x,NameKind.free)∈scope.names→cl.lookup x=env.cells.lookup x:=by
 have go:∀(names:List (Str×NameKind)) (acc:List (Str×Addr)),(∀y∈names,y.2=.free→∃c,env.cells.lookup y.1=some c)→(∀p∈acc,env.cells.lookup p.1=some p.2)→
   ∃cl,(forIn names acc fun(y:Str×NameKind) (cs:List (Str×Addr))=>(if y.2 == .free then do let a←cellOf env y.1;pure (ForInStep.yield ((y.1,a)::cs))else pure (ForInStep.yield cs):Sem (ForInStep (List (Str×Addr)))))=pure cl∧
    (∀p∈cl,env.cells.lookup p.1=some p.2)∧(∀x,(x,NameKind.free)∈names→cl.lookup x=env.cells.lookup x)∧∀x c,acc.lookup x=some c→cl.lookup x=some c:=by
  intro names
  induction names with
  |nil=>intro acc _ ha;exact⟨acc,rfl,ha,(fun x hx=>absurd hx (by simp)),fun _ _ e=>e⟩
  |cons y r ih=>
   intro acc hy ha
   rw[List.forIn_cons]
   by_cases hk:(y.2 == .free)=true
   ·obtain⟨c,hc⟩:=hy y List.mem_cons_self (by simpa using hk)
    have e1:cellOf env y.1=pure c:=by unfold cellOf;rw[hc]
    rw[if_pos hk,e1]
    obtain⟨cl,q1,q2,q3,q4⟩:=ih ((y.1,c)::acc) (fun z hz=>hy z (List.mem_cons_of_mem _ hz)) (fun p hp=>by
     rcases List.mem_cons.mp hp with rfl|hp
     ·exact hc
     ·exact ha p hp)
    refine⟨cl,?_,q2,fun x hx=> ?_,fun x c' e=> ?_⟩
    ·simp only[pure_bind]
     exact q1
    ·rcases List.mem_cons.mp hx with z|z
     ·have z1:x=y.1:=congrArg Prod.fst z
      subst z1
      rw[q4 y.1 c (by simp[List.lookup_cons]),hc]
     ·exact q3 x z
    ·by_cases hxy:x=y.1
     ·subst hxy
      have a:=ha (y.1,c') (mem_of_lookup e)
      have a':env.cells.lookup y.1=some c':=a
      rw[hc]at a'
      cases a'
      exact q4 y.1 c (by simp[List.lookup_cons])
     ·have hb:(x == y.1)=false:=by simpa using hxy
      exact q4 x c' (by rw[List.lookup_cons,hb];exact e)
   ·rw[if_neg hk]
    obtain⟨cl,q1,q2,q3,q4⟩:=ih acc (fun z hz=>hy z (List.mem_cons_of_mem _ hz)) ha
    refine⟨cl,?_,q2,fun x hx=> ?_,q4⟩
    ·simp only[pure_bind]
     exact q1
    ·rcases List.mem_cons.mp hx with z|z
     ·have z2:NameKind.free=y.2:=congrArg Prod.snd z
      exact absurd (by rw[←z2];rfl) hk
     ·exact q3 x z
 obtain⟨cl,q1,q2,q3,_⟩:=go scope.names [] h (fun p hp=>by cases hp)
 refine⟨cl,?_,q2,q3⟩
 unfold closureFor
 have e:(forIn scope.names ([]:List (Str×Addr)) fun x r=>(match x with|(name,kind)=>if(kind == NameKind.free)=true then do let a←cellOf env name;pure (ForInStep.yield ((name,a)::r))else pure (ForInStep.yield r):Sem (ForInStep (List (Str×Addr)))))=pure cl:=q1
 first
  |(rw[e];rfl)
  |(simp only[bind_pure];exact e)
  |exact e
noncomputable def benv(scope:Scope)(cl:List (Str×Addr))(C:Addr)(env:Env):Env:=
 {scope:=relabel scope env,locals:=C,globals:=env.globals,cells:=cellsFrom (C+1) scope.names cl,qual:=env.qual,func:=none,code:=env.code,frame:=env.frame,builtins:=env.builtins}
theorem newBlock{M:Model}{A:Around}{E:Value→Shared→Prop}{s:Shared}{scope:Scope}{globals:Addr}{cl:List (Str×Addr)}{qual:Str}{env:Env}{Q:Env→Shared→Prop}
  (h:Q {scope:=scope,locals:=s.heap.objs.size,globals:=globals,cells:=cellsFrom (s.heap.objs.size+1) scope.names cl,qual:=qual,func:=none,code:=env.code,frame:=env.frame,builtins:=env.builtins}
   {s with heap:=pushCells (s.heap.push {cls:=.type "dict",data:=.dict #[]}) scope.names}):
  wpAny M A (newFunctionEnv scope globals cl [] qual none .none (some env)) Q E s:=by
 simp only[newFunctionEnv,Option.isSome_some,if_true]
 refine wpAny_bind (wpAny_alloc ?_)
 refine wpAny_bind (wpAny_layCells _ (fun name kind cells=>by cases hkc:kind == NameKind.cell<;>simp[hkc]) _ _ _ _ ?_)
 rw[show({s with heap:=s.heap.push {cls:=.type "dict",data:=.dict #[]}}:Shared).heap.objs.size=s.heap.objs.size+1 from Heap.size_push ..]
 simp only[List.forIn_nil]
 exact wpAny_bind (wpAny_pure (wpAny_pure h))
theorem relabel_kind{scope:Scope}{env:Env}:∀{names:List (Str×NameKind)} {x:Str} {k:NameKind},
  (names.map fun(n,k)=>if(k == NameKind.free&&env.scope.kind == .function&&env.kindOf n == some .cell)then(n,NameKind.cell)else(n,k)).lookup x=some k→
  ∃k',names.lookup x=some k'∧(k=k'∨(k=.cell∧k'=.free))
 | [],_,_,h=>by simp at h
 |(n,k0)::r,x,k,h=>by
  rw[List.map_cons]at h
  by_cases hc:(k0 == NameKind.free&&env.scope.kind == .function&&env.kindOf n == some .cell)=true
  ·simp only[hc,if_true,List.lookup_cons]at h ⊢
   cases hx:x == n with
   |true=>
    rw[hx]at h
    cases h
    have:k0=.free:=by
     rw[Bool.and_eq_true,Bool.and_eq_true]at hc
     simpa using hc.1.1
    exact⟨k0,rfl, .inr ⟨rfl,this⟩⟩
   |false=>rw[hx]at h;exact relabel_kind (scope:=scope) h
  ·simp only[hc,if_false,Bool.false_eq_true,List.lookup_cons]at h ⊢
   cases hx:x == n with
   |true=>rw[hx]at h;cases h;exact⟨k0,rfl, .inl rfl⟩
   |false=>rw[hx]at h;exact relabel_kind (scope:=scope) h
theorem relabel_free{scope:Scope}{env:Env}{x:Str}:∀{names:List (Str×NameKind)},names.lookup x=some .free→
  (names.map fun(n,k)=>if(k == NameKind.free&&env.scope.kind == .function&&env.kindOf n == some .cell)then(n,NameKind.cell)else(n,k)).lookup x=some .cell∨
  (names.map fun(n,k)=>if(k == NameKind.free&&env.scope.kind == .function&&env.kindOf n == some .cell)then(n,NameKind.cell)else(n,k)).lookup x=some .free
 | [],h=>by simp at h
 |(n,k0)::r,h=>by
  rw[List.map_cons]
  by_cases hc:(k0 == NameKind.free&&env.scope.kind == .function&&env.kindOf n == some .cell)=true
  ·simp only[hc,if_true,List.lookup_cons]at h ⊢
   cases hx:x == n with
   |true=>exact .inl rfl
   |false=>rw[hx]at h;exact relabel_free (scope:=scope) h
  ·simp only[hc,if_false,Bool.false_eq_true,List.lookup_cons]at h ⊢
   cases hx:x == n with
   |true=>rw[hx]at h;cases h;exact .inr rfl
   |false=>rw[hx]at h;exact relabel_free (scope:=scope) h
end L3
namespace L3
open PySem PySem.Spec L2
open PyProof.Rows hiding St
noncomputable def blk(X:Cx)(N':List Str)(scope:Scope)(cl:List (Str×Addr))(C:Addr)(s:Shared)(H:Hp)(fp:List Addr):Cx where
 prog:=X.prog
 w:=X.w
 K:=X.K
 mg:=X.mg
 base:=X.base
 A:=X.A
 N:=N'
 s₀:=s
 H₀:=H
 env:=benv scope cl C X.env
 outer:=X.stack
 stack:=X.stack
 ex:=fp
 fn:=fun x=>scope.names.lookup x == some .cell
 calm:=X.calm
 pn:=[]
 xe:=fun _ _=>False
structure CompOk(X:Cx)(scope:Scope)(N':List Str)(k:Nat)(js:List Nat):Prop where
 kind:scope.kind=.function
 loc:∀y∈scope.names,y.2=.local→scope.names.lookup y.1=some .local
 fre:∀y∈scope.names,y.2=.free→X.env.scope.names.lookup y.1=some .cell∨X.env.scope.names.lookup y.1=some .free
 len:N'.length=k+js.length
 cap:∀i j,js[i]? =some j→∃x,N'[k+i]? =some x∧X.N[j]? =some x∧scope.names.lookup x=some .free∧(x,NameKind.cell)∉scope.names
noncomputable def compB(osc:Scope)(N:List Str)(scope:Scope)(N':List Str)(k:Nat)(js:List Nat):Bool:=
 scope.kind == .function&&scope.names.all (fun y=>y.2 != .local || scope.names.lookup y.1 == some .local)&&scope.names.all (fun y=>y.2 != .free || osc.names.lookup y.1 == some .cell || osc.names.lookup y.1 == some .free)&&
  N'.length == k+js.length&&js.zipIdx.all fun p=>match N'[k+p.2]?,N[p.1]? with
   |some x,some y=>x == y&&scope.names.lookup x == some .free&&scope.names.all fun z=>z.1 != x || z.2 != .cell
   |_,_=>false
theorem compOk_of{X:Cx}{scope:Scope}{N':List Str}{k:Nat}{js:List Nat}(h:compB X.env.scope X.N scope N' k js=true):CompOk X scope N' k js:=by
 unfold compB at h
 simp only[Bool.and_eq_true]at h
 obtain⟨⟨⟨⟨h1,h2⟩,h3⟩,h4⟩,h5⟩:=h
 refine⟨by simpa using h1,fun y hy hk=> ?_,fun y hy hk=> ?_,by simpa using h4,fun i j hj=> ?_⟩
 ·have q:=List.all_eq_true.mp h2 y hy
  simpa[hk]using q
 ·have q:=List.all_eq_true.mp h3 y hy
  simpa[hk]using q
 ·have hm:(j,i)∈js.zipIdx:=by
   rw[List.mem_zipIdx_iff_getElem?]
   exact hj
  have q:=List.all_eq_true.mp h5 _ hm
  dsimp only at q
  split at q
  ·rename_i x y e1 e2
   simp only[Bool.and_eq_true,beq_iff_eq]at q
   obtain⟨⟨q1,q2⟩,q3⟩:=q
   subst q1
   refine⟨x,e1,e2,q2,fun z=> ?_⟩
   have:=List.all_eq_true.mp q3 _ z
   simp at this
  ·cases q
noncomputable def ndB:List Str→Bool
 | []=>true
 |x::r=>(r.all fun y=>x != y)&&ndB r
theorem nd_of:∀{N:List Str},ndB N=true→N.Nodup
 | [],_=>List.nodup_nil
 |x::r,h=>by
  simp only[ndB,Bool.and_eq_true]at h
  refine List.nodup_cons.mpr ⟨fun hm=> ?_,nd_of h.2⟩
  have:=List.all_eq_true.mp h.1 x hm
  simp at this
noncomputable def bst(k:Nat)(js:List Nat)(σ:St):St:=List.replicate k none++js.map fun j=>(σ[j]?).join
section
variable{X:Cx}{pins:List (Addr×Obj)}{σ:St}{H:Hp}{s:Shared}{scope:Scope}{N':List Str}{k:Nat}{js:List Nat}{cl:List (Str×Addr)}{fp:List Addr}
theorem bst_length:(bst k js σ).length=k+js.length:=by simp[bst]
theorem bst_low{i:Nat}{v:V}(h:(bst k js σ)[i]? =some (some v)):∃n j,i=k+n∧js[n]? =some j∧σ[j]? =some (some v):=by
 unfold bst at h
 by_cases hi:i<k
 ·rw[List.getElem?_append_left (by simpa using hi),List.getElem?_replicate,if_pos hi]at h
  cases h
 ·rw[List.getElem?_append_right (by simpa using hi),List.length_replicate,List.getElem?_map]at h
  cases e:js[i - k]? with
  |none=>rw[e]at h;cases h
  |some j=>
   rw[e]at h
   have h':(σ[j]?).join=some v:=Option.some.inj h
   cases e2:σ[j]? with
   |none=>rw[e2]at h';cases h'
   |some o=>rw[e2]at h';exact⟨i - k,j,by omega,e,by rw[e2];exact congrArg some h'⟩
theorem inv_block(I:Inv X pins σ H s)(hC:CompOk X scope N' k js)(hcl:∀p∈cl,X.env.cells.lookup p.1=some p.2)(hcl2:∀x,(x,NameKind.free)∈scope.names→cl.lookup x=X.env.cells.lookup x)
  (hfp:∀b∈fp,FpOk X pins H b) (hob:∀b∈fp,∃o,s.heap.get? b=some o):
  Inv (blk X N' scope cl s.heap.objs.size s H fp) [] (bst k js σ) H {s with heap:=pushCells (s.heap.push {cls:=.type "dict",data:=.dict #[]}) scope.names}:=by
 have kp:∀b o,s.heap.get? b=some o→(pushCells (s.heap.push {cls:=.type "dict",data:=.dict #[]}) scope.names).get? b=some o:=fun b o e=>pushCells_keeps _ _ b o (Heap.get?_push_of_some _ e)
 have hsz:(s.heap.push {cls:=.type "dict",data:=.dict #[]}).objs.size=s.heap.objs.size+1:=Heap.size_push ..
 have clt:∀p∈cl,p.2<s.heap.objs.size:=fun p hp=>let⟨v,q⟩:=I.cell p.1 p.2 (hcl p hp);q.lt
 have clt':∀p∈cl,p.2<s.heap.objs.size+1:=fun p hp=>Nat.lt_succ_of_lt (clt p hp)
 have cells:∀x c,(cellsFrom (s.heap.objs.size+1) scope.names cl).lookup x=some c→s.heap.objs.size+1≤c∨(c<s.heap.objs.size∧X.env.cells.lookup x=some c):=fun x c e=>by
  rcases cells_own _ _ _ e with q|⟨q,_⟩
  ·exact .inl q
  ·exact .inr ⟨clt _ (mem_of_lookup q),hcl _ (mem_of_lookup q)⟩
 have cellIs:∀x c,(cellsFrom (s.heap.objs.size+1) scope.names cl).lookup x=some c→∃v,(pushCells (s.heap.push {cls:=.type "dict",data:=.dict #[]}) scope.names).IsCell c v:=fun x c e=>by
  have hm:=mem_of_lookup e
  rw[←hsz]at hm
  rcases cells_new _ _ _ _ hm with q|q
  ·obtain⟨v,z⟩:=I.cell x c (hcl _ q)
   exact⟨v,z.keeps kp⟩
  ·exact⟨none,q⟩
 refine⟨⟨I.ok.mod,hC.kind,I.ok.glob,I.ok.blt,Nat.le_refl _,fun x y c h1 h2=> ?_,fun x hx=> ?_,fun x c hf h=> ?_,I.ok.hd,I.ok.frames, .inl rfl,fun b hb=>⟨?_,fun x c h=> ?_⟩,I.bs,Nat.le_trans I.ok.bsz I.sz,fun b o e hb=> ?_,fun b hb=> ?_,I.stack,I.stkFree,fun P t=>I.base.tbls P (I.ok.tab P t)⟩,
  rfl,I.bare,Un.kept kp,⟨fun _=>none,(Heap.Ns.new s.heap (.type "dict")).keeps (pushCells_keeps _ _),fun i x v h1 h2 h3=> ?_⟩,fun x c h=>cellIs x c h,I.fresh,fun x c h=> ?_,fun p hp=>absurd (show p∈([]:List (Addr×Obj))from hp) (by simp),I.hok.kept kp,?_⟩
 ·rcases cells_one _ _ _ clt' _ _ (mem_of_lookup h1) (mem_of_lookup h2) rfl with z|⟨z1,z2⟩
  ·exact congrArg Prod.fst z
  ·exact I.ok.inj x y c (hcl _ z1) (hcl _ z2)
 ·have hx':(relabel scope X.env).names.lookup x=some .cell∨(relabel scope X.env).names.lookup x=some .free:=hx
  have fromK:∀{kk},(relabel scope X.env).names.lookup x=some kk→kk=.cell∨kk=.free→∃c,(cellsFrom (s.heap.objs.size+1) scope.names cl).lookup x=some c:=fun{kk} e hk=>by
   obtain⟨k',e',q⟩:=relabel_kind (scope:=scope) (env:=X.env) e
   have:k'=.cell∨k'=.free:=by
    rcases q with rfl|⟨_,rfl⟩
    ·exact hk
    ·exact .inr rfl
   rcases this with rfl|rfl
   ·exact Option.isSome_iff_exists.mp (PySem.W.cellsFrom_some _ _ _ (.inl e'))
   ·have hm:(x,NameKind.free)∈scope.names:=mem_of_lookup e'
    obtain⟨c,hc⟩:=I.ok.has x (hC.fre _ hm rfl)
    have z:cl.lookup x=some c:=(hcl2 x hm).trans hc
    exact Option.isSome_iff_exists.mp (PySem.W.cellsFrom_some _ _ _ (.inr (by rw[z];rfl)))
  rcases hx' with e|e
  ·exact fromK e (.inl rfl)
  ·exact fromK e (.inr rfl)
 ·have hf':scope.names.lookup x=some .cell:=by simpa[blk]using hf
  rcases cells_own _ _ _ h with q|⟨_,q⟩
  ·exact Nat.le_of_succ_le q
  ·exact absurd (mem_of_lookup hf') q
 ·obtain⟨o,e⟩:=hob b hb
  exact Nat.ne_of_lt (Heap.lt_size e)
 ·obtain⟨o,e⟩:=hob b hb
  rcases cells x c h with q|⟨_,q⟩
  ·exact Nat.ne_of_gt (Nat.lt_of_lt_of_le (Heap.lt_size e) (Nat.le_of_succ_le q))
  ·exact(hfp b hb).2.2.2.2.1 x c q
 ·obtain⟨_,_,_,q,_⟩:=hfp b hb
  rcases q with q|q
  ·exact I.ok.noex b o e q
  ·exact absurd (Nat.lt_of_lt_of_le (Heap.lt_size e) (Nat.le_trans I.ok.bsz q)) (Nat.lt_irrefl _)
 ·intro z
  obtain⟨_,q1,q2,_⟩:=hfp b hb
  exact(List.mem_cons.mp (I.stkSub b z)).elim q1 q2
 ·obtain⟨n,j,rfl,hj,hσ⟩:=bst_low h2
  obtain⟨y,e1,e2,e3,e4⟩:=hC.cap n j hj
  have e1':N'[k+n]? =some x:=h1
  rw[e1']at e1
  cases e1
  have hm:(x,NameKind.free)∈scope.names:=mem_of_lookup e3
  obtain⟨m,hn,hl⟩:=I.loc
  have hk:=hC.fre _ hm rfl
  obtain⟨u,r,lk⟩:=hl j x v e2 hσ (.inr hk)
  refine⟨u,r, .inr ⟨relabel_free (scope:=scope) e3,?_⟩⟩
  rcases lk with⟨z,_⟩|⟨_,c,hc,hcell⟩
  ·have z':X.env.scope.names.lookup x=some .local:=z
   rcases hk with q|q<;>rw[z']at q<;>cases q
  ·refine⟨c,?_,hcell.keeps kp⟩
   show(cellsFrom (s.heap.objs.size+1) scope.names cl).lookup x=some c
   rw[cells_not _ _ _ e4,hcl2 x hm]
   exact hc
 ·rcases cells x c h with q|⟨_,q⟩
  ·exact I.hok.fresh (Nat.le_of_succ_le q)
  ·exact I.freeC x c q
 ·rw[bst_length];exact hC.len.symm
theorem inv_back{H':Hp}{s':Shared}{σ':St}{C:Addr}(I:Inv X pins σ H s)(hfp:∀b∈fp,FpOk X pins H b)(eC:C=s.heap.objs.size)
  (J:Inv (blk X N' scope cl C s H fp) [] σ' H' s'):Inv X pins σ H' s'∧∃oC,s'.heap.get? C=some oC∧H' C=none∧C≠X.env.locals∧C∉X.fs∧(∀v,oC.data≠ .cell v)∧(X.s₀.heap.objs.size≤C)∧(∀x c,X.env.cells.lookup x=some c→c≠C)∧∀p∈X.pn++pins,p.1≠C:=by
 subst eC
 refine⟨I.call' J.os J.base J.hok J.bare fun b hb=> ?_,?_⟩
 ·obtain⟨_,q1,q2,q3,q4,q5⟩:=hfp b hb
  exact⟨q3,q1,q4,q5⟩
 ·obtain⟨m,⟨o,es,ep,ho,hd,_⟩,_⟩:=J.loc
  refine⟨o,ho,J.free,Nat.ne_of_gt I.lt,I.nofs (Nat.le_refl _),fun v z=> ?_,I.sz,fun x c e z=> ?_,fun p hp z=> ?_⟩
  ·rw[hd]at z;cases z
  ·obtain⟨v,q⟩:=I.cell x c e
   exact absurd q.lt (by rw[z];exact Nat.lt_irrefl _)
  ·exact absurd (Heap.lt_size (I.pin p hp).1) (by rw[z];exact Nat.lt_irrefl _)
end
end L3
namespace L3
open PySem PySem.Spec L2
open PyProof.Rows hiding St
noncomputable def isL:HO→Prop
 | .lst _=>True
 | .dT _=>True
 |_=>False
noncomputable def KeepG(G:Addr→Prop)(H H':Hp):Prop:=∀b o,H b=some o→(G b∨¬isL o)→H' b=some o
theorem Same.keepG{G:Addr→Prop}{H H':Hp}(e:Same H H'):KeepG G H H':=fun b o q _=>e b o q
section
variable{K:PySem.W.Frag}{G G':Addr→Prop}{H H':Hp}
theorem KeepG.seqT(e:KeepG G H H'){a:Addr}{xs:List V}(h:SqT K H a xs):SqT K H' a xs:=by
 rcases h with(h|⟨o,h⟩)|h
 ·exact .inl (.inl (e _ _ h (.inr fun z=>z)))
 ·exact .inl (.inr ⟨o,e _ _ h (.inr fun z=>z)⟩)
 ·exact .inr h
theorem KeepG.lstAt(e:KeepG G H H'){a:Addr}{xs:List V}(h:LstAt K G H a xs):LstAt K G H' a xs:=by
 rcases h with⟨h|⟨o,h⟩,ga⟩|h
 ·exact .inl ⟨.inl (e _ _ h (.inl ga)),ga⟩
 ·exact .inl ⟨.inr ⟨o,e _ _ h (.inl ga)⟩,ga⟩
 ·exact .inr h
mutual
theorem Rep.keep(e:KeepG G H H'):∀(d:D) {v:V},Rep K G H d v→Rep K G H' d v
 | .non,_,h=>by simpa only[Rep]using h
 | .bl _,_,h=>by simpa only[Rep]using h
 | .int _,_,h=>by simpa only[Rep]using h
 | .str _,_,h=>by simpa only[Rep]using h
 | .tup ds,v,h=>by
  obtain⟨a,xs,rfl,s,r⟩:=h.tup_of
  exact Rep.tup (e.seqT s) (RepL.keep e ds r)
 | .lst ds,v,h=>by
  obtain⟨a,xs,rfl,s,r⟩:=h.lst_of
  simp only[Rep]
  exact⟨a,xs,rfl,e.lstAt s,RepL.keep e ds r⟩
 | .exc c,v,h=>by
  obtain⟨a,rfl,q⟩:=h.exc_of
  simp only[Rep]
  exact⟨a,rfl,e _ _ q (.inr fun z=>z)⟩
 | .dct kvs,v,h=>by
  obtain⟨a,rfl,q⟩:=h.dct_of
  simp only[Rep]
  exact⟨a,rfl,q.imp (fun es z y=>⟨e _ _ z (.inl y),y⟩) (fun _ _ z=>e.lstAt z) fun _ _ z=>e.seqT z⟩
theorem RepL.keep(e:KeepG G H H'):∀(ds:List D) {xs:List V},RepL K G H ds xs→RepL K G H' ds xs
 | [],_,h=>by simpa only[RepL]using h
 |d::ds,xs,h=>by
  obtain⟨x,r,rfl,h1,h2⟩:=h.uncons
  exact RepL.cons (Rep.keep e d h1) (RepL.keep e ds h2)
end
theorem Rep.wid(g:∀a,G a→G' a){d:D}{v:V}(h:Rep K G H d v):Rep K G' H d v:=Rep.mono (Same.refl H) g d h
theorem RepL.wid(g:∀a,G a→G' a){d:List D}{v:List V}(h:RepL K G H d v):RepL K G' H d v:=RepL.mono (Same.refl H) g d h
theorem RepS.wid(g:∀a,G a→G' a){ρ:Rho}{σ:St}(h:RepS K G H ρ σ):RepS K G' H ρ σ:=fun i d e=>let⟨v,a,b⟩:=h i d e;⟨v,a,b.wid g⟩
theorem RepS.there{ρ:Rho}{σ:St}(h:RepS K G H ρ σ):RepS K (fun a=>G a∧H a≠none) H ρ σ:=fun i d e=>let⟨v,a,b⟩:=h i d e;⟨v,a,Rep.there d b⟩
end
noncomputable def ItD(K:PySem.W.Frag)(G:Addr→Prop)(J:It)(ds:List D)(C:Hp→Prop):Prop:=
 (∀i H,C H→i<ds.length→J.go i H∧∀x H',J.yld i H x H'→Same H H'∧C H'∧∃d,ds[i]? =some d∧Rep K G H' d x)∧∀i H,C H→ds.length≤i→J.stop i H
noncomputable def tI(X:Cx)(m:Rho→R (List D)):TI:=fun σ H Q=>∃(G:Addr→Prop) (ρ:Rho),Free G H∧RepS X.K G H ρ σ∧match m ρ with
 | .ok ds=>∀(J:It) (H1:Hp) (C:Hp→Prop),Same H H1→ItD X.K (fun a=>G a∧H1 a≠none) J ds C→(∀H2 H3,C H2→KeepG (fun a=>G a∧H1 a≠none) H2 H3→C H3)→C H1→ds.length≤sizeLine→Q J H1
 | .ex c=>XQ X σ H c
 | .bad=>False
noncomputable def PID(X:Cx)(tg iter:Expr)(m:Rho→R (List D)):Prop:=PI X tg iter (tI X m)
theorem _root_.L2.PI.imp{X:Cx}{tg e:Expr}{t t':TI}(h:PI X tg e t)(i:∀σ H Q,t' σ H Q→t σ H Q):PI X tg e t':=fun pins s σ H Q I q=>h pins s σ H Q I (i σ H Q q)
section
variable{X:Cx}{tg:Expr}
theorem pi_seq{l:Expr}{tl:TE}(hl:PE X l tl):PI X tg l (fun σ H R=>tl σ H fun x H1=>(∃a xs,x=.ref a∧SqL X.K H1 a xs∧(xs.length≤sizeLine→R (Itl X.K a) H1))∨∃a xs,x=.ref a∧SqT X.K H1 a xs∧(xs.length≤sizeLine→R (Itt X.K a) H1)):=by
 intro pins s σ H R I h
 refine thn (hl pins s σ H _ I h) fun v s1 ⟨x,H1,I1,r1,q1⟩=> ?_
 have fp:∀b∈[s1.heap.objs.size],FpOk X pins H1 b:=fun b hb=>by
  cases List.mem_singleton.mp hb
  exact I1.fpOk (Nat.le_refl _) (I1.hok.fresh (Nat.le_refl _))
 rcases q1 with⟨a,xs,rfl,hq,q⟩|⟨a,xs,rfl,hq,q⟩
 ·cases r1
  obtain⟨its,rv,p,hz⟩:=I1.list hq
  exact wpAny_pyIter_list p.isList ⟨_,[_],_,_,H1,rfl,I1.kept (t':=s1.toks) fun b o e=>Heap.get?_push_of_some _ e,turn_list a _,⟨_,Heap.get?_push_size _ rfl,rfl,rfl⟩,fp,q hz⟩
 ·cases r1
  obtain⟨its,rv,p,hz⟩:=I1.tuple hq
  exact wpAny_pyIter_tuple (show s1.heap.IsTuple a its.toArray from p) ⟨_,[_],_,_,H1,rfl,I1.kept (t':=s1.toks) fun b o e=>Heap.get?_push_of_some _ e,turn_tuple a _,⟨_,Heap.get?_push_size _ rfl,rfl,rfl⟩,fp,q hz⟩
noncomputable def itsR:D→R (List D)
 | .tup xs=>.ok xs
 | .lst xs=>.ok xs
 |_=>.bad
noncomputable def srcD(m:Rho→R D):Rho→R (List D):=fun ρ=>m ρ>>=itsR
theorem i_seq{l:Expr}{m:Rho→R D}(hl:PD X l m):PID X tg l (srcD m):=(pi_seq hl).imp fun σ H Q ⟨G,ρ,hG,hρ,q⟩=>by
 refine⟨G,ρ,hG,hρ,?_⟩
 unfold srcD at q
 cases e:m ρ with
 |ex c=>rw[e]at q;exact q
 |bad=>rw[e]at q;exact q.elim
 |ok d=>
  rw[e]at q
  have q:(match itsR d with
   | .ok ds=>∀(J:It) (H1:Hp) (C:Hp→Prop),Same H H1→ItD X.K (fun a=>G a∧H1 a≠none) J ds C→(∀H2 H3,C H2→KeepG (fun a=>G a∧H1 a≠none) H2 H3→C H3)→C H1→ds.length≤sizeLine→Q J H1
   | .ex c=>XQ X σ H c
   | .bad=>False):=q
  intro v H1 e1 rd
  cases d with
  |tup ds=>
   obtain⟨a,xs,rfl,h1,r1⟩:=rd.tup_of
   refine .inr ⟨a,xs,rfl,h1,fun hz=>q (Itt X.K a) H1 (fun H2=>∃ys,SqT X.K H2 a ys∧RepL X.K (fun a=>G a∧H1 a≠none) H2 ds ys) e1 ⟨fun i H2 ⟨ys,c1,c2⟩ hi=> ?_,fun i H2 ⟨ys,c1,c2⟩ hi=>⟨ys,c1,by rw[c2.length];exact hi⟩⟩
    (fun H2 H3 ⟨ys,c1,c2⟩ hk=>⟨ys,hk.seqT c1,RepL.keep hk _ c2⟩) ⟨xs,h1,RepL.there ds r1⟩ (by rw[←r1.length];exact hz)⟩
   have hl:i<ys.length:=by rw[c2.length];exact hi
   refine⟨⟨ys,ys[i],c1,by simp[hl]⟩,fun x H' ⟨e,y⟩=> ?_⟩
   subst e
   exact⟨Same.refl _,⟨ys,c1,c2⟩,c2.get' (y ys c1)⟩
  |lst ds=>
   obtain⟨a,xs,rfl,h1,r1⟩:=rd.lst_of
   have h2:LstAt X.K (fun a=>G a∧H1 a≠none) H1 a xs:=by
    have z:=Rep.there (.lst ds) rd
    rcases h1 with⟨h1,ga⟩|h1
    ·exact .inl ⟨h1,ga,by rcases h1 with h1|⟨o,h1⟩<;>rw[h1]<;>simp⟩
    ·exact .inr h1
   refine .inl ⟨a,xs,rfl,h1.sq,fun hz=>q (Itl X.K a) H1 (fun H2=>∃ys,LstAt X.K (fun a=>G a∧H1 a≠none) H2 a ys∧RepL X.K (fun a=>G a∧H1 a≠none) H2 ds ys) e1 ⟨fun i H2 ⟨ys,c1,c2⟩ hi=> ?_,fun i H2 ⟨ys,c1,c2⟩ hi=>⟨ys,c1.sq,by rw[c2.length];exact hi⟩⟩
    (fun H2 H3 ⟨ys,c1,c2⟩ hk=>⟨ys,hk.lstAt c1,RepL.keep hk _ c2⟩) ⟨xs,h2,RepL.there ds r1⟩ (by rw[←r1.length];exact hz)⟩
   have hl:i<ys.length:=by rw[c2.length];exact hi
   refine⟨⟨ys,ys[i],c1.sq,by simp[hl]⟩,fun x H' ⟨e,y⟩=> ?_⟩
   subst e
   exact⟨Same.refl _,⟨ys,c1,c2⟩,c2.get' (y ys c1.sq)⟩
  |_=>exact q.elim
noncomputable def rngL(lo:Int)(n:Nat):List D:=(List.range n).map fun(i:Nat)=>D.int (lo+(i:Int))
theorem itr_ok{K:PySem.W.Frag}{G:Addr→Prop}{lo:Int}{n:Nat}:ItD K G (Itr lo n) (rngL lo n) (fun _=>True):=by
 refine⟨fun i H _ hi=> ?_,fun i H _ hi=> ?_⟩
 ·have hi':i<n:=by simpa[rngL]using hi
  refine⟨hi',fun x H' ⟨e,y⟩=> ?_⟩
  subst e;subst y
  exact⟨Same.refl _,trivial, .int (lo+(i:Int)),by simp[rngL,hi'],Rep.int⟩
 ·have hi':n≤i:=by simpa[rngL]using hi
  exact hi'
noncomputable def rg1:List D→R (List D)
 | [.int j]=>if j.natAbs≤1000000 then .ok (rngL 0 j.toNat)else .bad
 |_=>.bad
noncomputable def rg2:List D→R (List D)
 | [.int i, .int j]=>if i.natAbs≤1000000∧j.natAbs≤1000000 then .ok (rngL i (j - i).toNat)else .bad
 |_=>.bad
noncomputable def apL(g:List D→R (List D))(n:Rho→R (List D)):Rho→R (List D):=fun ρ=>n ρ>>=g
theorem rg1_cases(ds:List D):rg1 ds=.bad∨∃j,ds=[.int j]:=by
 unfold rg1
 split
 ·exact .inr ⟨_,rfl⟩
 ·exact .inl rfl
theorem rg2_cases(ds:List D):rg2 ds=.bad∨∃i j,ds=[.int i, .int j]:=by
 unfold rg2
 split
 ·exact .inr ⟨_,_,rfl⟩
 ·exact .inl rfl
theorem i_range1{a:Expr}{m:Rho→R (List D)}{p pos:Pos}(hm:X.mg "range"=none)(ha:PDA X [a] m)(hg:Gl X "range":=by rfl)(hs:starEach [a] X.env=[(false,eval a X.env)]:=by rfl):PID X tg (.Call (.Name "range" p) [a] [] pos) (apL rg1 m):=
 (pi_range1 hg hm ha hs).imp fun σ H Q ⟨G,ρ,hG,hρ,q⟩=>by
  refine⟨G,ρ,hG,hρ,?_⟩
  unfold apL at q
  cases e:m ρ with
  |ex c=>rw[e]at q;exact q
  |bad=>rw[e]at q;exact q.elim
  |ok ds=>
   rw[e]at q
   intro vs H1 e1 rd
   rcases rg1_cases ds with h|⟨j,rfl⟩
   ·rw[R.ok_bind,h]at q;exact q.elim
   ·obtain⟨x,rfl,rx⟩:=one_of rd
    cases rx.int_of
    simp only[R.ok_bind,rg1]at q
    by_cases hj:j.natAbs≤1000000
    ·rw[if_pos hj]at q
     refine⟨j,rfl,by omega,by omega,q (Itr 0 j.toNat) H1 (fun _=>True) e1 itr_ok (fun _ _ _ _=>trivial) trivial ?_⟩
     simp only[rngL,List.length_map,List.length_range]
     rw[sizeLine_eq];omega
    ·rw[if_neg hj]at q;exact q.elim
theorem i_range2{a b:Expr}{m:Rho→R (List D)}{p pos:Pos}(hm:X.mg "range"=none)(ha:PDA X [a,b] m)(hg:Gl X "range":=by rfl)(hs:starEach [a,b] X.env=[(false,eval a X.env),(false,eval b X.env)]:=by rfl)(hs2:starEach [b] X.env=[(false,eval b X.env)]:=by rfl):
  PID X tg (.Call (.Name "range" p) [a,b] [] pos) (apL rg2 m):=
 (pi_range2 hg hm ha hs hs2).imp fun σ H Q ⟨G,ρ,hG,hρ,q⟩=>by
  refine⟨G,ρ,hG,hρ,?_⟩
  unfold apL at q
  cases e:m ρ with
  |ex c=>rw[e]at q;exact q
  |bad=>rw[e]at q;exact q.elim
  |ok ds=>
   rw[e]at q
   intro vs H1 e1 rd
   have no:(match(.bad:R (List D))with
    | .ok ds=>∀(J:It) (H1:Hp) (C:Hp→Prop),Same H H1→ItD X.K (fun a=>G a∧H1 a≠none) J ds C→(∀H2 H3,C H2→KeepG (fun a=>G a∧H1 a≠none) H2 H3→C H3)→C H1→ds.length≤sizeLine→Q J H1
    | .ex c=>XQ X σ H c
    | .bad=>False)→False:=fun z=>z
   rcases rg2_cases ds with h|⟨i,j,rfl⟩
   ·rw[R.ok_bind,h]at q;exact q.elim
   ·obtain⟨x,r,rfl,rx,rr⟩:=rd.uncons
    obtain⟨y,rfl,ry⟩:=one_of rr
    cases rx.int_of;cases ry.int_of
    simp only[R.ok_bind,rg2]at q
    by_cases hj:i.natAbs≤1000000∧j.natAbs≤1000000
    ·rw[if_pos hj]at q
     refine⟨i,j,rfl,⟨by omega,by omega,by omega,by omega⟩,q (Itr i (j - i).toNat) H1 (fun _=>True) e1 itr_ok (fun _ _ _ _=>trivial) trivial ?_⟩
     simp only[rngL,List.length_map,List.length_range]
     rw[sizeLine_eq];omega
    ·rw[if_neg hj]at q;exact q.elim
noncomputable def setM:St→List Nat→List V→St
 |σ,i::is,v::vs=>setM (σ.set i (some v)) is vs
 |σ,_,_=>σ
noncomputable def setD:Rho→List Nat→List D→Rho
 |ρ,i::is,d::ds=>setD (ρ.set i (some d)) is ds
 |ρ,_,_=>ρ
noncomputable def gD(X:Cx)(is:List Nat)(f:D→R (List D)):TG:=fun v σ H Q=>∃(G:Addr→Prop) (d:D) (ds:List D),Rep X.K G H d v∧f d=.ok ds∧∀vs,RepL X.K G H ds vs→vs.length=is.length→Q (setM σ is vs) H
noncomputable def PGD(X:Cx)(tg:Expr)(is:List Nat)(f:D→R (List D)):Prop:=PG X tg (gD X is f)
noncomputable def one:D→R (List D):=fun d=>.ok [d]
noncomputable def tupN(n:Nat):D→R (List D)
 | .tup ds=>if ds.length=n then .ok ds else .bad
 |_=>.bad
theorem _root_.L2.PG.imp{X:Cx}{e:Expr}{t t':TG}(h:PG X e t)(i:∀v σ H Q,t' v σ H Q→t v σ H Q):PG X e t':=fun pins s σ H v u Q I r q=>h pins s σ H v u Q I r (i v σ H Q q)
theorem g_name{i:Nat}{x:Str}{pos:Pos}(hN:ndB X.N=true:=by kernel_rfl)(hi:X.N[i]? =some x:=by rfl)(hx:Loc X.env.scope x:=by first|exact Or.inl rfl|exact Or.inr rfl)(hf:X.fn x=true∨X.env.scope.names.lookup x=some .local:=by first|exact .inl rfl|exact .inr rfl):PGD X (.Name x pos) [i] one:=
 (pg_name (nd_of hN) hi hx hf).imp fun v σ H Q ⟨G,d,ds,rd,e,q⟩=>by
  cases e
  exact q [v] (RepL.cons rd RepL.nil) rfl
noncomputable def gNs:List Nat→TGs
 | []=>gNil
 |i::is=>gCons (gName i) (gNs is)
theorem gNs_of{Q:St→Hp→Prop}{H:Hp}:∀(is:List Nat) (vs:List V) (σ:St),vs.length=is.length→Q (setM σ is vs) H→gNs is vs σ H Q
 | [],[],_,_,q=>⟨rfl,q⟩
 | [],_::_,_,h,_=>by simp at h
 |_::_,[],_,h,_=>by simp at h
 |i::is,v::vs,σ,h,q=>⟨v,vs,rfl,gNs_of is vs _ (by simpa using h) q⟩
noncomputable def PNs(X:Cx)(es:List Expr)(is:List Nat):Prop:=PGs X es (gNs is)
theorem ns_nil:PNs X [] []:=pgs_nil
theorem ns_cons{i:Nat}{is:List Nat}{x:Str}{es:List Expr}{pos:Pos}(hr:PNs X es is)(hN:ndB X.N=true:=by kernel_rfl)(hi:X.N[i]? =some x:=by rfl)(hx:Loc X.env.scope x:=by first|exact Or.inl rfl|exact Or.inr rfl)(hf:X.fn x=true∨X.env.scope.names.lookup x=some .local:=by first|exact .inl rfl|exact .inr rfl)
  (hs:(assignEach (.Name x pos::es) X.env).map (·.2)=assign (.Name x pos) X.env::(assignEach es X.env).map (·.2):=by rfl):PNs X (.Name x pos::es) (i::is):=pgs_cons (pg_name (nd_of hN) hi hx hf) hr hs
theorem g_tup{es:List Expr}{is:List Nat}{k:Nat}{n:Nat}{pos:Pos}(h:PNs X es is)(hc:X.calm=true:=by rfl)(hin:is.length=n:=by rfl)
  (hn:(assignEach es X.env).length=n:=by rfl) (hst:(assignEach es X.env).findIdx? (·.1)=none:=by rfl):PGD X (.Tuple es k pos) is (tupN n):=
 (pg_tup hc h hn hst).imp fun v σ H Q ⟨G,d,ds,rd,e,q⟩=>by
  cases d with
  |tup es=>
   simp only[tupN]at e
   split at e
   ·rename_i hl
    cases e
    obtain⟨a,xs,rfl,h1,r1⟩:=rd.tup_of
    have hx:xs.length=n:=by rw[r1.length];exact hl
    exact⟨a,xs,rfl,h1,hx,gNs_of is xs σ (by omega) (q xs r1 (by omega))⟩
   ·cases e
  |_=>cases e
theorem setM_length:∀(σ:St) (is:List Nat) (vs:List V),(setM σ is vs).length=σ.length
 |σ,[],vs=>by cases vs<;>rfl
 |σ,i::is,[]=>rfl
 |σ,i::is,v::vs=>by rw[setM,setM_length];simp
theorem setM_rep{K:PySem.W.Frag}{G:Addr→Prop}{H:Hp}:∀(is:List Nat) (ds:List D) (vs:List V) (ρ:Rho) (σ:St),RepS K G H ρ σ→RepL K G H ds vs→ρ.length=σ.length→RepS K G H (setD ρ is ds) (setM σ is vs)
 | [],ds,vs,ρ,σ,h,r,_=>by cases vs<;>cases ds<;>exact h
 |i::is,[],vs,ρ,σ,h,r,_=>by rw[r.nil_of];exact h
 |i::is,d::ds,vs,ρ,σ,h,r,hl=>by
  obtain⟨v,t,rfl,h1,h2⟩:=r.uncons
  refine setM_rep is ds t _ _ (fun j e hj=> ?_) h2 (by simpa using hl)
  by_cases hij:i=j
  ·subst hij
   have hlt:i<ρ.length:=by
    have:=(List.getElem?_eq_some_iff.mp hj).1
    simpa using this
   rw[List.getElem?_set_self hlt]at hj
   cases hj
   exact⟨v,List.getElem?_set_self (by omega),h1⟩
  ·rw[List.getElem?_set_ne hij]at hj
   obtain⟨w,a,b⟩:=h j e hj
   exact⟨w,by rw[List.getElem?_set_ne hij];exact a,b⟩
theorem setM_keep:∀(is:List Nat) (vs:List V) (σ:St) (j:Nat),j∉is→(setM σ is vs)[j]? =σ[j]?
 | [],vs,σ,j,_=>by cases vs<;>rfl
 |i::is,[],σ,j,_=>rfl
 |i::is,v::vs,σ,j,h=>by
  rw[setM,setM_keep is vs _ j fun z=>h (List.mem_cons_of_mem _ z),List.getElem?_set_ne fun z=>h (by rw[z];exact List.mem_cons_self)]
end
end L3
namespace L3
open PySem PySem.Spec L2
open PyProof.Rows hiding St
noncomputable abbrev nof:Value→Shared→Prop:=fun _ _=>False
noncomputable abbrev tests(ifs:List Expr)(env:Env):Sem Bool:=forIn ifs true fun c r=>if r=true then do let ok←isTrue c env (eval c env);pure (ForInStep.yield ok)else pure (ForInStep.yield r)
section
variable{prog:Program}{w:World}{A:Around}{R:Result→Shared→Prop}{s:Shared}
theorem comp_turns{elt target iter:Expr}{ifs:List Expr}{scope:Scope}{pos:Pos}{it acc:Value}{env:Env}(I:Nat→Shared→Prop)
  (turn:∀n s,I n s→wpAny (model prog w) A (pyNext it) (fun r s1=>match r with
   |none=>R (.ok .next) s1
   |some v=>wpAny (model prog w) A (letOwnedTupleGo target it v) (fun _ s2=>wpAny (model prog w) A (assign target env v) (fun _ s3=>wpAny (model prog w) A (tests ifs env) (fun ok s4=>
     if ok=true then wpAny (model prog w) A (eval elt env) (fun x s5=>wpAny (model prog w) A (call (.builtin "list.append") [acc,x]) (fun _ s6=>∃m,m<n∧I m s6) nof s5) nof s4
     else∃m,m<n∧I m s4) nof s3) nof s2) nof s1) nof s)
  (n:Nat) (h:I n s):codeAny (model prog w) A (.compLoop (.ListComp elt [⟨target,iter,ifs,0⟩] scope pos) 0 it acc env) R s:=by
 refine codeAny_loop rfl I (fun n s hI=> ?_) n h
 refine(show wpAny (model prog w) A ((compTurn (.ListComp elt [⟨target,iter,ifs,0⟩] scope pos) 0 it acc env).onRaise (fun x=>do noteFrame x env;theTreesLotGoes x)) _ _ s from wpAny_noted ?_)
 rw[compTurn_list]
 refine wpAny_bind (wpAny_standAt (wpAny_bind (wpAny_mono (turn n s hI) (fun r s1 h1=> ?_) fun _ _ f=>f.elim)))
 cases r with
 |none=>exact wpAny_pure h1
 |some v=>
  refine wpAny_bind (wpAny_mono h1 (fun _ s2 h2=>wpAny_bind (wpAny_mono h2 (fun _ s3 h3=>wpAny_bind (wpAny_mono h3 (fun ok s4 h4=> ?_) fun _ _ f=>f.elim)) fun _ _ f=>f.elim)) fun _ _ f=>f.elim)
  cases ok with
  |false=>exact wpAny_pure ⟨rfl,h4⟩
  |true=>exact wpAny_bind (wpAny_bind (wpAny_mono h4 (fun x s5 h5=>wpAny_bind (wpAny_mono h5 (fun _ s6 h6=>wpAny_pure (wpAny_pure ⟨rfl,h6⟩)) fun _ _ f=>f.elim)) fun _ _ f=>f.elim))
end
noncomputable def PTs(X:Cx)(ifs:List Expr)(m:Rho→R Bool):Prop:=
 ∀(pins:List (Addr×Obj)) (s:Shared) (σ:St) (H:Hp) (Q:Bool→Hp→Prop),Inv X pins σ H s→tDT X m σ H Q→wpAny (model X.prog X.w) X.A (tests ifs X.env) (TP X pins σ Q) X.xe s
noncomputable def yes:Rho→R Bool:=fun _=>.ok true
theorem ts_nil{X:Cx}:PTs X [] yes:=fun pins s σ H Q I ⟨G,ρ,hG,hρ,q⟩=>wpAny_pure ⟨H,I,q _ H (Same.refl H) rfl⟩
theorem ts_one{X:Cx}{c:Expr}{m:Rho→R Bool}(h:PDT X c m):PTs X [c] m:=fun pins s σ H Q I q=>wpAny_tests_one (h pins s σ H Q I q)
noncomputable def mapC{α:Type}(f:D→R (List D))(ρ0:Rho)(is:List Nat)(mt:Rho→R Bool)(me:Rho→R α):List D→R (List α)
 | []=>.ok []
 |d::ds=>f d>>=fun vs=>mt (setD ρ0 is vs)>>=fun b=>if b=true then me (setD ρ0 is vs)>>=fun y=>mapC f ρ0 is mt me ds>>=fun ys=>.ok (y::ys)else mapC f ρ0 is mt me ds
noncomputable def bro(k:Nat)(js:List Nat)(ρ:Rho):Rho:=List.replicate k none++js.map fun j=>(ρ[j]?).join
noncomputable def nox{α:Type}:R α→R α
 | .ok a=>.ok a
 |_=>.bad
noncomputable def cmp{α:Type}(src:Rho→R (List D))(k:Nat)(js:List Nat)(is:List Nat)(f:D→R (List D))(mt:Rho→R Bool)(me:Rho→R α):Rho→R (List α):=fun ρ=>src ρ>>=fun ds=>nox (mapC f (bro k js ρ) is mt me ds)
theorem R.bind_ok{α β:Type}{r:R α}{k:α→R β}{b:β}(h:(r>>=k)=.ok b):∃a,r=.ok a∧k a=.ok b:=by
 cases r with
 |ok a=>exact⟨a,rfl,h⟩
 |ex c=>cases h
 |bad=>cases h
section
variable{X:Cx}{pins:List (Addr×Obj)}{σ:St}{scope:Scope}{N':List Str}{k:Nat}{js is:List Nat}{cl:List (Str×Addr)}{fp:List Addr}{f:D→R (List D)}{mt:Rho→R Bool}{me:Rho→R D}
theorem bro_rep{K:PySem.W.Frag}{G:Addr→Prop}{H:Hp}{ρ:Rho}(h:RepS K G H ρ σ):RepS K G H (bro k js ρ) (bst k js σ):=by
 intro i d e
 unfold bro at e
 by_cases hi:i<k
 ·rw[List.getElem?_append_left (by simpa using hi),List.getElem?_replicate,if_pos hi]at e
  cases e
 ·rw[List.getElem?_append_right (by simpa using hi),List.length_replicate,List.getElem?_map]at e
  cases e1:js[i - k]? with
  |none=>rw[e1]at e;cases e
  |some j=>
   rw[e1]at e
   have e':(ρ[j]?).join=some d:=Option.some.inj e
   cases e2:ρ[j]? with
   |none=>rw[e2]at e';cases e'
   |some o=>
    rw[e2]at e'
    obtain⟨v,a,b⟩:=h j d (by rw[e2];exact congrArg some e')
    refine⟨v,?_,b⟩
    unfold bst
    rw[List.getElem?_append_right (by simpa using hi),List.length_replicate,List.getElem?_map,e1,Option.map_some,a]
    rfl
theorem bst_set(his:∀i∈is,i<k)(vs:List V)(i:Nat)(v:V)(h:(bst k js σ)[i]? =some (some v)):(setM (bst k js σ) is vs)[i]? =some (some v):=by
 obtain⟨n,j,e,_⟩:=bst_low h
 rw[setM_keep is vs _ i fun z=>by have:=his i z;omega]
 exact h
theorem upd_keepG{G':Addr→Prop}{H1:Hp}{p:Addr}{ys zs:List V}(ng:¬G' p)(hy:H1 p=some (.lst ys)):KeepG G' H1 (upd H1 p (.lst zs)):=fun b o e hb=>by
 rw[upd_ne]
 ·exact e
 ·intro z
  subst z
  rw[hy]at e
  cases e
  rcases hb with hb|hb
  ·exact ng hb
  ·exact hb trivial
inductive CI{α:Type}(B:Cx)(σb:St)(tn:Nat→Heap→Prop)(fp:List Addr)(p:Addr)(H:Hp)(C:Hp→Prop)(Acc:Hp→List α→List V→Prop)(mp:Nat→R (List α))(out:List α)(len n:Nat)(s5:Shared):Prop
 |mk (i:Nat) (σ5:St) (H5:Hp) (zs:List V) (done rest:List α) (J5:Inv B [] σ5 H5 s5) (l5:σ5.length=σb.length) (w5:∀(j:Nat) v,σb[j]? =some (some v)→σ5[j]? =some (some v)) (t5:tn i s5.heap) (f5:∀b∈fp,H5 b=none) (hp5:H5 p=some (.lst zs)) (e5:Same H H5) (c5:C H5) (r5:Acc H5 done zs) (m5:mp i=.ok rest) (o5:out=done++rest) (hi:i≤len) (hdn:done.length≤i) (hn:n=len - i):CI B σb tn fp p H C Acc mp out len n s5
section
variable{α:Type}{me:Rho→R α}{B:Cx}{σb:St}{ρb:Rho}{Acc:Hp→List α→List V→Prop}{rep:(Addr→Prop)→Hp→Hp→α→V→Prop}{elt tg iter:Expr}{ifs:List Expr}{pos:Pos}{H:Hp}{it p:Addr}{J:It}{tn:Nat→Heap→Prop}{Gk:Addr→Prop}{ds:List D}{out:List α}{C:Hp→Prop}{RR:Result→Shared→Prop}
theorem CI.again(T:Turn B.prog B.w B.K tg J fp it tn){i:Nat}{s7 s8:Shared}{σ8:St}{H8:Hp}{zs8:List V}{done8 rest8:List α}{mp:Nat→R (List α)}{len:Nat}(hlt:i<len)(t7:tn (i+1) s7.heap)(J8:Inv B ([]++pinsAt fp s7.heap) σ8 H8 s8)(l8:σ8.length=σb.length)(w8:∀(j:Nat) v,σb[j]? =some (some v)→σ8[j]? =some (some v))
  (hp8:H8 p=some (.lst zs8)) (e8:Same H H8) (c8:C H8) (r8:Acc H8 done8 zs8) (m8:mp (i+1)=.ok rest8) (o8:out=done8++rest8) (dn8:done8.length≤i+1):∃m,m<len - i∧CI B σb tn fp p H C Acc mp out len m s8:=by
 have pin:∀b∈fp,∀o,s7.heap.get? b=some o→s8.heap.get? b=some o∧H8 b=none:=fun b hb o e=>let q:=J8.pin (b,o) (List.mem_append_right _ (List.mem_append_right _ (mem_pinsAt hb e)));⟨q.1,q.2.1⟩
 refine⟨len - (i+1),by omega, .mk (i+1) σ8 H8 zs8 done8 rest8 J8.unpinned l8 w8 (T.keep _ _ _ t7 fun b hb o e=>(pin b hb o e).1) (fun b hb=> ?_) hp8 e8 c8 r8 m8 o8 hlt dn8 rfl⟩
 obtain⟨o,e,_⟩:=T.obj _ _ t7 b hb
 exact(pin b hb o e).2
theorem comp_loopG(hcalm:B.calm=true)(hxe:∀v s,B.xe v s→nof v s)(T:Turn B.prog B.w B.K tg J fp it tn)(hF:∀H6:Hp,(∀b∈fp,H6 b=none)→∀b∈fp,FpOk B [] H6 b)
  (hset:∀(us:List V) (j:Nat) (v:V),σb[j]? =some (some v)→(setM σb is us)[j]? =some (some v)) (hlen:ρb.length=σb.length) (hrep:RepS B.K Gk H ρb σb)
  (hg:PGD B tg is f) (ht:PTs B ifs mt) (he:PE B elt (fun σ H1 Q=>∃(G:Addr→Prop) (ρ:Rho),Free G H1∧RepS B.K G H1 ρ σ∧DQ B σ (rep G H1) H1 (me ρ) Q))
  (hJ:ItD B.K Gk J ds C) (hk:∀H2 H3,C H2→KeepG Gk H2 H3→C H3) (hz:ds.length≤sizeLine) (hfD:H p=none) (hng:¬Gk p)
  (aS:∀H1 H2 done zs,Acc H1 done zs→Same H1 H2→Acc H2 done zs) (aL:∀H1 done zs,Acc H1 done zs→zs.length=done.length)
  (aN:∀H1 H2 done zs y v,Same H H1→H1 p=some (.lst zs)→Acc H1 done zs→Same H1 H2→rep (fun a=>Gk a∨H1 a=none) H1 H2 y v→Acc (upd H2 p (.lst (zs++[v]))) (done++[y]) (zs++[v]))
  (fin:∀(H':Hp) (s':Shared) (zs:List V) (σ':St),Inv B [] σ' H' s'→Same H H'→H' p=some (.lst zs)→Acc H' out zs→RR (.ok .next) s') {s4:Shared} {n0:Nat}
  (h0:CI B σb tn fp p H C Acc (fun i=>mapC f ρb is mt me (ds.drop i)) out ds.length n0 s4):
  codeAny (model B.prog B.w) B.A (.compLoop (.ListComp elt [⟨tg,iter,ifs,0⟩] scope pos) 0 (.ref it) (.ref p) B.env) RR s4:=by
 refine comp_turns (fun n s5=>CI B σb tn fp p H C Acc (fun i=>mapC f ρb is mt me (ds.drop i)) out ds.length n s5) (fun n s5 h5=> ?_) n0 h0
 obtain⟨i,σ5,H5,zs,done,rest,J5,l5,w5,t5,f5,hp5,e5,c5,r5,m5,o5,hi,hdn,hn⟩:=h5
 by_cases hlt:i<ds.length
 ·obtain⟨go,yl⟩:=hJ.1 i H5 c5 hlt
  have hd:ds.drop i=ds[i]::ds.drop (i+1):=List.drop_eq_getElem_cons hlt
  have m5:mapC f ρb is mt me (ds.drop i)=.ok rest:=m5
  rw[hd]at m5
  obtain⟨vs,ef,m6⟩:=R.bind_ok m5
  obtain⟨b,et,m7⟩:=R.bind_ok m6
  rw[hn]
  refine thn (T.item B rfl rfl rfl hcalm i [] s5 σb H5 nof (J5.weak l5.symm w5) (hF _ f5) t5 go) fun r s6 ⟨u,hr,h6⟩=> ?_
  rw[hr]
  refine thn h6 fun _ s7 ⟨x,H7,J7,rx,y7,t7,f7⟩=> ?_
  obtain⟨e7,c7,d,ed,rd⟩:=yl x H7 y7
  have ed':ds[i]=d:=Option.some.inj ((List.getElem?_eq_getElem hlt).symm.trans ed)
  rw[ed']at ef
  have J7':=J7.pinned (hF _ f7) (T.obj _ _ t7)
  have e57:=e5.trans e7
  refine wpAny_mono (hg _ s7 σb H7 x u (fun σ8 H8=>H8=H7∧σ8.length=σb.length∧(∀(j:Nat) v,σb[j]? =some (some v)→σ8[j]? =some (some v))∧RepS B.K Gk H7 (setD ρb is vs) σ8) J7' rx ⟨_,_,vs,rd,ef,fun us ru lu=>
   ⟨rfl,setM_length _ _ _,hset us,setM_rep is vs us _ _ (hrep.same e57) ru hlen⟩⟩) (fun _ s8 ⟨σ8,H8,J8,eH8,l8,w8,r8⟩=> ?_) hxe
  rw[eH8]at J8
  refine wpAny_mono (ht _ s8 σ8 H7 (fun b' H9=>b'=b∧Same H7 H9) J8 ⟨fun a=>Gk a∨H7 a=none,_,fun a ha=>.inr ha,r8.wid fun a z=>.inl z,by rw[et];exact fun b' H9 e9 q9=>⟨q9,e9⟩⟩) (fun ok s9 ⟨H9,J9,eb,e9⟩=> ?_) hxe
  rw[eb]
  have c9:=hk _ _ c7 (Same.keepG e9)
  have e59:=e57.trans e9
  have hp9:=e9 _ _ (e7 _ _ hp5)
  have r9:Acc H9 done zs:=aS _ _ _ _ (aS _ _ _ _ r5 e7) e9
  cases b with
  |false=>exact CI.again T hlt t7 J9 l8 w8 hp9 e59 c9 r9 m7 o5 (by omega)
  |true=>
   have m7:(me (setD ρb is vs)>>=fun y=>mapC f ρb is mt me (ds.drop (i+1))>>=fun ys=>.ok (y::ys))=.ok rest:=m7
   obtain⟨y,ey,m8⟩:=R.bind_ok m7
   obtain⟨ys,em,m9⟩:=R.bind_ok m8
   refine wpAny_mono (he _ s9 σ8 H9 (fun v H10=>Same H9 H10∧rep (fun a=>Gk a∨H9 a=none) H9 H10 y v) J9 ⟨fun a=>Gk a∨H9 a=none,_,fun a ha=>.inr ha,(r8.wid fun a z=>.inl z).same e9,by rw[ey];exact fun v H10 e10 q10=>⟨e10,q10⟩⟩) (fun x' s10 ⟨v10,H10,J10,rx10,e10,ry⟩=> ?_) hxe
   have hp10:=e10 _ _ hp9
   have hzl:zs.length<sizeLine:=by rw[aL _ _ _ r5];omega
   refine wpAny_mono (mt_append (X:=B) _ s10 σ8 H10 (.ref p) [v10] (.ref p) [x'] (fun _ H11=>H11=upd H10 p (.lst (zs++[v10]))) J10 rfl (.cons rx10 .nil) ⟨p,zs,v10,rfl,rfl,hp10,hzl,rfl⟩) (fun _ s11 ⟨_,H11,J11,_,e11⟩=> ?_) hxe
   rw[e11]at J11
   exact CI.again T hlt t7 J11 l8 w8 upd_same (fun b o q=>(upd_ne (ne_of_none q hfD)).trans (e10 _ _ (e59 _ _ q))) (hk _ _ (hk _ _ c9 (Same.keepG e10)) (upd_keepG hng hp10)) (aN H9 H10 done zs y v10 e59 hp9 r9 e10 ry) em (by rw[o5,←R.ok.inj m9];simp) (by simp;omega)
 ·have hie:i=ds.length:=by omega
  rw[hie]at t5
  refine thn (T.done B rfl rfl rfl hcalm ds.length [] s5 σ5 H5 nof J5 (hF _ f5) t5 (hJ.2 _ _ c5 (Nat.le_refl _))) fun r s6 ⟨hr,J6⟩=> ?_
  rw[hr]
  refine fin H5 s6 zs σ5 J6 e5 hp5 ?_
  have er:rest=[]:=by
   have m5':mapC f ρb is mt me (ds.drop i)=.ok rest:=m5
   rw[hie,List.drop_length]at m5'
   exact(R.ok.inj m5').symm
  rw[o5,er,List.append_nil]
  exact r5
end
theorem comp_blockG{α:Type}{me:Rho→R α}{rep:(Addr→Prop)→Hp→Hp→α→V→Prop}{Acc:Addr→Hp→List α→List V→Prop}{elt tg iter:Expr}{ifs:List Expr}{pos:Pos}{H:Hp}{s:Shared}{it:Addr}{J:It}{tn:Nat→Heap→Prop}{G:Addr→Prop}{ρ:Rho}{ds:List D}{out:List α}{C:Hp→Prop}{RR:Value→Addr→Result→Shared→Prop}{E:Value→Shared→Prop}
  (hcalm:X.calm=true) (I:Inv X pins σ H s) (T:Turn X.prog X.w X.K tg J fp it tn) (t0:tn 0 s.heap) (hfp:∀b∈fp,FpOk X pins H b)
  (hC:CompOk X scope N' k js) (hcl:∀p∈cl,X.env.cells.lookup p.1=some p.2) (hcl2:∀x,(x,NameKind.free)∈scope.names→cl.lookup x=X.env.cells.lookup x) (his:∀i∈is,i<k)
  (hg:∀C cl s H fp,PGD (blk X N' scope cl C s H fp) tg is f) (ht:∀C cl s H fp,PTs (blk X N' scope cl C s H fp) ifs mt) (he:∀C cl s H fp,PE (blk X N' scope cl C s H fp) elt (fun σ H1 Q=>∃(G:Addr→Prop) (ρ:Rho),Free G H1∧RepS X.K G H1 ρ σ∧DQ (blk X N' scope cl C s H fp) σ (rep G H1) H1 (me ρ) Q))
  (hG:Free G H) (hρ:RepS X.K G H ρ σ) (hJ:ItD X.K (fun a=>G a∧H a≠none) J ds C) (hk:∀H2 H3,C H2→KeepG (fun a=>G a∧H a≠none) H2 H3→C H3) (c0:C H) (hz:ds.length≤sizeLine)
  (hm:mapC f (bro k js ρ) is mt me ds=.ok out)
  (a0:∀p,H p=none→Acc p (upd H p (.lst [])) [] []) (aS:∀p H1 H2 done zs,Acc p H1 done zs→Same H1 H2→Acc p H2 done zs) (aL:∀p H1 done zs,Acc p H1 done zs→zs.length=done.length)
  (aN:∀p H1 H2 done zs y v,H p=none→Same H H1→H1 p=some (.lst zs)→Acc p H1 done zs→Same H1 H2→rep (fun a=>(G a∧H a≠none)∨H1 a=none) H1 H2 y v→Acc p (upd H2 p (.lst (zs++[v]))) (done++[y]) (zs++[v]))
  (fin:∀(p C:Addr) (H' H3:Hp) (s' s3:Shared) (zs:List V) (σ':St),Inv X pins σ H3 s3→(∀b∈fp,FpOk X pins H3 b)→C=s3.heap.objs.size→Inv (blk X N' scope cl C s3 H3 fp) [] σ' H' s'→H p=none→Same H H'→H' p=some (.lst zs)→Acc p H' out zs→RR (.ref p) C (.ok .next) s'):
  wpAny (model X.prog X.w) X.A (newList []) (fun acc s3=>wpAny (model X.prog X.w) X.A (newFunctionEnv scope X.env.globals cl [] X.env.qual none .none (some X.env)) (fun cenv s4=>
   codeAny (model X.prog X.w) X.A (.compStart (.ListComp elt [⟨tg,iter,ifs,0⟩] scope pos) 0 (.ref it) acc {cenv with scope:=relabel scope X.env}) (RR acc cenv.locals) s4) E s3) E s:=by
 refine wpAny_newObj_type ?_
 have hfD:H s.heap.objs.size=none:=I.fresh
 have I3:Inv X pins σ (upd H s.heap.objs.size (.lst [])) {s with heap:=s.heap.push {cls:=.type "list",data:=.seq ([]:List Value).toArray}}:=
  I.laid (t':=s.toks) (fun b u e=>Heap.get?_push_of_some _ e) (Nat.le_refl _) ⟨Nat.zero_le _,[],0, .nil,Heap.get?_push_size _ rfl⟩
 have oB:∀b∈fp,∃o,s.heap.get? b=some o:=fun b hb=>let⟨o,e,_⟩:=T.obj _ _ t0 b hb;⟨o,e⟩
 have fp3:∀b∈fp,FpOk X pins (upd H s.heap.objs.size (.lst [])) b:=fun b hb=>⟨by rw[upd_ne (let⟨o,e⟩:=oB b hb;Nat.ne_of_lt (Heap.lt_size e))];exact(hfp b hb).1,(hfp b hb).2⟩
 have J4:=inv_block (fp:=fp) I3 hC hcl hcl2 fp3 (fun b hb=>let⟨o,e⟩:=oB b hb;⟨o,Heap.get?_push_of_some _ e⟩)
 refine newBlock ?_
 have hF:∀H6:Hp,(∀b∈fp,H6 b=none)→∀b∈fp,FpOk _ [] H6 b:=fun H6 hn b hb=>
  ⟨hn b hb,(J4.ok.exf b hb).1,fun z=>J4.ok.exfs b hb z, .inl hb,(J4.ok.exf b hb).2,fun q hq=>absurd (show q∈([]:List (Addr×Obj))from hq) (by simp)⟩
 have t4:=T.keep _ _ _ t0 fun b hb o e=>pushCells_keeps scope.names _ b o (Heap.get?_push_of_some {cls:=.type "dict",data:=.dict #[]} (Heap.get?_push_of_some {cls:=.type "list",data:=.seq ([]:List Value).toArray} e))
 have loop:=comp_loopG (B:=blk X N' scope cl _ _ _ fp) (iter:=iter) (pos:=pos) (scope:=scope) hcalm (fun _ _ x=>x) T hF (bst_set his) (by simp[bro,bst]) ((bro_rep hρ).there) (hg _ _ _ _ _) (ht _ _ _ _ _) (he _ _ _ _ _) hJ hk hz hfD (fun z=>z.2 hfD) (aS _) (aL _) (fun H1 H2 done zs y v=>aN _ H1 H2 done zs y v hfD)
  (fun H' s' zs σ' J e hp a=>fin _ _ H' _ s' _ zs σ' I3 fp3 rfl J hfD e hp a) (CI.mk 0 _ _ [] [] out J4 rfl (fun _ _ e=>e) t4 (fun b hb=>(fp3 b hb).1) upd_same (same_new hfD _) (hk _ _ c0 (Same.keepG (same_new hfD _))) (a0 _ hfD) hm rfl (Nat.zero_le _) (Nat.le_refl _) rfl)
 exact codeAny_compStart_list loop (T.self _ 0 _ _ _ t4 loop)
theorem comp_block{me:Rho→R D}{elt tg iter:Expr}{ifs:List Expr}{pos:Pos}{H:Hp}{s:Shared}{it:Addr}{J:It}{tn:Nat→Heap→Prop}{G:Addr→Prop}{ρ:Rho}{ds out:List D}{C:Hp→Prop}{RR:Value→Addr→Result→Shared→Prop}{E:Value→Shared→Prop}
  (hcalm:X.calm=true) (I:Inv X pins σ H s) (T:Turn X.prog X.w X.K tg J fp it tn) (t0:tn 0 s.heap) (hfp:∀b∈fp,FpOk X pins H b)
  (hC:CompOk X scope N' k js) (hcl:∀p∈cl,X.env.cells.lookup p.1=some p.2) (hcl2:∀x,(x,NameKind.free)∈scope.names→cl.lookup x=X.env.cells.lookup x) (his:∀i∈is,i<k)
  (hg:∀C cl s H fp,PGD (blk X N' scope cl C s H fp) tg is f) (ht:∀C cl s H fp,PTs (blk X N' scope cl C s H fp) ifs mt) (he:∀C cl s H fp,PD (blk X N' scope cl C s H fp) elt me)
  (hG:Free G H) (hρ:RepS X.K G H ρ σ) (hJ:ItD X.K (fun a=>G a∧H a≠none) J ds C) (hk:∀H2 H3,C H2→KeepG (fun a=>G a∧H a≠none) H2 H3→C H3) (c0:C H) (hz:ds.length≤sizeLine)
  (hm:mapC f (bro k js ρ) is mt me ds=.ok out)
  (fin:∀(p C:Addr) (H' H3:Hp) (s' s3:Shared) (zs:List V) (σ':St),Inv X pins σ H3 s3→(∀b∈fp,FpOk X pins H3 b)→C=s3.heap.objs.size→Inv (blk X N' scope cl C s3 H3 fp) [] σ' H' s'→H p=none→Same H H'→H' p=some (.lst zs)→RepL X.K (fun a=>G a∧a≠p) H' out zs→RR (.ref p) C (.ok .next) s'):
  wpAny (model X.prog X.w) X.A (newList []) (fun acc s3=>wpAny (model X.prog X.w) X.A (newFunctionEnv scope X.env.globals cl [] X.env.qual none .none (some X.env)) (fun cenv s4=>
   codeAny (model X.prog X.w) X.A (.compStart (.ListComp elt [⟨tg,iter,ifs,0⟩] scope pos) 0 (.ref it) acc {cenv with scope:=relabel scope X.env}) (RR acc cenv.locals) s4) E s3) E s:=by
 refine comp_blockG (me:=me) (rep:=fun G _=>Rep X.K G) (Acc:=fun p H' out zs=>RepL X.K (fun a=>G a∧a≠p) H' out zs) hcalm I T t0 hfp hC hcl hcl2 his hg ht he hG hρ hJ hk c0 hz hm (fun p hp=>RepL.nil) (fun p H1 H2 done zs r e=>r.same e) (fun p H1 done zs r=>r.length) (fun p H1 H2 done zs y v hp e1 hp1 r e2 ry=> ?_) fin
 have kg:KeepG (fun a=>G a∧a≠p) H2 (upd H2 p (.lst (zs++[v]))):=upd_keepG (fun z=>z.2 rfl) (e2 _ _ hp1)
 refine(RepL.keep kg _ (r.same e2)).append (RepL.cons (Rep.keep kg _ (ry.wid fun a z=> ?_)) RepL.nil)
 rcases z with z|z
 ·exact⟨z.1,fun y=>z.2 (by rw[y];exact hp)⟩
 ·exact⟨hG a (e1.free z),fun y=>by rw[y,hp1]at z;cases z⟩
noncomputable def OwnL(K:PySem.W.Frag)(B:Addr→Prop)(H:Hp):List (List D)→List Addr→Prop
 | [],qs=>qs=[]
 |ds::r,qs=>∃q t xs,qs=q::t∧H q=some (.lst xs)∧RepL K B H ds xs∧OwnL K B H r t
noncomputable def OwnN(K:PySem.W.Frag)(G:Addr→Prop)(H0 H:Hp)(p:Addr)(dss:List (List D))(qs:List Addr):Prop:=
 (p::qs).Nodup∧(∀q∈qs,H0 q=none∧∃xs,H q=some (.lst xs))∧OwnL K (fun a=>G a∧a∉p::qs) H dss qs
theorem OwnL.mono{K:PySem.W.Frag}{B B':Addr→Prop}{H H':Hp}(k:∀ds xs,RepL K B H ds xs→RepL K B' H' ds xs):∀(dss:List (List D)) {qs:List Addr},(∀q∈qs,H' q=H q)→OwnL K B H dss qs→OwnL K B' H' dss qs
 | [],qs,_,h=>h
 |ds::r,qs,hq,⟨q,t,xs,e,h1,h2,h3⟩=>by
  subst e
  exact⟨q,t,xs,rfl,by rw[hq q List.mem_cons_self];exact h1,k _ _ h2,OwnL.mono k r (fun z hz=>hq z (List.mem_cons_of_mem _ hz)) h3⟩
theorem OwnL.length{K:PySem.W.Frag}{B:Addr→Prop}{H:Hp}:∀(dss:List (List D)) {qs:List Addr},OwnL K B H dss qs→qs.length=dss.length
 | [],qs,h=>by cases h;rfl
 |ds::r,qs,⟨q,t,xs,e,_,_,h3⟩=>by subst e;simp[OwnL.length r h3]
theorem OwnL.snoc{K:PySem.W.Frag}{B:Addr→Prop}{H:Hp}{ds:List D}{q:Addr}{xs:List V}(h1:H q=some (.lst xs))(h2:RepL K B H ds xs):∀(dss:List (List D)) {qs:List Addr},OwnL K B H dss qs→OwnL K B H (dss++[ds]) (qs++[q])
 | [],qs,h=>by cases h;exact⟨q,[],xs,rfl,h1,h2,rfl⟩
 |es::r,qs,⟨q',t,ys,e,g1,g2,g3⟩=>by subst e;exact⟨q',t++[q],ys,rfl,g1,g2,OwnL.snoc h1 h2 r g3⟩
structure AccOk{α:Type}(rep:(Addr→Prop)→Hp→Hp→α→V→Prop)(Acc:(Addr→Prop)→Hp→Addr→Hp→List α→List V→Prop):Prop where
 a0:∀G H p,H p=none→Acc G H p (upd H p (.lst [])) [] []
 aS:∀G H p H1 H2 done zs,Acc G H p H1 done zs→Same H1 H2→Acc G H p H2 done zs
 aL:∀G H p H1 done zs,Acc G H p H1 done zs→zs.length=done.length
 aN:∀G H p H1 H2 done zs y v,Free G H→H p=none→Same H H1→H1 p=some (.lst zs)→Acc G H p H1 done zs→Same H1 H2→rep (fun a=>(G a∧H a≠none)∨H1 a=none) H1 H2 y v→Acc G H p (upd H2 p (.lst (zs++[v]))) (done++[y]) (zs++[v])
 aB:∀G H0 H p H1 done zs,Same H0 H→Acc G H p H1 done zs→Acc G H0 p H1 done zs
noncomputable def accD(K:PySem.W.Frag):(Addr→Prop)→Hp→Addr→Hp→List D→List V→Prop:=fun G _ p H' out zs=>RepL K (fun a=>G a∧a≠p) H' out zs
noncomputable def accN(K:PySem.W.Frag):(Addr→Prop)→Hp→Addr→Hp→List (List D)→List V→Prop:=fun G H p H' out zs=>∃qs,zs=qs.map .ref∧OwnN K G H H' p out qs
noncomputable def repD(K:PySem.W.Frag):(Addr→Prop)→Hp→Hp→D→V→Prop:=fun G _ H' d v=>Rep K G H' d v
noncomputable def repN(K:PySem.W.Frag):(Addr→Prop)→Hp→Hp→List D→V→Prop:=fun G H H' ds v=>∃p xs,v=.ref p∧H p=none∧H' p=some (.lst xs)∧RepL K (fun a=>G a∧a≠p) H' ds xs
theorem acc_d{K:PySem.W.Frag}:AccOk (repD K) (accD K) where
 a0:=fun _ _ _ _=>RepL.nil
 aS:=fun _ _ _ _ _ _ _ r e=>r.same e
 aL:=fun _ _ _ _ _ _ r=>r.length
 aN:=fun G H p H1 H2 done zs y v hG hp e1 hp1 r e2 ry=>by
  have kg:KeepG (fun a=>G a∧a≠p) H2 (upd H2 p (.lst (zs++[v]))):=upd_keepG (fun z=>z.2 rfl) (e2 _ _ hp1)
  refine(RepL.keep kg _ (r.same e2)).append (RepL.cons (Rep.keep kg _ (Rep.wid (fun a z=> ?_) ry)) RepL.nil)
  rcases z with z|z
  ·exact⟨z.1,fun y=>z.2 (by rw[y];exact hp)⟩
  ·exact⟨hG a (e1.free z),fun y=>by rw[y,hp1]at z;cases z⟩
 aB:=fun _ _ _ _ _ _ _ _ r=>r
theorem acc_n{K:PySem.W.Frag}:AccOk (repN K) (accN K) where
 a0:=fun G H p hp=>⟨[],rfl,by simp,(fun q hq=>by cases hq),rfl⟩
 aS:=fun G H p H1 H2 done zs ⟨qs,e1,n1,n2,n3⟩ e=>⟨qs,e1,n1,fun q hq=>let⟨a,xs,b⟩:=n2 q hq;⟨a,xs,e _ _ b⟩,OwnL.mono (fun d v z=>z.same e) _ (fun q hq=>by obtain⟨_,xs,b⟩:=n2 q hq;rw[b,e _ _ b]) n3⟩
 aL:=fun G H p H1 done zs ⟨qs,e1,_,_,n3⟩=>by rw[e1,List.length_map];exact OwnL.length _ n3
 aN:=fun G H p H1 H2 done zs y v hG hp e1 hp1 ⟨qs,e0,n1,n2,n3⟩ e2 ⟨q,xs,ev,hq,hq2,ry⟩=>by
  subst ev e0
  have qp:q≠p:=fun z=>by rw[z,hp1]at hq;cases hq
  have qq:q∉qs:=fun z=>by obtain⟨_,ys,b⟩:=n2 q z;rw[hq]at b;cases b
  have hH:H q=none:=e1.free hq
  have hp2:=e2 _ _ hp1
  have up:∀b,b≠p→upd H2 p (.lst (qs.map .ref++[.ref q])) b=H2 b:=fun b hb=>upd_ne hb
  refine⟨qs++[q],by simp,?_,fun b hb=> ?_,?_⟩
  ·rw[List.nodup_cons]at n1 ⊢
   refine⟨fun z=> ?_,?_⟩
   ·rcases List.mem_append.mp z with z|z
    ·exact n1.1 z
    ·exact qp (List.mem_singleton.mp z).symm
   ·rw[List.nodup_append]
    exact⟨n1.2,by simp,fun a ha b hb=>by cases List.mem_singleton.mp hb;exact fun z=>qq (z▸ha)⟩
  ·rcases List.mem_append.mp hb with hb|hb
   ·obtain⟨a,ys,z⟩:=n2 b hb
    have bp:b≠p:=fun w=>(List.nodup_cons.mp n1).1 (w▸hb)
    exact⟨a,ys,by rw[up b bp];exact e2 _ _ z⟩
   ·cases List.mem_singleton.mp hb
    exact⟨hH,xs,by rw[up _ qp];exact hq2⟩
  ·have kg:KeepG (fun a=>G a∧a∉p::(qs++[q])) H2 (upd H2 p (.lst (qs.map .ref++[.ref q]))):=upd_keepG (fun z=>z.2 List.mem_cons_self) hp2
   refine OwnL.snoc (by rw[up q qp];exact hq2) (RepL.keep kg _ (ry.wid fun a z=> ?_)) _ (OwnL.mono (fun d u z=>RepL.keep kg _ (((RepL.there d z).wid fun a w=> ?_).same e2)) _ (fun b hb=> ?_) n3)
   ·rcases z with⟨z|z,zq⟩
    ·refine⟨z.1,fun w=> ?_⟩
     rcases List.mem_cons.mp w with w|w
     ·exact z.2 (by rw[w];exact hp)
     ·rcases List.mem_append.mp w with w|w
      ·exact z.2 (n2 a w).1
      ·exact zq (List.mem_singleton.mp w)
    ·refine⟨hG a (e1.free z),fun w=> ?_⟩
     rcases List.mem_cons.mp w with w|w
     ·rw[w,hp1]at z;cases z
     ·rcases List.mem_append.mp w with w|w
      ·obtain⟨_,ys,b⟩:=n2 a w;rw[z]at b;cases b
      ·exact zq (List.mem_singleton.mp w)
   ·refine⟨w.1.1,fun y=> ?_⟩
    rcases List.mem_cons.mp y with y|y
    ·exact w.1.2 (by rw[y];exact List.mem_cons_self)
    ·rcases List.mem_append.mp y with y|y
     ·exact w.1.2 (List.mem_cons_of_mem _ y)
     ·exact w.2 (by rw[List.mem_singleton.mp y];exact hq)
   ·obtain⟨_,ys,z⟩:=n2 b hb
    have bp:b≠p:=fun w=>(List.nodup_cons.mp n1).1 (w▸hb)
    rw[up b bp,z,e2 _ _ z]
 aB:=fun G H0 H p H1 done zs e ⟨qs,e1,n1,n2,n3⟩=>⟨qs,e1,n1,fun q hq=>⟨e.free (n2 q hq).1,(n2 q hq).2⟩,n3⟩
theorem n_comp{elt tg iter:Expr}{ifs:List Expr}{pos:Pos}{src:Rho→R (List D)}(N':List Str)(hi:PID X tg iter src)(hg:∀C cl s H fp,PGD (blk X N' scope cl C s H fp) tg is f)
  (ht:∀C cl s H fp,PTs (blk X N' scope cl C s H fp) ifs mt) (he:∀C cl s H fp,PD (blk X N' scope cl C s H fp) elt me) (hB:compB X.env.scope X.N scope N' k js=true:=by kernel_rfl) (hcalm:X.calm=true:=by rfl) (his:∀i∈is,i<k:=by decide) (hs:∀x,foldedSetIterable iter X.env x=pure x:=by intro _;rfl):
  PN X (.ListComp elt [⟨tg,iter,ifs,0⟩] scope pos) (cmp src k js is f mt me):=by
 intro pins s σ H Q I ⟨G,ρ,hG,hρ,q⟩
 have hC:=compOk_of hB
 obtain⟨cl,c1,c2,c3⟩:=closure_ok (scope:=scope) (env:=X.env) fun y hy hk=>I.ok.has y.1 (hC.fre y hy hk)
 rw[eval_ListComp]
 refine wpAny_comprehension_free (use:=none) rfl hs c1 hC.kind hC.loc ?_
 unfold cmp at q
 cases es:src ρ with
 |ex c=>
  rw[es]at q
  exact thn (hi pins s σ H (fun _ _=>False) I ⟨G,ρ,hG,hρ,by rw[es];exact q⟩) fun v s1 h1=>thn h1 fun itv s2 h2=>by
   obtain⟨_,_,_,_,_,_,_,_,_,_,z⟩:=h2
   exact z.elim
 |bad=>rw[es]at q;exact q.elim
 |ok ds=>
  rw[es]at q
  have q:DQ X σ (fun H' ds v=>∃p xs,v=.ref p∧H p=none∧H' p=some (.lst xs)∧RepL X.K (fun a=>G a∧a≠p) H' ds xs) H (nox (mapC f (bro k js ρ) is mt me ds)) Q:=q
  cases em:mapC f (bro k js ρ) is mt me ds with
  |ex c=>rw[em]at q;exact q.elim
  |bad=>rw[em]at q;exact q.elim
  |ok out=>
   rw[em]at q
   refine thn (hi pins s σ H (fun J H1=>∃C:Hp→Prop,Same H H1∧ItD X.K (fun a=>G a∧H1 a≠none) J ds C∧(∀H2 H3,C H2→KeepG (fun a=>G a∧H1 a≠none) H2 H3→C H3)∧C H1∧ds.length≤sizeLine) I
    ⟨G,ρ,hG,hρ,by rw[es];exact fun J H1 C e1 h1 h2 h3 h4=>⟨C,e1,h1,h2,h3,h4⟩⟩) fun v s1 h1=>thn h1 fun itv s2 h2=> ?_
   obtain⟨it,fp,tn,J,H2,rfl,I2,T,t0,hfp,C,e1,hJ,hk,c0,hz⟩:=h2
   refine comp_block (RR:=fun acc C=>compPost (model X.prog X.w) X.A X.xe none (EP X pins σ Q) acc C) hcalm I2 T t0 hfp hC c2 c3 his hg ht he (hG.same e1) (hρ.same e1) hJ hk c0 hz em ?_
   intro p Cc H' H3 s' s3 zs σ' I3 fp3 eC J6 hp e2 hp' rr
   obtain⟨I6,oC,o1,o2,o3,o4,o5,o6,o7,o8⟩:=inv_back I3 fp3 eC J6
   obtain⟨m,hn,_⟩:=J6.loc
   refine⟨m,hn,fun h' sb=>⟨.ref p,H',I6.turned (t':=s'.toks) (fun b o nb e=>sb.extBut b o nb e) o2 o3 (.inr o6) o7 o8,rfl,q _ _ (e1.trans e2) ⟨p,zs,rfl,e1.free hp,hp',rr⟩⟩⟩
end
end L3
namespace L3
open PySem PySem.Spec L2
open PyProof.Rows hiding St
inductive Sl where
 |sh (d:D)|ac (ds:List D)|an (dss:List (List D))|dc (kvs:List (List Int×List (List Int)))|tk (k:List Int)
noncomputable abbrev Tau:=List (Option Sl)
noncomputable def Sl.d:Sl→D
 | .sh d=>d
 | .ac ds=>.lst ds
 | .an dss=>.lst (dss.map .lst)
 | .dc kvs=>.dct kvs
 | .tk k=>.tup (k.map .int)
noncomputable def Sl.h:Sl→Option D
 | .sh d=>some d
 | .tk k=>some (.tup (k.map .int))
 |_=>none
noncomputable def view(τ:Tau):Rho:=τ.map fun o=>o.map Sl.d
noncomputable def hide(τ:Tau):Rho:=τ.map fun o=>o.bind Sl.h
inductive Fl where
 |nx (τ:Tau)|rt (d:D)|bk (τ:Tau)|ct (τ:Tau)|ex (c:Nat) (τ:Tau)|bad
structure Tr(O:Addr→Prop)(H:Hp)(O':Addr→Prop)(H':Hp):Prop where
 keep:∀b o,H b=some o→¬O b→H' b=some o
 dom:∀b,H' b=none→H b=none
 own:∀b,O' b→O b∨H b=none
theorem Tr.refl(O:Addr→Prop)(H:Hp):Tr O H O H:=⟨fun _ _ e _=>e,fun _ e=>e,fun _ h=>.inl h⟩
theorem Tr.of_same{O:Addr→Prop}{H H':Hp}(e:Same H H'):Tr O H O H':=⟨fun b o q _=>e b o q,fun b q=>e.free q,fun _ h=>.inl h⟩
theorem Tr.trans{O O1 O2:Addr→Prop}{H H1 H2:Hp}(a:Tr O H O1 H1)(b:Tr O1 H1 O2 H2):Tr O H O2 H2 where
 keep:=fun c o e n=>b.keep c o (a.keep c o e n) fun z=>by
  rcases a.own c z with q|q
  ·exact n q
  ·rw[e]at q;cases q
 dom:=fun c e=>a.dom c (b.dom c e)
 own:=fun c h=>by
  rcases b.own c h with q|q
  ·exact a.own c q
  ·exact .inr (a.dom c q)
noncomputable abbrev LD:={o:HO // isL o}
noncomputable abbrev TI(K:PySem.W.Frag)(H:Hp)(t:List Int)(x:V):Prop:=∃c,x=.ref c∧SqT K H c (t.map V.int)
noncomputable def OwnK(K:PySem.W.Frag)(H:Hp):List (List Int×List (List Int))→List (List Key×V)→List Addr→Prop
 | [],es,qs=>es=[]∧qs=[]
 |(k,ts)::r,es,qs=>∃q t xs es',qs=q::t∧es=(k.map Sum.inl, .ref q)::es'∧H q=some (.lst xs)∧Paired (TI K H) ts xs∧OwnK K H r es' t
theorem OwnK.isL{K:PySem.W.Frag}{H:Hp}:∀(kvs:List (List Int×List (List Int))) {es:List (List Key×V)} {qs:List Addr},OwnK K H kvs es qs→∀q∈qs,∃xs,H q=some (.lst xs)
 | [],es,qs,h,q,hq=>by rw[h.2]at hq;cases hq
 |(k,ts)::r,es,qs,⟨q',t,xs,es',e,_,h1,_,h3⟩,q,hq=>by
  subst e
  rcases List.mem_cons.mp hq with rfl|hq
  ·exact⟨xs,h1⟩
  ·exact OwnK.isL r h3 q hq
theorem OwnK.mono{K:PySem.W.Frag}{H H':Hp}(ht:∀a xs,SqT K H a xs→SqT K H' a xs):∀(kvs:List (List Int×List (List Int))) {es:List (List Key×V)} {qs:List Addr},(∀q∈qs,H' q=H q)→OwnK K H kvs es qs→OwnK K H' kvs es qs
 | [],es,qs,_,h=>h
 |(k,ts)::r,es,qs,hq,⟨q,t,xs,es',e,e2,h1,h2,h3⟩=>by
  subst e
  exact⟨q,t,xs,es',rfl,e2,by rw[hq q List.mem_cons_self];exact h1,Paired.imp' (fun _ _ ⟨c,e,s⟩=>⟨c,e,ht _ _ s⟩) h2,OwnK.mono ht r (fun z hz=>hq z (List.mem_cons_of_mem _ hz)) h3⟩
theorem OwnK.rep{K:PySem.W.Frag}{G:Addr→Prop}{H:Hp}:∀(kvs:List (List Int×List (List Int))) {es:List (List Key×V)} {qs:List Addr},(∀q∈qs,G q)→OwnK K H kvs es qs→Paired (fun(p:List Int×List (List Int)) (q:List Key×V)=>q.1=p.1.map Sum.inl∧LTI K G H p.2 q.2) kvs es
 | [],es,qs,_,h=>by rw[h.1];exact .nil
 |(k,ts)::r,es,qs,hq,⟨q,t,xs,es',e,e2,h1,h2,h3⟩=>by
  subst e e2
  exact .cons ⟨rfl,q,xs,rfl,LstAt.of h1 (hq q List.mem_cons_self),h2⟩ (OwnK.rep r (fun z hz=>hq z (List.mem_cons_of_mem _ hz)) h3)
noncomputable def Own(K:PySem.W.Frag)(B:Addr→Prop)(H:Hp):Sl→V→List Addr→Prop
 | .sh d,v,f=>f=[]∧Rep K B H d v
 | .ac ds,v,f=>∃p xs,v=.ref p∧f=[p]∧H p=some (.lst xs)∧RepL K B H ds xs
 | .an dss,v,f=>∃p qs,v=.ref p∧f=p::qs∧H p=some (.lst (qs.map .ref))∧OwnL K B H dss qs
 | .dc kvs,v,f=>∃p qs es,v=.ref p∧f=p::qs∧H p=some (.dT es)∧OwnK K H kvs es qs∧(kvs.map (·.1)).Nodup
 | .tk k,v,f=>∃p,v=.ref p∧f=[]∧H p=some (.tup (k.map V.int))
theorem OwnL.isL{K:PySem.W.Frag}{B:Addr→Prop}{H:Hp}:∀(dss:List (List D)) {qs:List Addr},OwnL K B H dss qs→∀q∈qs,∃xs,H q=some (.lst xs)
 | [],qs,h,q,hq=>by cases h;cases hq
 |ds::r,qs,⟨q',t,xs,e,h1,_,h3⟩,q,hq=>by
  subst e
  rcases List.mem_cons.mp hq with rfl|hq
  ·exact⟨xs,h1⟩
  ·exact OwnL.isL r h3 q hq
section
variable{K:PySem.W.Frag}{B B':Addr→Prop}{H H':Hp}
theorem Own.isL{sl:Sl}{v:V}{f:List Addr}(h:Own K B H sl v f):∀q∈f,∃xs:LD,H q=some xs.1:=by
 intro q hq
 cases sl with
 |sh d=>rw[h.1]at hq;cases hq
 |ac ds=>
  obtain⟨p,xs,_,rfl,h1,_⟩:=h
  cases List.mem_singleton.mp hq
  exact⟨⟨.lst xs,trivial⟩,h1⟩
 |an dss=>
  obtain⟨p,qs,_,rfl,h1,h2⟩:=h
  rcases List.mem_cons.mp hq with rfl|hq
  ·exact⟨⟨.lst _,trivial⟩,h1⟩
  ·obtain⟨xs,z⟩:=OwnL.isL dss h2 q hq
   exact⟨⟨.lst xs,trivial⟩,z⟩
 |dc kvs=>
  obtain⟨p,qs,es,_,rfl,h1,h2⟩:=h
  rcases List.mem_cons.mp hq with rfl|hq
  ·exact⟨⟨.dT es,trivial⟩,h1⟩
  ·obtain⟨xs,z⟩:=OwnK.isL kvs h2.1 q hq
   exact⟨⟨.lst xs,trivial⟩,z⟩
 |tk k=>
  obtain⟨p,_,rfl,_⟩:=h
  cases hq
theorem Own.mono(hT:∀a xs,H a=some (.tup xs)→H' a=some (.tup xs))(ht:∀a xs,SqT K H a xs→SqT K H' a xs)(k:∀d v,Rep K B H d v→Rep K B' H' d v)(kl:∀d v,RepL K B H d v→RepL K B' H' d v){sl:Sl}{v:V}{f:List Addr}(hf:∀q∈f,H' q=H q)(h:Own K B H sl v f):Own K B' H' sl v f:=by
 cases sl with
 |sh d=>exact⟨h.1,k _ _ h.2⟩
 |ac ds=>
  obtain⟨p,xs,e1,rfl,h1,h2⟩:=h
  exact⟨p,xs,e1,rfl,by rw[hf p (List.mem_singleton.mpr rfl)];exact h1,kl _ _ h2⟩
 |an dss=>
  obtain⟨p,qs,e1,rfl,h1,h2⟩:=h
  exact⟨p,qs,e1,rfl,by rw[hf p List.mem_cons_self];exact h1,OwnL.mono kl dss (fun q hq=>hf q (List.mem_cons_of_mem _ hq)) h2⟩
 |dc kvs=>
  obtain⟨p,qs,es,e1,rfl,h1,h2⟩:=h
  exact⟨p,qs,es,e1,rfl,by rw[hf p List.mem_cons_self];exact h1,OwnK.mono ht kvs (fun q hq=>hf q (List.mem_cons_of_mem _ hq)) h2.1,h2.2⟩
 |tk k=>
  obtain⟨p,e1,e2,h1⟩:=h
  exact⟨p,e1,e2,hT _ _ h1⟩
theorem OwnL.rep{G:Addr→Prop}(k:∀d v,RepL K B H d v→RepL K G H d v):∀(dss:List (List D)) {qs:List Addr},(∀q∈qs,G q)→OwnL K B H dss qs→RepL K G H (dss.map .lst) (qs.map .ref)
 | [],qs,_,h=>by cases h;exact RepL.nil
 |ds::r,qs,hq,⟨q,t,xs,e,h1,h2,h3⟩=>by
  subst e
  exact RepL.cons (Rep.lst h1 (hq q List.mem_cons_self) (k _ _ h2)) (OwnL.rep k r (fun z hz=>hq z (List.mem_cons_of_mem _ hz)) h3)
theorem repL_ints{G:Addr→Prop}:∀k:List Int,RepL K G H (k.map .int) (k.map V.int)
 | []=>RepL.nil
 |_::k=>RepL.cons Rep.int (repL_ints k)
theorem rep_ints{G:Addr→Prop}{k:List Int}{p:Addr}(h:H p=some (.tup (k.map V.int))):Rep K G H (.tup (k.map .int)) (.ref p):=Rep.tup (SqT.of h) (repL_ints k)
theorem Own.rep{G:Addr→Prop}(k:∀a,B a→G a){sl:Sl}{v:V}{f:List Addr}(hf:∀q∈f,G q)(h:Own K B H sl v f):Rep K G H sl.d v:=by
 cases sl with
 |sh d=>exact h.2.wid k
 |ac ds=>
  obtain⟨p,xs,rfl,rfl,h1,h2⟩:=h
  exact Rep.lst h1 (hf p (List.mem_singleton.mpr rfl)) (h2.wid k)
 |an dss=>
  obtain⟨p,qs,rfl,rfl,h1,h2⟩:=h
  exact Rep.lst h1 (hf p List.mem_cons_self) (OwnL.rep (fun d v z=>z.wid k) dss (fun q hq=>hf q (List.mem_cons_of_mem _ hq)) h2)
 |dc kvs=>
  obtain⟨p,qs,es,rfl,rfl,h1,h2⟩:=h
  show Rep K G H (.dct kvs) _
  simp only[Rep]
  exact⟨p,rfl,es,h1,hf p List.mem_cons_self,OwnK.rep kvs (fun q hq=>hf q (List.mem_cons_of_mem _ hq)) h2.1⟩
 |tk k=>
  obtain⟨p,rfl,_,h1⟩:=h
  exact rep_ints h1
end
structure Fps(K:PySem.W.Frag)(G O:Addr→Prop)(τ:Tau)(σ:St)(H:Hp)(F:Nat→List Addr):Prop where
 at_:∀(i:Nat) (sl:Sl),τ[i]? =some (some sl)→∃v,σ[i]? =some (some v)∧Own K (fun a=>G a∧¬O a) H sl v (F i)
 sub:∀i p,p∈F i→O p
 nd:∀i,(F i).Nodup
 dj:∀i j p,i≠j→p∈F i→p∉F j
structure StOk(K:PySem.W.Frag)(G O:Addr→Prop)(τ:Tau)(σ:St)(H:Hp):Prop where
 free:Free G H
 own:∀p,O p→G p∧∃xs:LD,H p=some xs.1
 len:τ.length=σ.length
 fps:∃F,Fps K G O τ σ H F
section
variable{K:PySem.W.Frag}{G O:Addr→Prop}{τ:Tau}{σ:St}{H H':Hp}
theorem StOk.hid(S:StOk K G O τ σ H):Free (fun a=>G a∧¬O a) H∧RepS K (fun a=>G a∧¬O a) H (hide τ) σ:=by
 refine⟨fun a e=>⟨S.free a e,fun z=> ?_⟩,fun i d e=> ?_⟩
 ·obtain⟨_,xs,q⟩:=S.own a z
  rw[q]at e;cases e
 ·obtain⟨F,P⟩:=S.fps
  unfold hide at e
  rw[List.getElem?_map]at e
  cases h:τ[i]? with
  |none=>rw[h]at e;cases e
  |some o=>
   rw[h]at e
   cases o with
   |none=>cases e
   |some sl=>
    obtain⟨v,h1,h2⟩:=P.at_ i sl h
    cases sl with
    |sh d'=>cases e;exact⟨v,h1,h2.2⟩
    |ac ds=>cases e
    |an ds=>cases e
    |dc ds=>cases e
    |tk k=>
     cases e
     obtain⟨p,rfl,_,h3⟩:=h2
     exact⟨_,h1,rep_ints h3⟩
theorem StOk.vw(S:StOk K G O τ σ H):RepS K G H (view τ) σ:=by
 intro i d e
 obtain⟨F,P⟩:=S.fps
 unfold view at e
 rw[List.getElem?_map]at e
 cases h:τ[i]? with
 |none=>rw[h]at e;cases e
 |some o=>
  rw[h]at e
  cases o with
  |none=>cases e
  |some sl=>
   cases e
   obtain⟨v,h1,h2⟩:=P.at_ i sl h
   exact⟨v,h1,h2.rep (fun a z=>z.1) fun q hq=>(S.own q (P.sub i q hq)).1⟩
theorem StOk.same(S:StOk K G O τ σ H)(e:Same H H'):StOk K G O τ σ H':=by
 obtain⟨F,P⟩:=S.fps
 refine⟨S.free.same e,fun p h=>let⟨a,xs,b⟩:=S.own p h;⟨a,xs,e _ _ b⟩,S.len,F,fun i sl h=> ?_,P.sub,P.nd,P.dj⟩
 obtain⟨v,h1,h2⟩:=P.at_ i sl h
 refine⟨v,h1,h2.mono (fun _ _ z=>e _ _ z) (fun _ _ z=>Same.seqT e z) (fun d v z=>z.same e) (fun d v z=>z.same e) fun q hq=> ?_⟩
 obtain⟨_,xs,z⟩:=S.own q (P.sub i q hq)
 rw[z,e _ _ z]
theorem StOk.step(S:StOk K G O τ σ H){F:Nat→List Addr}(P:Fps K G O τ σ H F){i:Nat}{sl:Sl}{v:V}{f:List Addr}(kp:∀b o,H b=some o→b∉F i→H' b=some o)(dom:∀b,H' b=none→H b=none)
  (hf:f.Nodup) (hn:∀q∈f,q∈F i∨H q=none) (h:Own K (fun a=>G a∧¬((O a∧a∉F i)∨a∈f)) H' sl v f):
  StOk K G (fun a=>(O a∧a∉F i)∨a∈f) (τ.set i (some sl)) (σ.set i (some v)) H'∧Tr O H (fun a=>(O a∧a∉F i)∨a∈f) H':=by
 have bw:∀a,(G a∧¬O a)∧H a≠none→G a∧¬((O a∧a∉F i)∨a∈f):=fun a z=>⟨z.1.1,fun q=>by
  rcases q with q|q
  ·exact z.1.2 q.1
  ·rcases hn a q with y|y
   ·exact z.1.2 (P.sub i a y)
   ·exact z.2 y⟩
 have kg:KeepG (fun a=>(G a∧¬O a)∧H a≠none) H H':=fun b o e hb=>kp b o e fun z=>by
  obtain⟨_,xs,ex⟩:=S.own b (P.sub i b z)
  rcases hb with hb|hb
  ·exact hb.1.2 (P.sub i b z)
  ·rw[e]at ex;cases ex;exact hb xs.2
 refine⟨⟨fun a e=>S.free a (dom a e),fun p hp=> ?_,by simpa using S.len,fun j=>if j=i then f else F j,fun j sl' hj=> ?_,fun j p hp=> ?_,fun j=> ?_,fun j l p hjl hp hp'=> ?_⟩,⟨fun b o e n=>kp b o e fun z=>n (P.sub i b z),dom,fun b z=> ?_⟩⟩
 ·rcases hp with hp|hp
  ·obtain⟨a,xs,e⟩:=S.own p hp.1
   exact⟨a,xs,kp p _ e hp.2⟩
  ·obtain⟨xs,e⟩:=h.isL p hp
   refine⟨?_,xs,e⟩
   rcases hn p hp with y|y
   ·exact(S.own p (P.sub i p y)).1
   ·exact S.free p y
 ·by_cases hji:j=i
  ·subst hji
   have hlt:j<τ.length:=by have:=(List.getElem?_eq_some_iff.mp hj).1;simpa using this
   rw[List.getElem?_set_self hlt]at hj
   cases hj
   simp only[if_true]
   exact⟨v,List.getElem?_set_self (by rw[←S.len];exact hlt),h⟩
  ·rw[List.getElem?_set_ne (Ne.symm hji)]at hj ⊢
   simp only[hji,if_false]
   obtain⟨v',h1,h2⟩:=P.at_ j sl' hj
   refine⟨v',h1,h2.mono (fun _ _ z=>kg _ _ z (.inr fun y=>y)) (fun _ _ z=>kg.seqT z) (fun d u z=>(Rep.keep kg _ (Rep.there d z)).wid bw) (fun d u z=>(RepL.keep kg _ (RepL.there d z)).wid bw) fun q hq=> ?_⟩
   obtain⟨xs,z⟩:=h2.isL q hq
   rw[z,kp q _ z (P.dj j i q hji hq)]
 ·by_cases hji:j=i
  ·simp only[hji,if_true]at hp;exact .inr hp
  ·simp only[hji,if_false]at hp;exact .inl ⟨P.sub j p hp,P.dj j i p hji hp⟩
 ·by_cases hji:j=i
  ·simp only[hji,if_true];exact hf
  ·simp only[hji,if_false];exact P.nd j
 ·by_cases hji:j=i<;>by_cases hli:l=i
  ·exact hjl (hji.trans hli.symm)
  ·simp only[hji,hli,if_true,if_false]at hp hp'
   rcases hn p hp with y|y
   ·exact P.dj l i p hli hp' y
   ·obtain⟨_,xs,e⟩:=S.own p (P.sub l p hp')
    rw[y]at e;cases e
  ·simp only[hji,hli,if_true,if_false]at hp hp'
   rcases hn p hp' with y|y
   ·exact P.dj j i p hji hp y
   ·obtain⟨_,xs,e⟩:=S.own p (P.sub j p hp)
    rw[y]at e;cases e
  ·simp only[hji,hli,if_false]at hp hp'
   exact P.dj j l p hjl hp hp'
 ·rcases z with z|z
  ·exact .inl z.1
  ·rcases hn b z with y|y
   ·exact .inl (P.sub i b y)
   ·exact .inr y
theorem StOk.set'(S:StOk K G O τ σ H){i:Nat}{d:D}{v:V}(r:Rep K (fun a=>G a∧¬O a) H d v):∃O',(∀a,O' a→O a)∧StOk K G O' (τ.set i (some (.sh d))) (σ.set i (some v)) H∧Tr O H O' H:=by
 obtain⟨F,P⟩:=S.fps
 exact⟨_,fun a z=>z.elim (fun y=>y.1) (fun y=>by cases y),S.step P (fun b o e _=>e) (fun b e=>e) List.nodup_nil (fun q hq=>by cases hq) (sl:=.sh d) (v:=v) (f:=[]) ⟨rfl,r.wid fun a z=>⟨z.1,fun y=>by
  rcases y with y|y
  ·exact z.2 y.1
  ·cases y⟩⟩⟩
theorem StOk.new(S:StOk K G O τ σ H){i:Nat}{ds:List D}{p:Addr}{xs:List V}{H1:Hp}(e:Same H H1)(hn:H p=none)(hp:H1 p=some (.lst xs))(r:RepL K (fun a=>(G a∧¬O a)∧a≠p) H1 ds xs):
  ∃O',StOk K G O' (τ.set i (some (.ac ds))) (σ.set i (some (.ref p))) H1∧Tr O H O' H1:=by
 obtain⟨F,P⟩:=S.fps
 refine⟨_,S.step P (fun b o q _=>e b o q) (fun b q=>e.free q) (f:=[p]) (by simp) (fun q hq=>.inr (by rw[List.mem_singleton.mp hq];exact hn)) (sl:=.ac ds) (v:=.ref p) ⟨p,xs,rfl,rfl,hp,r.wid fun a z=>⟨z.1.1,fun y=> ?_⟩⟩⟩
 rcases y with y|y
 ·exact z.1.2 y.1
 ·exact z.2 (List.mem_singleton.mp y)
theorem StOk.newN(S:StOk K G O τ σ H){i:Nat}{dss:List (List D)}{p:Addr}{qs:List Addr}{H1:Hp}(e:Same H H1)(hn:H p=none)(hp:H1 p=some (.lst (qs.map .ref)))(r:OwnN K (fun a=>G a∧¬O a) H H1 p dss qs):
  ∃O',StOk K G O' (τ.set i (some (.an dss))) (σ.set i (some (.ref p))) H1∧Tr O H O' H1:=by
 obtain⟨F,P⟩:=S.fps
 obtain⟨r1,r2,r3⟩:=r
 refine⟨_,S.step P (fun b o q _=>e b o q) (fun b q=>e.free q) (f:=p::qs) r1 (fun q hq=> ?_) (sl:=.an dss) (v:=.ref p) ⟨p,qs,rfl,rfl,hp,OwnL.mono (fun d v z=>z.wid fun a y=>⟨y.1.1,fun w=> ?_⟩) dss (fun _ _=>rfl) r3⟩⟩
 ·rcases List.mem_cons.mp hq with rfl|hq
  ·exact .inr hn
  ·exact .inr (r2 q hq).1
 ·rcases w with w|w
  ·exact y.1.2 w.1
  ·exact y.2 w
theorem StOk.upd(S:StOk K G O τ σ H){i:Nat}{ds es:List D}{p:Addr}{ys:List V}(h:τ[i]? =some (some (.ac ds)))(hp:σ[i]? =some (some (.ref p)))(r:RepL K (fun a=>G a∧¬O a) H es ys):
  ∃O',StOk K G O' (τ.set i (some (.ac es))) σ (L2.upd H p (.lst ys))∧Tr O H O' (L2.upd H p (.lst ys)):=by
 obtain⟨F,P⟩:=S.fps
 obtain⟨v,h1,p',xs,ev,ef,h2,h3⟩:=P.at_ i _ h
 rw[hp]at h1
 cases h1
 cases ev
 have kg:KeepG (fun a=>(G a∧¬O a)) H (L2.upd H p (.lst ys)):=upd_keepG (fun z=>z.2 (P.sub i p (by rw[ef];simp))) h2
 have hs:σ.set i (some (.ref p))=σ:=by
  apply List.ext_getElem?
  intro j
  by_cases hij:i=j
  ·subst hij
   rw[List.getElem?_set_self (List.getElem?_eq_some_iff.mp hp).1,hp]
  ·rw[List.getElem?_set_ne hij]
 have z:=S.step P (H':=L2.upd H p (.lst ys)) (i:=i) (f:=[p]) (sl:=.ac es) (v:=.ref p) (fun b o e nb=>by
   rw[upd_ne]
   ·exact e
   ·intro z;subst z;exact nb (by rw[ef];simp)) (fun b e=>by
   by_cases z:b=p
   ·subst z;rw[upd_same]at e;cases e
   ·rw[upd_ne z]at e;exact e) (by simp) (fun q hq=>.inl (by rw[ef];exact hq)) ⟨p,ys,rfl,rfl,upd_same,(RepL.keep kg _ r).wid fun a y=>⟨y.1,fun w=>by
   rcases w with w|w
   ·exact y.2 w.1
   ·exact y.2 (P.sub i a (by rw[ef];exact w))⟩⟩
 rw[hs]at z
 exact⟨_,z⟩
theorem OwnL.get{K:PySem.W.Frag}{B:Addr→Prop}{H:Hp}:∀(dss:List (List D)) {qs:List Addr} {n:Nat} {ds:List D},OwnL K B H dss qs→dss[n]? =some ds→∃q xs,qs[n]? =some q∧H q=some (.lst xs)∧RepL K B H ds xs
 | [],qs,n,ds,_,e=>by simp at e
 |es::r,qs,0,ds,⟨q,t,xs,eq,h1,h2,_⟩,e=>by subst eq;simp at e;subst e;exact⟨q,xs,rfl,h1,h2⟩
 |es::r,qs,n+1,ds,⟨q,t,xs,eq,_,_,h3⟩,e=>by
  subst eq
  obtain⟨q',ys,a,b⟩:=OwnL.get r (n:=n) h3 (by simpa using e)
  exact⟨q',ys,by simpa using a,b⟩
theorem OwnL.put{K:PySem.W.Frag}{B:Addr→Prop}{H:Hp}{q:Addr}{es:List D}{ys:List V}(k:∀ds xs,RepL K B H ds xs→RepL K B (L2.upd H q (.lst ys)) ds xs)(r:RepL K B H es ys):∀(dss:List (List D)) {qs:List Addr} {n:Nat},qs.Nodup→OwnL K B H dss qs→qs[n]? =some q→OwnL K B (L2.upd H q (.lst ys)) (dss.set n es) qs
 | [],qs,n,_,h,e=>by cases h;simp at e
 |ds::t,qs,0,nd,⟨q',u,xs,eq,h1,h2,h3⟩,e=>by
  subst eq
  simp at e
  subst e
  refine⟨q',u,ys,rfl,upd_same,k _ _ r,OwnL.mono k t (fun z hz=> ?_) h3⟩
  rw[upd_ne]
  intro w
  subst w
  exact(List.nodup_cons.mp nd).1 hz
 |ds::t,qs,n+1,nd,⟨q',u,xs,eq,h1,h2,h3⟩,e=>by
  subst eq
  have e':u[n]? =some q:=by simpa using e
  have hne:q'≠q:=fun w=>(List.nodup_cons.mp nd).1 (by rw[w];exact List.mem_of_getElem? e')
  exact⟨q',u,xs,rfl,by rw[upd_ne hne];exact h1,k _ _ h2,OwnL.put k r t (List.nodup_cons.mp nd).2 h3 e'⟩
theorem StOk.updN(S:StOk K G O τ σ H){i n:Nat}{dss:List (List D)}{ds es:List D}{p:Addr}(h:τ[i]? =some (some (.an dss)))(hp:σ[i]? =some (some (.ref p)))(hd:dss[n]? =some ds):
  ∃(qs:List Addr) (q:Addr) (xs:List V),H p=some (.lst (qs.map .ref))∧qs[n]? =some q∧H q=some (.lst xs)∧RepL K (fun a=>G a∧¬O a) H ds xs∧qs.length=dss.length∧
   ∀ys,RepL K (fun a=>G a∧¬O a) H es ys→∃O',StOk K G O' (τ.set i (some (.an (dss.set n es)))) σ (L2.upd H q (.lst ys))∧Tr O H O' (L2.upd H q (.lst ys)):=by
 obtain⟨F,P⟩:=S.fps
 obtain⟨v,h1,p',qs,ev,ef,h2,h3⟩:=P.at_ i _ h
 rw[hp]at h1
 cases h1
 cases ev
 obtain⟨q,xs,g1,g2,g3⟩:=OwnL.get dss h3 hd
 have hqm:=List.mem_of_getElem? g1
 have nd:=P.nd i
 rw[ef]at nd
 refine⟨qs,q,xs,h2,g1,g2,g3,OwnL.length dss h3,fun ys r=> ?_⟩
 have hqF:q∈F i:=by rw[ef];exact List.mem_cons_of_mem _ hqm
 have hqp:p≠q:=fun w=>(List.nodup_cons.mp nd).1 (by rw[w];exact hqm)
 have kg:KeepG (fun a=>(G a∧¬O a)) H (L2.upd H q (.lst ys)):=upd_keepG (fun z=>z.2 (P.sub i q hqF)) g2
 have hs:σ.set i (some (.ref p))=σ:=by
  apply List.ext_getElem?
  intro j
  by_cases hij:i=j
  ·subst hij
   rw[List.getElem?_set_self (List.getElem?_eq_some_iff.mp hp).1,hp]
  ·rw[List.getElem?_set_ne hij]
 have z:=S.step P (H':=L2.upd H q (.lst ys)) (i:=i) (f:=p::qs) (sl:=.an (dss.set n es)) (v:=.ref p) (fun b o e nb=>by
   rw[upd_ne]
   ·exact e
   ·intro z;subst z;exact nb hqF) (fun b e=>by
   by_cases z:b=q
   ·subst z;rw[upd_same]at e;cases e
   ·rw[upd_ne z]at e;exact e) nd (fun q hq=>.inl (by rw[ef];exact hq)) ⟨p,qs,rfl,rfl,by rw[upd_ne hqp];exact h2,OwnL.mono (fun d u z=>z.wid fun a y=>⟨y.1,fun w=>by
   rcases w with w|w
   ·exact y.2 w.1
   ·exact y.2 (P.sub i a (by rw[ef];exact w))⟩) _ (fun _ _=>rfl) (OwnL.put (fun d u z=>RepL.keep kg _ z) r dss (List.nodup_cons.mp nd).2 h3 g1)⟩
 rw[hs]at z
 exact⟨_,z⟩
theorem StOk.ac(S:StOk K G O τ σ H){i:Nat}{ds:List D}(h:τ[i]? =some (some (.ac ds))):∃p xs,σ[i]? =some (some (.ref p))∧H p=some (.lst xs)∧RepL K (fun a=>G a∧¬O a) H ds xs:=by
 obtain⟨F,P⟩:=S.fps
 obtain⟨v,h1,p,xs,rfl,_,h2,h3⟩:=P.at_ i _ h
 exact⟨p,xs,h1,h2,h3⟩
theorem StOk.an(S:StOk K G O τ σ H){i:Nat}{dss:List (List D)}(h:τ[i]? =some (some (.an dss))):∃p,σ[i]? =some (some (.ref p)):=by
 obtain⟨F,P⟩:=S.fps
 obtain⟨v,h1,p,qs,rfl,_⟩:=P.at_ i _ h
 exact⟨p,h1⟩
theorem StOk.frz(S:StOk K G O τ σ H){i:Nat}{sl:Sl}(h:τ[i]? =some (some sl)):∃O',StOk K G O' (τ.set i (some (.sh sl.d))) σ H∧Tr O H O' H:=by
 obtain⟨F,P⟩:=S.fps
 obtain⟨v,h1,h2⟩:=P.at_ i _ h
 have hs:σ.set i (some v)=σ:=by
  apply List.ext_getElem?
  intro j
  by_cases hij:i=j
  ·subst hij
   rw[List.getElem?_set_self (List.getElem?_eq_some_iff.mp h1).1,h1]
  ·rw[List.getElem?_set_ne hij]
 have z:=S.step P (H':=H) (i:=i) (f:=[]) (sl:=.sh sl.d) (v:=v) (fun b o e _=>e) (fun b e=>e) List.nodup_nil (fun q hq=>by cases hq) ⟨rfl,h2.rep (fun a y=>⟨y.1,fun w=>by
   rcases w with w|w
   ·exact y.2 w.1
   ·cases w⟩) fun q hq=>⟨(S.own q (P.sub i q hq)).1,fun w=>by
   rcases w with w|w
   ·exact w.2 hq
   ·cases w⟩⟩
 rw[hs]at z
 exact⟨_,z⟩
end
end L3
namespace L3
open PySem PySem.Spec L2
open PyProof.Rows hiding St
noncomputable def EndsOk(X:Cx)(G O:Addr→Prop)(H:Hp)(E:Ends)(r:Fl):Prop:=match r with
 | .nx τ'=>∀O' σ' H',Tr O H O' H'→StOk X.K G O' τ' σ' H'→E.nx σ' H'
 | .rt d=>∀O' v H',Tr O H O' H'→Rep X.K G H' d v→E.rt v H'
 | .bk τ'=>∀O' σ' H',Tr O H O' H'→StOk X.K G O' τ' σ' H'→E.bk σ' H'
 | .ct τ'=>∀O' σ' H',Tr O H O' H'→StOk X.K G O' τ' σ' H'→E.ct σ' H'
 | .ex c τ'=>X.ex=[]∧∀O' pins σ' H' e s',Tr O H O' H'→StOk X.K G O' τ' σ' H'→Inv X pins σ' H' s'→Fly X pins H' e (clsA X.K c) s'.heap→X.xe (.ref e) s'
 | .bad=>False
theorem EndsOk.xq{X:Cx}{G O:Addr→Prop}{H:Hp}{E:Ends}{c:Nat}{τ:Tau}{σ:St}(h:EndsOk X G O H E (.ex c τ))(S:StOk X.K G O τ σ H):XQ X σ H c:=
 ⟨h.1,fun pins e s' H' sm I f=>h.2 O pins σ H' e s' (Tr.of_same sm) (S.same sm) I f⟩
theorem EndsOk.tr{X:Cx}{G O O1:Addr→Prop}{H H1:Hp}{E:Ends}{r:Fl}(h:EndsOk X G O H E r)(t:Tr O H O1 H1):EndsOk X G O1 H1 E r:=by
 cases r with
 |nx τ'=>exact fun O' σ' H' t' s=>h O' σ' H' (t.trans t') s
 |rt d=>exact fun O' v H' t' s=>h O' v H' (t.trans t') s
 |bk τ'=>exact fun O' σ' H' t' s=>h O' σ' H' (t.trans t') s
 |ct τ'=>exact fun O' σ' H' t' s=>h O' σ' H' (t.trans t') s
 |ex c τ'=>exact⟨h.1,fun O' pins σ' H' e s' t'=>h.2 O' pins σ' H' e s' (t.trans t')⟩
 |bad=>exact h
noncomputable def tS(X:Cx)(M:Tau→Fl):TS:=fun E σ H=>∃(G O:Addr→Prop) (τ:Tau),StOk X.K G O τ σ H∧EndsOk X G O H E (M τ)
noncomputable def PSD(X:Cx)(st:Stmt)(M:Tau→Fl):Prop:=PS X st (tS X M)
noncomputable def PSS(X:Cx)(sts:List Stmt)(M:Tau→Fl):Prop:=PSs X sts (tS X M)
theorem _root_.L2.PS.imp{X:Cx}{e:Stmt}{t t':TS}(h:PS X e t)(i:∀D σ H,t' D σ H→t D σ H):PS X e t':=fun pins s σ H D I q=>h pins s σ H D I (i D σ H q)
theorem _root_.L2.PSs.imp{X:Cx}{e:List Stmt}{t t':TS}(h:PSs X e t)(i:∀D σ H,t' D σ H→t D σ H):PSs X e t':=fun pins s σ H D I q=>h pins s σ H D I (i D σ H q)
noncomputable def sq(M N:Tau→Fl):Tau→Fl:=fun τ=>match M τ with
 | .nx τ'=>N τ'
 |r=>r
noncomputable def sk:Tau→Fl:=fun τ=>.nx τ
noncomputable def sno:Tau→Fl:=fun _=>.bad
section
variable{X:Cx}{st:Stmt}{rest:List Stmt}{M N:Tau→Fl}{pos:Pos}
theorem ss_nil:PSS X [] sk:=pss_nil.imp fun E σ H ⟨G,O,τ,S,q⟩=>q O σ H (Tr.refl O H) S
theorem ss_cons(h1:PSD X st M)(h2:PSS X rest N):PSS X (st::rest) (sq M N):=(pss_cons h1 h2).imp fun E σ H ⟨G,O,τ,S,q⟩=>by
 refine⟨G,O,τ,S,?_⟩
 unfold sq at q
 cases e:M τ with
 |nx τ'=>rw[e]at q;exact fun O' σ' H' t s=>⟨G,O',τ',s,EndsOk.tr (r:=N τ') q t⟩
 |rt d=>rw[e]at q;exact q
 |bk τ'=>rw[e]at q;exact q
 |ct τ'=>rw[e]at q;exact q
 |ex c τ'=>rw[e]at q;exact q
 |bad=>rw[e]at q;exact q
theorem ss_one(h1:PSD X st M):PSS X [st] M:=pss_one h1
noncomputable def sRet(m:Rho→R D):Tau→Fl:=fun τ=>match m (view τ)with
 | .ok d=>.rt d
 | .ex c=>.ex c τ
 | .bad=>.bad
theorem s_ret{e:Expr}{m:Rho→R D}(he:PD X e m):PSD X (.Return (some e) pos) (sRet m):=(ps_ret he).imp fun E σ H ⟨G,O,τ,S,q⟩=>by
 refine⟨G,view τ,S.free,S.vw,?_⟩
 unfold sRet at q
 cases h:m (view τ)with
 |ok d=>rw[h]at q;exact fun v H' e r=>q O v H' (Tr.of_same e) r
 |ex c=>rw[h]at q;exact EndsOk.xq q S
 |bad=>rw[h]at q;exact q.elim
noncomputable def sSet(i:Nat)(m:Rho→R D):Tau→Fl:=fun τ=>match m (hide τ)with
 | .ok d=>.nx (τ.set i (some (.sh d)))
 | .ex c=>.ex c τ
 | .bad=>.bad
theorem s_set{i:Nat}{x:Str}{e:Expr}{m:Rho→R D}{pos':Pos}(he:PD X e m)(hN:ndB X.N=true:=by kernel_rfl)(hi:X.N[i]? =some x:=by rfl)(hx:Loc X.env.scope x:=by first|exact Or.inl rfl|exact Or.inr rfl)(hs:swapsWith e (some (.Name x pos')) pos.line X.env=pure false:=by rfl)
  (hf:X.fn x=true∨X.env.scope.names.lookup x=some .local:=by first|exact .inl rfl|exact .inr rfl):PSD X (.Assign [.Name x pos'] e pos) (sSet i m):=
 (ps_set (nd_of hN) hi hx he hs hf).imp fun E σ H ⟨G,O,τ,S,q⟩=>by
  refine⟨_,hide τ,S.hid.1,S.hid.2,?_⟩
  unfold sSet at q
  cases h:m (hide τ)with
  |ok d=>rw[h]at q;exact fun v H' e r=>let⟨O',_,s1,t1⟩:=(S.same e).set' (i:=i) r;q O' _ H' ((Tr.of_same e).trans t1) s1
  |ex c=>rw[h]at q;exact EndsOk.xq q S
  |bad=>rw[h]at q;exact q.elim
noncomputable def noL:D→Bool
 | .lst _=>false
 | .dct _=>false
 | .tup xs=>noLs xs
 |_=>true
where noLs:List D→Bool
 | []=>true
 |x::xs=>noL x&&noLs xs
mutual
theorem noL_rep{K:PySem.W.Frag}{G G':Addr→Prop}{H:Hp}:∀(d:D) {v:V},noL d=true→Rep K G H d v→Rep K G' H d v
 | .non,_,_,h=>by simpa only[Rep]using h
 | .bl _,_,_,h=>by simpa only[Rep]using h
 | .int _,_,_,h=>by simpa only[Rep]using h
 | .str _,_,_,h=>by simpa only[Rep]using h
 | .tup ds,v,n,h=>by
  obtain⟨a,xs,rfl,s,r⟩:=h.tup_of
  exact Rep.tup s (noLs_rep ds (by simpa only[noL]using n) r)
 | .lst ds,v,n,h=>by simp[noL]at n
 | .exc c,v,n,h=>by simpa only[Rep]using h
 | .dct c,v,n,h=>by simp[noL]at n
theorem noLs_rep{K:PySem.W.Frag}{G G':Addr→Prop}{H:Hp}:∀(ds:List D) {xs:List V},noL.noLs ds=true→RepL K G H ds xs→RepL K G' H ds xs
 | [],_,_,h=>by simpa only[RepL]using h
 |d::ds,xs,n,h=>by
  obtain⟨x,r,rfl,h1,h2⟩:=h.uncons
  simp only[noL.noLs,Bool.and_eq_true]at n
  exact RepL.cons (noL_rep d n.1 h1) (noLs_rep ds n.2 h2)
end
noncomputable def sSetF(i:Nat)(m:Rho→R D):Tau→Fl:=fun τ=>match m (view τ)with
 | .ok d=>if noL d=true then .nx (τ.set i (some (.sh d)))else .bad
 | .ex c=>.ex c τ
 | .bad=>.bad
theorem s_setF{i:Nat}{x:Str}{e:Expr}{m:Rho→R D}{pos':Pos}(he:PD X e m)(hN:ndB X.N=true:=by kernel_rfl)(hi:X.N[i]? =some x:=by rfl)(hx:Loc X.env.scope x:=by first|exact Or.inl rfl|exact Or.inr rfl)(hs:swapsWith e (some (.Name x pos')) pos.line X.env=pure false:=by rfl)
  (hf:X.fn x=true∨X.env.scope.names.lookup x=some .local:=by first|exact .inl rfl|exact .inr rfl):PSD X (.Assign [.Name x pos'] e pos) (sSetF i m):=
 (ps_set (nd_of hN) hi hx he hs hf).imp fun E σ H ⟨G,O,τ,S,q⟩=>by
  refine⟨G,view τ,S.free,S.vw,?_⟩
  unfold sSetF at q
  cases h:m (view τ)with
  |ok d=>
   rw[h]at q
   by_cases hn:noL d=true
   ·simp only[hn,if_true]at q
    exact fun v H' e r=>let⟨O',_,s1,t1⟩:=(S.same e).set' (i:=i) (noL_rep d hn r);q O' _ H' ((Tr.of_same e).trans t1) s1
   ·simp only[hn,if_false]at q
    exact q.elim
  |ex c=>rw[h]at q;exact EndsOk.xq q S
  |bad=>rw[h]at q;exact q.elim
noncomputable def sNew(i:Nat)(m:Rho→R (List D)):Tau→Fl:=fun τ=>match m (hide τ)with
 | .ok ds=>.nx (τ.set i (some (.ac ds)))
 | .ex c=>.ex c τ
 | .bad=>.bad
theorem s_new{i:Nat}{x:Str}{e:Expr}{m:Rho→R (List D)}{pos':Pos}(he:PN X e m)(hN:ndB X.N=true:=by kernel_rfl)(hi:X.N[i]? =some x:=by rfl)(hx:Loc X.env.scope x:=by first|exact Or.inl rfl|exact Or.inr rfl)(hs:swapsWith e (some (.Name x pos')) pos.line X.env=pure false:=by rfl)
  (hf:X.fn x=true∨X.env.scope.names.lookup x=some .local:=by first|exact .inl rfl|exact .inr rfl):PSD X (.Assign [.Name x pos'] e pos) (sNew i m):=
 (ps_set (nd_of hN) hi hx he hs hf).imp fun E σ H ⟨G,O,τ,S,q⟩=>by
  refine⟨_,hide τ,S.hid.1,S.hid.2,?_⟩
  unfold sNew at q
  cases h:m (hide τ)with
  |ok d=>
   rw[h]at q
   intro v H' e ⟨p,xs,ev,hp,hp',r⟩
   subst ev
   obtain⟨O',s1,t1⟩:=S.new (i:=i) e hp hp' r
   exact q O' _ H' t1 s1
  |ex c=>rw[h]at q;exact EndsOk.xq q S
  |bad=>rw[h]at q;exact q.elim
noncomputable def sIf(c:Rho→R Bool)(M N:Tau→Fl):Tau→Fl:=fun τ=>match c (view τ)with
 | .ok b=>if b=true then M τ else N τ
 | .ex c=>.ex c τ
 | .bad=>.bad
theorem s_if{c:Expr}{a b:List Stmt}{mc:Rho→R Bool}(hc:PDT X c mc)(ha:PSS X a M)(hb:PSS X b N):PSD X (.If c a b pos) (sIf mc M N):=(ps_if hc ha hb).imp fun E σ H ⟨G,O,τ,S,q⟩=>by
 refine⟨G,view τ,S.free,S.vw,?_⟩
 unfold sIf at q
 cases h:mc (view τ)with
 |ok k=>
  rw[h]at q
  intro b' H' e r
  cases r
  cases k with
  |true=>exact⟨G,O,τ,S.same e,EndsOk.tr (r:=M τ) q (Tr.of_same e)⟩
  |false=>exact⟨G,O,τ,S.same e,EndsOk.tr (r:=N τ) q (Tr.of_same e)⟩
 |ex c=>rw[h]at q;exact EndsOk.xq q S
 |bad=>rw[h]at q;exact q.elim
noncomputable def sDrop(m:Rho→R D):Tau→Fl:=fun τ=>match m (view τ)with
 | .ok _=>.nx τ
 | .ex c=>.ex c τ
 | .bad=>.bad
theorem s_expr{e:Expr}{m:Rho→R D}(he:PD X e m)(hs:swapsWith e none pos.line X.env=pure false:=by rfl):PSD X (.Expr e pos) (sDrop m):=(ps_expr he hs).imp fun E σ H ⟨G,O,τ,S,q⟩=>by
 refine⟨G,view τ,S.free,S.vw,?_⟩
 unfold sDrop at q
 cases h:m (view τ)with
 |ok d=>rw[h]at q;exact fun v H' e r=>q O _ H' (Tr.of_same e) (S.same e)
 |ex c=>rw[h]at q;exact EndsOk.xq q S
 |bad=>rw[h]at q;exact q.elim
noncomputable def sApp(i:Nat)(m:Rho→R D):Tau→Fl:=fun τ=>match τ[i]?,m (hide τ)with
 |some (some (.ac ds)), .ok d=>if ds.length<sizeLine then .nx (τ.set i (some (.ac (ds++[d]))))else .bad
 |some (some (.ac _)), .ex c=>.ex c τ
 |_,_=>.bad
theorem s_app{i:Nat}{x:Str}{e:Expr}{m:Rho→R D}{p1 apos cpos:Pos}(he:PD X e m)(hi:X.N[i]? =some x:=by rfl)(hv:Vis X.env.scope x:=by first|exact Or.inl rfl|exact Or.inr (Or.inl rfl)|exact Or.inr (Or.inr rfl))
  (hbase:attributeBase (.Name x p1) "append" X.env (eval (.Name x p1) X.env)=eval (.Name x p1) X.env:=by rfl)
  (hfew:((backTo cpos (starEach [e] X.env)).all (fun x=> !x.1)&&(backToKw cpos (keywordEach [] X.env)).all (fun x=>x.1.isSome)&&decide ([e].length+([]:List Keyword).length+(if([]:List Keyword).isEmpty then 0 else 1)<30))=true:=by rfl)
  (hline:(apos.endLine == cpos.line)=true:=by rfl) (hs:starEach [e] X.env=(false,eval e X.env)::starEach [] X.env:=by rfl) (hd:(x == ("__debug__":Str))=false:=by decide) (hcd:(x == ("__classdict__":Str))=false:=by decide)
  (hsw:swapsWith (.Call (.Attribute (.Name x p1) "append" apos) [e] [] cpos) none pos.line X.env=pure false:=by rfl):
  PSD X (.Expr (.Call (.Attribute (.Name x p1) "append" apos) [e] [] cpos) pos) (sApp i m):=
 (ps_expr (pe_bm PySem.F.plainAttrs_list PySem.F.slot_list_append PySem.F.type_list_append mt_append (pe_var hi hv hd hcd) (pa_cons he pa_nil hs) hbase hfew hline hs) hsw).imp fun E σ H ⟨G,O,τ,S,q⟩=>by
  unfold sApp at q
  split at q
  ·rename_i ds d h1 h2
   obtain⟨p,xs,a,c,r⟩:=S.ac h1
   refine⟨.ref p,a, .inl ⟨rfl,_,SqL.of c⟩,_,hide τ,S.hid.1,S.hid.2,?_⟩
   rw[h2]
   intro v H1 e1 rv
   split at q
   ·rename_i hl
    obtain⟨O',s1,t1⟩:=(S.same e1).upd h1 a ((r.same e1).append (RepL.cons rv RepL.nil))
    exact⟨p,xs,v,rfl,rfl,e1 _ _ c,by rw[r.length];exact hl,q O' _ _ ((Tr.of_same e1).trans t1) s1⟩
   ·exact q.elim
  ·rename_i ds c h1 h2
   obtain⟨p,xs,a,c',r⟩:=S.ac h1
   refine⟨.ref p,a, .inl ⟨rfl,_,SqL.of c'⟩,_,hide τ,S.hid.1,S.hid.2,?_⟩
   rw[h2]
   exact EndsOk.xq q S
  ·exact q.elim
noncomputable def setT:Tau→List Nat→List D→Tau
 |τ,i::is,d::ds=>setT (τ.set i (some (.sh d))) is ds
 |τ,_,_=>τ
noncomputable def forL(is:List Nat)(f:D→R (List D))(B:Tau→Fl):List D→Tau→Fl
 | [],τ=>.nx τ
 |d::ds,τ=>match f d with
  | .ok vs=>match B (setT τ is vs)with
   | .nx τ'=>forL is f B ds τ'
   | .ct τ'=>forL is f B ds τ'
   | .bk τ'=>.nx τ'
   | .rt d=>.rt d
   | .ex c τ'=>.ex c τ'
   | .bad=>.bad
  |_=>.bad
noncomputable def sFor(src:Rho→R (List D))(is:List Nat)(f:D→R (List D))(B:Tau→Fl):Tau→Fl:=fun τ=>match src (hide τ)with
 | .ok ds=>forL is f B ds τ
 | .ex c=>.ex c τ
 | .bad=>.bad
theorem StOk.setM{K:PySem.W.Frag}{G:Addr→Prop}{H:Hp}:∀(is:List Nat) (ds:List D) (vs:List V) {O:Addr→Prop} {τ:Tau} {σ:St},StOk K G O τ σ H→RepL K (fun a=>G a∧¬O a) H ds vs→∃O',StOk K G O' (setT τ is ds) (L3.setM σ is vs) H∧Tr O H O' H
 | [],ds,vs,O,τ,σ,S,r=>by cases ds<;>cases vs<;>exact⟨O,S,Tr.refl O H⟩
 |i::is,[],vs,O,τ,σ,S,r=>by rw[r.nil_of];exact⟨O,S,Tr.refl O H⟩
 |i::is,d::ds,vs,O,τ,σ,S,r=>by
  obtain⟨v,t,rfl,h1,h2⟩:=r.uncons
  obtain⟨O1,s0,S1,t1⟩:=S.set' (i:=i) h1
  obtain⟨O2,S2,t2⟩:=StOk.setM is ds t S1 (h2.wid fun a z=>⟨z.1,fun y=>z.2 (s0 a y)⟩)
  exact⟨O2,S2,t1.trans t2⟩
theorem s_forP{tg iter:Expr}{body:List Stmt}{src:Rho→R (List D)}{is:List Nat}{f:D→R (List D)}{B:Tau→Fl}(hi:PID X tg iter src)(hg:PGD X tg is f)(hb:PSS X body B)(hx:PassesOwn (model X.prog X.w) X.A X.env X.xe)(hc:X.calm=true:=by rfl)
  (hs:∀x,foldedSetIterable iter X.env x=pure x:=by intro _;rfl):PSD X (.For tg iter body [] pos) (sFor src is f B):=
 (ps_for hx hc hi hg hb hs).imp fun E σ H ⟨G,O,τ,S,q⟩=>by
  refine⟨_,hide τ,S.hid.1,S.hid.2,?_⟩
  unfold sFor at q
  cases h:src (hide τ)with
  |ex c=>rw[h]at q;exact EndsOk.xq q S
  |bad=>rw[h]at q;exact q.elim
  |ok ds=>
   rw[h]at q
   have q:EndsOk X G O H E (forL is f B ds τ):=q
   intro J H1 C e1 hJ hk c0 hz
   generalize hr0:forL is f B ds τ=r0 at q
   have q1:=EndsOk.tr q (Tr.of_same e1)
   refine⟨fun i m σ' H'=>∃(O':Addr→Prop) (τ':Tau),Tr O H1 O' H'∧StOk X.K G O' τ' σ' H'∧C H'∧forL is f B (ds.drop i) τ'=r0∧i≤ds.length∧m=ds.length - i,⟨ds.length,O,τ,Tr.refl O H1,S.same e1,c0,hr0,Nat.zero_le _,rfl⟩,?_⟩
   rintro i m σ' H' ⟨O',τ',t',S',c',hr,hi,rfl⟩
   have noO:∀a,((G a∧¬O a)∧H1 a≠none)→G a∧¬O' a:=fun a ⟨⟨g,n⟩,y⟩=>⟨g,fun z=>(t'.own a z).elim n y⟩
   by_cases hlt:i<ds.length
   ·obtain⟨go,yl⟩:=hJ.1 i H' c' hlt
    have hd:ds.drop i=ds[i]::ds.drop (i+1):=List.drop_eq_getElem_cons hlt
    rw[hd]at hr
    refine .inr ⟨go,fun σ2 H2=>∃(O2:Addr→Prop) (τ2:Tau),Tr O H1 O2 H2∧StOk X.K G O2 τ2 σ2 H2∧C H2∧forL is f B (ds.drop (i+1)) τ2=r0,fun σ2 H2 ⟨O2,τ2,a1,a2,a3,a4⟩=>⟨ds.length - (i+1),by omega,O2,τ2,a1,a2,a3,a4,hlt,rfl⟩,fun x H2 y=> ?_⟩
    obtain⟨e2,c2,d,ed,rd⟩:=yl x H2 y
    rw[List.getElem?_eq_getElem hlt]at ed
    cases ed
    have S2:=S'.same e2
    have t2:=t'.trans (Tr.of_same (O:=O') e2)
    have rd':=rd.wid noO
    unfold forL at hr
    cases hf:f ds[i]with
    |ex c=>rw[hf]at hr;subst hr;exact q1.elim
    |bad=>rw[hf]at hr;subst hr;exact q1.elim
    |ok vs=>
     rw[hf]at hr
     refine⟨_,ds[i],vs,rd',hf,fun us ru _=> ?_⟩
     obtain⟨O3',S3,t3'⟩:=S2.setM is vs us ru
     have hr:(match B (setT τ' is vs)with
      | .nx τ'=>forL is f B (ds.drop (i+1)) τ'
      | .ct τ'=>forL is f B (ds.drop (i+1)) τ'
      | .bk τ'=>.nx τ'
      | .rt d=>.rt d
      | .ex c τ'=>.ex c τ'
      | .bad=>.bad)=r0:=hr
     refine⟨G,O3',_,S3,?_⟩
     have t2:=t2.trans t3'
     have cK:∀{O3:Addr→Prop} {H3:Hp},Tr O3' H2 O3 H3→C H3:=fun{O3 H3} t3=>hk _ _ c2 fun b o e hb=>t3.keep b o e fun z=>by
      rcases hb with hb|hb
      ·rcases t3'.own b z with w|w
       ·exact(noO b hb).2 w
       ·rw[e]at w;cases w
      ·obtain⟨_,xs,ex⟩:=S3.own b z
       rw[e]at ex;cases ex
       exact hb xs.2
     cases hB:B (setT τ' is vs)with
     |nx τ3=>rw[hB]at hr;exact fun O3 σ3 H3 t3 s3=>⟨O3,τ3,t2.trans t3,s3,cK t3,hr⟩
     |ct τ3=>rw[hB]at hr;exact fun O3 σ3 H3 t3 s3=>⟨O3,τ3,t2.trans t3,s3,cK t3,hr⟩
     |bk τ3=>rw[hB]at hr;subst hr;exact fun O3 σ3 H3 t3 s3=>q1 O3 σ3 H3 (t2.trans t3) s3
     |rt d=>rw[hB]at hr;subst hr;exact fun O3 v H3 t3 r3=>q1 O3 v H3 (t2.trans t3) r3
     |ex c τ3=>rw[hB]at hr;subst hr;exact⟨q1.1,fun O3 pins σ3 H3 e3 s3 t3=>q1.2 O3 pins σ3 H3 e3 s3 (t2.trans t3)⟩
     |bad=>rw[hB]at hr;subst hr;exact q1.elim
   ·have hie:i=ds.length:=by omega
    subst hie
    rw[List.drop_length]at hr
    subst hr
    exact .inl ⟨hJ.2 _ _ c' (Nat.le_refl _),q1 O' σ' H' t' S'⟩
noncomputable def XE(X:Cx)(G O:Addr→Prop)(H:Hp)(r:Fl)(v:Value)(s':Shared):Prop:=
 ∃(c:Nat) (τ':Tau) (e:Addr) (O':Addr→Prop) (pins:List (Addr×Obj)) (σ':St) (H':Hp),v=.ref e∧r=.ex c τ'∧X.ex=[]∧Tr O H O' H'∧StOk X.K G O' τ' σ' H'∧Inv X pins σ' H' s'∧Fly X pins H' e (clsA X.K c) s'.heap
theorem Fly.unwish{pins:List (Addr×Obj)}{H:Hp}{e C:Addr}{h:Heap}{E:Value→Shared→Prop}(f:Fly (X.wish E) pins H e C h):Fly X pins H e C h:=let⟨B,c,q⟩:=f;⟨B,⟨c.trk,c.old,c.pin⟩,q⟩
theorem XE.passes{G O:Addr→Prop}{H:Hp}{r:Fl}(hst:X.stack=X.env::X.outer∧X.env.frame=some X.env.locals):PassesOwn (model X.prog X.w) X.A X.env (XE X G O H r):=by
 rintro v s' ⟨c,τ',e,O',pins,σ',H',rfl,hr,hex,t,S,I,B,cv,f⟩
 have hfr:=I.ok.frames
 rw[hst.1]at hfr f
 have f1:=f.1
 unfold notedBy
 refine note_ok hfr hst.2 f fun g a0 k1 k2 k3 k4=> ?_
 obtain⟨oe,vs,T,oT,ts,g1,g2,g3,g4,g5⟩:=id k3
 unfold cameBackBy
 refine wpAny_bind (wpAny_field g1 g3 g4 ?_)
 rw[if_neg (by simp:¬((Value.ref T == Value.none)=true))]
 rw[hst.2]
 refine set_fl (s:={s' with heap:=g}) (to:=some X.env.locals) k1 k2 k3 fun g' j1 j2 j3 j4=> ?_
 refine⟨c,τ',e,O',pins,σ',H',rfl,hr,hex,t,S,(show Inv X pins σ' H' {s' with heap:=g'}from Inv.flew (t':=s'.toks) (s:=s') I hex cv f1 j1 (k4.trans j4)),B,cv,j1,f.2.1,?_, .inr (.inr ⟨X.env.locals,a0,?_,j3⟩)⟩
 ·rw[hst.1];exact j2
 ·rw[hst.1];exact hst.2
theorem wished{st:Stmt}{M:Tau→Fl}(h:∀G O H r,PSD (X.wish (XE X G O H r)) st M):PSD X st M:=by
 intro pins s σ H D I ⟨G,O,τ,S,q⟩
 have z:=h G O H (M τ) pins s σ H D (I.wish _) ⟨G,O,τ,S,?_⟩
 ·refine wpAny_mono z (fun f s' k=> ?_) fun v s' k=> ?_
  ·cases f with
   |next=>obtain⟨a,b,J,k⟩:=k;exact⟨a,b,J.unwish,k⟩
   |cont=>obtain⟨a,b,J,k⟩:=k;exact⟨a,b,J.unwish,k⟩
   |brk=>obtain⟨a,b,J,k⟩:=k;exact⟨a,b,J.unwish,k⟩
   |ret u=>obtain⟨a,b,c,J,k⟩:=k;exact⟨a,b,c,J.unwish,k⟩
  ·obtain⟨c,τ',e,O',pins',σ',H',rfl,hr,hex,t,S',I',f⟩:=k
   rw[hr]at q
   exact q.2 O' pins' σ' H' e s' t S' I' f
 ·cases hM:M τ with
  |nx τ'=>rw[hM]at q;exact q
  |rt d=>rw[hM]at q;exact q
  |bk τ'=>rw[hM]at q;exact q
  |ct τ'=>rw[hM]at q;exact q
  |bad=>rw[hM]at q;exact q
  |ex c τ'=>
   rw[hM]at q
   exact⟨q.1,fun O' pins' σ' H' e s' t S' I' f=>⟨c,τ',e,O',pins',σ',H',rfl,rfl,q.1,t,S',I'.unwish,f.unwish⟩⟩
theorem s_for{tg iter:Expr}{body:List Stmt}{src:Rho→R (List D)}{is:List Nat}{f:D→R (List D)}{B:Tau→Fl}(hi:∀E,PID (X.wish E) tg iter src)(hg:∀E,PGD (X.wish E) tg is f)(hb:∀E,PSS (X.wish E) body B)(hc:X.calm=true:=by rfl)
  (hst:X.stack=X.env::X.outer∧X.env.frame=some X.env.locals:=by exact⟨rfl,rfl⟩) (hs:∀x,foldedSetIterable iter X.env x=pure x:=by intro _;rfl):PSD X (.For tg iter body [] pos) (sFor src is f B):=
 wished fun G O H r=>s_forP (hi _) (hg _) (hb _) (XE.passes hst) hc hs
end
end L3
namespace L3
open PySem PySem.Spec L2
open PyProof.Rows hiding St
noncomputable def CovC(outer:List Env)(H:Hp)(s:Shared)(B:Heap):Prop:=(∀b o,H b=some o→∃u,B.get? b=some u)∧∀b o,s.heap.get? b=some o→b∉frs outer→∃u,B.get? b=some u
noncomputable def CXR(P:Program)(w:World):CXT:=fun outer H s E v s'=>∃(e C:Addr) (H':Hp) (B:Heap),v=.ref e∧E (.ref C) none H'∧Same H H'∧s'.os=s.os∧AllBare s'.gens∧Un (frs outer) [] H H' s.heap s'.heap∧HOk P w H' s'.heap∧CovC outer H' s B∧FlyB B outer e C s'.heap
noncomputable def spD(K:PySem.W.Frag)(F:List D→R D):Sp:=fun vs H Q E=>∃(G:Addr→Prop) (ds:List D),Free G H∧RepL K G H ds vs∧match F ds with
 | .ok d=>∀v H',Same H H'→Rep K G H' d v→Q v H'
 | .ex c=>∀H',Same H H'→E (.ref (clsA K c)) none H'
 | .bad=>False
noncomputable def fnF(n nl:Nat)(M:Tau→Fl):List D→R D:=fun ds=>if ds.length=n then(match M (ds.map (fun d=>some (.sh d))++List.replicate (nl - n) none)with
 | .rt d=>.ok d
 | .nx _=>.ok .non
 | .ex c _=>.ex c
 |_=>.bad)else .bad
noncomputable def BodyOk(P:Program)(w:World)(K:PySem.W.Frag)(mg:Str→Option Value)(base:Heap)(k:Nat)(f:Addr)(N:List Str)(qual:Str)(st:Stmt)(M:Tau→Fl):Prop:=
 ∀(cdv:Value) (A:Around) (outer:List Env) (s:Shared) (H:Hp) (E:XK),Room k (A.deeper (envOfC qual (defScope st) s.heap.objs.size f cdv))→PSS (cxOf (CXR P w) P w K mg base N qual (defScope st) f cdv A outer s H E) (defBody st) M
section
variable{P:Program}{w:World}{K:PySem.W.Frag}{mg:Str→Option Value}{base:Heap}
theorem start_eq{n:Nat}{N:List Str}{vs:List V}(h:vs.length=n):start N vs=vs.map some++List.replicate (N.length - n) none:=by rw[←h];rfl
theorem leave_ok{N:List Str}{qual:Str}{scope:Scope}{f:Addr}{cd:Value}{A:Around}{outer:List Env}{s s':Shared}{H H':Hp}{E:XK}{pins:List (Addr×Obj)}{σ:St}{e C:Addr}
  (J:Inv (cxOf (CXR P w) P w K mg base N qual scope f cd A outer s H E) pins σ H' s') (fl:Fly (cxOf (CXR P w) P w K mg base N qual scope f cd A outer s H E) pins H' e C s'.heap) (sm:Same H H') (hE:E (.ref C) none H'):
  (cxOf (CXR P w) P w K mg base N qual scope f cd A outer s H E).xe (.ref e) s':=by
 obtain⟨B,cv,fb⟩:=fl
 have f1:=fb.1
 refine(show wpAny (model P w) (A.deeper (envOfC qual scope s.heap.objs.size f cd)) (leaving (envOfC qual scope s.heap.objs.size f cd) (.ref e)) _ _ s' from left_ok (L:=s.heap.objs.size) J.ok.frames rfl fb fun g h1 h2=> ?_)
 have J2:=Inv.flew (t':=s'.toks) J rfl cv f1 h1.1 h2
 exact⟨e,C,H',B,rfl,hE,sm,J2.os,J2.bare,J2.base,J2.hok,⟨cv.trk,fun b o q nb=>cv.old b o q (noFr J (oldNe J q) nb)⟩,h1⟩
theorem fun_ok{x qual:Str}{st:Stmt}{f:Addr}{fd:FuncData}{N ps:List Str}{k n nl:Nat}{M:Tau→Fl}(F:Fun K x qual st f fd)(S:FnScope N ps (defScope st))(hn:ps.length=n)(hnl:N.length=nl)(hb:BodyOk P w K mg base k f N qual st M):
  FnOk P w K mg base (CXR P w) (k+1) f fd ps (spD K (fnF n nl M)):=by
 subst hn hnl
 obtain⟨oc,od,kV,doc,pm,an,cdv,ct,osl,rfl,lk,hcd⟩:=F.ex
 refine fn_of lk hcd S (fun vs H Q E ⟨G,ds,hG,r,e⟩=> ?_) fun A outer s H vs Q E hr ⟨G,ds,hG,r,e⟩=> ?_
 ·unfold fnF at e
  split at e
  ·rename_i hl
   split at hl
   ·rename_i hl';rw[r.length];exact hl'
   ·cases hl
  ·rename_i hl
   split at hl
   ·rename_i hl';rw[r.length];exact hl'
   ·cases hl
  ·exact e.elim
 ·refine⟨_,hb cdv A outer s H E hr,?_⟩
  unfold fnF at e
  by_cases hl:ds.length=ps.length
  ·rw[if_pos hl]at e
   have hv:vs.length=ps.length:=by rw[r.length];exact hl
   rw[start_eq hv]
   refine⟨G,fun _=>False,ds.map (fun d=>some (.sh d))++List.replicate (N.length - ps.length) none,⟨hG,fun p z=>z.elim,?_,fun _=>[],fun i sl h=> ?_,(fun i p h=>by cases h),fun i=>List.nodup_nil,(fun i j p _ h=>by cases h)⟩,?_⟩
   ·simp[r.length]
   ·have hi:i<ds.length:=by
     by_cases hi:i<ds.length
     ·exact hi
     ·rw[List.getElem?_append_right (by simpa using hi),List.getElem?_replicate]at h
      split at h<;>cases h
    rw[List.getElem?_append_left (by simpa using hi),List.getElem?_map,List.getElem?_eq_getElem hi]at h
    cases h
    obtain⟨v,e1,e2⟩:=r.get (List.getElem?_eq_getElem hi)
    refine⟨v,?_,rfl,e2.wid fun a z=>⟨z,fun y=>y⟩⟩
    rw[List.getElem?_append_left (by rw[List.length_map,r.length];exact hi),List.getElem?_map,e1]
    rfl
   ·have back:∀{O':Addr→Prop} {H':Hp},Tr (fun _=>False) H O' H'→Same H H':=fun t b o e=>t.keep b o e fun z=>z
    cases hM:M (ds.map (fun d=>some (.sh d))++List.replicate (N.length - ps.length) none)with
    |rt d'=>rw[hM]at e;exact fun O' v H' t r'=>e v H' (back t) r'
    |nx τ=>rw[hM]at e;exact fun O' σ' H' t S'=>e .non H' (back t) Rep.non
    |bk τ=>rw[hM]at e;exact e.elim
    |ct τ=>rw[hM]at e;exact e.elim
    |ex c τ=>rw[hM]at e;exact⟨rfl,fun O' pins σ' H' a s' t S' I f=>leave_ok I f (back t) (e H' (back t))⟩
    |bad=>rw[hM]at e;exact e.elim
  ·rw[if_neg hl]at e;exact e.elim
end
section
variable{X:Cx}
theorem run_D{k:Nat}{f:Addr}{fd:FuncData}{ps:List Str}{F:List D→R D}{pins:List (Addr×Obj)}{σ:St}{H:Hp}{s:Shared}{Q:VK}{us:List Value}{vs:List V}{G:Addr→Prop}{ds:List D}
  (Fn:FnOk X.prog X.w X.K X.mg X.base (CXR X.prog X.w) k f fd ps (spD X.K F)) (hr:Room k X.A) (hb:Binds X.K fd ps []) (I:Inv X pins σ H s) (r:Vals vs us) (hG:Free G H) (rd:RepL X.K G H ds vs) (q:DQ X σ (Rep X.K G) H (F ds) Q):
  wpAny (model X.prog X.w) X.A (call (.ref f) us) (EP X pins σ Q) X.xe s:=by
 have main:∀E:XK,spD X.K F vs H Q E→(∀C H',E (.ref C) none H'→X.ex=[]∧∀(pins:List (Addr×Obj)) (e:Addr) (s':Shared),Inv X pins σ H' s'→Fly X pins H' e C s'.heap→X.xe (.ref e) s')→
   wpAny (model X.prog X.w) X.A (call (.ref f) us) (EP X pins σ Q) X.xe s:=fun E h hE=>by
  have hl:(us++[]).length=ps.length:=by rw[List.append_nil,←r.length];exact Fn.len _ _ _ _ h
  have hbs:=hb s us I.kIn hl
  rw[List.append_nil]at hbs
  refine wpAny_call (codeAny_mono (Fn.run X.A X.stack s H ⟨us,[]⟩ us vs Q E hr I.env0 hbs r h) fun rr s' hq=> ?_)
  cases rr with
  |error v=>
   obtain⟨e,C,H',B,rfl,he,sm,os,bare,un,hok,cc,fb⟩:=hq
   obtain⟨hex,go⟩:=hE C H' he
   have I':Inv X pins σ H' s':=by
    obtain⟨hh,g,d,t,os'⟩:=s'
    obtain rfl:os'=s.os:=os
    exact I.call (h':=hh) (g':=g) (d':=d) (t':=t) (ch:=[]) un hok bare fun b z=>absurd z (by simp)
   refine go pins e s' I' ⟨B,⟨cc.1,fun b o z nb=> ?_,fun p hp=> ?_⟩,fb⟩
   ·obtain⟨u,y⟩:=I.base.there b o z (by rw[hex];simp)
    exact cc.2 b u y nb
   ·obtain⟨z,_,n1,n2,_⟩:=I.pin p hp
    exact cc.2 p.1 p.2 z (noFr I n1 n2)
  |ok fl=>
   cases fl with
   |ret u=>exact I.after hq
   |next=>exact False.elim hq
   |brk=>exact False.elim hq
   |cont=>exact False.elim hq
 cases h:F ds with
 |ok d=>rw[h]at q;exact main (fun _ _ _=>False) ⟨G,ds,hG,rd,by rw[h];exact q⟩ fun _ _ z=>z.elim
 |ex c=>
  rw[h]at q
  exact main (fun v _ H'=>v=.ref (clsA X.K c)∧Same H H') ⟨G,ds,hG,rd,by rw[h];exact fun H' sm=>⟨rfl,sm⟩⟩ fun C H' z=>by
   obtain⟨z,sm⟩:=z
   have z:=Value.ref.inj z
   subst z
   exact⟨q.1,fun pins e s' I' f=>q.2 pins e s' H' sm I' f⟩
 |bad=>rw[h]at q;exact q.elim
theorem d_call{x:Str}{p pos:Pos}{e:Expr}{es:List Expr}{k:Nat}{f:Addr}{fd:FuncData}{ps:List Str}{F:List D→R D}{n:Rho→R (List D)}(Fn:FnOk X.prog X.w X.K X.mg X.base (CXR X.prog X.w) k f fd ps (spD X.K F))(hb:Binds X.K fd ps [])(hk:PySem.W.keepIn X.K (.ref f)=true)(hm:X.mg x=some (.ref f))(hr:Room k X.A)(ha:PDA X (e::es) n)
  (hg:Gl X x:=by rfl) (hdb:(x == ("__debug__":Str))=false:=by decide) (he:starEach (e::es) X.env=(false,eval e X.env)::starEach es X.env:=by rfl) (hpl:(backTo pos (starEach es X.env)).any (·.1)=false:=by rfl):
  PD X (.Call (.Name x p) (e::es) [] pos) (ap F n):=by
 intro pins s σ H Q I ⟨G,ρ,hG,hρ,q⟩
 refine wpAny_Call_Name_kw (ld_glob I hg hm ?_ hdb)
 refine PySem.W.callWith_K (h₀:=X.base) I.ok.mod.kin hk (thn (ha pos pins s σ H _ I ⟨G,ρ,hG,hρ,DQ.bind q⟩) fun us s1 ⟨vs,H1,I1,r,ds,_,e1,rd,q1⟩=>⟨I1.kIn,?_⟩) he hpl
 exact run_D Fn hr hb I1 r (hG.same e1) rd q1
end
end L3
namespace L3
open PySem PySem.Spec L2
open PyProof.Rows hiding St
section
variable{X:Cx}{scope:Scope}{k:Nat}{js is:List Nat}{f:D→R (List D)}{mt:Rho→R Bool}{me:Rho→R D}{pos spos:Pos}
noncomputable def tR{α:Type}(X:Cx)(rep:(Addr→Prop)→Hp→Hp→α→V→Prop)(m:Rho→R α):TE:=fun σ H Q=>∃(G:Addr→Prop) (ρ:Rho),Free G H∧RepS X.K G H ρ σ∧DQ X σ (rep G H) H (m ρ) Q
noncomputable def tAc{α:Type}(X:Cx)(Acc:(Addr→Prop)→Hp→Addr→Hp→List α→List V→Prop)(m:Rho→R (List α)):TE:=fun σ H Q=>∃(G:Addr→Prop) (ρ:Rho),Free G H∧RepS X.K G H ρ σ∧DQ X σ (fun H' out v=>∃p zs,v=.ref p∧H p=none∧H' p=some (.lst zs)∧Acc G H p H' out zs) H (m ρ) Q
theorem ps_compG{α:Type}{me:Rho→R α}{rep:(Addr→Prop)→Hp→Hp→α→V→Prop}{Acc:(Addr→Prop)→Hp→Addr→Hp→List α→List V→Prop}(ac:AccOk rep Acc){elt tg iter:Expr}{ifs:List Expr}{src:Rho→R (List D)}{i:Nat}{y:Str}{py:Pos}(N':List Str)(hi:PID X tg iter src)(hg:∀C cl s H fp,PGD (blk X N' scope cl C s H fp) tg is f)
  (ht:∀C cl s H fp,PTs (blk X N' scope cl C s H fp) ifs mt) (he:∀C cl s H fp,PE (blk X N' scope cl C s H fp) elt (tR (blk X N' scope cl C s H fp) rep me)) (hB:compB X.env.scope X.N scope N' k js=true) (hcalm:X.calm=true) (his:∀i∈is,i<k)
  (hN:ndB X.N=true) (hiN:X.N[i]? =some y) (hy:Loc X.env.scope y) (hf:X.fn y=true∨X.env.scope.names.lookup y=some .local) (hsw:swapsWith (.ListComp elt [⟨tg,iter,ifs,0⟩] scope pos) (some (.Name y py)) spos.line X.env=pure true)
  (hs:∀x,foldedSetIterable iter X.env x=pure x):PS X (.Assign [.Name y py] (.ListComp elt [⟨tg,iter,ifs,0⟩] scope pos) spos) (tAsg (tAc X Acc (cmp src k js is f mt me)) (gName i)):=by
 intro pins s σ H E I ⟨G,ρ,hG,hρ,q⟩
 have hC:=compOk_of hB
 obtain⟨cl,c1,c2,c3⟩:=closure_ok (scope:=scope) (env:=X.env) fun y hy hk=>I.ok.has y.1 (hC.fre y hy hk)
 rw[exec_Assign_Name_used _ _ _ _ hsw]
 refine wpAny_bind (wpAny_standAt (wpAny_bind ?_))
 refine(show wpAny (model X.prog X.w) X.A (do let _←comprehension (.ListComp elt [⟨tg,iter,ifs,0⟩] scope pos) scope X.env _ (newList []) false (eval iter X.env) (some (assign (.Name y py) X.env))) _ _ s from
  wpAny_bind (wpAny_mono (wpAny_comprehension_free (use:=some (assign (.Name y py) X.env)) (Q:=fun _ s'=>SP X pins E .next s') rfl hs c1 hC.kind hC.loc ?_) (fun _ s' z=>wpAny_pure (wpAny_pure z)) fun _ _ z=>z))
 unfold cmp at q
 cases es:src ρ with
 |ex c=>
  rw[es]at q
  exact thn (hi pins s σ H (fun _ _=>False) I ⟨G,ρ,hG,hρ,by rw[es];exact q⟩) fun v s1 h1=>thn h1 fun itv s2 h2=>by
   obtain⟨_,_,_,_,_,_,_,_,_,_,z⟩:=h2
   exact z.elim
 |bad=>rw[es]at q;exact q.elim
 |ok ds=>
  rw[es]at q
  have q:DQ X σ (fun H' out v=>∃p zs,v=.ref p∧H p=none∧H' p=some (.lst zs)∧Acc G H p H' out zs) H (nox (mapC f (bro k js ρ) is mt me ds)) (fun x H1=>gName i x σ H1 E.nx):=q
  cases em:mapC f (bro k js ρ) is mt me ds with
  |ex c=>rw[em]at q;exact q.elim
  |bad=>rw[em]at q;exact q.elim
  |ok out=>
   rw[em]at q
   refine thn (hi pins s σ H (fun J H1=>∃C:Hp→Prop,Same H H1∧ItD X.K (fun a=>G a∧H1 a≠none) J ds C∧(∀H2 H3,C H2→KeepG (fun a=>G a∧H1 a≠none) H2 H3→C H3)∧C H1∧ds.length≤sizeLine) I
    ⟨G,ρ,hG,hρ,by rw[es];exact fun J H1 C e1 h1 h2 h3 h4=>⟨C,e1,h1,h2,h3,h4⟩⟩) fun v s1 h1=>thn h1 fun itv s2 h2=> ?_
   obtain⟨it,fp,tn,J,H2,rfl,I2,T,t0,hfp,C,e1,hJ,hk,c0,hz⟩:=h2
   refine comp_blockG (rep:=rep) (Acc:=Acc G H2) (RR:=fun acc C=>compPost (model X.prog X.w) X.A X.xe (some (assign (.Name y py) X.env)) (fun _ s'=>SP X pins E .next s') acc C) hcalm I2 T t0 hfp hC c2 c3 his hg ht he (hG.same e1) (hρ.same e1) hJ hk c0 hz em (ac.a0 G H2) (ac.aS G H2) (ac.aL G H2) (fun p H1 H3 done zs y v=>ac.aN G H2 p H1 H3 done zs y v (hG.same e1)) ?_
   intro p Cc H' H3 s' s3 zs σ' I3 fp3 eC J6 hp e2 hp' rr
   obtain⟨I6,oC,o1,o2,o3,o4,o5,o6,o7,o8⟩:=inv_back I3 fp3 eC J6
   obtain⟨m,hn,_⟩:=J6.loc
   have I7:Inv X (pins++[(Cc,oC)]) σ H' s':=I6.pins_of fun z hz=>by
    rcases List.mem_append.mp hz with hz|hz
    ·exact I6.pin z (List.mem_append_right _ hz)
    ·cases List.mem_singleton.mp hz
     exact⟨o1,o2,o3,o4,o5⟩
   refine(show wpAny (model X.prog X.w) X.A (assign (.Name y py) X.env (.ref p)) _ _ s' from wpAny_assign_Name (store_ok I7 (nd_of hN) hiN hy (v:=.ref p) rfl (fun s8 I8=> ?_) hf))
   have z8:=(I8.pin (Cc,oC) (List.mem_append_right _ (List.mem_append_right _ (List.mem_singleton.mpr rfl)))).1
   refine⟨m,hn.at' fun o e=> ?_,fun h' sb=>⟨σ.set i (some (.ref p)),H',I8.unpinned.turned (t':=s8.toks) (fun b o nb e=>sb.extBut b o nb e) o2 o3 (.inr o6) o7 o8,q _ _ (e1.trans e2) ⟨p,zs,rfl,e1.free hp,hp',ac.aB G H H2 p _ _ _ e1 rr⟩⟩⟩
   have e':s'.heap.get? Cc=some o:=e
   rw[o1]at e'
   cases e'
   exact z8
theorem s_comp{elt tg iter:Expr}{ifs:List Expr}{src:Rho→R (List D)}{i:Nat}{y:Str}{py:Pos}(N':List Str)(hi:PID X tg iter src)(hg:∀C cl s H fp,PGD (blk X N' scope cl C s H fp) tg is f)
  (ht:∀C cl s H fp,PTs (blk X N' scope cl C s H fp) ifs mt) (he:∀C cl s H fp,PD (blk X N' scope cl C s H fp) elt me) (hB:compB X.env.scope X.N scope N' k js=true:=by kernel_rfl) (hcalm:X.calm=true:=by rfl) (his:∀i∈is,i<k:=by decide)
  (hN:ndB X.N=true:=by kernel_rfl) (hiN:X.N[i]? =some y:=by rfl) (hy:Loc X.env.scope y:=by first|exact Or.inl rfl|exact Or.inr rfl) (hf:X.fn y=true∨X.env.scope.names.lookup y=some .local:=by first|exact .inl rfl|exact .inr rfl)
  (hsw:swapsWith (.ListComp elt [⟨tg,iter,ifs,0⟩] scope pos) (some (.Name y py)) spos.line X.env=pure true:=by rfl)
  (hs:∀x,foldedSetIterable iter X.env x=pure x:=by intro _;rfl):PSD X (.Assign [.Name y py] (.ListComp elt [⟨tg,iter,ifs,0⟩] scope pos) spos) (sSet i (asL (cmp src k js is f mt me))):=
 (ps_compG acc_d N' hi hg ht he hB hcalm his hN hiN hy hf hsw hs).imp fun E σ H ⟨G,O,τ,S,q⟩=>by
  refine⟨_,hide τ,S.hid.1,S.hid.2,?_⟩
  unfold sSet asL at q
  cases h:cmp src k js is f mt me (hide τ)with
  |ok d=>
   rw[h]at q
   intro v H' e ⟨p,xs,ev,hp,hp',r⟩
   subst ev
   obtain⟨O',_,s1,t1⟩:=(S.same e).set' (i:=i) (d:=.lst d) (Rep.lst hp' (S.hid.1 p hp) (RepL.wid (fun a z=>z.1) r))
   exact q O' _ H' ((Tr.of_same e).trans t1) s1
  |ex c=>rw[h]at q;exact EndsOk.xq q S
  |bad=>rw[h]at q;exact q.elim
noncomputable def sNewN(i:Nat)(m:Rho→R (List (List D))):Tau→Fl:=fun τ=>match m (hide τ)with
 | .ok ds=>.nx (τ.set i (some (.an ds)))
 | .ex c=>.ex c τ
 | .bad=>.bad
theorem s_compNN{me:Rho→R (List D)}{elt tg iter:Expr}{ifs:List Expr}{src:Rho→R (List D)}{i:Nat}{y:Str}{py:Pos}(N':List Str)(hi:PID X tg iter src)(hg:∀C cl s H fp,PGD (blk X N' scope cl C s H fp) tg is f)
  (ht:∀C cl s H fp,PTs (blk X N' scope cl C s H fp) ifs mt) (he:∀C cl s H fp,PN (blk X N' scope cl C s H fp) elt me) (hB:compB X.env.scope X.N scope N' k js=true:=by kernel_rfl) (hcalm:X.calm=true:=by rfl) (his:∀i∈is,i<k:=by decide)
  (hN:ndB X.N=true:=by kernel_rfl) (hiN:X.N[i]? =some y:=by rfl) (hy:Loc X.env.scope y:=by first|exact Or.inl rfl|exact Or.inr rfl) (hf:X.fn y=true∨X.env.scope.names.lookup y=some .local:=by first|exact .inl rfl|exact .inr rfl)
  (hsw:swapsWith (.ListComp elt [⟨tg,iter,ifs,0⟩] scope pos) (some (.Name y py)) spos.line X.env=pure true:=by rfl)
  (hs:∀x,foldedSetIterable iter X.env x=pure x:=by intro _;rfl):PSD X (.Assign [.Name y py] (.ListComp elt [⟨tg,iter,ifs,0⟩] scope pos) spos) (sNewN i (cmp src k js is f mt me)):=
 (ps_compG acc_n N' hi hg ht he hB hcalm his hN hiN hy hf hsw hs).imp fun E σ H ⟨G,O,τ,S,q⟩=>by
  refine⟨_,hide τ,S.hid.1,S.hid.2,?_⟩
  unfold sNewN at q
  cases h:cmp src k js is f mt me (hide τ)with
  |ok d=>
   rw[h]at q
   intro v H' e ⟨p,xs,ev,hp,hp',qs,eq,r⟩
   subst ev eq
   obtain⟨O',s1,t1⟩:=S.newN (i:=i) e hp hp' r
   exact q O' _ H' t1 s1
  |ex c=>rw[h]at q;exact EndsOk.xq q S
  |bad=>rw[h]at q;exact q.elim
noncomputable def sCmpV(i:Nat)(m:Rho→R (List D)):Tau→Fl:=fun τ=>match m (view τ)with
 | .ok ds=>if noL.noLs ds=true then .nx (τ.set i (some (.ac ds)))else .bad
 | .ex c=>.ex c τ
 | .bad=>.bad
theorem s_compV{elt tg iter:Expr}{ifs:List Expr}{src:Rho→R (List D)}{i:Nat}{y:Str}{py:Pos}(N':List Str)(hi:PID X tg iter src)(hg:∀C cl s H fp,PGD (blk X N' scope cl C s H fp) tg is f)
  (ht:∀C cl s H fp,PTs (blk X N' scope cl C s H fp) ifs mt) (he:∀C cl s H fp,PD (blk X N' scope cl C s H fp) elt me) (hB:compB X.env.scope X.N scope N' k js=true:=by kernel_rfl) (hcalm:X.calm=true:=by rfl) (his:∀i∈is,i<k:=by decide)
  (hN:ndB X.N=true:=by kernel_rfl) (hiN:X.N[i]? =some y:=by rfl) (hy:Loc X.env.scope y:=by first|exact Or.inl rfl|exact Or.inr rfl) (hf:X.fn y=true∨X.env.scope.names.lookup y=some .local:=by first|exact .inl rfl|exact .inr rfl)
  (hsw:swapsWith (.ListComp elt [⟨tg,iter,ifs,0⟩] scope pos) (some (.Name y py)) spos.line X.env=pure true:=by rfl)
  (hs:∀x,foldedSetIterable iter X.env x=pure x:=by intro _;rfl):PSD X (.Assign [.Name y py] (.ListComp elt [⟨tg,iter,ifs,0⟩] scope pos) spos) (sCmpV i (cmp src k js is f mt me)):=
 (ps_compG acc_d N' hi hg ht he hB hcalm his hN hiN hy hf hsw hs).imp fun E σ H ⟨G,O,τ,S,q⟩=>by
  refine⟨G,view τ,S.free,S.vw,?_⟩
  unfold sCmpV at q
  cases h:cmp src k js is f mt me (view τ)with
  |ok d=>
   rw[h]at q
   intro v H' e ⟨p,xs,ev,hp,hp',r⟩
   subst ev
   by_cases hn:noL.noLs d=true
   ·simp only[hn,if_true]at q
    obtain⟨O',s1,t1⟩:=S.new (i:=i) e hp hp' (noLs_rep d hn r)
    exact q O' _ H' t1 s1
   ·simp only[hn,if_false]at q;exact q.elim
  |ex c=>rw[h]at q;exact EndsOk.xq q S
  |bad=>rw[h]at q;exact q.elim
end
end L3
namespace L3
open PySem PySem.Spec L2
open PyProof.Rows hiding St
open PySem.W (KasT kas_sort kas_rev kas_asc kas_desc kas_tail3 kas_descPart kas_count kas_place kas_bin kas_ask KatLex KatGo kat_nil kat_cons kat_yes kat_no kat_go kat_lt kat_one KatTups kat_kind kat_run kat_snds kas_item)
noncomputable def kasRun{α:Type}(lt:Nat→Nat→Bool):KasT α→α
 | .ret a=>a
 | .ask i j k=>kasRun lt (k (lt i j))
noncomputable def Asks{α:Type}(N:Nat)(P:α→Prop):KasT α→Prop
 | .ret a=>P a
 | .ask i j k=>i<N∧j<N∧∀b,Asks N P (k b)
theorem kasRun_wp{α:Type}{ask:Nat→Nat→(Bool→Shared→Prop)→Shared→Prop}{lt:Nat→Nat→Bool}{s:Shared}{N:Nat}{P:α→Prop}(ha:∀i j C,i<N→j<N→C (lt i j) s→ask i j C s):∀(t:KasT α) {G:α→Shared→Prop},Asks N P t→G (kasRun lt t) s→t.kasWp ask G s
 | .ret _,_,_,h=>h
 | .ask i j k,G,q,h=>ha i j _ q.1 q.2.1 (kasRun_wp ha (k (lt i j)) (q.2.2 _) h)
theorem Asks.bind{α β:Type}{N:Nat}{P:α→Prop}{P':β→Prop}{f:α→KasT β}(hf:∀a,P a→Asks N P' (f a)):∀{t:KasT α},Asks N P t→Asks N P' (t.bind f)
 | .ret a,h=>hf a h
 | .ask _ _ _,h=>⟨h.1,h.2.1,fun b=>Asks.bind hf (h.2.2 b)⟩
noncomputable def Low(N:Nat)(p:Array Nat):Prop:=∀x∈p,x<N
theorem Low.getD{N:Nat}{p:Array Nat}(h:Low N p)(h0:0<N)(k:Nat):p.getD k 0<N:=by
 unfold Array.getD
 split
 ·exact h _ (Array.getElem_mem _)
 ·exact h0
theorem Low.perm{N:Nat}{p q:Array Nat}(h:Low N p)(e:q.Perm p):Low N q:=fun x hx=>h x (e.mem_iff.mp hx)
theorem kasRun_bind{α β:Type}(lt:Nat→Nat→Bool)(f:α→KasT β):∀t:KasT α,kasRun lt (t.bind f)=kasRun lt (f (kasRun lt t))
 | .ret _=>rfl
 | .ask i j k=>kasRun_bind lt f (k (lt i j))
theorem rev_perm(p:Array Nat)(i j:Nat):(kas_rev p i j).Perm p:=mirror_perm _ _ _ _
theorem desc_perm(lt:Nat→Nat→Bool):∀(f:Nat) (p:Array Nat) (n q:Nat),(kasRun lt (kas_desc f p n q)).1.Perm p
 |0,p,_,_=>Array.Perm.refl p
 |f+1,p,n,q=>by
  unfold kas_desc
  simp only[kasRun]
  split
  ·split
   ·exact(desc_perm lt f _ _ _).trans (rev_perm p _ _)
   ·exact desc_perm lt f p _ _
  ·simp only[kasRun]
   split
   ·exact Array.Perm.refl p
   ·exact desc_perm lt f p _ _
theorem tail3_perm(lt:Nat→Nat→Bool)(n m:Nat)(p:Array Nat):(kasRun lt (kas_tail3 n m p)).2.Perm p:=by
 unfold kas_tail3
 rw[kasRun_bind]
 exact rev_perm p _ _
theorem descPart_perm(lt:Nat→Nat→Bool)(n m:Nat)(p:Array Nat):(kasRun lt (kas_descPart n m p)).2.Perm p:=by
 unfold kas_descPart
 rw[kasRun_bind]
 have h:=desc_perm lt (m - (n+1)) p (n+1) 0
 split
 ·exact(tail3_perm lt _ _ _).trans ((rev_perm _ _ _).trans h)
 ·exact(tail3_perm lt _ _ _).trans h
theorem count_perm(lt:Nat→Nat→Bool)(m:Nat)(p:Array Nat):(kasRun lt (kas_count m p)).2.Perm p:=by
 unfold kas_count
 rw[kasRun_bind]
 split
 ·exact Array.Perm.refl p
 ·split
  ·simp only[kasRun]
   split
   ·exact Array.Perm.refl p
   ·exact(descPart_perm lt _ _ _).trans (rev_perm p _ _)
  ·exact descPart_perm lt _ _ _
theorem bin_perm(lt:Nat→Nat→Bool):∀(f:Nat) (p:Array Nat) (k:Nat),(kasRun lt (kas_bin f p k)).Perm p
 |0,p,_=>Array.Perm.refl p
 |f+1,p,k=>by
  unfold kas_bin
  rw[kasRun_bind]
  exact(bin_perm lt f _ _).trans (bubble_perm p _ _)
theorem sort_perm(lt:Nat→Nat→Bool)(n:Nat):(kasRun lt (kas_sort n)).Perm (List.toArray (List.range n)):=by
 unfold kas_sort
 rw[kasRun_bind]
 have h:=count_perm lt n (List.toArray (List.range n))
 split
 ·exact(bin_perm lt _ _ _).trans h
 ·exact h
section
variable{N:Nat}(h0:0<N)
include h0
theorem asc_asks{p:Array Nat}(hp:Low N p):∀(f n:Nat),Asks N (fun _=>True) (kas_asc p f n)
 |0,_=>trivial
 |f+1,n=>⟨hp.getD h0 _,hp.getD h0 _,fun b=>by
  cases b with
  |true=>exact trivial
  |false=>exact asc_asks hp f (n+1)⟩
theorem desc_asks:∀(f:Nat) {p:Array Nat} (n q:Nat),Low N p→Asks N (fun r:Array Nat×Nat×Nat=>Low N r.1) (kas_desc f p n q)
 |0,p,_,_,hp=>hp
 |f+1,p,n,q,hp=>⟨hp.getD h0 _,hp.getD h0 _,fun b=>by
  cases b with
  |true=>
   simp only[if_true]
   split
   ·exact desc_asks f _ _ (hp.perm (rev_perm p _ _))
   ·exact desc_asks f _ _ hp
  |false=>
   refine⟨hp.getD h0 _,hp.getD h0 _,fun b'=> ?_⟩
   cases b' with
   |true=>exact hp
   |false=>exact desc_asks f _ _ hp⟩
theorem tail3_asks(n m:Nat){p:Array Nat}(hp:Low N p):Asks N (fun r:Nat×Array Nat=>Low N r.2) (kas_tail3 n m p):=
 Asks.bind (N:=N) (P:=fun _=>True) (P':=fun r:Nat×Array Nat=>Low N r.2) (f:=fun m=>KasT.ret (m,kas_rev p 0 n)) (fun a _=>show Low N (kas_rev p 0 n)from hp.perm (rev_perm p 0 n)) (asc_asks h0 (hp.perm (rev_perm p _ _)) _ _)
theorem descPart_asks(n m:Nat){p:Array Nat}(hp:Low N p):Asks N (fun r:Nat×Array Nat=>Low N r.2) (kas_descPart n m p):=
 Asks.bind (fun r hr=>by
  split
  ·exact tail3_asks h0 _ _ (hr.perm (rev_perm _ _ _))
  ·exact tail3_asks h0 _ _ hr) (desc_asks h0 _ _ _ hp)
theorem count_asks(m:Nat){p:Array Nat}(hp:Low N p):Asks N (fun r:Nat×Array Nat=>Low N r.2) (kas_count m p):=
 Asks.bind (fun n _=>by
  split
  ·exact hp
  ·split
   ·refine⟨hp.getD h0 _,hp.getD h0 _,fun b=> ?_⟩
    cases b with
    |true=>exact hp
    |false=>exact descPart_asks h0 _ _ (hp.perm (rev_perm p _ _))
   ·exact descPart_asks h0 _ _ hp) (asc_asks h0 hp _ _)
theorem place_asks{p:Array Nat}(hp:Low N p)(k:Nat):∀(f l r:Nat),Asks N (fun _=>True) (kas_place p k f l r)
 |0,_,_=>trivial
 |f+1,l,r=>by
  unfold kas_place
  split
  ·exact trivial
  ·refine⟨hp.getD h0 _,hp.getD h0 _,fun b=> ?_⟩
   cases b with
   |true=>exact place_asks hp k f _ _
   |false=>exact place_asks hp k f _ _
theorem bin_asks:∀(f:Nat) {p:Array Nat} (k:Nat),Low N p→Asks N (Low N) (kas_bin f p k)
 |0,p,_,hp=>hp
 |f+1,p,k,hp=>Asks.bind (fun l _=>bin_asks f _ (hp.perm (bubble_perm p _ _))) (place_asks h0 hp k _ _ _)
theorem sort_asks:Asks N (Low N) (kas_sort N):=by
 have hp:Low N (List.toArray (List.range N)):=fun x hx=>by simpa using hx
 refine Asks.bind (fun r hr=> ?_) (count_asks h0 N hp)
 split
 ·exact bin_asks h0 _ _ hr
 ·exact hr
end
section
variable{prog:Program}{w:World}{A:Around}{E:Value→Shared→Prop}{s:Shared}{b:Bool}{Q:Bool→Shared→Prop}
theorem lex_ints:∀{xs ys:List Value} {ns ms:List Int} (i:Nat),IntsAre xs ns→IntsAre ys ms→Q (HT.lexLt ns ms) s→KatLex prog w A b (decide (xs.length<ys.length)) Q (xs.zip ys) i s
 |_,_,_,_,_, .nil, .nil,h=>h
 |_,_,_,_,_, .nil, .cons m u r,h=>by
  rw[List.zip_nil_left]
  refine kat_nil ?_
  rw[decide_eq_true (by simp)]
  exact h
 |_,_,_,_,_, .cons n t r, .nil,h=>by
  rw[List.zip_nil_right]
  exact kat_nil h
 |_::xs,_::ys,_,_,i, .cons n t r, .cons m u r',h=>by
  rw[List.zip_cons_cons]
  refine kat_cons (SeqAt.EqAt.int_int n t m u _ _ _ _ ?_)
  rw[HT.lexLt_cons]at h
  by_cases e:n=m
  ·rw[if_pos e]at h
   have e':(n == m)=true:=by simpa using e
   rw[e']
   refine kat_yes ?_
   have q:=lex_ints (xs:=xs) (ys:=ys) (i+1) r r' h
   simpa using q
  ·rw[if_neg e]at h
   have e':(n == m)=false:=by simpa using e
   rw[e']
   refine kat_no ?_
   cases (b&&i == 0)with
   |true=>exact oneLt_int h
   |false=>exact kat_one _ _ (lt_int (show PySem.W.BoolBack Q (.bool (decide (n<m))) s from h))
structure TupsAre(h:Heap)(vs:List Value)(ks:List (List Int)):Prop where
 len:vs.length=ks.length
 at_:∀(i:Nat) (v:Value) (k:List Int),vs[i]? =some v→ks[i]? =some k→k≠[]∧∃a items,v=.ref a∧IsTup h a items∧IntsAre items.toList k
theorem TupsAre.kat{h:Heap}:∀{vs:List Value} {ks:List (List Int)},TupsAre h vs ks→∃fs,KatTups h vs fs∧fs.length=vs.length∧∀v∈fs,∃n t,v=.int n t
 | [],_,_=>⟨[],KatTups.nil,rfl,fun v hv=>by cases hv⟩
 |v::vs,[],T=>by have:=T.len;simp at this
 |v::vs,k::ks,T=>by
  obtain⟨hk,a,items,rfl,⟨o,ho,hc,n,hd⟩,hi⟩:=T.at_ 0 v k rfl rfl
  obtain⟨fs,q1,q2,q3⟩:=TupsAre.kat (vs:=vs) (ks:=ks) ⟨by simpa using T.len,fun i v k h1 h2=>T.at_ (i+1) v k (by simpa using h1) (by simpa using h2)⟩
  cases k with
  |nil=>exact absurd rfl hk
  |cons z zs=>
   have:∃t,items[0]? =some (.int z t):=by
    have e:items.toList[0]? =items[0]? :=by simp
    rw[←e]
    generalize items.toList=l at hi
    cases hi with
    |cons _ t _=>exact⟨t,rfl⟩
   obtain⟨t,ht⟩:=this
   exact⟨.int z t::fs,KatTups.cons ho hc hd ht q1,by simp[q2],fun v hv=>by
    rcases List.mem_cons.mp hv with rfl|hv
    ·exact⟨z,t,rfl⟩
    ·exact q3 v hv⟩
theorem TupsAre.keeps{h h':Heap}{vs:List Value}{ks:List (List Int)}(T:TupsAre h vs ks)(k:∀b o,h.get? b=some o→h'.get? b=some o):TupsAre h' vs ks:=
 ⟨T.len,fun i v z h1 h2=>let⟨a,b,items,c,d,e⟩:=T.at_ i v z h1 h2;⟨a,b,items,c,d.keeps k,e⟩⟩
noncomputable def kLt(ks:List (List Int))(i j:Nat):Bool:=HT.lexLt (ks.getD i []) (ks.getD j [])
theorem kat_ask{vs:List Value}{ks:List (List Int)}(T:TupsAre s.heap vs ks){i j:Nat}(hi:i<vs.length)(hj:j<vs.length){C:Bool→Shared→Prop}(h:C (kLt ks i j) s):kas_ask prog w A (tuples' b) vs i j C s:=by
 have li:=T.len
 obtain⟨_,a,items,ea,⟨o,ho,hc,n,hd⟩,hia⟩:=T.at_ i vs[i] (ks[i]'(by omega)) (by simp) (by simp)
 obtain⟨_,a2,items2,ea2,⟨o2,ho2,hc2,n2,hd2⟩,hia2⟩:=T.at_ j vs[j] (ks[j]'(by omega)) (by simp) (by simp)
 unfold kas_ask
 have e1:vs.getD i Value.none=.ref a:=by rw[←ea];simp[hi]
 have e2:vs.getD j Value.none=.ref a2:=by rw[←ea2];simp[hj]
 rw[e1,e2]
 refine kat_lt ho hd ho2 hd2 ?_
 have q:=lex_ints (prog:=prog) (w:=w) (A:=A) (b:=b) (Q:=C) 0 hia hia2 (by
  unfold kLt at h
  rw[List.getD_eq_getElem?_getD,List.getD_eq_getElem?_getD,List.getElem?_eq_getElem (by omega),List.getElem?_eq_getElem (by omega)]at h
  exact h)
 simpa using q
end
section
variable{prog:Program}{w:World}{A:Around}{E:Value→Shared→Prop}{s:Shared}
noncomputable def kOrd(ks:List (List Int)):List Nat:=(kasRun (kLt ks) (kas_sort ks.length)).toList
theorem sort_tups{a:Addr}{vs:List Value}{ks:List (List Int)}{n:Nat}{P:PySem.Fin→Shared→Prop}(ho:s.heap.get? a=some (seqObj "list" vs.toArray n))(T:∀h':Heap,(∀b o,b≠a→s.heap.get? b=some o→h'.get? b=some o)→TupsAre h' vs ks)(h2:2≤vs.length)(h64:vs.length<64)
  (h:P (.done (.ret .none)) {s with heap:=sortedHeap s.heap a vs ((kOrd ks).map fun i=>vs.getD i Value.none).toArray}):wpAny (model prog w) A (Builtin.«list.sort» ⟨[.ref a],[]⟩) P E s:=by
 have ha:a<s.heap.objs.size:=Heap.lt_size ho
 obtain⟨e1,ho1⟩:∃e1,(s.heap.update a (Obj.mapSeq fun _=> #[])).get? a=some (seqObj "list" #[] e1):=⟨_,get?_update_seq ho (fun _=> #[])⟩
 rw[list_sort_plain]
 refine wpAny_bind (listItems_at ho rfl (wpAny_bind (listUpdate_at ho rfl ?_ (by rw[List.size_toArray,sizeLine_eq];omega) (Nat.zero_le _))))
 refine wpAny_bind (seqEpoch_at ho1 rfl (wpAny_bind (wpAny_newTuple ?_ (by show vs.length≤_;rw[sizeLine_eq];omega))))
 refine wpAny_bind (wpAny_newList (wpAny_holding ?_) (Nat.zero_le _))
 have kp:∀b o,b≠a→s.heap.get? b=some o→(((s.heap.update a (Obj.mapSeq fun _=> #[])).push (seqObj "tuple" vs.toArray 0)).push (seqObj "list" #[] 0)).get? b=some o:=fun b o nb e=>
  Heap.get?_push_of_some _ (Heap.get?_push_of_some _ ((Heap.get?_update_other _ _ (Ne.symm nb)).trans e))
 have ho6:(((s.heap.update a (Obj.mapSeq fun _=> #[])).push (seqObj "tuple" vs.toArray 0)).push (seqObj "list" #[] 0)).get? a=some (seqObj "list" #[] e1):=Heap.get?_push_of_some _ (Heap.get?_push_of_some _ ho1)
 have T6:=T _ kp
 dsimp only
 have hn2:¬vs.toArray.size<2:=by rw[List.size_toArray];omega
 rw[if_neg hn2,if_neg hn2]
 obtain⟨fs,q1,q2,q3⟩:=T6.kat
 refine wpAny_bind (kat_kind (T:=.type "int") (s:={s with heap:=((s.heap.update a (Obj.mapSeq fun _=> #[])).push (seqObj "tuple" vs.toArray 0)).push (seqObj "list" #[] 0)}) q1 (by omega) (fun v hv=> ?_) rfl ?_)
 ·obtain⟨z,t,rfl⟩:=q3 v hv
  exact PySem.W.Looks.of_pure rfl
 ·have hl:vs.length=ks.length:=T6.len
  refine wpAny_bind (wpAny_mono (kat_run (ks:=vs) (Q:=fun st' s'=>failedOf st'=none∧(arrOf st').map (·.2)=((kOrd ks).map fun i=>vs.getD i Value.none).toArray∧s'={s with heap:=((s.heap.update a (Obj.mapSeq fun _=> #[])).push (seqObj "tuple" vs.toArray 0)).push (seqObj "list" #[] 0)})
   (G:=fun p s'=>p=kasRun (kLt ks) (kas_sort vs.length)∧s'={s with heap:=((s.heap.update a (Obj.mapSeq fun _=> #[])).push (seqObj "tuple" vs.toArray 0)).push (seqObj "list" #[] 0)}) rfl h2 h64 (fun p st' s' a1 a2 a3 ⟨a4,a5⟩=> ?_)
   (kasRun_wp (N:=vs.length) (lt:=kLt ks) (fun i j C hi hj hC=>kat_ask T6 hi hj hC) (kas_sort vs.length) (sort_asks (by omega)) ⟨rfl,rfl⟩)) ?_ fun _ _ e=>e)
  ·refine⟨a3,?_,a5⟩
   rw[kat_snds rfl a2,a4]
   unfold kOrd
   rw[hl]
  ·rintro⟨⟨⟩,st'⟩ s' ⟨hf,hout,rfl⟩
   dsimp only
   refine wpAny_bind (seqEpoch_at ho6 rfl (wpAny_bind (listUpdate_at ho6 rfl ?_ (Nat.zero_le _) ?_)))
   ·have hf':failedOf st'=none:=hf
    rw[hf']
    simp only[bne_self_eq_false,Bool.false_eq_true,if_false]
    have hout':(arrOf st').map (·.2)=((kOrd ks).map fun i=>vs.getD i Value.none).toArray:=hout
    rw[hout']
    exact wpAny_pure h
   ·have hout':(arrOf st').map (·.2)=((kOrd ks).map fun i=>vs.getD i Value.none).toArray:=hout
    show((arrOf st').map (·.2)).size≤_
    rw[hout',List.size_toArray,List.length_map]
    have:=(sort_perm (kLt ks) ks.length).size_eq
    unfold kOrd
    rw[Array.length_toList,this,List.size_toArray,List.length_range,sizeLine_eq]
    omega
end
end L3
namespace L3
open PySem PySem.Spec L2
open PyProof.Rows hiding St
section
variable{prog:Program}{w:World}{A:Around}{E:Value→Shared→Prop}{s:Shared}
theorem sorted_core{it:Addr}{T:String}{o:Obj}{items:Array Value}{n:Nat}{Q:Value→Shared→Prop}(hT:T="list"∨T="tuple")(ho:s.heap.get? it=some o)(hc:o.cls=.type T)(hd:o.data=.seq items n)(hsz:items.size≤sizeLine)
  (hs:∀(A':Around) (h':Heap),(∀b o',s.heap.get? b=some o'→h'.get? b=some o')→
   wpAny (model prog w) A' (Builtin.«list.sort» ⟨[.ref h'.objs.size],[]⟩) (fun fin s'=>∃v,fin=.done (.ret v)∧Q (.ref h'.objs.size) s') E {s with heap:=h'.push (seqObj "list" items.toList.toArray 0)}):wpAny (model prog w) A (call (.builtin "sorted") [.ref it]) Q E s:=by
 refine Calls.call_function_entry kind_sorted plain_sorted entry_sorted (args_sorted1 _) (show wpAny _ _ (Builtin.«sorted» _) _ _ _ from ?_)
 unfold Builtin.«sorted»
 refine wpAny_bind (m:=checkCount "sorted" 1 1 _) (wpAny_pure (wpAny_bind (wpAny_collect_seq it hT ho hc hd (fun h' kp=> ?_) hsz)))
 refine wpAny_bind (wpAny_newList ?_ (by show items.toList.length≤_;simpa using hsz))
 have hoL:(h'.push (seqObj "list" items.toList.toArray 0)).get? h'.objs.size=some (seqObj "list" items.toList.toArray 0):=Heap.get?_push_size _ rfl
 refine wpAny_bind (wpAny_holding (wpAny_call_entry slot_list_sort ⟨_,hoL,rfl⟩ entry_list_sort (wpAny_mono (hs _ h' kp) (fun fin s' ⟨v,e,q⟩=>⟨v,e,?_⟩) fun _ _ e=>e) (args_list_sort _)))
 exact wpAny_pure ⟨_,rfl,q⟩
theorem sort_short{a:Addr}{vs:List Value}{n:Nat}{P:PySem.Fin→Shared→Prop}(ho:s.heap.get? a=some (seqObj "list" vs.toArray n))(h2:vs.length<2)
  (h:P (.done (.ret .none)) {s with heap:=sortedHeap s.heap a vs vs.toArray}):wpAny (model prog w) A (Builtin.«list.sort» ⟨[.ref a],[]⟩) P E s:=by
 obtain⟨e1,ho1⟩:∃e1,(s.heap.update a (Obj.mapSeq fun _=> #[])).get? a=some (seqObj "list" #[] e1):=⟨_,get?_update_seq ho (fun _=> #[])⟩
 rw[list_sort_plain]
 refine wpAny_bind (listItems_at ho rfl (wpAny_bind (listUpdate_at ho rfl ?_ (by rw[List.size_toArray,sizeLine_eq];omega) (Nat.zero_le _))))
 refine wpAny_bind (seqEpoch_at ho1 rfl (wpAny_bind (wpAny_newTuple ?_ (by show vs.length≤_;rw[sizeLine_eq];omega))))
 refine wpAny_bind (wpAny_newList (wpAny_holding ?_) (Nat.zero_le _))
 have ho6:(((s.heap.update a (Obj.mapSeq fun _=> #[])).push (seqObj "tuple" vs.toArray 0)).push (seqObj "list" #[] 0)).get? a=some (seqObj "list" #[] e1):=Heap.get?_push_of_some _ (Heap.get?_push_of_some _ ho1)
 dsimp only
 have hn2:vs.toArray.size<2:=by rw[List.size_toArray];omega
 rw[if_pos hn2,if_pos hn2]
 refine wpAny_bind (wpAny_pure ?_)
 rw[StateT.run_pure]
 refine wpAny_bind (wpAny_pure ?_)
 dsimp only
 have eo:(arrOf (SortSt.mk' general' (vs.toArray.zip vs.toArray) #[] 7 none)).map (·.2)=vs.toArray:=by
  show(vs.toArray.zip vs.toArray).map (·.2)=vs.toArray
  apply Array.toList_inj.mp
  rw[Array.toList_map,Array.toList_zip,List.map_snd_zip]
  exact Nat.le_refl _
 refine wpAny_bind (seqEpoch_at ho6 rfl (wpAny_bind (listUpdate_at ho6 rfl ?_ (Nat.zero_le _) ?_)))
 ·simp only[bne_self_eq_false,Bool.false_eq_true,if_false]
  rw[eo]
  exact wpAny_pure h
 ·show((arrOf (SortSt.mk' general' (vs.toArray.zip vs.toArray) #[] 7 none)).map (·.2)).size≤_
  rw[eo,List.size_toArray,sizeLine_eq]
  omega
end
noncomputable def intsD:List D→Option (List Int)
 | []=>some []
 | .int i::ds=>(intsD ds).map (i:: ·)
 |_=>none
noncomputable def tupsD:List D→Option (List (List Int))
 | []=>some []
 | .tup xs::ds=>match intsD xs,tupsD ds with
  |some (k::ks),some r=>some ((k::ks)::r)
  |_,_=>none
 |_=>none
noncomputable def leB(a b:Int):Bool:=decide (a≤b)
noncomputable def srtL(xs:List D):R (List D):=if xs.length<64 then(match intsD xs with
 |some ns=>.ok ((ns.mergeSort leB).map .int)
 |none=>match tupsD xs with
  |some ks=>if xs.length<2 then .ok xs else .ok ((kOrd ks).map fun i=>xs.getD i .non)
  |none=>.bad)else .bad
noncomputable def srtD:List D→R (List D)
 | [.lst xs]=>srtL xs
 | [.tup xs]=>srtL xs
 |_=>.bad
theorem ints_map:∀{ds:List D} {ns:List Int},intsD ds=some ns→ds=ns.map .int
 | [],ns,e=>by cases e;rfl
 | .int i::ds,ns,e=>by
  simp only[intsD]at e
  cases h:intsD ds with
  |none=>rw[h]at e;cases e
  |some r=>rw[h]at e;cases e;rw[ints_map h];rfl
 | .non::_,_,e=>by cases e
 | .bl _::_,_,e=>by cases e
 | .str _::_,_,e=>by cases e
 | .tup _::_,_,e=>by cases e
 | .lst _::_,_,e=>by cases e
section
variable{K:PySem.W.Frag}{G:Addr→Prop}{H:Hp}
theorem ints_vals:∀(ns:List Int) {xs:List V},RepL K G H (ns.map .int) xs→xs=ns.map .int
 | [],xs,r=>r.nil_of
 |n::ns,xs,r=>by
  obtain⟨x,t,rfl,h1,h2⟩:=r.uncons
  rw[h1.int_of,ints_vals ns h2];rfl
theorem ints_rep(ns:List Int):RepL K G H (ns.map .int) (ns.map .int):=by
 induction ns with
 |nil=>exact RepL.nil
 |cons n r ih=>exact RepL.cons Rep.int ih
end
theorem sorted_one{ns ns':List Int}(p:ns'.Perm ns)(h:ns'.Pairwise (· ≤ ·)):ns'=ns.mergeSort leB:=by
 refine List.Perm.eq_of_pairwise (le:=(· ≤ ·)) (fun a b _ _ h1 h2=>Int.le_antisymm h1 h2) h ?_ (p.trans (List.mergeSort_perm ns leB).symm)
 have q:=List.pairwise_mergeSort (le:=leB) (fun a b c h1 h2=>by simp only[leB,decide_eq_true_eq]at *;omega) (fun a b=>by simp only[leB,Bool.or_eq_true,decide_eq_true_eq];omega) ns
 exact q.imp fun{a b} z=>by simpa[leB]using z
section
variable{X:Cx}
theorem tups_are{pins:List (Addr×Obj)}{σ:St}{H:Hp}{s:Shared}{G:Addr→Prop}(I:Inv X pins σ H s):∀{ds:List D} {ks:List (List Int)} {xs:List V} {us:List Value},tupsD ds=some ks→RepL X.K G H ds xs→Vals xs us→TupsAre s.heap us ks
 | [],ks,xs,us,e,r,rv=>by
  cases e
  rw[r.nil_of]at rv
  cases rv
  exact⟨rfl,fun i v k h=>by simp at h⟩
 | .tup ys::ds,ks,xs,us,e,r,rv=>by
  obtain⟨x,t,rfl,h1,h2⟩:=r.uncons
  cases rv with
  |cons r1 r2=>
   simp only[tupsD]at e
   split at e
   ·rename_i k kr rr e1 e2
    cases e
    have ih:=tups_are I e2 h2 r2
    obtain⟨a,vs,rfl,hq,rr'⟩:=h1.tup_of
    cases r1
    have hm:=ints_map e1
    rw[hm]at rr'
    have hv:=ints_vals _ rr'
    obtain⟨its,rv',ht,_⟩:=I.tuple hq
    rw[hv]at rv'
    refine⟨by simp[ih.len],fun i v z g1 g2=> ?_⟩
    cases i with
    |zero=>
     simp at g1 g2
     subst g1 g2
     exact⟨by simp,a,its.toArray,rfl,ht,intsAre_of rv'⟩
    |succ i=>exact ih.at_ i v z (by simpa using g1) (by simpa using g2)
   ·cases e
 | .non::_,_,_,_,e,_,_=>by cases e
 | .bl _::_,_,_,_,e,_,_=>by cases e
 | .int _::_,_,_,_,e,_,_=>by cases e
 | .str _::_,_,_,_,e,_,_=>by cases e
 | .lst _::_,_,_,_,e,_,_=>by cases e
theorem RepL.pick{K:PySem.W.Frag}{G:Addr→Prop}{H:Hp}{ds:List D}{xs:List V}(r:RepL K G H ds xs):∀(is:List Nat),(∀i∈is,i<ds.length)→RepL K G H (is.map fun i=>ds.getD i .non) (is.map fun i=>xs.getD i .non)
 | [],_=>RepL.nil
 |i::is,h=>by
  have hi:=h i List.mem_cons_self
  obtain⟨x,e1,e2⟩:=r.get (List.getElem?_eq_getElem hi)
  refine RepL.cons (show Rep K G H (ds.getD i .non) (xs.getD i .non)from ?_) (RepL.pick r is fun j hj=>h j (List.mem_cons_of_mem _ hj))
  rw[List.getD_eq_getElem?_getD,List.getD_eq_getElem?_getD,e1,List.getElem?_eq_getElem hi]
  exact e2
theorem Vals.pick{xs:List V}{us:List Value}(r:Vals xs us):∀(is:List Nat),(∀i∈is,i<xs.length)→Vals (is.map fun i=>xs.getD i .non) (is.map fun i=>us.getD i .none)
 | [],_=>.nil
 |i::is,h=>by
  have hi:=h i List.mem_cons_self
  obtain⟨u,e1,e2⟩:=L2.Vals.get r (List.getElem?_eq_getElem hi)
  refine .cons (show L2.RelV (xs.getD i .non) (us.getD i .none)from ?_) (Vals.pick r is fun j hj=>h j (List.mem_cons_of_mem _ hj))
  rw[List.getD_eq_getElem?_getD,List.getD_eq_getElem?_getD,e1,List.getElem?_eq_getElem hi]
  exact e2
theorem kOrd_lt{ks:List (List Int)}:∀i∈kOrd ks,i<ks.length:=fun i hi=>by
 unfold kOrd at hi
 have:=(sort_perm (kLt ks) ks.length).mem_iff.mp (by simpa using hi)
 simpa using this
theorem kOrd_perm(ks:List (List Int)):(kOrd ks).Perm (List.range ks.length):=by
 unfold kOrd
 have:=(sort_perm (kLt ks) ks.length).toList
 simpa using this
theorem srtD_cases(ds:List D):srtD ds=.bad∨(∃ys,ds=[.tup ys]∧srtD ds=srtL ys)∨∃ys,ds=[.lst ys]∧srtD ds=srtL ys:=by
 unfold srtD
 split
 ·exact .inr (.inr ⟨_,rfl,rfl⟩)
 ·exact .inr (.inl ⟨_,rfl,rfl⟩)
 ·exact .inl rfl
theorem cn_sorted:CallN X (.builtin "sorted") srtD:=by
 intro pins s σ H xs us Q I r ⟨G,σ',ds,hG,rd,q⟩
 have core:∀(a:Addr) (ys:List D) (vs:List V) (its:List Value) (T:String) (o:Obj) (n:Nat),us=[.ref a]→Vals vs its→RepL X.K G H ys vs→vs.length≤sizeLine→(T="list"∨T="tuple")→s.heap.get? a=some o→o.cls=.type T→o.data=.seq its.toArray n→
   DQ X σ' (fun H' ds v=>∃p xs,v=.ref p∧H p=none∧H' p=some (.lst xs)∧RepL X.K (fun a=>G a∧a≠p) H' ds xs) H (srtL ys) Q→wpAny (model X.prog X.w) X.A (call (.builtin "sorted") us) (EP X pins σ Q) X.xe s:=by
  intro a ys vs its T o n eu rv ry hz hT ho hc hd q
  subst eu
  have hl:=rv.length
  have hly:=ry.length
  refine sorted_core hT ho hc hd (by rw[List.size_toArray];omega) fun A' h' kp=> ?_
  have I1:Inv X pins σ H {s with heap:=h'}:=I.kept (t':=s.toks) kp
  have hf:H h'.objs.size=none:=I1.fresh
  have hoL:(h'.push (seqObj "list" its.toArray.toList.toArray 0)).get? h'.objs.size=some (seqObj "list" its.toArray 0):=by
   rw[show its.toArray.toList.toArray=its.toArray by simp]
   exact Heap.get?_push_size _ rfl
  have fin:∀(zs:List V) (ows:List Value) (out:List D),Vals zs ows→zs.length≤sizeLine→srtL ys=.ok out→RepL X.K G H out zs→
    EP X pins σ Q (.ref h'.objs.size) {s with heap:=sortedHeap (h'.push (seqObj "list" its.toArray.toList.toArray 0)) h'.objs.size its ows.toArray}:=by
   intro zs ows out rz hzz eo ro
   rw[eo]at q
   obtain⟨e,he⟩:=sortedHeap_at (out:=ows.toArray) hoL
   have hk:∀b ob,h'.get? b=some ob→(sortedHeap (h'.push (seqObj "list" its.toArray.toList.toArray 0)) h'.objs.size its ows.toArray).get? b=some ob:=fun b ob eb=>by
    rw[sortedHeap_old (Nat.ne_of_lt (Heap.lt_size eb)) (by rw[size_push'];exact Nat.lt_succ_of_lt (Heap.lt_size eb))]
    exact Heap.get?_push_of_some _ eb
   have g:=same_new hf (.lst zs)
   exact⟨.ref _,_,I1.laid (t':=s.toks) (o:=.lst zs) hk (Nat.le_refl _) ⟨hzz,ows,e,rz,he⟩,rfl,q _ _ g ⟨_,zs,rfl,hf,upd_same,(ro.off hf).same g⟩⟩
  unfold srtL at q fin
  by_cases h64:ys.length<64
  ·rw[if_pos h64]at q fin
   cases hi:intsD ys with
   |some ns=>
    rw[hi]at q fin
    have hm:=ints_map hi
    subst hm
    have hvs:=ints_vals _ ry
    subst hvs
    have hI:=intsAre_of rv
    refine list_sort_tree (s:={s with heap:=h'.push (seqObj "list" its.toArray.toList.toArray 0)}) hoL hI (by rw[←hl];simpa using h64) fun out ns' a1 a2 a3=>⟨_,rfl,?_⟩
    have e:=sorted_one a2 a3
    subst e
    have z:=fin ((ns.mergeSort leB).map .int) out.toList _ (vals_ints a1) (by simp only[List.length_map,List.length_mergeSort];rw[sizeLine_eq];simp at h64;omega) rfl (ints_rep _)
    simpa using z
   |none=>
    rw[hi]at q fin
    cases ht:tupsD ys with
    |none=>rw[ht]at q;exact q.elim
    |some ks=>
     rw[ht]at q fin
     by_cases h2:ys.length<2
     ·simp only[h2,if_true]at q fin
      refine sort_short (s:={s with heap:=h'.push (seqObj "list" its.toArray.toList.toArray 0)}) hoL (by omega) ⟨_,rfl,?_⟩
      exact fin vs its ys rv hz rfl ry
     ·simp only[h2,if_false]at q fin
      have T0:=tups_are I1 ht ry rv
      have hkl:=T0.len
      refine sort_tups (ks:=ks) (s:={s with heap:=h'.push (seqObj "list" its.toArray.toList.toArray 0)}) hoL (fun h2 k2=>T0.keeps fun b ob eb=>k2 b ob (Nat.ne_of_lt (Heap.lt_size eb)) (Heap.get?_push_of_some _ eb)) (by omega) (by omega) ⟨_,rfl,?_⟩
      have lt1:∀i∈kOrd ks,i<vs.length:=fun i hi=>by have:=kOrd_lt i hi;omega
      have lt2:∀i∈kOrd ks,i<ys.length:=fun i hi=>by have:=kOrd_lt i hi;omega
      have hzl:((kOrd ks).map fun i=>vs.getD i V.non).length≤sizeLine:=by
       rw[List.length_map,(kOrd_perm ks).length_eq,List.length_range,sizeLine_eq];omega
      exact fin ((kOrd ks).map fun i=>vs.getD i .non) ((kOrd ks).map fun i=>its.getD i .none) _ (Vals.pick rv _ lt1) hzl rfl (RepL.pick ry _ lt2)
  ·rw[if_neg h64]at q;exact q.elim
 rcases srtD_cases ds with e|⟨ys,e0,e⟩|⟨ys,e0,e⟩<;>rw[e]at q
 ·exact q.elim
 ·rw[e0]at rd
  obtain⟨x,rfl,rx⟩:=one_of rd
  obtain⟨a,vs,rfl,h1,r1⟩:=rx.tup_of
  obtain⟨u,rfl,ru⟩:=vals1 r
  cases ru
  obtain⟨its,rv,⟨o,ho,hc,n,hd⟩,hz⟩:=I.tuple h1
  exact core a ys vs its "tuple" o n rfl rv r1 hz (.inr rfl) ho hc hd q
 ·rw[e0]at rd
  obtain⟨x,rfl,rx⟩:=one_of rd
  obtain⟨a,vs,rfl,h1,r1⟩:=rx.lst_of
  obtain⟨u,rfl,ru⟩:=vals1 r
  cases ru
  obtain⟨its,rv,⟨o,n,ho,hc,_,hd⟩,hz⟩:=I.list h1.sq
  exact core a ys vs its "list" o n rfl rv r1 hz (.inl rfl) ho hc hd q
end
end L3
namespace L3
open PySem PySem.Spec L2
open PyProof.Rows hiding St
noncomputable abbrev isD(d:D):R D:=.ok (.bl (isNonD d))
noncomputable abbrev isntD(d:D):R D:=.ok (.bl (!isNonD d))
noncomputable def negD:D→R D
 | .int i=>.ok (.int (-i))
 |_=>.bad
noncomputable def repl(n:Rho→R (List D))(b:Rho→R D):Rho→R (List D):=fun ρ=>n ρ>>=fun ds=>nox (b ρ)>>=fun k=>match ds,k with
 | [d], .int i=>if i.natAbs≤1000 then .ok (List.replicate i.toNat d)else .bad
 |_,_=>.bad
noncomputable def dd(ns:List Int):List Int:=ns.foldl (fun σ v=>if σ.any (· == v)then σ else σ++[v]) []
noncomputable def lenSetD:D→R D
 | .tup xs=>match intsD xs with|some ns=>if ns.length<1000 then .ok (.int (dd ns).length)else .bad|none=>.bad
 | .lst xs=>match intsD xs with|some ns=>if ns.length<1000 then .ok (.int (dd ns).length)else .bad|none=>.bad
 |_=>.bad
noncomputable def zipL(xs ys:List D):List D:=(xs.zip ys).map fun p=>.tup [p.1,p.2]
noncomputable def zipD:List D→R (List D)
 | [x,y]=>itsR x>>=fun xs=>itsR y>>=fun ys=>.ok (zipL xs ys)
 |_=>.bad
noncomputable def bn(f:D→D→R D)(ma mb:Rho→R D):Rho→R D:=fun ρ=>ma ρ>>=fun x=>nox (mb ρ)>>=fun y=>f x y
noncomputable def sumD:List D→R D
 | [.lst xs]=>match intsD xs with|some ns=>.ok (.int ns.sum)|none=>.bad
 | [.tup xs]=>match intsD xs with|some ns=>.ok (.int ns.sum)|none=>.bad
 |_=>.bad
noncomputable def maxD:List D→R D
 | [.int i, .int j]=>.ok (.int (if i<j then j else i))
 |_=>.bad
noncomputable def sAppF(i:Nat)(m:Rho→R D):Tau→Fl:=fun τ=>match τ[i]?,m (view τ)with
 |some (some (.ac ds)), .ok d=>if ds.length<sizeLine∧noL d=true then .nx (τ.set i (some (.ac (ds++[d]))))else .bad
 |_,_=>.bad
noncomputable def sExt(i:Nat)(m:Rho→R D):Tau→Fl:=fun τ=>match τ[i]?,m (hide τ)with
 |some (some (.ac ds)), .ok (.lst es)=>if ds.length+es.length≤sizeLine then .nx (τ.set i (some (.ac (ds++es))))else .bad
 |_,_=>.bad
noncomputable def sPut(i:Nat)(m v:Rho→R D):Tau→Fl:=fun τ=>match τ[i]?,v (view τ),m (view τ)with
 |some (some (.ac ds)), .ok d, .ok (.int k)=>match ixN ds.length k with
  |some j=>if noL d=true then .nx (τ.set i (some (.ac (ds.set j d))))else .bad
  |none=>.bad
 |_,_,_=>.bad
noncomputable def sPutN(i:Nat)(m1 m2 v:Rho→R D):Tau→Fl:=fun τ=>match τ[i]?,v (view τ),m1 (view τ),m2 (view τ)with
 |some (some (.an dss)), .ok d, .ok (.int k1), .ok (.int k2)=>match ixN dss.length k1 with
  |some j1=>match dss[j1]? with
   |some ds=>match ixN ds.length k2 with
    |some j2=>if noL d=true then .nx (τ.set i (some (.an (dss.set j1 (ds.set j2 d)))))else .bad
    |none=>.bad
   |none=>.bad
  |none=>.bad
 |_,_,_,_=>.bad
noncomputable def sWhl(n:Nat)(c:Rho→R Bool)(B:Tau→Fl):Tau→Fl:=match n with
 |0=>fun _=>.bad
 |n+1=>fun τ=>match c (view τ)with
  | .ok true=>match B τ with
   | .nx τ'=>sWhl n c B τ'
   | .ct τ'=>sWhl n c B τ'
   | .bk τ'=>.nx τ'
   | .rt d=>.rt d
   | .ex c τ'=>.ex c τ'
   | .bad=>.bad
  | .ok false=>.nx τ
  | .ex c=>.ex c τ
  | .bad=>.bad
noncomputable def sTwo(i j:Nat)(a b:Rho→R D):Tau→Fl:=fun τ=>match a (view τ),b (view τ)with
 | .ok d, .ok e=>if noL d=true∧noL e=true then .nx ((τ.set i (some (.sh d))).set j (some (.sh e)))else .bad
 |_,_=>.bad
section
variable{X:Cx}{pos:Pos}
theorem s_putN{i:Nat}{x:Str}{e1 e2 ev:Expr}{m1 m2 v:Rho→R D}{p1 p2 p3:Pos}(h1:PD X e1 m1)(h2:PD X e2 m2)(hv:PD X ev v)(hi:X.N[i]? =some x:=by rfl)(hx:Vis X.env.scope x:=by first|exact Or.inl rfl|exact Or.inr (Or.inl rfl)|exact Or.inr (Or.inr rfl))
  (hd:(x == ("__debug__":Str))=false:=by decide) (hcd:(x == ("__classdict__":Str))=false:=by decide) (hp:PlainIx e1:=by intro _ _;rfl)
  (ha:∀v,assign (.Subscript (.Subscript (.Name x p1) e1 p2) e2 p3) X.env v=(do
   let ov←holding [v] (eval (.Subscript (.Name x p1) e1 p2) X.env)
   let iv←holding [v,ov] (eval e2 X.env)
   standAt p3
   holding [v,ov,iv] (setItem ov iv v)
   release [v,ov,iv] []):=by intro _;rfl)
  (hs:swapsWithSole [.Subscript (.Subscript (.Name x p1) e1 p2) e2 p3] ev pos.line X.env=pure false:=by rfl) (hw:swappedStores [.Subscript (.Subscript (.Name x p1) e1 p2) e2 p3] ev X.env=pure none:=by rfl)
  (hh:(assignEach [.Subscript (.Subscript (.Name x p1) e1 p2) e2 p3] X.env).map (·.2)=[assign (.Subscript (.Subscript (.Name x p1) e1 p2) e2 p3) X.env]:=by rfl):PSD X (.Assign [.Subscript (.Subscript (.Name x p1) e1 p2) e2 p3] ev pos) (sPutN i m1 m2 v):=
 (ps_asg hv (pg_sub (pe_ix ix_list (pe_var hi hx hd hcd) h1 hp) h2 set_list ha) hs hw hh).imp fun E σ H ⟨G,O,τ,S,q⟩=>by
  unfold sPutN at q
  split at q
  ·rename_i dss d k1 k2 z1 z2 z3 z4
   split at q
   ·rename_i j1 ej1
    split at q
    ·rename_i ds eds
     split at q
     ·rename_i j2 ej2
      split at q
      ·rename_i hn
       obtain⟨p,a⟩:=S.an z1
       refine⟨G,view τ,S.free,S.vw,?_⟩
       rw[z2]
       intro u H1 g1 ru
       have S1:=S.same g1
       refine⟨.ref p,a,G,view τ,S1.free,S1.vw,?_⟩
       rw[z3]
       intro iv H2 g2 ri
       cases ri.int_of
       have S2:=S1.same g2
       obtain⟨qs,q',xs,b1,b2,b3,b4,b5,b6⟩:=S2.updN (es:=ds.set j2 d) z1 a eds
       have hat:atI (qs.map V.ref) k1=some (.ref q'):=by
        unfold atI
        rw[List.length_map,b5,ej1]
        show(qs.map V.ref)[j1]? =_
        rw[List.getElem?_map,b2];rfl
       refine⟨p,_,k1, .ref q',rfl,rfl,SqL.of b1,hat,G,view τ,S2.free,S2.vw,?_⟩
       rw[z4]
       intro iv2 H3 g3 ri2
       cases ri2.int_of
       have S3:=S2.same g3
       obtain⟨qs',q'',xs',d1,d2,d3,d4,d5,d6⟩:=S3.updN (es:=ds.set j2 d) z1 a eds
       have hq:q''=q':=by
        have w:=g3 _ _ b1
        rw[d1]at w
        have w2:qs'.map V.ref=qs.map V.ref:=by injection (Option.some.inj w)
        have w3:(qs'.map V.ref)[j1]? =(qs.map V.ref)[j1]? :=by rw[w2]
        rw[List.getElem?_map,List.getElem?_map,d2,b2]at w3
        injection (Option.some.inj w3)
       subst hq
       obtain⟨O',s4,t4⟩:=d6 _ (d4.set (noL_rep d hn ((ru.same g2).same g3)) j2)
       exact⟨q'',xs',k2,j2,rfl,rfl,d3,by rw[d4.length];exact ej2,q O' _ _ ((Tr.of_same (g1.trans (g2.trans g3))).trans t4) s4⟩
      ·exact q.elim
     ·exact q.elim
    ·exact q.elim
   ·exact q.elim
  ·exact q.elim
theorem s_whileP{c:Expr}{body:List Stmt}{mc:Rho→R Bool}{B:Tau→Fl}{n:Nat}(hc:PDT X c mc)(hb:PSS X body B)(hx:PassesOwn (model X.prog X.w) X.A X.env X.xe):PSD X (.While c body [] pos) (sWhl n mc B):=
 (ps_while hx hc hb).imp fun E σ H ⟨G,O,τ,S,q⟩=>by
  generalize hr:sWhl n mc B τ=r0 at q
  refine⟨fun m σ' H'=>∃(O':Addr→Prop) (τ':Tau),Tr O H O' H'∧StOk X.K G O' τ' σ' H'∧sWhl m mc B τ'=r0,⟨n,O,τ,Tr.refl O H,S,hr⟩,?_⟩
  rintro m σ' H' ⟨O',τ',t',S',hr'⟩
  refine⟨G,view τ',S'.free,S'.vw,?_⟩
  cases m with
  |zero=>unfold sWhl at hr';subst hr';exact q.elim
  |succ m=>
   unfold sWhl at hr'
   cases hm:mc (view τ')with
   |ex c=>rw[hm]at hr';subst hr';exact EndsOk.xq (EndsOk.tr q t') S'
   |bad=>rw[hm]at hr';subst hr';exact q.elim
   |ok b=>
    rw[hm]at hr'
    intro b' H1 e1 rb
    cases rb
    have S1:=S'.same e1
    have t1:=t'.trans (Tr.of_same (O:=O') e1)
    cases b with
    |false=>
     simp only[Bool.false_eq_true,if_false]
     have hr':Fl.nx τ'=r0:=hr'
     subst hr'
     exact q O' σ' H1 t1 S1
    |true=>
     simp only[if_true]
     refine⟨fun σ2 H2=>∃(O2:Addr→Prop) (τ2:Tau),Tr O H O2 H2∧StOk X.K G O2 τ2 σ2 H2∧sWhl m mc B τ2=r0,fun σ2 H2 h=>⟨m,Nat.lt_succ_self m,h⟩,G,O',τ',S1,?_⟩
     have hr':(match B τ' with
      | .nx τ'=>sWhl m mc B τ'
      | .ct τ'=>sWhl m mc B τ'
      | .bk τ'=>.nx τ'
      | .rt d=>.rt d
      | .ex c τ'=>.ex c τ'
      | .bad=>.bad)=r0:=hr'
     cases hB:B τ' with
     |nx τ3=>rw[hB]at hr';exact fun O3 σ3 H3 t3 s3=>⟨O3,τ3,t1.trans t3,s3,hr'⟩
     |ct τ3=>rw[hB]at hr';exact fun O3 σ3 H3 t3 s3=>⟨O3,τ3,t1.trans t3,s3,hr'⟩
     |bk τ3=>rw[hB]at hr';subst hr';exact fun O3 σ3 H3 t3 s3=>q O3 σ3 H3 (t1.trans t3) s3
     |rt d=>rw[hB]at hr';subst hr';exact fun O3 v H3 t3 r3=>q O3 v H3 (t1.trans t3) r3
     |ex c τ3=>rw[hB]at hr';subst hr';exact⟨q.1,fun O3 pins σ3 H3 e3 s3 t3=>q.2 O3 pins σ3 H3 e3 s3 (t1.trans t3)⟩
     |bad=>rw[hB]at hr';subst hr';exact q.elim
theorem s_while{c:Expr}{body:List Stmt}{mc:Rho→R Bool}{B:Tau→Fl}{n:Nat}(hc:∀E,PDT (X.wish E) c mc)(hb:∀E,PSS (X.wish E) body B)(hst:X.stack=X.env::X.outer∧X.env.frame=some X.env.locals:=by exact⟨rfl,rfl⟩):
  PSD X (.While c body [] pos) (sWhl n mc B):=wished fun G O H r=>s_whileP (hc _) (hb _) (XE.passes hst)
theorem s_appF{i:Nat}{x:Str}{e:Expr}{m:Rho→R D}{p1 apos cpos:Pos}(he:PD X e m)(hi:X.N[i]? =some x:=by rfl)(hv:Vis X.env.scope x:=by first|exact Or.inl rfl|exact Or.inr (Or.inl rfl)|exact Or.inr (Or.inr rfl))
  (hbase:attributeBase (.Name x p1) "append" X.env (eval (.Name x p1) X.env)=eval (.Name x p1) X.env:=by rfl)
  (hfew:((backTo cpos (starEach [e] X.env)).all (fun x=> !x.1)&&(backToKw cpos (keywordEach [] X.env)).all (fun x=>x.1.isSome)&&decide ([e].length+([]:List Keyword).length+(if([]:List Keyword).isEmpty then 0 else 1)<30))=true:=by rfl)
  (hline:(apos.endLine == cpos.line)=true:=by rfl) (hs:starEach [e] X.env=(false,eval e X.env)::starEach [] X.env:=by rfl) (hd:(x == ("__debug__":Str))=false:=by decide) (hcd:(x == ("__classdict__":Str))=false:=by decide)
  (hsw:swapsWith (.Call (.Attribute (.Name x p1) "append" apos) [e] [] cpos) none pos.line X.env=pure false:=by rfl):
  PSD X (.Expr (.Call (.Attribute (.Name x p1) "append" apos) [e] [] cpos) pos) (sAppF i m):=
 (ps_expr (pe_bm PySem.F.plainAttrs_list PySem.F.slot_list_append PySem.F.type_list_append mt_append (pe_var hi hv hd hcd) (pa_cons he pa_nil hs) hbase hfew hline hs) hsw).imp fun E σ H ⟨G,O,τ,S,q⟩=>by
  unfold sAppF at q
  split at q
  ·rename_i ds d h1 h2
   obtain⟨p,xs,a,c,r⟩:=S.ac h1
   refine⟨.ref p,a, .inl ⟨rfl,_,SqL.of c⟩,G,view τ,S.free,S.vw,?_⟩
   rw[h2]
   intro v H1 e1 rv
   split at q
   ·rename_i hl
    obtain⟨O',s1,t1⟩:=(S.same e1).upd h1 a ((r.same e1).append (RepL.cons (noL_rep d hl.2 rv) RepL.nil))
    exact⟨p,xs,v,rfl,rfl,e1 _ _ c,by rw[r.length];exact hl.1,q O' _ _ ((Tr.of_same e1).trans t1) s1⟩
   ·exact q.elim
  ·exact q.elim
structure Callee(P:Program)(w:World)(K:PySem.W.Frag)(mg:Str→Option Value)(base:Heap)(k:Nat)(x:Str)(F:List D→R D):Prop where
 ex:∃f fd ps,FnOk P w K mg base (CXR P w) k f fd ps (spD K F)∧Binds K fd ps []∧PySem.W.keepIn K (.ref f)=true∧mg x=some (.ref f)
theorem d_callC{x:Str}{p pos:Pos}{e:Expr}{es:List Expr}{k:Nat}{F:List D→R D}{n:Rho→R (List D)}(c:Callee X.prog X.w X.K X.mg X.base k x F)(hr:Room k X.A)(ha:PDA X (e::es) n)
  (hg:Gl X x:=by rfl) (hdb:(x == ("__debug__":Str))=false:=by decide) (he:starEach (e::es) X.env=(false,eval e X.env)::starEach es X.env:=by rfl) (hpl:(backTo pos (starEach es X.env)).any (·.1)=false:=by rfl):
  PD X (.Call (.Name x p) (e::es) [] pos) (ap F n):=by
 obtain⟨f,fd,ps,h1,h2,h3,h4⟩:=c.ex
 exact d_call h1 h2 h3 h4 hr ha hg hdb he hpl
end
end L3
namespace L3
open PySem PySem.Spec L2
open PyProof.Rows hiding St
theorem RepL.rpl{K:PySem.W.Frag}{G:Addr→Prop}{H:Hp}{d:D}{v:V}(r:Rep K G H d v):∀k:Nat,RepL K G H (List.replicate k d) (List.replicate k [v]).flatten
 |0=>RepL.nil
 |k+1=>by
  rw[List.replicate_succ,List.replicate_succ,List.flatten_cons]
  exact RepL.cons r (RepL.rpl r k)
section
variable{X:Cx}{pos:Pos}
theorem n_rep{es:List Expr}{b:Expr}{n:Rho→R (List D)}{mb:Rho→R D}{p1:Pos}(ha:PDA X es n)(hb:PD X b mb):PN X (.BinOp (.List es p1) .Mult b pos) (repl n mb):=
 (pe_op op_rep (pe_lst ha) hb).imp fun σ H Q ⟨G,ρ,hG,hρ,q⟩=>by
  unfold repl at q
  refine⟨G,ρ,hG,hρ,?_⟩
  cases en:n ρ with
  |ex c=>rw[en]at q;exact q
  |bad=>rw[en]at q;exact q.elim
  |ok ds=>
   rw[en]at q
   simp only[R.ok_bind]at q
   intro xs H1 e1 rl
   cases em:mb ρ with
   |ex c=>rw[em]at q;exact q.elim
   |bad=>rw[em]at q;exact q.elim
   |ok k=>
    rw[em]at q
    simp only[nox,R.ok_bind]at q
    split at q
    ·rename_i d i
     split at q
     ·rename_i hi
      obtain⟨x,rfl,rx⟩:=one_of rl
      refine⟨by show 1≤sizeLine;decide,fun p hp=> ?_⟩
      have e2:=same_new hp (.lst [x])
      have e12:=e1.trans e2
      refine⟨G,ρ,hG.same e12,hρ.same e12,?_⟩
      rw[em]
      intro y H2 e3 ry
      cases ry.int_of
      refine⟨p,i,[x],rfl,rfl,e3 _ _ upd_same,by omega,by omega,?_,fun p' hp'=> ?_⟩
      ·show 1 * i.toNat≤sizeLine
       rw[sizeLine_eq];omega
      ·have e4:=same_new hp' (.lst (List.replicate i.toNat [x]).flatten)
       have rr:=(rx.same e2).same e3
       refine q _ _ (e12.trans (e3.trans e4)) ⟨p',_,rfl,(e12.trans e3).free hp',upd_same,?_⟩
       exact(RepL.off (RepL.rpl rr i.toNat) hp').same e4
     ·exact q.elim
    ·exact q.elim
theorem ints_data{K:PySem.W.Frag}{G:Addr→Prop}{H:Hp}{ds:List D}{ns:List Int}{xs:List V}{us:List Value}(e:intsD ds=some ns)(r:RepL K G H ds xs)(v:Vals xs us):IntsAre us ns:=by
 have h:=ints_map e
 subst h
 have hx:=ints_vals _ r
 subst hx
 exact intsAre_of v
end
section
variable{prog:Program}{w:World}{A:Around}{E:Value→Shared→Prop}{s:Shared}
end
section
variable{X:Cx}{pos:Pos}
end
end L3
namespace PySem
open PyProof.Rows in
theorem set_tup{prog:Program}{w:World}{A:Around}{E:Value→Shared→Prop}{s:Shared}{l:Addr}{items:Array Value}{ns:List Int}{Q:Value→Shared→Prop}(hh:A.handled=none)(ht:s.heap.IsTuple l items)(hi:IntsAre items.toList ns)(hb:items.size+1<scanBound)
  (h:∀(h':Heap) (tk:Nat),h'.SetOf (intKind prog w) s.heap.objs.size (fun k'=>(firstMet (fun i=>ns.getD i 0) items.size).any (· == k')) (firstMet (fun i=>ns.getD i 0) items.size).length→(∀b o,b<s.heap.objs.size→s.heap.get? b=some o→h'.get? b=some o)→Q (.ref s.heap.objs.size) {s with heap:=h',toks:=tk}):
  wpAny (model prog w) A (call (.type "set") [.ref l]) Q E s:=by
 obtain⟨c,tl,hmro⟩:=F.called_set.mro
 have hmade:=F.called_set.made;have hsub:=F.called_set.sub
 refine wpAny_call (codeAny_of_tree (show wpAny _ _ (callAny (.type "set") _) _ _ _ from wpAny_pure ⟨Code.quiet_builtin _ (by decide+kernel),codeAny_builtin F.entry_type_call ?_⟩))
 rw[Around.under_plain (weight_type_call_type "set" [.ref l] []) rfl]
 have q1:=F.called_set.notType;have q2:=F.called_set.canCreate;have q3:=F.typeCall_set_1 (.ref l)
 repeat (any_goals (first|assumption|wp_step))
 refine codeAny_mono (code_set_new_1 (.ref l) (E:=E) (Q₁:=fun obj z=>∃led:Bool,obj=.ref s.heap.objs.size∧z={s with heap:=s.heap.push {cls:=.type "set",dict:=none,data:=.set #[] 0 (.fresh 0 0 led)}}) fun led=>⟨led,rfl,rfl⟩) fun r z hr=> ?_
 cases r with
 |error e=>exact hr
 |ok fl=>
  cases fl with
  |ret obj=>
   obtain⟨led,rfl,rfl⟩:=hr
   generalize hob:({cls:=.type "set",dict:=none,data:=.set #[] 0 (.fresh 0 0 led)}:Obj)=ob
   have hS:(s.heap.push ob).get? s.heap.objs.size=some ob:=Heap.get?_push_size _ (by rw[←hob];rfl)
   have hT:Shared.TypeIs {s with heap:=s.heap.push ob} (.ref s.heap.objs.size) "set":=⟨ob,hS,by rw[←hob]⟩
   have hli:=F.called_set.init.lookup;have hbi:=F.called_set.init.bind (.ref s.heap.objs.size)
   repeat (any_goals (first|assumption|wp_step))
   refine codeAny_mono (codeAny_call_builtin (R:=wants (fun r z=>r=.none∧∃h' tk,z={s with heap:=h',toks:=tk}∧h'.SetOf (intKind prog w) s.heap.objs.size (fun k'=>(firstMet (fun i=>ns.getD i 0) items.size).any (· == k')) (firstMet (fun i=>ns.getD i 0) items.size).length∧
     (∀b o,b<s.heap.objs.size→s.heap.get? b=some o→h'.get? b=some o)) E) F.called_set.init.plain F.entry_set_init (check_set_init_1 hT ?_)) fun r' z' hr'=> ?_
   ·obtain⟨⟨ocls,odict,odata,oslots⟩,hol,hcl,nl,hdl⟩:=ht
    simp only at hcl hdl
    subst hcl hdl
    have hol':(s.heap.push ob).get? l=some {cls:=.type "tuple",dict:=odict,data:=.seq items nl,slots:=oslots}:=Heap.get?_push_of_some _ hol
    have u1:=F.sub_tuple_set;have u2:=F.sub_tuple_frozenset
    have u3:(Value.type "tuple" == Value.type "dict")=false:=by decide
    have ht1:(s.heap.push ob).IsTuple l items:=⟨_,hol',rfl,nl,rfl⟩
    subst hob
    unfold Builtin.«set.__init__» noKeywords Builtin.Frozenset.updateFrom
    generalize hPI:pyIter=PI
    wp_walk
    subst hPI
    refine wpAny_pyIter_tuple ht1 ?_
    generalize hob:({cls:=.type "set",dict:=none,data:=.set #[] 0 (.fresh 0 0 led)}:Obj)=ob at *
    refine wpAny_bind (wpAny_runValue ?_)
    have lS:l<s.heap.objs.size:=Heap.lt_size hol
    have esz:(s.heap.push ob).objs.size=s.heap.objs.size+1:=Heap.size_push _ _
    have h3:A.in1.in1.in1.handled=none:=by simp[hh]
    have nI:l≠(s.heap.push ob).objs.size:=by rw[esz];exact Nat.ne_of_lt (Nat.lt_succ_of_lt lS)
    have nS:s.heap.objs.size∉[(s.heap.push ob).objs.size,l]:=by
     rw[esz]
     simp only[List.mem_cons,List.not_mem_nil,or_false,not_or]
     exact⟨Nat.ne_of_lt (Nat.lt_succ_self _),Nat.ne_of_gt lS⟩
    have hval:∀(i:Nat) (v:Value),items[i]? =some v→∃t,v=.int ((fun i=>ns.getD i 0) i) t:=fun i v hv=>IntsAre.int_at hi i v (by rw[Array.getElem?_toList];exact hv)
    refine codeAny_set_update_loopS ((Walks.tuple h3 _ l nI items).toS) s.heap.objs.size nS (fun i=>ns.getD i 0) hval hb (items.size - 0) 0 _ (by omega) (Nat.zero_le _) ⟨⟨_,Heap.get?_push_size _ rfl,rfl,rfl⟩,ht1.at fun o e=>Heap.get?_push_of_some _ e⟩ ?hS0 ?hR
    case hS0=>
     have hg:((s.heap.push ob).push {cls:=.type "tuple_iterator",data:=.fields #[.ref l, .int 0 0]}).get? s.heap.objs.size=some ob:=Heap.get?_push_of_some _ hS
     rw[←hob]at hg ⊢
     exact SetOf_congr ((setObjOf_fresh (knd:=intKind prog w) led).setOf hg (by unfold scanBound;omega)) (fun _=>rfl) rfl
    case hR=>
     intro z hm hS'
     obtain⟨h',g',d',tk',os'⟩:=z
     have eg:g'=s.gens:=hm.gens
     have ed:d'=s.drawn:=hm.drawn
     have eo:os'=s.os:=hm.os
     subst eg ed eo
     refine(show wpAny _ _ _ _ _ _ from wpAny_pure (show wpAny _ _ (ret Value.none) _ _ _ from wpAny_pure ⟨rfl,h',tk',rfl,hS',fun b o hlt e=> ?_⟩))
     exact hm.heap b o (by rw[esz];simp only[List.mem_cons,List.not_mem_nil,or_false,not_or];exact⟨Nat.ne_of_lt hlt,Nat.ne_of_lt (Nat.lt_succ_of_lt hlt)⟩) (Heap.get?_push_of_some _ (Heap.get?_push_of_some _ e))
   ·cases r' with
    |error e=>exact hr'
    |ok fl'=>
     cases fl' with
     |ret r=>
      obtain⟨rfl,h',tk,rfl,hS',hk'⟩:=hr'
      repeat (any_goals (first|assumption|wp_step))
      exact h _ _ hS' hk'
     |_=>exact hr'.elim
  |_=>exact hr.elim
end PySem
namespace L3
open PySem PySem.Spec L2
open PyProof.Rows hiding St
theorem foldl_range{α β:Type}(f:β→α→β)(d:α):∀(l:List α) (b:β),((List.range l.length).map fun i=>l.getD i d).foldl f b=l.foldl f b:=by
 intro l b
 congr 1
 apply List.ext_getElem?
 intro i
 rw[List.getElem?_map]
 by_cases h:i<l.length
 ·rw[List.getElem?_range h,List.getElem?_eq_getElem h]
  simp[h]
 ·rw[List.getElem?_eq_none (by simpa using h),List.getElem?_eq_none (by simpa using h)]
  rfl
theorem firstMet_dd(ns:List Int):firstMet (fun i=>ns.getD i 0) ns.length=dd ns:=by
 unfold firstMet dd
 rw[foldl_range]
 rfl
section
variable{X:Cx}{pos:Pos}
noncomputable def rSet(K:PySem.W.Frag):List V→Hp→VK→Prop:=fun xs H Q=>∃(a:Addr) (ns:List Int),xs=[.ref a]∧(SqL K H a (ns.map V.int)∨SqT K H a (ns.map V.int))∧ns.length<1000∧∀p S,H p=none→Q (.ref p) (upd H p (.set S (dd ns).length))
theorem call_set(hh:X.A.handled=none):CallR X (.type "set") (rSet X.K):=by
 intro pins s σ H xs us Q I r ⟨a,ns,e,hq,hl,q⟩
 subst e
 obtain⟨u,rfl,ru⟩:=vals1 r
 cases ru
 have hf:H s.heap.objs.size=none:=I.fresh
 have fin:∀(h':Heap) (tk:Nat) (n:Nat),n=ns.length→h'.SetOf (intKind X.prog X.w) s.heap.objs.size (fun k'=>(firstMet (fun i=>ns.getD i 0) n).any (· == k')) (firstMet (fun i=>ns.getD i 0) n).length→
   (∀b o,b<s.heap.objs.size→s.heap.get? b=some o→h'.get? b=some o)→EP X pins σ Q (.ref s.heap.objs.size) {s with heap:=h',toks:=tk}:=by
  intro h' tk n hn hS hk
  subst hn
  rw[firstMet_dd]at hS
  exact⟨.ref _,_,I.laid (t':=tk) (o:=.set _ (dd ns).length) (fun b o e=>hk b o (Heap.lt_size e) e) (Nat.le_refl _) hS,rfl,q _ _ hf⟩
 rcases hq with hq|hq
 ·obtain⟨its,rv,pl,hz⟩:=I.list hq
  have hi:=intsAre_of rv
  have hln:=hi.length
  refine call_set_list (items:=its.toArray) hh pl.isList (by simpa using hi) (by unfold scanBound;rw[List.size_toArray];omega) fun h' tk hS hk=> ?_
  exact fin h' tk _ (by rw[List.size_toArray];exact hln) hS hk
 ·obtain⟨its,rv,pt,hz⟩:=I.tuple hq
  have hi:=intsAre_of rv
  have hln:=hi.length
  refine set_tup (items:=its.toArray) hh (show s.heap.IsTuple a its.toArray from pt) (by simpa using hi) (by unfold scanBound;rw[List.size_toArray];omega) fun h' tk hS hk=> ?_
  exact fin h' tk _ (by rw[List.size_toArray];exact hln) hS hk
theorem call_lenS:CallR X (.builtin "len") (fun xs H Q=>∃p S n,xs=[.ref p]∧H p=some (.set S n)∧n<1000∧Q (.int (n:Int)) H):=by
 intro pins s σ H xs us Q I r ⟨p,S,n,e,hp,hn,q⟩
 subst e
 obtain⟨u,rfl,ru⟩:=vals1 r
 cases ru
 have hS:s.heap.SetOf (intKind X.prog X.w) p S n:=I.hok p _ hp
 obtain⟨o,ho,hex,es,ep,t,hd,_,_,hn',hf⟩:=hS.objOf
 subst hn'
 exact call_len_set ho hex hd hf (by omega) ⟨.int _,H,I.tok _,⟨_,rfl⟩,q⟩
theorem d_lenset{a:Expr}{m:Rho→R D}{p1 p2 pos2:Pos}(hh:X.A.handled=none)(hml:X.mg "len"=none)(hms:X.mg "set"=none)(ha:PD X a m)(hgl:Gl X "len":=by rfl)(hgs:Gl X "set":=by rfl)
  (hs:starEach [a] X.env=(false,eval a X.env)::starEach [] X.env:=by rfl) (hs2:starEach [.Call (.Name "set" p2) [a] [] pos2] X.env=(false,eval (.Call (.Name "set" p2) [a] [] pos2) X.env)::starEach [] X.env:=by rfl):
  PD X (.Call (.Name "len" p1) [.Call (.Name "set" p2) [a] [] pos2] [] pos) (un lenSetD m):=
 (pe_callB call_lenS hgl hml PySem.boot_len (pa_cons (pe_callTy (he:=hs) (call_set hh) hgs hms boot_set (pa_cons ha pa_nil hs)) pa_nil hs2) (he:=hs2)).imp fun σ H Q ⟨G,ρ,hG,hρ,q⟩=>by
  refine⟨G,ρ,hG,hρ,(DQ.bind q).wk fun v H1 e ⟨d,_,_,rd,q1⟩=> ?_⟩
  have core:∀(b:Addr) (ys:List D) (vs:List V),RepL X.K G H1 ys vs→(SqL X.K H1 b vs∨SqT X.K H1 b vs)→DQ X σ (Rep X.K G) H1 (match intsD ys with|some ns=>if ns.length<1000 then .ok (.int (dd ns).length)else .bad|none=>.bad) Q→
    rSet X.K [.ref b] H1 fun x H2=>∃p S n,[x]=[.ref p]∧H2 p=some (.set S n)∧n<1000∧Q (.int (n:Int)) H2:=by
   intro b ys vs rl hq q2
   cases hi:intsD ys with
   |none=>rw[hi]at q2;exact q2.elim
   |some ns=>
    rw[hi]at q2
    simp only at q2
    split at q2
    ·rename_i hl
     have hm:=ints_map hi
     subst hm
     have hv:=ints_vals _ rl
     subst hv
     have hle:(dd ns).length≤ns.length:=by
      have:=firstMet_length_le (fun i=>ns.getD i 0) ns.length
      rw[firstMet_dd]at this;exact this
     refine⟨b,ns,rfl,hq,hl,fun p S hp=>⟨p,S,_,rfl,upd_same,by omega,?_⟩⟩
     exact q2 _ _ (same_new hp _) Rep.int
    ·exact q2.elim
  cases d with
  |tup ys=>
   obtain⟨b,vs,rfl,h1,rl⟩:=rd.tup_of
   exact core b ys vs rl (.inr h1) q1
  |lst ys=>
   obtain⟨b,vs,rfl,h1,rl⟩:=rd.lst_of
   exact core b ys vs rl (.inl h1.sq) q1
  |_=>exact q1.elim
end
end L3
namespace L3
open PySem PySem.Spec L2
open PyProof.Rows hiding St
theorem inv_turned{X:Cx}{pins:List (Addr×Obj)}{σ:St}{H:Hp}{s:Shared}{h':Heap}{t':Nat}{fp:List Addr}(I:Inv X pins σ H s)(k:∀b o,b∉fp→s.heap.get? b=some o→h'.get? b=some o)(hf:∀b∈fp,FpOk X pins H b):Inv X pins σ H {s with heap:=h',toks:=t'}:=by
 have nit:∀b u,H b=some u→b∉fp:=fun b u e z=>by rw[(hf b z).1]at e;cases e
 refine I.step (g':=s.gens) (d':=s.drawn) (ch:=fp) (fun b hb=> ?_) (fun b o _ _ hc e _=>k b o hc e) (fun b o _ _ hc e _=>⟨o.slots,k b o hc e⟩) (fun _ _ _ _ n=>n)
  (fun b o hc e=>⟨o,k b o hc e⟩) (fun _ _ e=>e) (fun _ _ _ e=>e) (fun _ e=>e) (fun m hm=> ?_) (fun b u e=> ?_) I.bare
 ·obtain⟨_,f1,_,f3,f4,f5⟩:=hf b hb
  exact⟨f3,f1,f4,f5⟩
 ·obtain⟨o,es,ep,ho,r⟩:=hm
  exact⟨o,es,ep,k _ o (fun z=>(hf _ z).2.1 rfl) ho,r⟩
 ·refine(I.hok b u e).stay (fun c v hc q=>k c v ?_ q) (fun _ q=>q) fun _ _ q=>q
  rcases hc with z|z
  ·rw[z];exact nit b u e
  ·exact nit c _ z
theorem push_old{h:Heap}{ob o:Obj}{b:Addr}(hb:b<h.objs.size)(e:(h.push ob).get? b=some o):h.get? b=some o:=by
 rw[Heap.get?_push_ne _ _ _ (Nat.ne_of_lt hb)]at e
 exact e
section
variable{X:Cx}
end
section
variable{es:List Expr}{env:Env}
theorem st_Constant{c j p}:starEach (.Constant c j p::es) env=(false,eval (.Constant c j p) env)::starEach es env:=rfl
theorem st_Name{c p}:starEach (.Name c p::es) env=(false,eval (.Name c p) env)::starEach es env:=rfl
theorem st_Tuple{c j p}:starEach (.Tuple c j p::es) env=(false,eval (.Tuple c j p) env)::starEach es env:=rfl
theorem st_Call{c d j p}:starEach (.Call c d j p::es) env=(false,eval (.Call c d j p) env)::starEach es env:=rfl
theorem st_BinOp{c d j p}:starEach (.BinOp c d j p::es) env=(false,eval (.BinOp c d j p) env)::starEach es env:=rfl
theorem st_Subscript{c d p}:starEach (.Subscript c d p::es) env=(false,eval (.Subscript c d p) env)::starEach es env:=rfl
theorem st_ListComp{c d j p}:starEach (.ListComp c d j p::es) env=(false,eval (.ListComp c d j p) env)::starEach es env:=rfl
end
noncomputable def cns(ks:List Int):Rho→R (List D):=fun _=>.ok (ks.map .int)
noncomputable def intOf(e:Expr):Option Int:=match e with
 | .Constant (.int i) _ _=>some i
 |_=>none
theorem intOf_eq{e:Expr}{k:Int}(h:intOf e=some k):∃j p,e=.Constant (.int k) j p:=by
 unfold intOf at h
 split at h
 ·cases h;exact⟨_,_,rfl⟩
 ·cases h
noncomputable def isInts:List Expr→List Int→Bool
 | [],[]=>true
 |e::es,k::ks=>intOf e == some k&&isInts es ks
 |_,_=>false
theorem a_ints{X:Cx}:∀(es:List Expr) (ks:List Int),isInts es ks=true→PDA X es (cns ks)
 | [],[],_=>a_nil
 |e::es,k::ks,h=>by
  unfold isInts at h
  rw[Bool.and_eq_true,beq_iff_eq]at h
  obtain⟨j,p,rfl⟩:=intOf_eq h.1
  exact a_cons d_int (a_ints es ks h.2) st_Constant
 | [],_::_,h=>by cases h
 |_::_,[],h=>by cases h
end L3
namespace L3
open PySem PySem.Spec L2
open PyProof.Rows hiding St
open PySem.W (findIn mroIn subIn kitOne Frag)
open PySem.Calls PySem.Builtin PySem.Builtin.ObjectAttr PySem.Builtin.Getset_descriptor PySem.W
section
variable{prog:Program}{w:World}{A:Around}{E:Value→Shared→Prop}{s:Shared}{K:Frag}{x C:Addr}{ox:Obj}
structure XcOk(K:Frag)(C:Addr):Prop where
 ga:findIn K (.ref C) "__getattribute__"=some (some (.builtin "BaseException.__getattribute__"))
 gt:findIn K (.ref C) "__getattr__"=some none
 cl:findIn K (.ref C) "__class__"=some (some (.builtin "object.__class__"))
 ob:mroIn K C (.type "object")=some true
 bx:subIn K (.ref C) (.type "BaseException")=some true
 ty:typeIn K (.ref C)=some (.type "type")
 ct:(clsIn K C).isSome=true
end
end L3
namespace L3
open PySem PySem.Spec L2
open PyProof.Rows hiding St
open PySem.W (findIn mroIn subIn kitOne Frag excIn nsIn exmOne)
noncomputable def vmro:List Value:=[.type "ValueError", .type "Exception", .type "BaseException", .type "object"]
noncomputable def xcB(K:Frag)(C:Addr):Bool:=
 (findIn K (.ref C) "__getattribute__" == some (some (.builtin "BaseException.__getattribute__")))&&(findIn K (.ref C) "__getattr__" == some none)&&(findIn K (.ref C) "__class__" == some (some (.builtin "object.__class__")))&&
 (mroIn K C (.type "object") == some true)&&(subIn K (.ref C) (.type "BaseException") == some true)&&(PySem.W.typeIn K (.ref C) == some (.type "type"))&&(PySem.W.clsIn K C).isSome&&excIn K C vmro "ValueError.__new__"
theorem xc_of{K:Frag}{C:Addr}(h:xcB K C=true):XcOk K C∧excIn K C vmro "ValueError.__new__"=true:=by
 unfold xcB at h
 simp only[Bool.and_eq_true,beq_iff_eq]at h
 obtain⟨⟨⟨⟨⟨⟨⟨a,b⟩,c⟩,d⟩,e⟩,f⟩,g⟩,i⟩:=h
 exact⟨⟨a,b,c,d,e,f,g⟩,i⟩
noncomputable def subC(c d:Nat):Bool:=c == d || d == 0
noncomputable def clsB(K:Frag)(cs:List Nat):Bool:=cs.all fun c=>(nsIn K mainGlobals (clsN c) == some (some (.ref (clsA K c))))&&xcB K (clsA K c)&&(kitOne K (.ref (clsA K c)) (.type "ValueError") == some true)&&
 cs.all fun d=>(kitOne K (.ref (clsA K c)) (.ref (clsA K d)) == some (subC c d))&&(exmOne K (.ref (clsA K c)) (.ref (clsA K d)) == some (subC c d))
structure ClsOk(K:Frag)(mg:Str→Option Value)(cs:List Nat):Prop where
 mg:∀c∈cs,mg (clsN c)=some (.ref (clsA K c))
 xc:∀c∈cs,XcOk K (clsA K c)
 ex:∀c∈cs,excIn K (clsA K c) vmro "ValueError.__new__"=true
 val:∀c∈cs,kitOne K (.ref (clsA K c)) (.type "ValueError")=some true
 kit:∀c∈cs,∀d∈cs,kitOne K (.ref (clsA K c)) (.ref (clsA K d))=some (subC c d)
 exm:∀c∈cs,∀d∈cs,exmOne K (.ref (clsA K c)) (.ref (clsA K d))=some (subC c d)
theorem cls_of{K:Frag}{h:Heap}{mg:Str→Option Value}{cs:List Nat}(X:K.In h)(G:h.Ns mainGlobals mg)(b:clsB K cs=true):ClsOk K mg cs:=by
 have z:∀c∈cs,(((nsIn K mainGlobals (clsN c)=some (some (.ref (clsA K c)))∧xcB K (clsA K c)=true)∧kitOne K (.ref (clsA K c)) (.type "ValueError")=some true)∧
   ∀d∈cs,kitOne K (.ref (clsA K c)) (.ref (clsA K d))=some (subC c d)∧exmOne K (.ref (clsA K c)) (.ref (clsA K d))=some (subC c d)):=fun c hc=>by
  have y:=List.all_eq_true.mp b c hc
  simp only[Bool.and_eq_true,beq_iff_eq,List.all_eq_true]at y
  exact y
 exact⟨fun c hc=>PySem.W.mg_of X G (z c hc).1.1.1,fun c hc=>(xc_of (z c hc).1.1.2).1,fun c hc=>(xc_of (z c hc).1.1.2).2,fun c hc=>(z c hc).1.2,fun c hc d hd=>((z c hc).2 d hd).1,fun c hc d hd=>((z c hc).2 d hd).2⟩
theorem exc_obj{K:Frag}{h:Heap}{C:Addr}{bl:List Value}{nid:String}(X:K.In h)(z:excIn K C bl nid=true):
  ∃bm N nm qn bs hd sn sb ab col dd k0 k1 k2 k3 k5 mN,h.get? C=some (excClassObj nm qn C N bs bm hd sn sb ab col dd k0 k1 k2 k3 k5 nid)∧h.Ns N mN∧mN "__init__"=none∧OwnTail h bl bm:=by
 unfold excIn at z
 split at z
 ·rename_i dd cd sl ho
  obtain⟨nm,bs,mro,ns,qn,hd,sn,sb,ab,col,del⟩:=cd
  obtain⟨l⟩:=sl
  dsimp only at z
  split at z
  ·rename_i bm k0 k1 k2 k3 n k5
   simp only[Bool.and_eq_true,beq_iff_eq,Bool.not_eq_true']at z
   obtain⟨⟨⟨⟨⟨rfl,rfl⟩,e3⟩,e4⟩,e5⟩,e6⟩:=z
   subst e3
   exact⟨bm,ns,nm,qn,bs,hd,sn,sb,ab,col,dd,k0,k1,k2,k3,k5,_,X _ _ ho, .of_isNs (PySem.W.isNs_of_in X e5),PySem.W.nsMap_none_of_in X e5 e6,PySem.W.tail_of_in X e4⟩
  ·cases z
 ·cases z
noncomputable def sRaise(c:Nat)(m:Rho→R D):Tau→Fl:=fun τ=>match m (view τ)with
 | .ok _=>.ex c τ
 | .ex c=>.ex c τ
 | .bad=>.bad
section
variable{X:Cx}{pos:Pos}
theorem s_raise{cs:List Nat}{c:Nat}{x:Str}{e:Expr}{m:Rho→R D}{np cpos:Pos}(K:ClsOk X.K X.mg cs)(hc:c∈cs)(he:PD X e m)(hx:clsN c=x:=by rfl)(hcalm:X.calm=true:=by rfl)(hg:Gl X x:=by rfl)
  (hd:(x == ("__debug__":Str))=false:=by decide) (hs:starEach [e] X.env=(false,eval e X.env)::starEach [] X.env:=by rfl) (hp:(backTo cpos (starEach [] X.env)).any (·.1)=false:=by rfl):
  PSD X (.Raise (some (.Call (.Name x np) [e] [] cpos)) none pos) (sRaise c m):=by
 intro pins s σ H E I ⟨G,O,τ,S,q⟩
 subst hx
 obtain⟨bm,N,nm,qn,bs,hdd,sn,sb,ab,col,dd,k0,k1,k2,k3,k5,mN,o1,o2,o3,o4⟩:=exc_obj I.ok.mod.kin (K.ex c hc)
 refine wpAny_Raise_call_subU (C:=clsA X.K c) (nm:=nm) (q:=qn) (N:=N) (bs:=bs) (bm:=bm) (hdct:=hdd) (sn:=sn) (sub:=sb) (ab:=ab) (col:=col) (dd:=dd) (k0:=k0) (k1:=k1) (k2:=k2) (k3:=k3) (k5:=k5) (mN:=mN)
  F.excBase_ValueError (by decide) F.excBase_ValueError (o4.hasType (by decide)) (I.ok.hd hcalm) (by rw[hs];show(false || (backTo cpos (starEach [] X.env)).any (·.1))=false;rw[hp];rfl) o3 (ld_glob I hg (K.mg c hc) ⟨rfl,?_⟩ hd)
 rw[hs]
 refine Calls.evalArgs_plain (Calls.spliced_cons (thn (he pins s σ H (fun v H1=>∃d,m (view τ)=.ok d∧Same H H1) I ⟨G,view τ,S.free,S.vw,?_⟩) fun v s1 ⟨y,H1,I1,r1,d,ed,e1⟩=>Calls.spliced_nil ?_))
 ·unfold sRaise at q
  cases h:m (view τ)with
  |ok d=>exact fun b H' e' _=>⟨d,rfl,e'⟩
  |ex c=>rw[h]at q;exact EndsOk.xq q S
  |bad=>rw[h]at q;exact q.elim
 ·unfold sRaise at q
  rw[ed]at q
  refine⟨rfl,by show 1≤sizeLine;decide,I1.bk _ _ o1,o2.keeps I1.bk,o4.keeps I1.bk,fun h' a mk=> ?_⟩
  obtain⟨I2,fl⟩:=fly_new I1 q.1 mk
  exact q.2 O pins σ H1 a _ (Tr.of_same e1) (S.same e1) I2 fl
end
end L3
namespace L3
open PySem PySem.Spec L2
open PyProof.Rows hiding St
open PySem.W (findIn mroIn subIn kitOne Frag excIn nsIn exmOne)
noncomputable def isiE(cs:List Nat)(d:Nat):D→R D
 | .exc c=>if cs.contains c=true then .ok (.bl (subC c d))else .bad
 |_=>.bad
noncomputable def isiV(cs:List Nat):D→R D
 | .exc c=>if cs.contains c=true then .ok (.bl true)else .bad
 |_=>.bad
section
variable{X:Cx}{pos:Pos}
noncomputable def goes(i:Nat):Fl→Fl
 | .nx τ=>.nx (τ.set i none)
 | .bk τ=>.bk (τ.set i none)
 | .ct τ=>.ct (τ.set i none)
 | .rt d=>.rt d
 |_=>.bad
noncomputable def sTry(cs:List Nat)(d i:Nat)(M Mh:Tau→Fl):Tau→Fl:=fun τ=>match M τ with
 | .ex c τ'=>if cs.contains c=true∧subC c d=true then goes i (Mh (τ'.set i (some (.sh (.exc c)))))else .bad
 |r=>r
end
end L3
namespace L3
open PySem PySem.Spec L2
open PyProof.Rows hiding St
section
variable{X:Cx}{pos:Pos}
end
end L3
namespace PySem
open Sem (wp)
section
variable{P:Program}{w:World}{A:Around}{E:Value→Shared→Prop}{s:Shared}
theorem nx_tup{j t:Addr}{k:Nat}{ws:Array Value}{y:Value}{Q:Value→Shared→Prop}(hj:s.heap.IsTupleIter j t k)(ht:s.heap.IsTuple t ws)(hy:ws[k]? =some y)
  (q:∀g,g.IsTupleIter j t (k+1)→Heap.SameBut j s.heap g→Q y {s with heap:=g}):wpAny (model P w) A (Builtin.SmallTypes.nextOf (.ref j)) Q E s:=by
 obtain⟨o,e1,e2,e3⟩:=id hj
 obtain⟨_,f1,_,m,f3⟩:=ht
 unfold Builtin.SmallTypes.nextOf
 refine wpAny_bind (wpAny_callSpecial?_slot (name:=Str.ofString "__next__") hj.typeIs F.slot_tuple_iterator_next (wpAny_call_entry F.slot_tuple_iterator_next hj.typeIs F.entry_tuple_iterator_next ?_ (F.args_tuple_iterator_next_1 _)))
 refine(show wpAny _ _ (field (.ref j) 0>>=_) _ _ s from wpAny_bind (wpAny_field e1 e3 (x:=.ref t) rfl ?_))
 refine(show wpAny _ _ (if(Value.ref t == Value.none)=true then _ else _) _ _ s from ?_)
 rw[if_neg (show¬((Value.ref t == Value.none)=true) by exact Bool.false_ne_true)]
 refine(show wpAny _ _ (field (.ref j) 1>>=_) _ _ s from wpAny_bind (wpAny_field e1 e3 (x:=.int k 0) rfl ?_))
 refine(show wpAny _ _ (seqItems? (.ref t)>>=_) _ _ s from wpAny_bind (wpAny_seqItems f1 f3 ?_))
 simp only[Int.toNat_natCast,hy]
 refine wpAny_bind (wpAny_setField e1 e3 (by simp) (wpAny_pure ⟨y,rfl,wpAny_pure (q _ ?_ (Heap.SameBut.update ..))⟩))
 exact⟨_,Heap.get?_update_self _ e1 (Obj.isFreed_of_fields (Obj.data_mapFields e3 _)),(Obj.cls_mapFields ..).trans e2,(Obj.data_mapFields e3 _).trans (by simp[rawInt])⟩
theorem nx_tup_end{j t:Addr}{k:Nat}{ws:Array Value}{Q:Value→Shared→Prop}(hh:A.handled=none)(hj:s.heap.IsTupleIter j t k)(ht:s.heap.IsTuple t ws)(hy:ws[k]? =none)
  (q:∀g e,Heap.ExtBut j s.heap g→(∃o,g.get? e=some o∧o.cls=.type "StopIteration")→E (.ref e) {s with heap:=g}):wpAny (model P w) A (Builtin.SmallTypes.nextOf (.ref j)) Q E s:=by
 obtain⟨o,e1,e2,e3⟩:=id hj
 obtain⟨_,f1,_,m,f3⟩:=ht
 unfold Builtin.SmallTypes.nextOf
 refine wpAny_bind (wpAny_callSpecial?_slot (name:=Str.ofString "__next__") hj.typeIs F.slot_tuple_iterator_next (wpAny_call_entry F.slot_tuple_iterator_next hj.typeIs F.entry_tuple_iterator_next ?_ (F.args_tuple_iterator_next_1 _)))
 refine(show wpAny _ _ (field (.ref j) 0>>=_) _ _ s from wpAny_bind (wpAny_field e1 e3 (x:=.ref t) rfl ?_))
 refine(show wpAny _ _ (if(Value.ref t == Value.none)=true then _ else _) _ _ s from ?_)
 rw[if_neg (show¬((Value.ref t == Value.none)=true) by exact Bool.false_ne_true)]
 refine(show wpAny _ _ (field (.ref j) 1>>=_) _ _ s from wpAny_bind (wpAny_field e1 e3 (x:=.int k 0) rfl ?_))
 refine(show wpAny _ _ (seqItems? (.ref t)>>=_) _ _ s from wpAny_bind (wpAny_seqItems f1 f3 ?_))
 simp only[Int.toNat_natCast,hy]
 refine wpAny_bind (wpAny_rule (wpAny_bind (wpAny_setField e1 e3 (by simp) ((show wpAny _ _ (newExc (.type "StopIteration") []>>=_) _ _ _ from wpAny_bind ?_)))))
 simp only[newExc,newTuple]
 refine wpAny_bind (wpAny_newObj_type (wpAny_bind (m:=firstArgMember _ _) (wpAny_of_eq (a:=Value.none) (by first|rfl|(simp only[firstArgMember];rfl)) (wpAny_newObj_type ?_ (by size_fits)))) (by size_fits))
 simp only[raiseNew]
 refine wpAny_bind (wpAny_handled ?_)
 rw[show A.in1.handled=none from hh]
 exact wpAny_bind (wpAny_pure (wpAny_throw (q _ _ (((Heap.SameBut.update ..).extBut.push _).push _) ⟨_,Heap.get?_push_size _ rfl,rfl⟩)))
theorem draws_tup(hh:A.handled=none)(j t:Addr)(hne:t≠j)(ws:Array Value):Draws P w A j [j,t] ws.size (fun i v=>ws[i]? =some v) (fun i h=>h.IsTupleIter j t i∧h.IsTuple t ws) where
 live:=fun _ _ z=>let⟨o,ho,_⟩:=z.1;⟨o,ho⟩
 frame:=fun _ _ _ z k=>⟨z.1.at fun o e=>k j (by simp) o e,z.2.at fun o e=>k t (by simp) o e⟩
 item:=fun i s Q E hi z q=>nx_tup z.1 z.2 (y:=ws[i]) (by simp[hi]) fun g a b=>q _ g s.toks (by simp[hi]) ⟨a,z.2.extBut b.extBut hne⟩ b
 done:=fun s Q E z q=>nx_tup_end hh z.1 z.2 (by simp) q
structure ZAp(z TI TO i1 i2:Addr)(f1 f2:List Addr):Prop where
 a1:TI≠z
 a2:TO≠z
 a3:TI≠TO
 a4:TI≠i1
 a5:TI≠i2
 a6:TO≠i1
 a7:TO≠i2
 a8:i1≠z
 a9:i2≠z
 b1:z∉f1
 b2:z∉f2
 b3:TO∉f1
 b4:TO∉f2
 b5:i2∉f1
 b6:i1∉f2
structure ZSt(z TI TO i1 i2:Addr)(S1 S2:Nat→Heap→Prop)(f0:Value)(k1 k2:Nat)(h:Heap):Prop where
 zp:IsZip h z TI TO f0
 ti:IsPair h TI (.ref i1) (.ref i2)
 to:∃a b,IsPair h TO a b
 s1:S1 k1 h
 s2:S2 k2 h
theorem Draws.but{it x:Addr}{fp:List Addr}{n:Nat}{V:Nat→Value→Prop}{S:Nat→Heap→Prop}(D:Draws P w A it fp n V S){h h':Heap}{i:Nat}(e:Heap.SameBut x h h')(hx:x∉fp)(z:S i h):S i h':=
 D.frame i h h' z fun b hb o ho=>e.extBut _ _ (fun y=>hx (y▸hb)) ho
section
variable{z TI TO i1 i2:Addr}{f1 f2:List Addr}{n1 n2:Nat}{V1 V2:Nat→Value→Prop}{S1 S2:Nat→Heap→Prop}
theorem zip_it(D1:Draws P w A i1 f1 n1 V1 S1)(D2:Draws P w A i2 f2 n2 V2 S2)(Z:ZAp z TI TO i1 i2 f1 f2){k:Nat}{Q:Value→Shared→Prop}(st:ZSt z TI TO i1 i2 S1 S2 .none k k s.heap)(h1:k<n1)(h2:k<n2)
  (q:∀x y g tk,V1 k x→V2 k y→ZSt z TI TO i1 i2 S1 S2 (rawInt s.heap.objs.size) (k+1) (k+1) g→IsPair g s.heap.objs.size x y→g.objs.size=s.heap.objs.size+1→
   (∀c o,c≠z→c≠TO→c≠i1→c≠i2→s.heap.get? c=some o→g.get? c=some o)→Q (.ref s.heap.objs.size) {s with heap:=g,toks:=tk}):
  wpAny (model P w) A (Builtin.«zip.__next__» ⟨[.ref z],[]⟩) (fun r s'=>∃v,r=.done (.ret v)∧Q v s') E s:=by
 obtain⟨zz,ti,⟨a,b,to⟩,s1,s2⟩:=st
 refine(show wpAny _ _ (field (.ref z) 2>>=_) _ _ _ from wpAny_bind (wpAny_field zz rfl (x:=.bool false) rfl ?_))
 refine(show wpAny _ _ (field (.ref z) 3>>=_) _ _ _ from wpAny_bind (wpAny_field zz rfl (x:=.ref TI) rfl (wpAny_bind (wpAny_seqItems ti rfl ?_))))
 refine(show wpAny _ _ (Builtin.SmallTypes.ownedTupleIsFree (.ref z)>>=_) _ _ _ from wpAny_bind ?_)
 unfold Builtin.SmallTypes.ownedTupleIsFree
 refine wpAny_bind (wpAny_field zz rfl (x:=.none) rfl (wpAny_pure ?_))
 simp only[if_true]
 refine wpAny_bind (wpAny_rule (wpAny_bind (wpAny_field zz rfl (x:=.ref TO) rfl (wpAny_bind (wpAny_setField_rec zz (by simp) fun g1 z1 e1=> ?_)))))
 replace z1:IsZip g1 z TI TO .ellipsis:=z1
 refine wpAny_bind ?_
 simp only[List.zipIdx_cons,List.zipIdx_nil,List.forIn_cons,List.forIn_nil]
 refine wpAny_bind (wpAny_bind (wpAny_onRaise (show wpAny _ _ (Builtin.SmallTypes.nextOf (.ref i1)>>=_) _ _ _ from wpAny_bind ?_)))
 refine D1.item k _ _ _ h1 (D1.but e1 Z.b1 s1) fun x g2 t2 v1 s1' e2=>wpAny_pure ?_
 have to2:IsPair g2 TO a b:=e2.extBut _ _ Z.a6 (e1.extBut _ _ Z.a2 to)
 refine wpAny_bind (wpAny_seqItems to2 rfl (wpAny_bind (wpAny_updateSeq_pair to2 fun g3 to3 e3=>wpAny_bind (wpAny_letGo (wpAny_pure ?_)))))
 replace to3:IsPair g3 TO x b:=to3
 refine wpAny_bind (wpAny_bind (wpAny_onRaise (show wpAny _ _ (Builtin.SmallTypes.nextOf (.ref i2)>>=_) _ _ _ from wpAny_bind ?_)))
 refine D2.item k _ _ _ h2 (D2.but e3 Z.b4 (D2.but e2 Z.b6 (D2.but e1 Z.b2 s2))) fun y g4 t4 v2 s2' e4=>wpAny_pure ?_
 have to4:IsPair g4 TO x b:=e4.extBut _ _ Z.a7 to3
 refine wpAny_bind (wpAny_seqItems to4 rfl (wpAny_bind (wpAny_updateSeq_pair to4 fun g5 to5 e5=>wpAny_bind (wpAny_letGo (wpAny_pure (wpAny_pure ?_))))))
 replace to5:IsPair g5 TO x y:=to5
 refine wpAny_bind (wpAny_seqItems to5 rfl (wpAny_bind (wpAny_newTuple ?_)))
 have sz:g5.objs.size=s.heap.objs.size:=by rw[e5.1,e4.1,e3.1,e2.1,e1.1]
 have z5:IsZip g5 z TI TO .ellipsis:=e5.extBut _ _ Z.a2.symm (e4.extBut _ _ Z.a9.symm (e3.extBut _ _ Z.a2.symm (e2.extBut _ _ Z.a8.symm z1)))
 have k5:∀c o,c≠z→c≠TO→c≠i1→c≠i2→s.heap.get? c=some o→g5.get? c=some o:=fun c o c1 c2 c3 c4 e=>e5.extBut _ _ c2 (e4.extBut _ _ c4 (e3.extBut _ _ c2 (e2.extBut _ _ c3 (e1.extBut _ _ c1 e))))
 have p1:S1 (k+1) g5:=D1.but e5 Z.b3 (D1.but e4 Z.b5 (D1.but e3 Z.b3 s1'))
 have p2:S2 (k+1) g5:=D2.but e5 Z.b4 s2'
 refine(show wpAny _ _ (Builtin.SmallTypes.ownedTupleHandOut (.ref z) (.ref g5.objs.size)>>=_) _ _ _ from wpAny_bind ?_)
 unfold Builtin.SmallTypes.ownedTupleHandOut
 have z6:IsZip (g5.push {cls:=.type "tuple",data:=.seq #[x,y]}) z TI TO .ellipsis:=Heap.get?_push_of_some _ z5
 refine wpAny_bind (wpAny_setField_rec z6 (by simp) fun g7 z7 e7=> ?_)
 replace z7:IsZip g7 z TI TO (rawInt g5.objs.size):=z7
 refine wpAny_setField_rec z7 (by simp) fun g8 z8 e8=> ?_
 replace z8:IsZip g8 z TI TO (rawInt g5.objs.size):=z8
 have zl:z<g5.objs.size:=Heap.lt_size z5
 have up:∀c o,c≠z→g5.get? c=some o→g8.get? c=some o:=fun c o c1 e=>e8.extBut _ _ c1 (e7.extBut _ _ c1 (Heap.get?_push_of_some _ e))
 have pr:IsPair g8 g5.objs.size x y:=e8.extBut _ _ (Nat.ne_of_gt zl) (e7.extBut _ _ (Nat.ne_of_gt zl) (Heap.get?_push_size _ rfl))
 have s8:g8.objs.size=g5.objs.size+1:=by rw[e8.1,e7.1,Heap.size_push]
 rw[sz]at z8 pr s8
 refine wpAny_pure ⟨_,rfl,(show Q (.ref g5.objs.size) _ from ?_)⟩
 rw[sz]
 refine q x y g8 _ v1 v2 ⟨z8,up _ _ Z.a1 (k5 _ _ Z.a1 Z.a3 Z.a4 Z.a5 ti),⟨_,_,up _ _ Z.a2 to5⟩,?_,?_⟩ pr s8 fun c o c1 c2 c3 c4 e=>up c o c1 (k5 c o c1 c2 c3 c4 e)
 ·exact D1.frame _ _ _ p1 fun c hc o e=>up c o (fun y=>Z.b1 (y▸hc)) e
 ·exact D2.frame _ _ _ p2 fun c hc o e=>up c o (fun y=>Z.b2 (y▸hc)) e
theorem zip_en(D1:Draws P w A i1 f1 n1 V1 S1)(D2:Draws P w A i2 f2 n2 V2 S2)(Z:ZAp z TI TO i1 i2 f1 f2){k:Nat}{Q:Fin→Shared→Prop}(st:ZSt z TI TO i1 i2 S1 S2 .none k k s.heap)(h1:k=n1∨k<n1∧k=n2)
  (q:∀g e tk,(∀c o,c≠z→c≠TO→c≠i1→c≠i2→s.heap.get? c=some o→g.get? c=some o)→(∃o,g.get? e=some o∧o.cls=.type "StopIteration")→E (.ref e) {s with heap:=g,toks:=tk}):
  wpAny (model P w) A (Builtin.«zip.__next__» ⟨[.ref z],[]⟩) Q E s:=by
 obtain⟨zz,ti,⟨a,b,to⟩,s1,s2⟩:=st
 refine(show wpAny _ _ (field (.ref z) 2>>=_) _ _ _ from wpAny_bind (wpAny_field zz rfl (x:=.bool false) rfl ?_))
 refine(show wpAny _ _ (field (.ref z) 3>>=_) _ _ _ from wpAny_bind (wpAny_field zz rfl (x:=.ref TI) rfl (wpAny_bind (wpAny_seqItems ti rfl ?_))))
 refine(show wpAny _ _ (Builtin.SmallTypes.ownedTupleIsFree (.ref z)>>=_) _ _ _ from wpAny_bind ?_)
 unfold Builtin.SmallTypes.ownedTupleIsFree
 refine wpAny_bind (wpAny_field zz rfl (x:=.none) rfl (wpAny_pure ?_))
 simp only[if_true]
 refine wpAny_bind (wpAny_rule (wpAny_bind (wpAny_field zz rfl (x:=.ref TO) rfl (wpAny_bind (wpAny_setField_rec zz (by simp) fun g1 z1 e1=> ?_)))))
 replace z1:IsZip g1 z TI TO .ellipsis:=z1
 refine wpAny_bind ?_
 simp only[List.zipIdx_cons,List.zipIdx_nil,List.forIn_cons,List.forIn_nil]
 refine wpAny_bind (wpAny_bind (wpAny_onRaise (show wpAny _ _ (Builtin.SmallTypes.nextOf (.ref i1)>>=_) _ _ _ from wpAny_bind ?_)))
 rcases h1 with rfl|⟨h1,rfl⟩
 ·refine D1.done _ _ _ (D1.but e1 Z.b1 s1) fun g2 e e2 ⟨oe,he,hc⟩=> ?_
  have z2:IsZip g2 z TI TO .ellipsis:=e2 _ _ Z.a8.symm z1
  have ne:e≠z:=fun x=>by subst x;rw[z2]at he;cases he;simp at hc
  exact wpAny_setField_rec z2 (by simp) fun g3 _ e3=>q g3 e _ (fun c o c1 _ c3 _ x=>e3.extBut _ _ c1 (e2 _ _ c3 (e1.extBut _ _ c1 x))) ⟨oe,e3.extBut _ _ ne he,hc⟩
 ·refine D1.item k _ _ _ h1 (D1.but e1 Z.b1 s1) fun x g2 t2 v1 s1' e2=>wpAny_pure ?_
  have to2:IsPair g2 TO a b:=e2.extBut _ _ Z.a6 (e1.extBut _ _ Z.a2 to)
  refine wpAny_bind (wpAny_seqItems to2 rfl (wpAny_bind (wpAny_updateSeq_pair to2 fun g3 to3 e3=>wpAny_bind (wpAny_letGo (wpAny_pure ?_)))))
  refine wpAny_bind (wpAny_bind (wpAny_onRaise (show wpAny _ _ (Builtin.SmallTypes.nextOf (.ref i2)>>=_) _ _ _ from wpAny_bind ?_)))
  refine D2.done _ _ _ (D2.but e3 Z.b4 (D2.but e2 Z.b6 (D2.but e1 Z.b2 s2))) fun g4 e e4 ⟨oe,he,hc⟩=> ?_
  have z4:IsZip g4 z TI TO .ellipsis:=e4 _ _ Z.a9.symm (e3.extBut _ _ Z.a2.symm (e2.extBut _ _ Z.a8.symm z1))
  have ne:e≠z:=fun x=>by subst x;rw[z4]at he;cases he;simp at hc
  exact wpAny_setField_rec z4 (by simp) fun g5 _ e5=>q g5 e _ (fun c o c1 c2 c3 c4 x=>e5.extBut _ _ c1 (e4 _ _ c4 (e3.extBut _ _ c2 (e2.extBut _ _ c3 (e1.extBut _ _ c1 x))))) ⟨oe,e5.extBut _ _ ne he,hc⟩
theorem nx_zip(D1:Draws P w A.in1 i1 f1 n1 V1 S1)(D2:Draws P w A.in1 i2 f2 n2 V2 S2)(Z:ZAp z TI TO i1 i2 f1 f2){k:Nat}{Q:Option Value→Shared→Prop}(st:ZSt z TI TO i1 i2 S1 S2 .none k k s.heap)(h1:k<n1)(h2:k<n2)
  (q:∀x y g tk,V1 k x→V2 k y→ZSt z TI TO i1 i2 S1 S2 (rawInt s.heap.objs.size) (k+1) (k+1) g→IsPair g s.heap.objs.size x y→g.objs.size=s.heap.objs.size+1→
   (∀c o,c≠z→c≠TO→c≠i1→c≠i2→s.heap.get? c=some o→g.get? c=some o)→Q (some (.ref s.heap.objs.size)) {s with heap:=g,toks:=tk}):
  wpAny (model P w) A (pyNext (.ref z)) Q E s:=by
 have T:s.TypeIs (.ref z) "zip":=⟨_,st.zp,rfl⟩
 unfold pyNext
 exact wpAny_bind (wpAny_attempt (wpAny_callSpecial?_slot (name:=Str.ofString "__next__") T F.slot_zip_next (wpAny_call_entry F.slot_zip_next T F.entry_zip_next
  (zip_it D1 D2 Z st h1 h2 fun x y g tk c1 c2 c3 c4 c5 c6=>wpAny_pure (q x y g tk c1 c2 c3 c4 c5 c6)) (F.args_zip_next_1 _))))
theorem nx_zip_end(D1:Draws P w A.in1 i1 f1 n1 V1 S1)(D2:Draws P w A.in1 i2 f2 n2 V2 S2)(Z:ZAp z TI TO i1 i2 f1 f2){k:Nat}{Q:Option Value→Shared→Prop}(st:ZSt z TI TO i1 i2 S1 S2 .none k k s.heap)(h1:k=n1∨k<n1∧k=n2)
  (q:∀g tk,(∀c o,c≠z→c≠TO→c≠i1→c≠i2→s.heap.get? c=some o→g.get? c=some o)→Q none {s with heap:=g,toks:=tk}):wpAny (model P w) A (pyNext (.ref z)) Q E s:=by
 have T:s.TypeIs (.ref z) "zip":=⟨_,st.zp,rfl⟩
 unfold pyNext
 refine wpAny_bind (wpAny_attempt (wpAny_callSpecial?_slot (name:=Str.ofString "__next__") T F.slot_zip_next (wpAny_call_entry F.slot_zip_next T F.entry_zip_next
  (zip_en D1 D2 Z st h1 fun g e tk hk ⟨o,ho,hc⟩=>wpAny_bind (wpAny_isInstance (T:="StopIteration") (b:=true) ⟨o,ho,hc⟩ isSubtype_stop (wpAny_pure (q g tk hk)))) (F.args_zip_next_1 _))))
end
noncomputable def SqAt(b:Bool)(h:Heap)(l:Addr)(ws:Array Value):Prop:=if b=true then h.IsTuple l ws else h.IsList l ws
noncomputable def ItAt(b:Bool)(h:Heap)(j l:Addr)(k:Nat):Prop:=if b=true then h.IsTupleIter j l k else h.IsListIter j l k
noncomputable def itN(b:Bool):String:=if b=true then "tuple_iterator" else "list_iterator"
noncomputable abbrev itOb(b:Bool)(l:Addr):Obj:={cls:=.type (itN b),data:=.fields #[.ref l, .int 0 0]}
theorem it_sq{b:Bool}{l:Addr}{ws:Array Value}{Q:Value→Shared→Prop}(h:SqAt b s.heap l ws)(q:Q (.ref s.heap.objs.size) {s with heap:=s.heap.push (itOb b l)}):wpAny (model P w) A (pyIter (.ref l)) Q E s:=by
 cases b
 ·exact wpAny_pyIter_list h q
 ·exact wpAny_pyIter_tuple h q
theorem SqAt.push{b:Bool}{h:Heap}{l:Addr}{ws:Array Value}(x:SqAt b h l ws)(o:Obj):SqAt b (h.push o) l ws:=by
 cases b
 ·exact Heap.IsList.push x o
 ·obtain⟨p,e,r⟩:=(x:h.IsTuple l ws)
  exact⟨p,Heap.get?_push_of_some _ e,r⟩
theorem ItAt.new{b:Bool}{h:Heap}{j l:Addr}(e:h.get? j=some (itOb b l)):ItAt b h j l 0:=by
 cases b
 ·exact⟨_,e,rfl,rfl⟩
 ·exact⟨_,e,rfl,rfl⟩
noncomputable abbrev zh(b c:Bool)(h:Heap)(l m:Addr):Heap:=((h.push (itOb b l)).push (itOb c m))
noncomputable abbrev zh2(b c:Bool)(h:Heap)(l m:Addr):Heap:=((zh b c h l m).push {cls:=.type "tuple",data:=.seq #[.ref h.objs.size, .ref (h.push (itOb b l)).objs.size]}).push {cls:=.type "tuple",data:=.seq #[.none, .none]}
noncomputable abbrev zh3(b c:Bool)(h:Heap)(l m:Addr):Heap:=(zh2 b c h l m).push {cls:=.type "zip",data:=.fields #[.none, .bool false, .bool false, .ref (zh b c h l m).objs.size, .ref ((zh b c h l m).push {cls:=.type "tuple",data:=.seq #[.ref h.objs.size, .ref (h.push (itOb b l)).objs.size]}).objs.size]}
theorem zip_new_at(b c:Bool)(l m:Addr)(us ws:Array Value):
  Meets (Builtin.«zip.__new__» ⟨[.type "zip", .ref l, .ref m],[]⟩) (fun _ R s=>SqAt b s.heap l us∧SqAt c s.heap m ws∧R (.ok (.ret (.ref (zh2 b c s.heap l m).objs.size))) {s with heap:=zh3 b c s.heap l m}):=
 .of_wp fun prog w A R s h=>by
  obtain⟨hp,g,d,tk,os⟩:=s;obtain⟨h1,h2,h⟩:=h
  have hsub:=sub_zip
  have k1:SqAt b (Shared.heap ⟨hp,g,d,tk,os⟩) l us:=h1
  have k2:SqAt c (Shared.heap ⟨hp.push (itOb b l),g,d,tk,os⟩) m ws:=SqAt.push h2 _
  wp_walk using it_sq k1,it_sq k2
  exact⟨_,rfl,h⟩
theorem call_zip{b c:Bool}{l m:Addr}{us ws:Array Value}{Q:Value→Shared→Prop}(h1:SqAt b s.heap l us)(h2:SqAt c s.heap m ws)
  (q:∀g,IsZip g (s.heap.objs.size+4) (s.heap.objs.size+2) (s.heap.objs.size+3) .none→IsPair g (s.heap.objs.size+2) (.ref s.heap.objs.size) (.ref (s.heap.objs.size+1))→IsPair g (s.heap.objs.size+3) .none .none→
   ItAt b g s.heap.objs.size l 0→ItAt c g (s.heap.objs.size+1) m 0→g.objs.size=s.heap.objs.size+5→(∀x o,s.heap.get? x=some o→g.get? x=some o)→Q (.ref (s.heap.objs.size+4)) {s with heap:=g}):
  wpAny (model P w) A (call (.type "zip") [.ref l, .ref m]) Q E s:=by
 refine callType_new F.called_zip (by decide) (F.typeCall_zip_2 _ _) (F.newCall_zip_2 _ _) (fun obj=>F.args_object_init_3 obj _ _) F.entry_zip_new (zip_new_at b c l m us ws) ⟨h1,h2,?_⟩
 generalize hq:s.heap=h at *
 have z1:(h.push (itOb b l)).objs.size=h.objs.size+1:=Heap.size_push ..
 have z2:(zh b c h l m).objs.size=h.objs.size+2:=by rw[Heap.size_push,z1]
 have z3:((zh b c h l m).push {cls:=.type "tuple",data:=.seq #[.ref h.objs.size, .ref (h.push (itOb b l)).objs.size]}).objs.size=h.objs.size+3:=by rw[Heap.size_push,z2]
 have z4:(zh2 b c h l m).objs.size=h.objs.size+4:=by rw[Heap.size_push,z3]
 have z5:(zh3 b c h l m).objs.size=h.objs.size+5:=by rw[Heap.size_push,z4]
 have g5:(zh3 b c h l m).get? (zh2 b c h l m).objs.size=some _:=Heap.get?_push_size _ rfl
 have g4:(zh3 b c h l m).get? ((zh b c h l m).push {cls:=.type "tuple",data:=.seq #[.ref h.objs.size, .ref (h.push (itOb b l)).objs.size]}).objs.size=some _:=Heap.get?_push_of_some _ (Heap.get?_push_size _ rfl)
 have g3:(zh3 b c h l m).get? (zh b c h l m).objs.size=some _:=Heap.get?_push_of_some _ (Heap.get?_push_of_some _ (Heap.get?_push_size _ rfl))
 have g2:(zh3 b c h l m).get? (h.push (itOb b l)).objs.size=some (itOb c m):=Heap.get?_push_of_some _ (Heap.get?_push_of_some _ (Heap.get?_push_of_some _ (Heap.get?_push_size _ rfl)))
 have g1:(zh3 b c h l m).get? h.objs.size=some (itOb b l):=Heap.get?_push_of_some _ (Heap.get?_push_of_some _ (Heap.get?_push_of_some _ (Heap.get?_push_of_some _ (Heap.get?_push_size _ rfl))))
 show _∧_
 rw[z2,z3,z4]at g5
 rw[z1,z2]at g3
 rw[z3]at g4
 rw[z1]at g2
 rw[z4]
 exact⟨⟨_,g5,rfl⟩,q _ g5 g3 g4 (.new g1) (.new g2) z5 fun x o e=>Heap.get?_push_of_some _ (Heap.get?_push_of_some _ (Heap.get?_push_of_some _ (Heap.get?_push_of_some _ (Heap.get?_push_of_some _ e))))⟩
theorem draws_at(hh:A.handled=none)(b:Bool)(j l:Addr)(hne:l≠j)(ws:Array Value):Draws P w A j [j,l] ws.size (fun i v=>ws[i]? =some v) (fun i h=>ItAt b h j l i∧SqAt b h l ws):=by
 cases b
 ·exact Draws.list hh j l hne ws
 ·exact draws_tup hh j l hne ws
end
end PySem
namespace PySem
theorem draws_end{P:Program}{w:World}{A:Around}(hh:A.handled=none)(b:Bool)(j l:Addr)(ws:Array Value)(i:Nat)(hi:ws.size≤i):
  Draws P w A j [j,l] i (fun _ _=>True) (fun k h=>k=i∧ItAt b h j l k∧SqAt b h l ws):=by
 have e:ws[i]? =none:=by simp;exact hi
 cases b
 ·exact⟨fun _ _ z=>let⟨o,ho,_⟩:=(z.2.1:Heap.IsListIter _ _ _ _);⟨o,ho⟩,fun _ _ _ z k=>⟨z.1,Heap.IsListIter.at z.2.1 fun o e=>k j (by simp) o e,Heap.IsList.at z.2.2 fun o e=>k l (by simp) o e⟩,
   fun k _ _ _ hk z _=>absurd z.1 (Nat.ne_of_lt hk),fun s Q E z q=>wpAny_nextOf_list_end hh z.2.1 z.2.2 e q⟩
 ·exact⟨fun _ _ z=>let⟨o,ho,_⟩:=(z.2.1:Heap.IsTupleIter _ _ _ _);⟨o,ho⟩,fun _ _ _ z k=>⟨z.1,Heap.IsTupleIter.at z.2.1 fun o e=>k j (by simp) o e,Heap.IsTuple.at z.2.2 fun o e=>k l (by simp) o e⟩,
   fun k _ _ _ hk z _=>absurd z.1 (Nat.ne_of_lt hk),fun s Q E z q=>nx_tup_end hh z.2.1 z.2.2 e q⟩
end PySem
namespace L3
open PySem PySem.Spec L2
open PyProof.Rows hiding St
noncomputable def SqX(K:PySem.W.Frag)(b:Bool)(H:Hp)(a:Addr)(xs:List V):Prop:=if b=true then SqT K H a xs else SqL K H a xs
theorem Inv.sqx{X:Cx}{pins:List (Addr×Obj)}{σ:St}{H:Hp}{s:Shared}{b:Bool}{a:Addr}{xs:List V}(I:Inv X pins σ H s)(h:SqX X.K b H a xs):∃its:List Value,Vals xs its∧SqAt b s.heap a its.toArray∧xs.length≤sizeLine:=by
 cases b
 ·obtain⟨its,rv,pl,hz⟩:=I.list h
  exact⟨its,rv,pl.isList,hz⟩
 ·obtain⟨its,rv,pt,hz⟩:=I.tuple h
  exact⟨its,rv,(show s.heap.IsTuple a its.toArray from pt),hz⟩
theorem Inv.sqx_inj{X:Cx}{pins:List (Addr×Obj)}{σ:St}{H:Hp}{s:Shared}{b:Bool}{a:Addr}{xs ys:List V}(I:Inv X pins σ H s)(h:SqX X.K b H a xs)(h':SqX X.K b H a ys):ys=xs:=by
 cases b
 ·exact I.list_inj h' h
 ·exact I.tuple_inj h' h
theorem ItAt.at{b:Bool}{h h':Heap}{j l:Addr}{k:Nat}(x:ItAt b h j l k)(e:∀o,h.get? j=some o→h'.get? j=some o):ItAt b h' j l k:=by
 cases b
 ·exact Heap.IsListIter.at x e
 ·exact Heap.IsTupleIter.at x e
theorem ItAt.ob{b:Bool}{h:Heap}{j l:Addr}{k:Nat}(x:ItAt b h j l k):∃o,h.get? j=some o∧∀v,o.data≠ .cell v:=by
 cases b
 ·obtain⟨o,ho,_,hd⟩:=(x:Heap.IsListIter _ _ _ _);exact⟨o,ho,fun v z=>by rw[hd]at z;cases z⟩
 ·obtain⟨o,ho,_,hd⟩:=(x:Heap.IsTupleIter _ _ _ _);exact⟨o,ho,fun v z=>by rw[hd]at z;cases z⟩
noncomputable def Itz(K:PySem.W.Frag)(b c:Bool)(l m:Addr):It:=
 ⟨fun i H=>∃xs ys x y,SqX K b H l xs∧SqX K c H m ys∧xs[i]? =some x∧ys[i]? =some y,
  fun i H x H'=>∃T p q,x=.ref T∧H T=none∧H'=upd H T (.tup [p,q])∧(∀xs,SqX K b H l xs→xs[i]? =some p)∧∀ys,SqX K c H m ys→ys[i]? =some q,
  fun i H=>∃xs ys,SqX K b H l xs∧SqX K c H m ys∧(xs.length≤i∨ys.length≤i)⟩
noncomputable def zTn(b c:Bool)(z TI TO i1 i2 l m:Addr)(k:Nat)(h:Heap):Prop:=IsZip h z TI TO .none∧IsPair h TI (.ref i1) (.ref i2)∧(∃u v,IsPair h TO u v)∧ItAt b h i1 l k∧ItAt c h i2 m k
theorem turn_zip{P:Program}{w:World}{K:PySem.W.Frag}{elts:List Expr}{x1:Nat}{tp:Pos}{b c:Bool}{z TI TO i1 i2 l m:Addr}(Z:ZAp z TI TO i1 i2 [i1,l] [i2,m])(n1:l≠i1)(n2:m≠i2)(n3:i1≠i2):
  Turn P w K (.Tuple elts x1 tp) (Itz K b c l m) [z,TI,TO,i1,i2] z (zTn b c z TI TO i1 i2 l m) where
 mem:=by simp
 obj:=fun i h ⟨a1,a2,⟨u,v,a3⟩,a4,a5⟩ q hq=>by
  simp only[List.mem_cons,List.not_mem_nil,or_false]at hq
  rcases hq with rfl|rfl|rfl|rfl|rfl
  ·exact⟨_,a1,fun v z=>by cases z⟩
  ·exact⟨_,a2,fun v z=>by cases z⟩
  ·exact⟨_,a3,fun v z=>by cases z⟩
  ·exact ItAt.ob a4
  ·exact ItAt.ob a5
 keep:=fun i h h' ⟨a1,a2,⟨u,v,a3⟩,a4,a5⟩ k=>⟨k _ (by simp) _ a1,k _ (by simp) _ a2,⟨u,v,k _ (by simp) _ a3⟩,ItAt.at a4 (fun o e=>k _ (by simp) o e),ItAt.at a5 (fun o e=>k _ (by simp) o e)⟩
 item:=by
  intro X hP hw hK hc i pins s σ H E I hf ⟨a1,a2,a3,a4,a5⟩ hg
  subst hP hw hK
  obtain⟨xs,ys,x,y,hq1,hq2,hx,hy⟩:=hg
  obtain⟨t1,rv1,p1,_⟩:=Inv.sqx I hq1
  obtain⟨t2,rv2,p2,_⟩:=Inv.sqx I hq2
  obtain⟨u,hu,ru⟩:=rv1.get hx
  obtain⟨v,hv,rv⟩:=rv2.get hy
  have l1:i<t1.toArray.size:=by simpa using(List.getElem?_eq_some_iff.mp hu).1
  have l2:i<t2.toArray.size:=by simpa using(List.getElem?_eq_some_iff.mp hv).1
  have hh:X.A.in1.handled=none:=by have:=I.ok.hd hc;simpa using this
  refine nx_zip (draws_at (A:=X.A.in1) hh b i1 l n1 t1.toArray) (draws_at (A:=X.A.in1) hh c i2 m n2 t2.toArray) Z ⟨a1,a2,a3,⟨a4,p1⟩,⟨a5,p2⟩⟩ l1 l2 fun x' y' g tk e1 e2 st pr sz hk=> ?_
  have hx':x'=u:=by rw[List.getElem?_toArray,hu]at e1;exact(Option.some.inj e1).symm
  have hy':y'=v:=by rw[List.getElem?_toArray,hv]at e2;exact(Option.some.inj e2).symm
  subst hx' hy'
  refine⟨_,rfl,wpAny_letOwnedTupleGo_zip st.zp fun h2 z2 s2=> ?_⟩
  have fT:H s.heap.objs.size=none:=I.fresh
  have lt:∀q∈[z,TI,TO,i1,i2],q<s.heap.objs.size:=fun q hq=>by
   simp only[List.mem_cons,List.not_mem_nil,or_false]at hq
   obtain⟨_,_,a3⟩:=a3
   rcases hq with rfl|rfl|rfl|rfl|rfl
   ·exact Heap.lt_size a1
   ·exact Heap.lt_size a2
   ·exact Heap.lt_size a3
   ·obtain⟨o,ho,_⟩:=ItAt.ob a4;exact Heap.lt_size ho
   ·obtain⟨o,ho,_⟩:=ItAt.ob a5;exact Heap.lt_size ho
  have I1:Inv X pins σ (upd H s.heap.objs.size (.tup [x,y])) {s with heap:=s.heap.push {cls:=.type "tuple",data:=.seq #[x',y']},toks:=s.toks}:=
   I.laid (fun q o e=>Heap.get?_push_of_some _ e) (Nat.le_refl _) ⟨by show 2≤sizeLine;decide,[x',y'], .cons ru (.cons rv .nil),TupN.new _ _⟩
  have ff:∀q∈[z,TI,TO,i1,i2],FpOk X pins (upd H s.heap.objs.size (.tup [x,y])) q:=fun q hq=>⟨by rw[upd_ne (Nat.ne_of_lt (lt q hq))];exact(hf q hq).1,(hf q hq).2⟩
  have I2:=inv_turned (h':=h2) (t':=tk) I1 (fun q o hq e=>by
   have q1:q≠z:=fun w=>hq (by simp[w])
   have q2:q≠TO:=fun w=>hq (by simp[w])
   have q3:q≠i1:=fun w=>hq (by simp[w])
   have q4:q≠i2:=fun w=>hq (by simp[w])
   refine(s2.2 q q1).trans ?_
   by_cases hT:q=s.heap.objs.size
   ·subst hT
    rw[Heap.get?_push_size _ rfl]at e
    cases e
    exact pr
   ·have hl:q<s.heap.objs.size:=by
     have:=Heap.lt_size e
     rw[Heap.size_push]at this
     exact Nat.lt_of_le_of_ne (Nat.le_of_lt_succ this) hT
    exact hk q o q1 q2 q3 q4 (push_old hl e)) ff
  refine⟨.ref s.heap.objs.size,_,I2,rfl,⟨_,x,y,rfl,fT,rfl,fun xs' h=>by rw[Inv.sqx_inj I hq1 h];exact hx,fun ys' h=>by rw[Inv.sqx_inj I hq2 h];exact hy⟩,?_,fun q hq=>(ff q hq).1⟩
  obtain⟨_,c2,⟨u',v',c3⟩,⟨c4,_⟩,⟨c5,_⟩⟩:=st
  exact⟨z2,s2.extBut _ _ Z.a1 c2,⟨u',v',s2.extBut _ _ Z.a2 c3⟩,ItAt.at c4 (fun o e=>s2.extBut _ _ Z.a8 e),ItAt.at c5 (fun o e=>s2.extBut _ _ Z.a9 e)⟩
 done:=by
  intro X hP hw hK hc i pins s σ H E I hf ⟨a1,a2,a3,a4,a5⟩ hg
  subst hP hw hK
  obtain⟨xs,ys,hq1,hq2,hx⟩:=hg
  obtain⟨t1,rv1,p1,_⟩:=Inv.sqx I hq1
  obtain⟨t2,rv2,p2,_⟩:=Inv.sqx I hq2
  have e1:=rv1.length
  have e2:=rv2.length
  have hh:X.A.in1.handled=none:=by have:=I.ok.hd hc;simpa using this
  have fin:∀(g:Heap) (tk:Nat),(∀q o,q≠z→q≠TO→q≠i1→q≠i2→s.heap.get? q=some o→g.get? q=some o)→(none:Option Value)=none∧Inv X pins σ H {s with heap:=g,toks:=tk}:=fun g tk hk=>
   ⟨rfl,inv_turned I (fun q o hq e=>hk q o (fun w=>hq (by simp[w])) (fun w=>hq (by simp[w])) (fun w=>hq (by simp[w])) (fun w=>hq (by simp[w])) e) hf⟩
  by_cases hl:xs.length≤i
  ·exact nx_zip_end (draws_end (A:=X.A.in1) hh b i1 l t1.toArray i (by simp;omega)) (draws_at (A:=X.A.in1) hh c i2 m n2 t2.toArray) Z ⟨a1,a2,a3,⟨rfl,a4,p1⟩,⟨a5,p2⟩⟩ (.inl rfl) fin
  ·have hl2:ys.length≤i:=by rcases hx with h|h;exact absurd h hl;exact h
   exact nx_zip_end (draws_at (A:=X.A.in1) hh b i1 l n1 t1.toArray) (draws_end (A:=X.A.in1) hh c i2 m t2.toArray i (by simp;omega)) Z ⟨a1,a2,a3,⟨a4,p1⟩,⟨rfl,a5,p2⟩⟩ (.inr ⟨by simp;omega,rfl⟩) fin
 self:=fun A i s Q E ⟨a1,_⟩ h=>wpAny_pyIter_zip a1 h
noncomputable def sqK(d:D):Bool:=match d with| .tup _=>true|_=>false
noncomputable def SqD(K:PySem.W.Frag)(G:Addr→Prop)(b:Bool)(H:Hp)(a:Addr)(ds:List D):Prop:=∃ys,SqX K b H a ys∧(b=false→LstAt K G H a ys)∧RepL K G H ds ys
theorem SqD.same{K:PySem.W.Frag}{G:Addr→Prop}{b:Bool}{H H':Hp}{a:Addr}{ds:List D}(h:SqD K G b H a ds)(e:Same H H'):SqD K G b H' a ds:=by
 obtain⟨ys,c1,c2,c3⟩:=h
 refine⟨ys,?_,fun z=>(c2 z).mono e fun _ x=>x,c3.same e⟩
 cases b
 ·exact((c2 rfl).mono e fun _ x=>x).sq
 ·exact Same.seqT e c1
theorem SqD.keep{K:PySem.W.Frag}{G:Addr→Prop}{b:Bool}{H H':Hp}{a:Addr}{ds:List D}(h:SqD K G b H a ds)(e:KeepG G H H'):SqD K G b H' a ds:=by
 obtain⟨ys,c1,c2,c3⟩:=h
 refine⟨ys,?_,fun z=>e.lstAt (c2 z),RepL.keep e _ c3⟩
 cases b
 ·exact(e.lstAt (c2 rfl)).sq
 ·exact e.seqT c1
theorem SqD.of{K:PySem.W.Frag}{G:Addr→Prop}{H:Hp}{d:D}{ds:List D}{v:V}(hi:itsR d=.ok ds)(r:Rep K G H d v):∃a,v=.ref a∧SqD K (fun a=>G a∧H a≠none) (sqK d) H a ds:=by
 cases d with
 |tup xs=>
  cases hi
  obtain⟨a,vs,rfl,h1,r1⟩:=r.tup_of
  exact⟨a,rfl,vs,h1,(fun z=>by cases z),RepL.there _ r1⟩
 |lst xs=>
  cases hi
  obtain⟨a,vs,rfl,h1,r1⟩:=r.lst_of
  refine⟨a,rfl,vs,h1.sq,fun _=> ?_,RepL.there _ r1⟩
  rcases h1 with⟨h1,ga⟩|h1
  ·exact .inl ⟨h1,ga,by rcases h1 with h1|⟨o,h1⟩<;>rw[h1]<;>simp⟩
  ·exact .inr h1
 |_=>cases hi
theorem zipD_cases(es:List D):zipD es=.bad∨∃x y xs ys,es=[x,y]∧itsR x=.ok xs∧itsR y=.ok ys∧zipD es=.ok (zipL xs ys):=by
 match es with
 | []=>exact .inl rfl
 | [_]=>exact .inl rfl
 |_::_::_::_=>exact .inl rfl
 | [x,y]=>
  have ir:∀d:D,itsR d=.bad∨∃xs,itsR d=.ok xs:=fun d=>by cases d<;>first|exact .inl rfl|exact .inr ⟨_,rfl⟩
  rcases ir x with h|⟨xs,h⟩
  ·exact .inl (by show(itsR x>>=fun xs=>itsR y>>=fun ys=>R.ok (zipL xs ys))=_;rw[h];rfl)
  ·rcases ir y with h'|⟨ys,h'⟩
   ·exact .inl (by show(itsR x>>=fun xs=>itsR y>>=fun ys=>R.ok (zipL xs ys))=_;rw[h,h'];rfl)
   ·exact .inr ⟨x,y,xs,ys,rfl,h,h',by show(itsR x>>=fun xs=>itsR y>>=fun ys=>R.ok (zipL xs ys))=_;rw[h,h'];rfl⟩
theorem zAp{n l m:Addr}(h1:l<n)(h2:m<n):ZAp (n+4) (n+2) (n+3) n (n+1) [n,l] [n+1,m]:=by
 constructor<;>(simp only[ne_eq,List.mem_cons,List.not_mem_nil,or_false,not_or,Addr]at *;omega)
section
variable{X:Cx}
theorem i_zip{a b:Expr}{m:Rho→R (List D)}{elts:List Expr}{x1:Nat}{tp p pos:Pos}(hm:X.mg "zip"=none)(ha:PDA X [a,b] m)(hg:Gl X "zip":=by rfl)(hs:starEach (a::[b]) X.env=(false,eval a X.env)::starEach [b] X.env:=by rfl)
  (hp:(backTo pos (starEach [b] X.env)).any (·.1)=false:=by rfl):PID X (.Tuple elts x1 tp) (.Call (.Name "zip" p) [a,b] [] pos) (apL zipD m):=by
 intro pins s σ H R0 I ⟨G,ρ,hG,hρ,q⟩
 unfold apL at q
 cases em:m ρ with
 |ex c=>
  rw[em]at q
  exact Call_ (ld_blt I hg hm boot_zip (callWith_type1 (thn (ha pos pins s σ H (fun _ _=>False) I ⟨G,ρ,hG,hρ,by rw[em];exact q⟩) fun us s1 ⟨vs,H1,I1,r1,z⟩=>z.elim) hs hp))
 |bad=>rw[em]at q;exact q.elim
 |ok es=>
  rw[em]at q
  rw[R.ok_bind]at q
  rcases zipD_cases es with h|⟨x,y,xs,ys,rfl,ex,ey,ez⟩
  ·rw[h]at q;exact q.elim
  rw[ez]at q
  refine Call_ (ld_blt I hg hm boot_zip (callWith_type1 (thn (ha pos pins s σ H (fun vs H1=>Same H H1∧RepL X.K G H1 [x,y] vs) I ⟨G,ρ,hG,hρ,by rw[em];exact fun vs H1 e1 rl=>⟨e1,rl⟩⟩) fun us s1 ⟨vs,H1,I1,r1,e1,rl⟩=> ?_) hs hp))
  obtain⟨v1,vr,rfl,rx,rl2⟩:=rl.uncons
  obtain⟨v2,rfl,ry⟩:=one_of rl2
  obtain⟨l,rfl,c1⟩:=SqD.of ex rx
  obtain⟨k,rfl,c2⟩:=SqD.of ey ry
  obtain⟨u1,u2,rfl,t1,t2⟩:=vals2 r1
  cases t1;cases t2
  obtain⟨ws1,s11,_,r11⟩:=id c1
  obtain⟨ws2,s21,_,r21⟩:=id c2
  obtain⟨i1,_,p1,z1⟩:=Inv.sqx I1 s11
  obtain⟨i2,_,p2,z2⟩:=Inv.sqx I1 s21
  have l1:l<s1.heap.objs.size:=by
   revert p1
   cases sqK x
   ·exact fun p1=>let⟨_,e,_⟩:=(p1:s1.heap.IsList _ _);Heap.lt_size e
   ·exact fun p1=>let⟨_,e,_⟩:=(p1:s1.heap.IsTuple _ _);Heap.lt_size e
  have l2:k<s1.heap.objs.size:=by
   revert p2
   cases sqK y
   ·exact fun p2=>let⟨_,e,_⟩:=(p2:s1.heap.IsList _ _);Heap.lt_size e
   ·exact fun p2=>let⟨_,e,_⟩:=(p2:s1.heap.IsTuple _ _);Heap.lt_size e
  refine call_zip p1 p2 fun g a1 a2 a3 a4 a5 a6 hk=>wpAny_pyIter_zip a1 ?_
  refine⟨_,_,_,Itz X.K (sqK x) (sqK y) l k,H1,rfl,I1.kept (t':=s1.toks) hk,turn_zip (zAp l1 l2) (Nat.ne_of_lt l1) (Nat.ne_of_lt (Nat.lt_succ_of_lt l2)) (Nat.ne_of_lt (Nat.lt_succ_self _)),⟨a1,a2,⟨_,_,a3⟩,a4,a5⟩,fun c hc=> ?_,?_⟩
  ·have:s1.heap.objs.size≤c:=by
    simp only[List.mem_cons,List.not_mem_nil,or_false]at hc
    rcases hc with rfl|rfl|rfl|rfl|rfl
    ·exact Nat.le_add_right _ 4
    ·exact Nat.le_add_right _ 2
    ·exact Nat.le_add_right _ 3
    ·exact Nat.le_refl _
    ·exact Nat.le_add_right _ 1
   exact I1.fpOk this (I1.hok.fresh this)
  ·have lz:(zipL xs ys).length=min xs.length ys.length:=by simp[zipL]
   refine q (Itz X.K (sqK x) (sqK y) l k) H1 (fun H2=>SqD X.K (fun a=>G a∧H1 a≠none) (sqK x) H2 l xs∧SqD X.K (fun a=>G a∧H1 a≠none) (sqK y) H2 k ys) e1 ⟨fun i H2 hC hi=> ?_,fun i H2 hC hi=> ?_⟩ (fun H2 H3 hC e=>⟨hC.1.keep e,hC.2.keep e⟩) ⟨c1,c2⟩ (by rw[lz,←r11.length];exact Nat.le_trans (Nat.min_le_left _ _) z1)
   ·rw[lz]at hi
    obtain⟨⟨us,d1,_,d3⟩,⟨ws,f1,_,f3⟩⟩:=id hC
    have hu:i<us.length:=by rw[d3.length];omega
    have hw:i<ws.length:=by rw[f3.length];omega
    refine⟨⟨us,ws,us[i],ws[i],d1,f1,by simp[hu],by simp[hw]⟩,fun v H' ⟨T,p',q',ev,hT,eH,h1,h2⟩=> ?_⟩
    subst ev eH
    have gg:=same_new hT (.tup [p',q'])
    obtain⟨d,ed,rd⟩:=d3.get' (h1 us d1)
    obtain⟨f,ef,rf⟩:=f3.get' (h2 ws f1)
    refine⟨gg,⟨hC.1.same gg,hC.2.same gg⟩, .tup [d,f],?_,Rep.tup (SqT.of upd_same) (RepL.cons (rd.same gg) (RepL.cons (rf.same gg) RepL.nil))⟩
    unfold zipL
    rw[List.getElem?_map]
    have:(xs.zip ys)[i]? =some (d,f):=by simp[List.getElem?_zip_eq_some,ed,ef]
    rw[this];rfl
   ·rw[lz]at hi
    obtain⟨⟨us,d1,_,d3⟩,⟨ws,f1,_,f3⟩⟩:=id hC
    exact⟨us,ws,d1,f1,by rw[d3.length,f3.length];omega⟩
end
end L3
namespace L3
open PySem PySem.Spec L2
open PyProof.Rows hiding St
section
variable{X:Cx}{pos:Pos}
noncomputable def signs(x:Str):List D:=x.cps.toList.map fun c=>.str ⟨#[c]⟩
end
end L3
namespace L3
open PySem PySem.Spec L2
open PyProof.Rows hiding St
section
variable{X:Cx}{pos:Pos}
end
end L3
namespace PySem
section
open AutoSeq1
end
end PySem
namespace L3
open PySem PySem.Spec L2
open PyProof.Rows hiding St
section
variable{X:Cx}{pos:Pos}
end
end L3
namespace PySem
open AutoSeq1 (wpAny_loadPart')
noncomputable abbrev eh(b:Bool)(h:Heap)(l:Addr):Heap:=(h.push (itOb b l)).push {cls:=.type "enumerate",data:=.fields #[.none, .bool false, .ref h.objs.size,rawInt 0, .none, .none]}
section
variable{P:Program}{w:World}{A:Around}{E:Value→Shared→Prop}{s:Shared}
end
end PySem
namespace L3
open PySem PySem.Spec L2
open PyProof.Rows hiding St
section
variable{X:Cx}
end
end L3
namespace L3
open PySem PySem.Spec L2
open PyProof.Rows hiding St
section
variable{X:Cx}
theorem t_isN{a:Expr}{ma:Rho→R D}{j pos pos'}(ha:PD X a ma):PDT X (.Compare a [.Is] [.Constant .none j pos'] pos) (tst (un isD ma)):=
 (pt_cmp (pc_isN ha)).imp fun σ H Q ⟨G,ρ,hG,hρ,q⟩=>⟨G,ρ,hG,hρ,by
  unfold tst un at q
  cases e:ma ρ with
  |ok d=>rw[e]at q;exact fun v H1 e1 rd=>⟨_,rfl,by rw[isNon_of rd];exact q _ H1 e1 rfl⟩
  |ex c=>rw[e]at q;exact q
  |bad=>rw[e]at q;exact q⟩
end
end L3
namespace L3
open PySem PySem.Spec L2
open PyProof.Rows hiding St
section
variable{X:Cx}{pos:Pos}
end
end L3
namespace L3
open PySem PySem.Spec L2
open PyProof.Rows hiding St
section
variable{X:Cx}
theorem sumD_cases(ds:List D):sumD ds=.bad∨∃x xs ns,ds=[x]∧itsR x=.ok xs∧intsD xs=some ns∧sumD ds=.ok (.int ns.sum):=by
 unfold sumD
 split
 ·rename_i xs
  cases h:intsD xs with
  |none=>exact .inl rfl
  |some ns=>exact .inr ⟨_,_,_,rfl,rfl,h,rfl⟩
 ·rename_i xs
  cases h:intsD xs with
  |none=>exact .inl rfl
  |some ns=>exact .inr ⟨_,_,_,rfl,rfl,h,rfl⟩
 ·exact .inl rfl
theorem cd_sum{k:Nat}(hr:Room k X.A):CallD X (.builtin "sum") sumD:=by
 intro pins s σ H xs us Q I r ⟨G,σ',ds,hG,rd,q⟩
 rcases sumD_cases ds with h|⟨x,ys,ns,rfl,hi,hn,e⟩
 ·rw[h]at q;exact q.elim
 rw[e]at q
 obtain⟨v,rfl,rx⟩:=one_of rd
 obtain⟨a,rfl,ws,s1,_,r1⟩:=SqD.of hi rx
 obtain⟨u,rfl,ru⟩:=vals1 r
 cases ru
 cases ints_map hn
 cases ints_vals _ r1
 obtain⟨its,rv,pl,hz⟩:=Inv.sqx I s1
 have hia:=intsAre_of rv
 have hln:=hia.length
 have hh:X.A.in1.handled=none:=by have:=hr.hd;simpa using this
 have val:∀i v,its.toArray[i]? =some v→∃t,v=Value.int ((fun i=>ns.getD i 0) i) t:=fun i v hv=>IntsAre.int_at hia i v (by simpa using hv)
 have sum:preSum (fun i=>ns.getD i 0) its.toArray.size=ns.sum:=by rw[preSum_getD,List.size_toArray,hln,List.take_length]
 have fin:∀(I0:Addr) (h':Heap) (tk:Nat) (t':Tok),(∀b o,s.heap.get? b=some o→h'.get? b=some o)→EP X pins σ Q (.int (preSum (fun i=>ns.getD i 0) its.toArray.size) t') {s with heap:=h',toks:=tk}:=fun I0 h' tk t' hk=>
  ⟨.int ns.sum,H,I.kept (t':=tk) hk,⟨t',by rw[sum]⟩,q _ H (Same.refl H) Rep.int⟩
 revert pl
 cases sqK x
 ·intro pl
  have hl:s.heap.IsList a its.toArray:=pl
  have hlt:a<s.heap.objs.size:=by obtain⟨_,e,_⟩:=hl;exact Heap.lt_size e
  refine call_sum_walkG (wpAny_pyIter_list hl ?_)
  refine⟨s.heap.objs.size,[s.heap.objs.size,a],[s.heap.objs.size],its.toArray.size,_,_,fun i=>ns.getD i 0,rfl,Walks.list (A:=X.A.in1) hh _ a (Nat.ne_of_lt hlt) its.toArray,⟨⟨_,Heap.get?_push_size _ rfl,rfl,rfl⟩,hl.push _⟩,fun b hb=> ?_,fun i v hP=>val i v hP,fun h' tk t' hk=>fin 0 h' tk t' (LSm.kept_iter hk)⟩
  rw[Heap.size_push]
  rcases List.mem_cons.mp hb with z|hb
  ·rw[z];exact Nat.lt_succ_self _
  ·rw[List.mem_singleton.mp hb];exact Nat.lt_succ_of_lt hlt
 ·intro pl
  have hl:s.heap.IsTuple a its.toArray:=pl
  have hlt:a<s.heap.objs.size:=by obtain⟨_,e,_⟩:=hl;exact Heap.lt_size e
  refine call_sum_walkG (wpAny_pyIter_tuple hl ?_)
  refine⟨s.heap.objs.size,[s.heap.objs.size,a],[s.heap.objs.size],its.toArray.size,_,_,fun i=>ns.getD i 0,rfl,Walks.tuple (A:=X.A.in1) hh _ a (Nat.ne_of_lt hlt) its.toArray,⟨⟨_,Heap.get?_push_size _ rfl,rfl,rfl⟩,SqAt.push (b:=true) pl _⟩,fun b hb=> ?_,fun i v hP=>val i v hP,fun h' tk t' hk=>fin 0 h' tk t' (LSm.kept_iter hk)⟩
  rw[Heap.size_push]
  rcases List.mem_cons.mp hb with z|hb
  ·rw[z];exact Nat.lt_succ_self _
  ·rw[List.mem_singleton.mp hb];exact Nat.lt_succ_of_lt hlt
end
theorem len1{α:Type}{l:List α}(h:l.length=1):∃a,l=[a]:=by
 cases l with
 |nil=>cases h
 |cons a t=>exact⟨a,by rw[List.eq_nil_of_length_eq_zero (Nat.succ.inj h)]⟩
theorem lenS{α:Type}{l:List α}{n:Nat}(h:l.length=n+1):∃a t,l=a::t∧t.length=n:=by
 cases l with
 |nil=>cases h
 |cons a t=>exact⟨a,t,rfl,Nat.succ.inj h⟩
theorem binds1{K:PySem.W.Frag}{x qual:Str}{st:Stmt}{f:Addr}{fd:FuncData}{p0:Str}(F:Fun K x qual st f fd)
  (h:∀(kV doc pm:Value) (an:Option Addr) (cdv ct:Value) (u0:Value),bindArgs (PySem.W.fnOf x qual (defArgs st) (defBody st) (defScope st) .none kV doc pm an cdv ct) ⟨[u0],[]⟩=pure ([p0].zip [u0])):Binds K fd [p0] []:=
 F.binds fun k d q a c t us hl=>by
  obtain⟨u0,rfl⟩:=len1 hl
  exact h k d q a c t u0
theorem binds2{K:PySem.W.Frag}{x qual:Str}{st:Stmt}{f:Addr}{fd:FuncData}{p0 p1:Str}(F:Fun K x qual st f fd)
  (h:∀(kV doc pm:Value) (an:Option Addr) (cdv ct:Value) (u0 u1:Value),bindArgs (PySem.W.fnOf x qual (defArgs st) (defBody st) (defScope st) .none kV doc pm an cdv ct) ⟨[u0,u1],[]⟩=pure ([p0,p1].zip [u0,u1])):Binds K fd [p0,p1] []:=
 F.binds fun k d q a c t us hl=>by
  obtain⟨u0,r0,rfl,h0⟩:=lenS hl
  obtain⟨u1,rfl⟩:=len1 h0
  exact h k d q a c t u0 u1
theorem binds3{K:PySem.W.Frag}{x qual:Str}{st:Stmt}{f:Addr}{fd:FuncData}{p0 p1 p2:Str}(F:Fun K x qual st f fd)
  (h:∀(kV doc pm:Value) (an:Option Addr) (cdv ct:Value) (u0 u1 u2:Value),bindArgs (PySem.W.fnOf x qual (defArgs st) (defBody st) (defScope st) .none kV doc pm an cdv ct) ⟨[u0,u1,u2],[]⟩=pure ([p0,p1,p2].zip [u0,u1,u2])):Binds K fd [p0,p1,p2] []:=
 F.binds fun k d q a c t us hl=>by
  obtain⟨u0,r0,rfl,h0⟩:=lenS hl
  obtain⟨u1,r1,rfl,h1⟩:=lenS h0
  obtain⟨u2,rfl⟩:=len1 h1
  exact h k d q a c t u0 u1 u2
theorem binds4{K:PySem.W.Frag}{x qual:Str}{st:Stmt}{f:Addr}{fd:FuncData}{p0 p1 p2 p3:Str}(F:Fun K x qual st f fd)
  (h:∀(kV doc pm:Value) (an:Option Addr) (cdv ct:Value) (u0 u1 u2 u3:Value),bindArgs (PySem.W.fnOf x qual (defArgs st) (defBody st) (defScope st) .none kV doc pm an cdv ct) ⟨[u0,u1,u2,u3],[]⟩=pure ([p0,p1,p2,p3].zip [u0,u1,u2,u3])):Binds K fd [p0,p1,p2,p3] []:=
 F.binds fun k d q a c t us hl=>by
  obtain⟨u0,r0,rfl,h0⟩:=lenS hl
  obtain⟨u1,r1,rfl,h1⟩:=lenS h0
  obtain⟨u2,r2,rfl,h2⟩:=lenS h1
  obtain⟨u3,rfl⟩:=len1 h2
  exact h k d q a c t u0 u1 u2 u3
end L3
namespace L3
open PySem PySem.Spec L2
open PyProof.Rows hiding St
open PySem.W (KasT kas_sort kas_rev kas_asc kas_desc kas_tail3 kas_descPart kas_count kas_place kas_bin)
noncomputable def gP(p:Array Nat)(i:Nat):Nat:=p.getD i 0
noncomputable def PerN(n:Nat)(p:Array Nat):Prop:=p.Perm (List.toArray (List.range n))
theorem PerN.size{n:Nat}{p:Array Nat}(h:PerN n p):p.size=n:=by
 have:=h.size_eq
 simpa using this
theorem PerN.low{n:Nat}{p:Array Nat}(h:PerN n p){i:Nat}(hi:i<n):gP p i<n:=by
 have hs:=h.size
 have e:gP p i=p[i]'(by omega):=by unfold gP;simp[hs,hi]
 rw[e]
 have:=(h.mem_iff (a:=p[i]'(by omega))).mp (Array.getElem_mem _)
 simpa using this
section
variable{lt:Nat→Nat→Bool}{n:Nat}(hT:∀i j,i<n→j<n→i≠j→lt i j=true∨lt j i=true)(hA:∀i j,lt i j=true→lt j i=false)(hTr:∀i j k,lt i j=true→lt j k=true→lt i k=true)
end
end L3
namespace L3
open PySem PySem.Spec L2
open PyProof.Rows hiding St
open PySem.W (KasT kas_sort KatLex KatGo kat_nil kat_cons kat_yes kat_no kat_lt kat_one KatTups kat_kind kat_run kat_snds kas_ask)
section
variable{prog:Program}{w:World}{A:Around}{E:Value→Shared→Prop}{s:Shared}{Q:Bool→Shared→Prop}
structure NestsAre(h:Heap)(vs:List Value)(ks:List (List (List Int))):Prop where
 len:vs.length=ks.length
 at_:∀(i:Nat) (v:Value) (k:List (List Int)),vs[i]? =some v→ks[i]? =some k→k≠[]∧∃a items,v=.ref a∧IsTup h a items∧TupsAre h items.toList k
end
section
variable{prog:Program}{w:World}{A:Around}{E:Value→Shared→Prop}{s:Shared}
end
section
variable{X:Cx}
end
end L3
namespace L3
open PySem PySem.Spec L2
open PyProof.Rows hiding St
section
variable{X:Cx}
end
end L3
namespace L3
open PySem PySem.Spec L2
open PyProof.Rows hiding St
section
variable{α:Type}[DecidableEq α]
noncomputable def LtAt(A:Around)(s:Shared)(x y:Value)(b:Bool):Prop:=
 ∀(prog:Program) (w:World) (E Q:Value→Shared→Prop),Q (.bool b) s→wpAny (model prog w) A (richCompare .Lt x y) Q E s
theorem LtAt.int_int{A:Around}{s:Shared}(a:Int)(t:Tok)(c:Int)(u:Tok):LtAt A s (.int a t) (.int c u) (decide (a<c)):=fun prog w E Q h=>HT.rcLt_int A s a t c u prog w E Q h
inductive AllR(Rl:Value→α→Prop):List Value→List α→Prop
 |nil:AllR Rl [] []
 |cons {v:Value} {k:α} {vs:List Value} {ks:List α}:Rl v k→AllR Rl vs ks→AllR Rl (v::vs) (k::ks)
structure CmpR(A:Around)(s:Shared)(lt:α→α→Bool)(Rl:Value→α→Prop):Prop where
 eq:∀x y k m,Rl x k→Rl y m→SeqAt.EqAt A s x y (decide (k=m))
 lt:∀x y k m,Rl x k→Rl y m→LtAt A s x y (lt k m)
end
section
open PySem.SeqAt
open PySem.AutoSeq1 (wpAny_loadPart')
open PySem.MeetsSeq PySem.MeetsSeq2 PySem.MeetsSeq3
variable{α:Type}[DecidableEq α]{lt:α→α→Bool}{Rl:Value→α→Prop}
end
end L3
namespace L3
open PySem PySem.Spec L2
open PyProof.Rows hiding St
open PySem.W (KasT kas_sort KatLex KatGo kat_nil kat_cons kat_yes kat_no kat_lt kat_one KatTups kat_kind kat_run kat_snds kas_ask kas_kind)
section
variable{α:Type}[DecidableEq α]{A:Around}{s:Shared}{lt:α→α→Bool}{Rl:Value→α→Prop}
end
section
variable{X:Cx}{pins:List (Addr×Obj)}{σ:St}{H:Hp}{s:Shared}{G:Addr→Prop}
end
end L3
namespace L3
open PySem PySem.Spec L2
open PyProof.Rows hiding St
open PySem.W (KasT kas_sort kat_run kat_snds kas_ask kas_kind)
section
variable{prog:Program}{w:World}{A:Around}{E:Value→Shared→Prop}{s:Shared}
end
section
variable{X:Cx}
end
end L3
namespace L3
open PySem PySem.Spec L2
open PyProof.Rows hiding St
section
variable{prog:Program}{w:World}{A:Around}{R:Result→Shared→Prop}{I S:Addr}{fp wr:List Addr}{n:Nat}{P:Nat→Value→Prop}{St:Nat→Heap→Prop}{bt:Nat→Nat→Bool}{h0:Heap}
end
section
variable{prog:Program}{w:World}{A:Around}{E:Value→Shared→Prop}{s:Shared}{l:Addr}{its:Array Value}{bt:Nat→Nat→Bool}
end
section
variable{X:Cx}
end
end L3
namespace HT
open PySem PyProof.Rows
section
variable{prog:Program}{w:World}{A:Around}{E:Value→Shared→Prop}{s:Shared}
theorem getItem_tuple_all{t sl:Addr}{items:Array Value}{vl vu:Value}{lo hi:Option Int}{Q:Value→Shared→Prop}(ht:IsTup s.heap t items)(hs:s.heap.IsSliceOf sl vl vu .none)(pl:IsPart vl lo)(pu:IsPart vu hi)
  (hw:sIx items.size 0 lo=0∧sIx items.size items.size hi=items.size) (h:Q (.ref t) s):wpAny (model prog w) A (getItem (.ref t) (.ref sl)) Q E s:=by
 obtain⟨os,hos,hcs,hds⟩:=id hs
 unfold getItem
 try with_reducible refine wpAny_holding ?_
 first|refine wpAny_bind (wpAny_pure ?_)|skip
 refine wpAny_bind (wpAny_sequenceKey ht.typeIs (by decide) ?_)
 refine wpAny_bind (wpAny_callSpecial?_slot (name:=Str.ofString "__getitem__") ht.typeIs PyProof.Rows.slot_tuple_getitem (wpAny_call_entry PyProof.Rows.slot_tuple_getitem ht.typeIs entry_tuple_getitem ?_ (args_tuple_getitem _ _)))
 refine wpAny_bind (m:=Builtin.Tuple.tupleItemsOf (.ref t)) (tupleItemsOf_ ht (wpAny_bind (wpAny_typeOf (T:="slice") ⟨os,hos,hcs⟩ ?_)))
 rw[if_pos (by decide)]
 refine wpAny_bind (sliceApplied_gen hs pl pu ?_)
 rw[hw.1,hw.2]
 have yes:((((0:Nat):Int) == 0&&(1:Int) == 1&&(items.size - 0) == items.size)=true):=by simp
 dsimp only
 rw[if_pos yes]
 refine wpAny_bind (m:=Builtin.Tuple.tupleIsExact (.ref t)) ?_
 unfold Builtin.Tuple.tupleIsExact
 refine wpAny_bind (wpAny_typeOf ht.typeIs (wpAny_pure ?_))
 rw[if_pos (by decide)]
 refine wpAny_bind (wpAny_rule ?_)
 first
  |exact wpAny_pure ⟨_,rfl,wpAny_pure h⟩
  |exact wpAny_bind (wpAny_pure (wpAny_pure ⟨_,rfl,wpAny_pure h⟩))
  |exact wpAny_bind (wpAny_pure ⟨_,rfl,wpAny_pure h⟩)
end
end HT
namespace L3
open PySem PySem.Spec L2
open PyProof.Rows hiding St
section
variable{X:Cx}
noncomputable def rSlW(K:PySem.W.Frag):V→Option Int→Option Int→Hp→VK→Prop:=fun x lo hi H Q=>∃a xs,x=.ref a∧SqT K H a xs∧
 (HT.sIx xs.length 0 lo=0∧HT.sIx xs.length xs.length hi=xs.length)∧Q (.ref a) H
theorem sl_whole:SlR X (rSlW X.K):=by
 intro pins s σ H x v vl vu lo hi sl Q I rx hs pl pu h
 obtain⟨a,xs,rfl,hx,hw,q⟩:=h
 cases rx
 obtain⟨its,r,ht,hz⟩:=I.tuple hx
 have hlen:its.toArray.size=xs.length:=by rw[List.size_toArray];exact r.length.symm
 exact⟨"tuple",_,PyProof.Rows.slot_tuple_getitem.lookup,ht.typeIs,HT.getItem_tuple_all ht hs pl pu (by rw[hlen];exact hw) ⟨.ref a,H,I,rfl,q⟩⟩
noncomputable def slT:D→Option Int→Option Int→R D
 | .tup xs,lo,hi=>.ok (.tup (cutD xs lo hi))
 |_,_,_=>.bad
theorem cut_whole{xs:List D}{lo hi:Option Int}(h:HT.sIx xs.length 0 lo=0∧HT.sIx xs.length xs.length hi=xs.length):cutD xs lo hi=xs:=by
 unfold cutD
 rw[h.1,h.2]
 simp
noncomputable def sliT(m:Rho→R D)(l h:Rho→R (Option Int)):Rho→R D:=fun ρ=>m ρ>>=fun d=>l ρ>>=fun lo=>h ρ>>=fun hi=>slT d lo hi
theorem d_sliceT{e:Expr}{lo hi:Option Expr}{m:Rho→R D}{l h:Rho→R (Option Int)}{pos p2:Pos}(he:PD X e m)(hl:PDO X lo l)(hh:PDO X hi h):PD X (.Subscript e (.Slice lo hi none p2) pos) (sliT m l h):=
 (pe_slice (sl_tup.or sl_whole) he hl hh).imp fun σ H Q ⟨G,ρ,hG,hρ,q⟩=>by
  refine⟨G,ρ,hG,hρ,(DQ.bind q).wk fun v H1 e1 ⟨d,_,_,rd,q1⟩=> ?_⟩
  refine⟨G,ρ,hG.same e1,hρ.same e1,(DQ.bind (rep:=fun _ a b=>b=a) q1).wk fun lo' H2 e2 ⟨lo'',_,_,rl,q2⟩=> ?_⟩
  subst rl
  have e12:=e1.trans e2
  refine⟨G,ρ,hG.same e12,hρ.same e12,(DQ.bind (rep:=fun _ a b=>b=a) q2).wk fun hi' H3 e3 ⟨hi'',_,_,rh,q3⟩=> ?_⟩
  subst rh
  have e23:=e2.trans e3
  cases d with
  |tup xs=>
   obtain⟨a,vs,rfl,h1,r1⟩:=rd.tup_of
   have h3:=Same.seqT e23 h1
   have r3:=r1.same e23
   by_cases hw:HT.sIx xs.length 0 lo'=0∧HT.sIx xs.length xs.length hi'=xs.length
   ·refine .inr ⟨a,vs,rfl,h3,by rw[r1.length];exact hw,?_⟩
    simp only[slT,cut_whole hw]at q3
    exact q3 _ H3 (Same.refl H3) (Rep.tup h3 r3)
   ·refine .inl ⟨a,vs,rfl,h3,by rw[r1.length];exact hw,fun p hp=> ?_⟩
    have g:=same_new hp (.tup (cutV vs lo' hi'))
    exact q3 _ _ g (Rep.tup (SqT.of upd_same) (cut_of (r3.same g) _ _))
  |_=>exact q3.elim
end
end L3
namespace L3
open PySem PySem.Spec L2
open PyProof.Rows hiding St
section
open PySem.AutoSeq1 (wpAny_loadPart')
end
section
variable{X:Cx}
end
end L3
namespace L3
open PySem PySem.Spec L2
open PyProof.Rows hiding St
theorem _root_.L2.Room.lo{k l:Nat}{A:Around}(hr:Room l A)(h:k≤l:=by first|decide|omega):Room k A:=hr.mono h
section
variable{prog:Program}{w:World}{A:Around}{E:Value→Shared→Prop}{s:Shared}{r:Addr}{a b c:Int}{t u v:Tok}{n:Nat}
end
section
variable{X:Cx}{pos:Pos}
noncomputable def bx(f:D→D→R D)(m n:Rho→R D):Rho→R D:=fun ρ=>m ρ>>=fun d=>match d with| .str z=>n ρ>>=fun y=>f (.str z) y|_=>.bad
end
end L3
namespace PySem
open PySem.W PyProof.Rows
noncomputable def RawD(h:Heap)(a:Addr)(es:Array DictEntry)(ep:Nat):Prop:=∃o,h.get? a=some o∧o.ExactDict∧o.data=.dict es ep
section
variable{prog:Program}{w:World}{A:Around}{E:Value→Shared→Prop}{s:Shared}{d it:Addr}{es:Array DictEntry}{ep i:Nat}
theorem RawD.ty(m:RawD s.heap d es ep):s.TypeIs (.ref d) "dict":=let⟨o,a,b,_⟩:=m;⟨o,a,b.1⟩
theorem RawD.lt{h:Heap}(m:RawD h d es ep):d<h.objs.size:=let⟨_,a,_⟩:=m;Heap.lt_size a
theorem rawD_iter{Q:Value→Shared→Prop}(ns:(d == sysModules)=false)(m:RawD s.heap d es ep)
  (q:Q (.ref s.heap.objs.size) {s with heap:=s.heap.push {cls:=.type "dict_keyiterator",data:=.fields #[.ref d, .int 0 0, .int es.size 0, .int ep 0]}}):wpAny (model prog w) A (pyIter (.ref d)) Q E s:=by
 have T:=m.ty
 obtain⟨o,g,_,dt⟩:=m
 refine wpAny_pyIter_slot T F.slot_dict_iter ?_
 refine wpAny_call_entry F.slot_dict_iter T F.entry_dict_iter ?_ (F.args_dict_iter_1 _)
 unfold Builtin.«dict.__iter__»;refine wpAny_bind ?_
 unfold Builtin.Dict.dictSlotNone;refine wpAny_bind (wpAny_notOrdered_dict T ?_)
 refine(show wpAny _ _ (pure (Value.ref d)) _ _ s from wpAny_pure ?_)
 show wpAny _ _ (Builtin.Dict.showsAll d>>=_) _ _ s
 unfold Builtin.Dict.showsAll;rw[if_neg (by simp[ns])]
 refine wpAny_bind (wpAny_pure (wpAny_bind (wpAny_dictEntries g dt (wpAny_bind (wpAny_dictEpoch g dt ?_)))))
 refine wpAny_bind (wpAny_newObj_type (wpAny_pure ⟨_,rfl,"dict_keyiterator",_,⟨_,Heap.get?_push_size _ rfl,rfl⟩,F.slot_dict_keyiterator_next.lookup,?_⟩))
 simpa[rawInt]using q
theorem rawD_next{e:DictEntry}{Q:Option Value→Shared→Prop}(t:s.heap.IsKeyIter it d i es.size ep)(m:RawD s.heap d es ep)(x:es[i]? =some e)
  (q:∀h',h'.IsKeyIter it d (i+1) es.size ep→Heap.SameBut it s.heap h'→Q (some e.key) {s with heap:=h'}):wpAny (model prog w) A (pyNext (.ref it)) Q E s:=by
 have T:=t.typeIs
 obtain⟨o,g,gc,gd⟩:=t
 obtain⟨o2,g2,_,dt⟩:=m
 have own:Builtin.Dict_items.ownsTuple "dict_keyiterator"=false:=by decide
 unfold pyNext
 refine wpAny_bind (wpAny_attempt (wpAny_callSpecial?_slot (name:=Str.ofString "__next__") T F.slot_dict_keyiterator_next ?_))
 refine wpAny_call_entry F.slot_dict_keyiterator_next T F.entry_dict_keyiterator_next ?_ (F.args_dict_keyiterator_next_1 _)
 refine wpAny_bind (wpAny_pure (wpAny_bind (wpAny_bind ?_)))
 refine wpAny_bind (wpAny_typeNameOfWhole_keyiter T (wpAny_pure (wpAny_bind (wpAny_fieldsOf g gd ?_))))
 simp only[own,Bool.false_eq_true,if_false]
 show wpAny _ _ (if(Value.ref d == Value.none)=true then _ else _) _ _ s
 rw[if_neg (show¬((Value.ref d == Value.none)=true)from Bool.false_ne_true)]
 refine wpAny_bind (wpAny_pure (wpAny_bind (wpAny_dictEntries g2 dt ?_)))
 rw[if_neg (by simp)]
 refine wpAny_bind (wpAny_pure (wpAny_bind (wpAny_dictEpoch g2 dt ?_)))
 rw[if_neg (by simp)]
 refine wpAny_pure ?_
 simp only[show¬((i:Int)<0)from by omega,if_false,Int.toNat_natCast,x]
 refine wpAny_bind (wpAny_bind (wpAny_typeNameOfWhole_keyiter T (wpAny_pure (wpAny_bind (wpAny_isOneOf_keyiter T ?_)))))
 show wpAny _ _ (setField (.ref it) 1 (rawInt ((i:Int)+1))>>=_) _ _ s
 refine wpAny_bind (wpAny_setField g gd (by simp) ?_)
 have t2:(s.heap.update it (Obj.mapFields (·.setIfInBounds 1 (rawInt ((i:Int)+1))))).IsKeyIter it d (i+1) es.size ep:=by
  refine⟨_,Heap.get?_update_self _ g (Obj.isFreed_of_fields (Obj.data_mapFields gd _)),(Obj.cls_mapFields ..).trans gc,?_⟩
  rw[Obj.data_mapFields gd];simp[rawInt]
 refine wpAny_bind (wpAny_holding (wpAny_bind ?_))
 refine wpAny_isOneOf_keyiter (s:={s with heap:=s.heap.update it (Obj.mapFields (·.setIfInBounds 1 (rawInt ((i:Int)+1))))}) t2.typeIs ?_
 exact(show wpAny _ _ (pure e.key) _ _ _ from wpAny_pure (wpAny_pure ⟨_,rfl,wpAny_pure (q _ t2 (Heap.SameBut.update ..))⟩))
theorem rawD_end{Q:Option Value→Shared→Prop}(hh:A.handled=none)(t:s.heap.IsKeyIter it d i es.size ep)(m:RawD s.heap d es ep)(x:es[i]? =none)
  (q:∀h',Heap.ExtBut it s.heap h'→Q none {s with heap:=h'}):wpAny (model prog w) A (pyNext (.ref it)) Q E s:=by
 have T:=t.typeIs
 obtain⟨o,g,gc,gd⟩:=t
 obtain⟨o2,g2,_,dt⟩:=m
 have own:Builtin.Dict_items.ownsTuple "dict_keyiterator"=false:=by decide
 unfold pyNext
 refine wpAny_bind (wpAny_attempt (wpAny_callSpecial?_slot (name:=Str.ofString "__next__") T F.slot_dict_keyiterator_next ?_))
 refine wpAny_call_entry F.slot_dict_keyiterator_next T F.entry_dict_keyiterator_next ?_ (F.args_dict_keyiterator_next_1 _)
 refine wpAny_bind (wpAny_pure (wpAny_bind (wpAny_bind ?_)))
 refine wpAny_bind (wpAny_typeNameOfWhole_keyiter T (wpAny_pure (wpAny_bind (wpAny_fieldsOf g gd ?_))))
 simp only[own,Bool.false_eq_true,if_false]
 show wpAny _ _ (if(Value.ref d == Value.none)=true then _ else _) _ _ s
 rw[if_neg (show¬((Value.ref d == Value.none)=true)from Bool.false_ne_true)]
 refine wpAny_bind (wpAny_pure (wpAny_bind (wpAny_dictEntries g2 dt ?_)))
 rw[if_neg (by simp)]
 refine wpAny_bind (wpAny_pure (wpAny_bind (wpAny_dictEpoch g2 dt ?_)))
 rw[if_neg (by simp)]
 refine wpAny_pure ?_
 simp only[show¬((i:Int)<0)from by omega,if_false,Int.toNat_natCast,x]
 refine wpAny_bind (wpAny_bind (wpAny_typeNameOfWhole_keyiter T (wpAny_pure ?_)))
 show wpAny _ _ (setField (.ref it) 0 .none>>=_) _ _ s
 refine wpAny_bind (wpAny_setField g gd (by simp) ?_)
 show wpAny _ _ (newExc (.type "StopIteration") []>>=_) _ _ _
 refine wpAny_bind ?_
 simp only[newExc,newTuple]
 refine wpAny_bind (wpAny_newObj_type ?_ (by size_fits))
 refine wpAny_bind (m:=firstArgMember _ _) (wpAny_of_eq (a:=Value.none) (by first|rfl|(simp only[firstArgMember];rfl)) (wpAny_newObj_type ?_ (by size_fits)))
 simp only[raiseNew]
 refine wpAny_bind (wpAny_handled ?_)
 rw[show A.in1.handled=none from hh]
 refine wpAny_bind (wpAny_pure (wpAny_throw (wpAny_bind ?_)))
 refine wpAny_isInstance (T:="StopIteration") (b:=true) ⟨_,Heap.get?_push_size _ rfl,rfl⟩ isSubtype_stop ?_
 exact wpAny_pure (q _ (((Heap.SameBut.update ..).extBut.push _).push _))
theorem rawD_walks(hh:A.handled=none)(I:Addr)(ne:d≠I):Walks prog w A I [I,d] [I] es.size (fun i v=>∃e,es[i]? =some e∧v=e.key) (fun i h=>h.IsKeyIter I d i es.size ep∧RawD h d es ep) where
 sub:=fun b hb=>by simp at hb;simp[hb]
 frame:=fun _ _ _ st k=>⟨st.1.at fun o e=>k I (by simp) o e,let⟨o,e,r⟩:=st.2;⟨o,k d (by simp) o e,r⟩⟩
 item:=fun i s Q E hi st q=>by
  refine rawD_next st.1 st.2 (Array.getElem?_eq_getElem hi) fun h' t b=> ?_
  refine q _ h' s.toks ⟨_,Array.getElem?_eq_getElem hi,rfl⟩ ⟨t,let⟨o,e,r⟩:=st.2;⟨o,b.extBut _ _ ne e,r⟩⟩ fun c o hc e=>b.extBut c o (fun z=>hc (by simp[z])) e
 done:=fun s Q E st q=>rawD_end hh st.1 st.2 (by simp) fun h' b=>q h' s.toks fun c o hc e=>b c o (fun z=>hc (by simp[z])) e
 self:=fun _ _ _ _ st q=>wpAny_pyIter_keyiter st.1 q
theorem rawD_src(ns:(d == sysModules)=false):KdlSrc prog w "dict" d d es.size (fun i v=>∃e,es[i]? =some e∧v=e.key) (fun h=>RawD h d es ep) where
 type:=fun _ m=>m.ty
 there:=fun _ m=>⟨m.lt,m.lt⟩
 keep:=fun _ _ m k=>let⟨o,e,r⟩:=m;⟨o,k d (.inl rfl) o e,r⟩
 notList:=by decide
 notTuple:=by decide
 hint:=fun _ _ _ _ m q=>kdl_hint_dict m.ty q
 iter:=fun _ _ hh m=>⟨_,_,(fun _ _ q=>rawD_iter ns m q),rawD_walks hh _ (Nat.ne_of_lt m.lt),⟨⟨_,Heap.get?_push_size _ rfl,rfl,rfl⟩,let⟨o,e,r⟩:=m;⟨o,Heap.get?_push_of_some _ e,r⟩⟩⟩
theorem items_keys{acc:Array Value}(h:ItemsOf (fun i v=>∃e,es[i]? =some e∧v=e.key) acc es.size):acc.toList=es.toList.map (·.key):=by
 apply List.ext_getElem?
 intro j
 rw[List.getElem?_map,Array.getElem?_toList,Array.getElem?_toList]
 cases hj:acc[j]? with
 |some v=>
  obtain⟨e,h1,h2⟩:=h.2 j v hj
  rw[h1,h2];rfl
 |none=>
  have:acc.size≤j:=by simpa using hj
  rw[h.1]at this
  rw[Array.getElem?_eq_none this];rfl
end
end PySem
namespace PySem
open PySem.W PyProof.Rows
section
variable{prog:Program}{w:World}{K:Type}[DecidableEq K]{knd:HeapKind prog w K}{A:Around}{E:Value→Shared→Prop}{s:Shared}{d a:Addr}{xs:List (K×Addr×Value)}{k:K}{z:Value}
end
end PySem
namespace L3
open PySem PySem.Spec L2
open PyProof.Rows hiding St
noncomputable abbrev KVs:=List (List Int×List (List Int))
noncomputable def findK(kvs:KVs)(k:List Int):Option (List (List Int)):=(kvs.find? fun p=>decide (p.1=k)).map (·.2)
section
variable{K:PySem.W.Frag}{G:Addr→Prop}{H:Hp}
end
theorem inl_inj{k l:List Int}(h:k.map (Sum.inl:Int→Key)=l.map Sum.inl):k=l:=by
 have:=congrArg (List.map fun(x:Key)=>match x with| .inl i=>i| .inr _=>0) h
 simpa[List.map_map,Function.comp_def]using this
section
variable{X:Cx}
end
end L3
namespace L3
open PySem PySem.Spec L2
open PyProof.Rows hiding St
section
variable{K:PySem.W.Frag}{H:Hp}
theorem OwnK.no{k:List Int}:∀(kvs:KVs) {es:List (List Key×V)} {qs:List Addr},OwnK K H kvs es qs→valV es (k.map Sum.inl)=none→findK kvs k=none
 | [],es,qs,_,_=>rfl
 |(k',ts')::r,es,qs,⟨q,t,xs,es',e1,e2,_,_,h3⟩,e=>by
  subst e1 e2
  by_cases hk:k'=k
  ·subst hk
   rw[valV_pos (p:=(k'.map Sum.inl,V.ref q)) rfl]at e
   cases e
  ·rw[valV_neg (p:=(k'.map Sum.inl,V.ref q)) (fun z=>hk (inl_inj z))]at e
   unfold findK
   rw[List.find?_cons,decide_eq_false hk]
   exact OwnK.no r h3 e
end
section
variable{K:PySem.W.Frag}{G O:Addr→Prop}{τ:Tau}{σ:St}{H:Hp}
theorem StOk.dc(S:StOk K G O τ σ H){i:Nat}{kvs:KVs}(h:τ[i]? =some (some (.dc kvs))):∃p qs es,σ[i]? =some (some (.ref p))∧H p=some (.dT es)∧(p::qs).Nodup∧OwnK K H kvs es qs∧(kvs.map (·.1)).Nodup:=by
 obtain⟨F,P⟩:=S.fps
 obtain⟨v,h1,p,qs,es,rfl,ef,h2,h3⟩:=P.at_ i _ h
 have:=P.nd i
 rw[ef]at this
 exact⟨p,qs,es,h1,h2,this,h3⟩
theorem StOk.tk(S:StOk K G O τ σ H){i:Nat}{k:List Int}(h:τ[i]? =some (some (.tk k))):∃p,σ[i]? =some (some (.ref p))∧H p=some (.tup (k.map V.int)):=by
 obtain⟨F,P⟩:=S.fps
 obtain⟨v,h1,p,rfl,_,h2⟩:=P.at_ i _ h
 exact⟨p,h1,h2⟩
end
end L3
namespace L3
open PySem PySem.Spec L2
open PyProof.Rows hiding St
section
variable{X:Cx}{pos:Pos}
end
end L3
namespace L3
open PySem PySem.Spec L2
open PyProof.Rows hiding St
section
variable{X:Cx}{pos:Pos}
end
end L3
namespace L3
open PySem PySem.Spec L2
open PyProof.Rows hiding St
section
variable{K:PySem.W.Frag}{H H':Hp}
end
section
variable{K:PySem.W.Frag}{G O:Addr→Prop}{τ:Tau}{σ:St}{H:Hp}
end
section
variable{X:Cx}{pos:Pos}
end
theorem u1{n c:Nat}(h:n+64<c):n+1<c:=by omega
end L3
namespace L3
open PySem PySem.Spec L2
open PyProof.Rows hiding St
noncomputable def cnt(xs:List D)(x:D):R D:=match intsD xs,x with
 |some ns, .int k=>.ok (.int ((ns.count k:Nat):Int))
 |_,_=>.bad
noncomputable def countD:D→D→R D
 | .tup xs,x=>cnt xs x
 |_,_=>.bad
theorem countP_isInt(k:Int):∀{vs:List Value} {ns:List Int},IntsAre vs ns→vs.countP (isInt k)=ns.count k
 |_,_, .nil=>rfl
 |_,_, .cons n t (vs:=vs) (ns:=ns) h=>by
  have ih:=countP_isInt k h
  have e:isInt k (.int n t)=(n == k):=isInt_at k (.cons n t h) 0 (by simp) (by simp)
  rw[List.countP_cons,List.count_cons,ih,e]
section
variable{X:Cx}{pos:Pos}
theorem count_tup{prog:Program}{w:World}{A:Around}{E:Value→Shared→Prop}{s:Shared}{l:Addr}{vs:List Value}{ns:List Int}{k:Int}{t:Tok}{Q:Value→Shared→Prop}(hl:IsTup s.heap l vs.toArray)(hi:IntsAre vs ns)
  (h:Q (.int (ns.count k:Nat) s.toks) {s with toks:=s.toks+1}):wpAny (model prog w) A (call (.builtin "tuple.count") [.ref l, .int k t]) Q E s:=by
 obtain⟨⟨cls,dd,data,sl⟩,ho,hc,n,hd⟩:=id hl
 cases hc
 cases hd
 refine call_meets PySem.F.slot_tuple_count ⟨_,ho,rfl⟩ PySem.F.entry_tuple_count (PySem.F.args_tuple_count_2 _ _) (PySem.SeqAt.tuple_countAt l vs.toArray n dd sl (.int k t) (isInt k))
  ⟨ho,fun y hy=>(eq_isInt k t hi y (by simpa using hy)).at _ _,?_⟩
 have e:vs.toArray.toList.countP (isInt k)=ns.count k:=countP_isInt k hi
 rw[e]
 exact h
theorem d_count{k:Nat}{o e:Expr}{m n:Rho→R D}{apos cpos:Pos}(hr:Room k X.A)(ho:PD X o m)(he:PD X e n)(hbase:attributeBase o "count" X.env (eval o X.env)=eval o X.env:=by rfl)
  (hfew:((backTo cpos (starEach [e] X.env)).all (fun x=> !x.1)&&(backToKw cpos (keywordEach [] X.env)).all (fun x=>x.1.isSome)&&decide ([e].length+([]:List Keyword).length+(if([]:List Keyword).isEmpty then 0 else 1)<30))=true:=by rfl)
  (hline:(apos.endLine == cpos.line)=true:=by rfl) (hs:starEach [e] X.env=(false,eval e X.env)::starEach [] X.env:=by rfl) (hpl:(backTo cpos (starEach [] X.env)).any (·.1)=false:=by rfl):
  PD X (.Call (.Attribute o "count" apos) [e] [] cpos) (bn countD m n):=by
 intro pins s σ H Q I ⟨G,ρ,hG,hρ,q⟩
 refine wpAny_Call_method_late hbase hfew hline rfl (thn (ho pins s σ H (fun x H1=>∃d,Same H H1∧Rep X.K G H1 d x∧DQ X σ (Rep X.K G) H1 (nox (n ρ)>>=fun y=>countD d y) Q) I ⟨G,ρ,hG,hρ,(DQ.bind q).wk fun b H1 e1 ⟨d,_,_,rd,q1⟩=>⟨d,e1,rd,q1⟩⟩) fun v s1 ⟨x,H1,I1,r1,d,e1,rd,q1⟩=> ?_)
 have hA:=(a_cons he a_nil hs) cpos pins s1 σ H1 (fun xs H2=>∃y,n ρ=.ok y∧Same H1 H2∧RepL X.K G H2 [y] xs∧DQ X σ (Rep X.K G) H2 (countD d y) Q) I1 ⟨G,ρ,hG.same e1,hρ.same e1,by
  unfold cs nl
  cases hn:n ρ with
  |ex c=>rw[hn]at q1;exact q1.elim
  |bad=>rw[hn]at q1;exact q1.elim
  |ok y=>
   rw[hn]at q1
   exact fun xs H2 e2 rl=>⟨y,rfl,e2,rl,DQ.mono (r:=countD d y) q1 e2⟩⟩
 have fin:∀(ds:List D) (y:D) (H2:Hp) (s2:Shared) (us:List Value) (vs:List V),RepL X.K G H2 [y] vs→Vals vs us→DQ X σ (Rep X.K G) H2 (cnt ds y) Q→Inv X pins σ H2 s2→
   ∃ns i t,intsD ds=some ns∧us=[.int i t]∧EP X pins σ Q (.int (ns.count i:Nat) s2.toks) {s2 with toks:=s2.toks+1}:=by
  intro ds y H2 s2 us vs rl rv q2 I2
  unfold cnt at q2
  split at q2
  ·rename_i ns i en
   obtain⟨x',rfl,rx'⟩:=one_of rl
   cases rx'.int_of
   obtain⟨u,rfl,t,rfl⟩:=vals1 rv
   exact⟨ns,i,t,en,rfl, .int _,H2,I2.tok _,⟨_,rfl⟩,q2 _ H2 (Same.refl H2) Rep.int⟩
  ·exact q2.elim
 cases d with
 |tup ds=>
  obtain⟨a,xs,rfl,h1,rl⟩:=rd.tup_of
  cases r1
  obtain⟨its,rv,⟨o',eo,hc,nn,hd⟩,hz⟩:=I1.tuple h1
  refine⟨"tuple","tuple.count",PySem.F.plainAttrs_tuple,PySem.F.slot_tuple_count,PySem.F.type_tuple_count,⟨o',eo,hc⟩,fun a' e'=>by cases e';exact I1.tupleD h1,?_⟩
  rw[hs]at hA ⊢
  refine Calls.callWith_builtin (by show(false || (backTo cpos (starEach [] X.env)).any (·.1))=false;rw[hpl];rfl) (Calls.evalArgs_plain ?_)
  refine thn hA fun us s2 ⟨vs,H2,I2,r2,y,_,e2,rl2,q2⟩=> ?_
  obtain⟨ns,i,t,en,rfl,ep⟩:=fin ds y H2 s2 us vs rl2 r2 q2 I2
  obtain⟨its2,rv2,p2,_⟩:=I2.tuple (Same.seqT e2 h1)
  exact count_tup p2 (ints_data en (rl.same e2) rv2) ep
 |lst _=>cases hn:n ρ<;>rw[hn]at q1<;>exact q1.elim
 |non=>cases hn:n ρ<;>rw[hn]at q1<;>exact q1.elim
 |bl _=>cases hn:n ρ<;>rw[hn]at q1<;>exact q1.elim
 |int _=>cases hn:n ρ<;>rw[hn]at q1<;>exact q1.elim
 |str _=>cases hn:n ρ<;>rw[hn]at q1<;>exact q1.elim
 |exc _=>cases hn:n ρ<;>rw[hn]at q1<;>exact q1.elim
 |dct _=>cases hn:n ρ<;>rw[hn]at q1<;>exact q1.elim
end
end L3
namespace L3
open PySem PySem.Spec L2
open PyProof.Rows hiding St
noncomputable def spT(K:PySem.W.Frag)(F:List D→R D):Sp:=fun vs H Q _=>∃(G:Addr→Prop) (ds:List D),Free G H∧RepL K G H ds vs∧match F ds with
 | .ok d=>∀v H',Same H H'→Rep K (fun a=>H a=none) H' d v→Q v H'
 |_=>False
structure CalleeT(P:Program)(w:World)(K:PySem.W.Frag)(mg:Str→Option Value)(base:Heap)(k:Nat)(x:Str)(F:List D→R D):Prop where
 ex:∃f fd ps,FnOk P w K mg base (CXR P w) k f fd ps (spT K F)∧Binds K fd ps []∧PySem.W.keepIn K (.ref f)=true∧mg x=some (.ref f)
section
variable{X:Cx}
theorem passes0:Passes (CXR X.prog X.w) X (fun _ _ _=>False):=fun pins σ H s e s' I ⟨_,_,_,_,_,z,_⟩=>z.elim
variable{scope:Scope}{k:Nat}{js is:List Nat}{f:D→R (List D)}{mt:Rho→R Bool}{me:Rho→R D}
end
section
variable{P:Program}{w:World}{K:PySem.W.Frag}{mg:Str→Option Value}{base:Heap}
end
end L3
namespace K7
noncomputable abbrev PL:=List (Nat×Nat)
noncomputable def lk(pl:PL)(l:Nat):Option Nat:=(pl.find? fun p=>decide (p.1=l)).map (·.2)
noncomputable def put(pl:PL)(l q:Nat):PL:=if pl.any (fun p=>decide (p.1=l))then pl.map fun p=>if p.1=l then(p.1,q)else p else pl++[(l,q)]
noncomputable def keys(pl:PL):List Nat:=pl.map (·.1)
noncomputable def vals(pl:PL):List Nat:=pl.map (·.2)
theorem lk_none{pl:PL}{l:Nat}(h:l∉keys pl):lk pl l=none:=by
 unfold lk
 rw[List.find?_eq_none.mpr]
 ·rfl
 ·intro p hp e
  exact h (List.mem_map.mpr ⟨p,hp,by simpa using e⟩)
theorem lk_mem{pl:PL}{l q:Nat}(h:lk pl l=some q):(l,q)∈pl:=by
 unfold lk at h
 obtain⟨p,hp,rfl⟩:=Option.map_eq_some_iff.mp h
 have h1:=List.mem_of_find?_eq_some hp
 have h2:=List.find?_some hp
 have h3:p.1=l:=by simpa using h2
 rw[←h3]
 exact h1
theorem mem_lk:∀{pl:PL} {l q:Nat},(keys pl).Nodup→(l,q)∈pl→lk pl l=some q
 |(a,b)::r,l,q,nd,h=>by
  unfold lk
  rw[List.find?_cons]
  have nd':a∉keys r∧(keys r).Nodup:=List.nodup_cons.mp nd
  by_cases e:a=l
  ·simp only[e,decide_true]
   rcases List.mem_cons.mp h with h|h
   ·cases h;rfl
   ·exact absurd (List.mem_map.mpr ⟨(l,q),h,e.symm⟩) nd'.1
  ·simp only[e,decide_false]
   rcases List.mem_cons.mp h with h|h
   ·cases h;exact absurd rfl e
   ·exact mem_lk nd'.2 h
theorem lk_none_iff{pl:PL}{l:Nat}:lk pl l=none↔l∉keys pl:=by
 constructor
 ·intro h hm
  obtain⟨p,hp,e⟩:=List.mem_map.mp hm
  unfold lk at h
  rw[Option.map_eq_none_iff,List.find?_eq_none]at h
  exact h p hp (by simpa using e)
 ·exact lk_none
theorem put_new{pl:PL}{l q:Nat}(h:l∉keys pl):put pl l q=pl++[(l,q)]:=by
 unfold put
 rw[if_neg]
 intro z
 obtain⟨p,hp,e⟩:=List.any_eq_true.mp z
 exact h (List.mem_map.mpr ⟨p,hp,by simpa using e⟩)
theorem put_old{pl:PL}{l q:Nat}(h:l∈keys pl):put pl l q=pl.map fun p=>if p.1=l then(p.1,q)else p:=by
 unfold put
 rw[if_pos]
 obtain⟨p,hp,e⟩:=List.mem_map.mp h
 exact List.any_eq_true.mpr ⟨p,hp,by simpa using e⟩
theorem keys_put(pl:PL)(l q:Nat):keys (put pl l q)=if l∈keys pl then keys pl else keys pl++[l]:=by
 by_cases h:l∈keys pl
 ·rw[if_pos h,put_old h]
  unfold keys
  rw[List.map_map]
  refine List.map_congr_left fun p _=> ?_
  show(if p.1=l then(p.1,q)else p).1=p.1
  split<;>rfl
 ·rw[if_neg h,put_new h];simp[keys]
theorem keys_nd{pl:PL}(l q:Nat)(nd:(keys pl).Nodup):(keys (put pl l q)).Nodup:=by
 rw[keys_put]
 split
 ·exact nd
 ·rename_i h
  rw[List.nodup_append]
  exact⟨nd,by simp,fun a ha b hb=>by cases List.mem_singleton.mp hb;exact fun z=>h (z▸ha)⟩
theorem lk_put{pl:PL}(nd:(keys pl).Nodup)(l q j:Nat):lk (put pl l q) j=if j=l then some q else lk pl j:=by
 have nd2:=keys_nd l q nd
 by_cases h:l∈keys pl
 ·by_cases hj:j=l
  ·rw[if_pos hj]
   subst hj
   refine mem_lk nd2 ?_
   rw[put_old h]
   obtain⟨p,hp,e⟩:=List.mem_map.mp h
   exact List.mem_map.mpr ⟨p,hp,by rw[if_pos e,e]⟩
  ·rw[if_neg hj]
   cases e:lk pl j with
   |none=>
    refine lk_none ?_
    rw[keys_put,if_pos h]
    exact lk_none_iff.mp e
   |some v=>
    refine mem_lk nd2 ?_
    rw[put_old h]
    exact List.mem_map.mpr ⟨(j,v),lk_mem e,by rw[if_neg hj]⟩
 ·by_cases hj:j=l
  ·rw[if_pos hj]
   subst hj
   refine mem_lk nd2 ?_
   rw[put_new h];simp
  ·rw[if_neg hj]
   cases e:lk pl j with
   |none=>
    refine lk_none ?_
    rw[keys_put,if_neg h]
    intro z
    rcases List.mem_append.mp z with z|z
    ·exact lk_none_iff.mp e z
    ·exact hj (List.mem_singleton.mp z)
   |some v=>
    refine mem_lk nd2 ?_
    rw[put_new h]
    exact List.mem_append_left _ (lk_mem e)
theorem vals_put_new{pl:PL}{l q:Nat}(h:l∉keys pl):(vals (put pl l q)).Perm (q::vals pl):=by
 rw[put_new h]
 unfold vals
 rw[List.map_append]
 exact List.perm_append_comm
theorem vals_put_old:∀{pl:PL} {l q r:Nat},(keys pl).Nodup→lk pl l=some r→(r::vals (put pl l q)).Perm (q::vals pl):=by
 intro pl l q r nd e
 have hm:=lk_mem e
 have hk:l∈keys pl:=List.mem_map.mpr ⟨_,hm,rfl⟩
 rw[put_old hk]
 clear hk e
 induction pl with
 |nil=>cases hm
 |cons p t ih=>
  have nd':p.1∉keys t∧(keys t).Nodup:=List.nodup_cons.mp nd
  by_cases e:p.1=l
  ·rcases List.mem_cons.mp hm with h|h
   ·subst h
    have et:(t.map fun p=>if p.1=l then(p.1,q)else p)=t:=by
     have:∀p∈t,(if p.1=l then(p.1,q)else p)=p:=fun p hp=>by
      rw[if_neg]
      intro z
      exact nd'.1 (List.mem_map.mpr ⟨p,hp,z⟩)
     exact(List.map_congr_left this).trans (List.map_id _)
    rw[List.map_cons,et]
    show(r::(if l=l then(l,q)else(l,r)).2::vals t).Perm (q::r::vals t)
    rw[if_pos rfl]
    exact List.Perm.swap ..
   ·exact absurd (List.mem_map.mpr ⟨_,h,e.symm⟩) nd'.1
  ·rcases List.mem_cons.mp hm with h|h
   ·subst h;exact absurd rfl e
   ·have:=ih nd'.2 h
    rw[List.map_cons,if_neg e]
    show(r::p.2::vals _).Perm (q::p.2::vals t)
    exact(List.Perm.swap ..).trans ((this.cons p.2).trans (List.Perm.swap ..))
noncomputable def glL(rec:Nat→PL→List Nat→Option (Bool×PL×List Nat))(place:Nat):List Nat→PL→List Nat→Option (Bool×PL×List Nat)
 | [],pl,ak=>some (false,pl,ak)
 |l::ls,pl,ak=>if l∈ak then glL rec place ls pl ak else
   match lk pl l with
   |none=>some (true,put pl l place,ak++[l])
   |some q=>match rec q pl (ak++[l])with
    |some (true,pl',ak')=>some (true,put pl' l place,ak')
    |some (false,pl',ak')=>glL rec place ls pl' ak'
    |none=>none
noncomputable def gl(cs:List (List Nat)):Nat→Nat→PL→List Nat→Option (Bool×PL×List Nat)
 |0,_,_,_=>none
 |f+1,p,pl,ak=>match cs[p]? with
  |some ls=>glL (gl cs f) p ls pl ak
  |none=>none
structure Ask(n:Nat)(ak:List Nat):Prop where
 nd:ak.Nodup
 lt:∀l∈ak,l<n
theorem sub_len:∀{l m:List Nat},l.Nodup→(∀x∈l,x∈m)→l.length≤m.length
 | [],m,_,_=>Nat.zero_le _
 |x::t,m,nd,h=>by
  have nd':x∉t∧t.Nodup:=List.nodup_cons.mp nd
  have hx:=h x List.mem_cons_self
  have ih:=sub_len (l:=t) (m:=m.erase x) nd'.2 fun y hy=>(List.mem_erase_of_ne (fun z:y=x=>nd'.1 (z▸hy))).mpr (h y (List.mem_cons_of_mem _ hy))
  rw[List.length_erase_of_mem hx]at ih
  have:=List.length_pos_of_mem hx
  rw[List.length_cons]
  omega
theorem nd_len{n:Nat}{l:List Nat}(h:Ask n l):l.length≤n:=by
 have:=sub_len (m:=List.range n) h.nd fun x hx=>by simpa using h.lt x hx
 simpa using this
theorem Ask.snoc{n:Nat}{ak:List Nat}{l:Nat}(h:Ask n ak)(hl:l<n)(hn:l∉ak):Ask n (ak++[l]):=by
 refine⟨?_,fun x hx=> ?_⟩
 ·rw[List.nodup_append]
  exact⟨h.nd,by simp,fun a ha b hb=>by cases List.mem_singleton.mp hb;exact fun z=>hn (z▸ha)⟩
 ·rcases List.mem_append.mp hx with hx|hx
  ·exact h.lt x hx
  ·cases List.mem_singleton.mp hx;exact hl
noncomputable def Edg(cs:List (List Nat))(pl:PL):Prop:=∀l q,lk pl l=some q→∃ls,cs[q]? =some ls∧l∈ls
structure Fail(cs:List (List Nat))(pl:PL)(ls:List Nat)(ak ak':List Nat):Prop where
 all:∀l∈ls,l∈ak'
 new:∀l∈ak',l∉ak→∃q ls',lk pl l=some q∧cs[q]? =some ls'∧∀x∈ls',x∈ak'
structure Succ(cs:List (List Nat))(p:Nat)(pl pl':PL)(ak:List Nat):Prop where
 nd:(keys pl').Nodup
 edg:Edg cs pl'
 vals:(vals pl').Perm (p::vals pl)
 same:∀l∈ak,lk pl' l=lk pl l
 old:∀l∈keys pl,l∈keys pl'
noncomputable def Post(cs:List (List Nat))(n p:Nat)(ls:List Nat)(pl:PL)(ak:List Nat)(r:Option (Bool×PL×List Nat)):Prop:=
 ∃b pl' ak',r=some (b,pl',ak')∧Ask n ak'∧(∀l∈ak,l∈ak')∧(b=false→pl'=pl∧Fail cs pl ls ak ak')∧(b=true→Succ cs p pl pl' ak)
theorem gl_post{cs:List (List Nat)}{n:Nat}(hc:∀ls∈cs,∀l∈ls,l<n):∀(f p:Nat) (ls:List Nat) (pl:PL) (ak:List Nat),cs[p]? =some ls→n<f+ak.length→Ask n ak→(keys pl).Nodup→Edg cs pl→Post cs n p ls pl ak (gl cs f p pl ak)
 |0,p,ls,pl,ak,_,hf,ha,_,_=>by have:=nd_len ha;omega
 |f+1,p,ls,pl,ak,hp,hf,ha,nd,he=>by
  unfold gl
  rw[hp]
  have hls:=hc ls (List.mem_of_getElem? hp)
  have go:∀(ms:List Nat) (ak1:List Nat),(∀l∈ms,l∈ls)→Ask n ak1→(∀l∈ak,l∈ak1)→ak.length≤ak1.length→(∀l∈ls,l∈ms∨l∈ak1)→(∀l∈ak1,l∉ak→∃q ls',lk pl l=some q∧cs[q]? =some ls'∧∀x∈ls',x∈ak1)→
    Post cs n p ls pl ak (glL (gl cs f) p ms pl ak1):=by
   intro ms
   induction ms with
   |nil=>
    intro ak1 _ h1 h2 _ h3 h4
    exact⟨false,pl,ak1,rfl,h1,h2,fun _=>⟨rfl,⟨fun l hl=>(h3 l hl).elim (fun z=>by cases z) id,h4⟩⟩,fun z=>by cases z⟩
   |cons l ms ih=>
    intro ak1 hm h1 h2 hlen h3 h4
    unfold glL
    by_cases hin:l∈ak1
    ·rw[if_pos hin]
     refine ih ak1 (fun x hx=>hm x (List.mem_cons_of_mem _ hx)) h1 h2 hlen (fun x hx=> ?_) h4
     rcases h3 x hx with z|z
     ·rcases List.mem_cons.mp z with rfl|z
      ·exact .inr hin
      ·exact .inl z
     ·exact .inr z
    ·rw[if_neg hin]
     have hl:=hm l List.mem_cons_self
     have ha2:=h1.snoc (hls l hl) hin
     have hla:l∉ak:=fun z=>hin (h2 l z)
     cases e:lk pl l with
     |none=>
      have hk:=lk_none_iff.mp e
      refine⟨true,_,_,rfl,ha2,fun x hx=>List.mem_append_left _ (h2 x hx),fun z=>by(cases z),fun _=>⟨keys_nd l p nd,fun j q hj=> ?_,vals_put_new hk,fun x hx=> ?_,fun x hx=> ?_⟩⟩
      ·rw[lk_put nd]at hj
       split at hj
       ·rename_i ej;cases hj;rw[ej];exact⟨ls,hp,hl⟩
       ·exact he j q hj
      ·rw[lk_put nd,if_neg (fun z:x=l=>hla (z▸hx))]
      ·rw[keys_put,if_neg hk];exact List.mem_append_left _ hx
     |some q=>
      dsimp only
      obtain⟨ls',hq,_⟩:=he l q e
      obtain⟨b,pl',ak',er,p1,p2,p3,p4⟩:=gl_post hc f q ls' pl (ak1++[l]) hq (by rw[List.length_append,List.length_singleton];omega) ha2 nd he
      rw[er]
      have hl2:l∈ak':=p2 l (by simp)
      have h12:∀x∈ak1,x∈ak':=fun x hx=>p2 x (List.mem_append_left _ hx)
      cases b with
      |true=>
       have S:=p4 rfl
       have el:lk pl' l=some q:=by rw[S.same l (by simp)];exact e
       refine⟨true,_,_,rfl,p1,fun x hx=>h12 x (h2 x hx),fun z=>by(cases z),fun _=>⟨keys_nd l p S.nd,fun j r hj=> ?_,?_,fun x hx=> ?_,fun x hx=> ?_⟩⟩
       ·rw[lk_put S.nd]at hj
        split at hj
        ·rename_i ej;cases hj;rw[ej];exact⟨ls,hp,hl⟩
        ·exact S.edg j r hj
       ·have v1:=vals_put_old (q:=p) S.nd el
        have v2:=v1.trans (S.vals.cons p)
        have v3:(q::vals (put pl' l p)).Perm (q::p::vals pl):=v2.trans (List.Perm.swap ..)
        exact List.Perm.cons_inv v3
       ·rw[lk_put S.nd,if_neg (fun z:x=l=>hla (z▸hx))]
        exact S.same x (List.mem_append_left _ (h2 x hx))
       ·rw[keys_put]
        split
        ·exact S.old x hx
        ·exact List.mem_append_left _ (S.old x hx)
      |false=>
       obtain⟨rfl,F⟩:=p3 rfl
       dsimp only
       have hlen2:ak1.length≤ak'.length:=by
        exact sub_len h1.nd h12
       refine ih ak' (fun x hx=>hm x (List.mem_cons_of_mem _ hx)) p1 (fun x hx=>h12 x (h2 x hx)) (by omega) (fun x hx=> ?_) (fun x hx hxa=> ?_)
       ·rcases h3 x hx with z|z
        ·rcases List.mem_cons.mp z with rfl|z
         ·exact .inr hl2
         ·exact .inl z
        ·exact .inr (h12 x z)
       ·by_cases hx1:x∈ak1
        ·obtain⟨q',ls2,a1,a2,a3⟩:=h4 x hx1 hxa
         exact⟨q',ls2,a1,a2,fun y hy=>h12 y (a3 y hy)⟩
        ·by_cases hxl:x=l
         ·subst hxl
          exact⟨q,ls',e,hq,F.all⟩
         ·exact F.new x hx fun z=>by
           rcases List.mem_append.mp z with z|z
           ·exact hx1 z
           ·exact hxl (List.mem_singleton.mp z)
  exact go ls ak (fun _ h=>h) ha (fun _ h=>h) (Nat.le_refl _) (fun _ h=>.inl h) fun l h1 h2=>absurd h1 h2
end K7
namespace K7
noncomputable def unlF(cs:List (List Nat))(F:Nat):List Nat→PL→Option PL
 | [],pl=>some pl
 |p::ps,pl=>match gl cs F p pl []with
  |some (_,pl',_)=>unlF cs F ps pl'
  |none=>none
noncomputable def Hall(cs:List (List Nat)):Prop:=∀S N:List Nat,S.Nodup→(∀i∈S,i<cs.length)→N.Nodup→(∀i∈S,∀ls,cs[i]? =some ls→∀l∈ls,l∈N)→S.length≤N.length
structure Mat(cs:List (List Nat))(k:Nat)(pl:PL):Prop where
 nd:(keys pl).Nodup
 edg:Edg cs pl
 vals:(vals pl).Perm (List.range k)
theorem unl_ok{cs:List (List Nat)}{n F:Nat}(hc:∀ls∈cs,∀l∈ls,l<n)(hH:Hall cs)(hF:n<F):∀(j k:Nat) (pl:PL),k+j=cs.length→Mat cs k pl→∃pl',unlF cs F (List.range' k j) pl=some pl'∧Mat cs cs.length pl'
 |0,k,pl,e,M=>⟨pl,rfl,by rw[show cs.length=k by omega];exact M⟩
 |j+1,k,pl,e,M=>by
  rw[List.range'_succ]
  unfold unlF
  have hk:k<cs.length:=by omega
  obtain⟨b,pl',ak',er,p1,p2,p3,p4⟩:=gl_post hc F k cs[k] pl [] (List.getElem?_eq_getElem hk) (by simpa using hF) ⟨List.nodup_nil,fun l h=>by cases h⟩ M.nd M.edg
  rw[er]
  dsimp only
  cases b with
  |true=>
   have S:=p4 rfl
   refine unl_ok hc hH hF j (k+1) pl' (by omega) ⟨S.nd,S.edg,?_⟩
   rw[List.range_succ]
   exact S.vals.trans ((M.vals.cons k).trans (List.perm_append_comm (l₁:=[k])))
  |false=>
   exfalso
   obtain⟨_,Fl⟩:=p3 rfl
   have hq:∀l,l∈ak'→∃q ls',lk pl l=some q∧cs[q]? =some ls'∧∀x∈ls',x∈ak':=fun l hl=>Fl.new l hl (by simp)
   have vnd:(vals pl).Nodup:=M.vals.nodup_iff.mpr List.nodup_range
   let g:Nat→Nat:=fun l=>(lk pl l).getD 0
   have gl1:∀l∈ak',lk pl l=some (g l):=fun l hl=>by
    obtain⟨q,_,a,_⟩:=hq l hl
    show lk pl l=some ((lk pl l).getD 0)
    rw[a];rfl
   have glt:∀l∈ak',g l<k:=fun l hl=>by
    have hv:g l∈vals pl:=List.mem_map.mpr ⟨_,lk_mem (gl1 l hl),rfl⟩
    simpa using M.vals.mem_iff.mp hv
   have ginj:∀l∈ak',∀l'∈ak',g l=g l'→l=l':=fun l hl l' hl' e=>by
    have h1:=lk_mem (gl1 l hl)
    have h2:=lk_mem (gl1 l' hl')
    rw[←e]at h2
    have:∀{t:PL},(vals t).Nodup→(l,g l)∈t→(l',g l)∈t→l=l':=by
     intro t
     induction t with
     |nil=>intro _ h;cases h
     |cons p r ih=>
      intro nd a b
      have nd':p.2∉vals r∧(vals r).Nodup:=List.nodup_cons.mp nd
      rcases List.mem_cons.mp a with a|a<;>rcases List.mem_cons.mp b with b|b
      ·rw[←b]at a;exact(Prod.mk.inj a).1
      ·have:p.2∈vals r:=by rw[←a];exact List.mem_map.mpr ⟨_,b,rfl⟩
       exact absurd this nd'.1
      ·have:p.2∈vals r:=by rw[←b];exact List.mem_map.mpr ⟨_,a,rfl⟩
       exact absurd this nd'.1
      ·exact ih nd'.2 a b
    exact this vnd h1 h2
   have nd2:(k::ak'.map g).Nodup:=by
    rw[List.nodup_cons]
    refine⟨fun z=> ?_,?_⟩
    ·obtain⟨l,hl,e⟩:=List.mem_map.mp z
     have:=glt l hl
     omega
    ·unfold List.Nodup
     rw[List.pairwise_map]
     refine(List.Pairwise.and_mem.mp p1.nd).imp ?_
     rintro a b ⟨ha,hb,ne⟩ e
     exact ne (ginj a ha b hb e)
   have:=hH (k::ak'.map g) ak' nd2 (fun i hi=>by
    rcases List.mem_cons.mp hi with rfl|hi
    ·exact hk
    ·obtain⟨l,hl,rfl⟩:=List.mem_map.mp hi
     have:=glt l hl
     omega) p1.nd (fun i hi ls hls l hl=>by
    rcases List.mem_cons.mp hi with rfl|hi
    ·rw[List.getElem?_eq_getElem hk]at hls
     cases hls
     exact Fl.all l hl
    ·obtain⟨l0,hl0,rfl⟩:=List.mem_map.mp hi
     obtain⟨q,ls',a,b,c⟩:=hq l0 hl0
     rw[gl1 l0 hl0]at a
     cases a
     rw[b]at hls
     cases hls
     exact c l hl)
   rw[List.length_cons,List.length_map]at this
   omega
noncomputable def sumN(l:List Nat)(f:Nat→Nat):Nat:=(l.map f).sum
theorem sumN_cons(x:Nat)(l:List Nat)(f:Nat→Nat):sumN (x::l) f=f x+sumN l f:=by simp[sumN]
theorem sumN_le{l:List Nat}{f g:Nat→Nat}(h:∀i∈l,f i≤g i):sumN l f≤sumN l g:=by
 unfold sumN
 induction l with
 |nil=>exact Nat.le_refl _
 |cons x l ih=>
  have a:=h x List.mem_cons_self
  have b:=ih fun i hi=>h i (List.mem_cons_of_mem _ hi)
  simp only[List.map_cons,List.sum_cons]
  omega
theorem sumN_eq{l:List Nat}{f g:Nat→Nat}(h:∀i∈l,f i=g i):sumN l f=sumN l g:=by
 unfold sumN
 rw[List.map_congr_left h]
theorem sumN_add(l:List Nat)(f g:Nat→Nat):sumN l (fun i=>f i+g i)=sumN l f+sumN l g:=by
 unfold sumN
 induction l with
 |nil=>rfl
 |cons x l ih=>simp only[List.map_cons,List.sum_cons,ih];omega
theorem sumN_zero(l:List Nat):sumN l (fun _=>0)=0:=by
 unfold sumN
 induction l with
 |nil=>rfl
 |cons x l ih=>simp only[List.map_cons,List.sum_cons,ih]
theorem sumN_const(l:List Nat)(c:Nat):sumN l (fun _=>c)=l.length * c:=by
 unfold sumN
 induction l with
 |nil=>simp
 |cons x l ih=>simp only[List.map_cons,List.sum_cons,ih,List.length_cons,Nat.succ_mul];omega
theorem sumN_swap(l m:List Nat)(f:Nat→Nat→Nat):sumN l (fun i=>sumN m (f i))=sumN m fun j=>sumN l fun i=>f i j:=by
 induction l with
 |nil=>show 0=sumN m fun _=>0;rw[sumN_zero]
 |cons x l ih=>
  rw[sumN_cons,ih,←sumN_add]
  exact sumN_eq fun j _=>(sumN_cons x l fun i=>f i j).symm
theorem sumN_perm{l m:List Nat}(p:l.Perm m)(f:Nat→Nat):sumN l f=sumN m f:=(p.map f).sum_nat
theorem sumN_sub:∀{l m:List Nat} {f:Nat→Nat},l.Nodup→(∀x∈l,x∈m)→sumN l f≤sumN m f
 | [],m,f,_,_=>Nat.zero_le _
 |x::t,m,f,nd,h=>by
  have nd':x∉t∧t.Nodup:=List.nodup_cons.mp nd
  have hx:=h x List.mem_cons_self
  have ih:=sumN_sub (l:=t) (m:=m.erase x) (f:=f) nd'.2 fun y hy=>(List.mem_erase_of_ne (fun z:y=x=>nd'.1 (z▸hy))).mpr (h y (List.mem_cons_of_mem _ hy))
  have p:=sumN_perm (List.perm_cons_erase hx) f
  rw[p,sumN_cons,sumN_cons]
  omega
theorem hall_of{cs:List (List Nat)}{n R:Nat}(W:Nat→Nat→Nat)(hR:0<R)(hl:∀ls∈cs,∀l∈ls,l<n)(row:∀i,i<cs.length→sumN (List.range n) (W i)=R)(col:∀l,l<n→sumN (List.range cs.length) (fun i=>W i l)≤R)
  (sup:∀i ls l,cs[i]? =some ls→l<n→l∉ls→W i l=0):Hall cs:=by
 intro S N nd hS nN hN
 have N':∀i∈S,sumN (List.range n) (W i)≤sumN (N.filter (· <n)) (W i):=fun i hi=>by
  obtain⟨ls,hls⟩:∃ls,cs[i]? =some ls:=⟨_,List.getElem?_eq_getElem (hS i hi)⟩
  have e:sumN (List.range n) (W i)=sumN ((List.range n).filter fun l=>decide (l∈ls)) (W i):=by
   have:∀L:List Nat,(∀l∈L,l<n)→sumN L (W i)=sumN (L.filter fun l=>decide (l∈ls)) (W i):=by
    intro L
    induction L with
    |nil=>intro _;rfl
    |cons x L ih=>
     intro hL
     have ih:=ih fun l h=>hL l (List.mem_cons_of_mem _ h)
     rw[List.filter_cons]
     by_cases hx:x∈ls
     ·rw[if_pos (by simpa using hx)]
      rw[sumN_cons,sumN_cons,ih]
     ·rw[if_neg (by simpa using hx)]
      rw[sumN_cons,sup i _ x hls (hL x List.mem_cons_self) hx,ih,Nat.zero_add]
   exact this _ fun l hl=>by simpa using hl
  rw[e]
  refine sumN_sub (List.Pairwise.filter _ (List.nodup_range (n:=n))) fun x hx=> ?_
  obtain⟨h1,h2⟩:=List.mem_filter.mp hx
  refine List.mem_filter.mpr ⟨hN i hi _ hls x (by simpa using h2),by simpa using h1⟩
 have a:sumN S (fun _=>R)≤sumN S fun i=>sumN (N.filter (· <n)) (W i):=sumN_le fun i hi=>by rw[←row i (hS i hi)];exact N' i hi
 rw[sumN_const,sumN_swap]at a
 have b:sumN (N.filter (· <n)) (fun j=>sumN S fun i=>W i j)≤sumN (N.filter (· <n)) fun _=>R:=sumN_le fun j hj=>by
  refine Nat.le_trans (sumN_sub (m:=List.range cs.length) nd fun x hx=>by simpa using hS x hx) (col j ?_)
  simpa using(List.mem_filter.mp hj).2
 rw[sumN_const]at b
 have c:(N.filter (· <n)).length≤N.length:=List.length_filter_le _ _
 have d:S.length * R≤N.length * R:=Nat.le_trans a (Nat.le_trans b (Nat.mul_le_mul_right R c))
 exact Nat.le_of_mul_le_mul_right d hR
end K7
namespace K7
theorem sumN_mul(a:Nat)(l:List Nat)(f:Nat→Nat):sumN l (fun i=>a * f i)=a * sumN l f:=by
 induction l with
 |nil=>simp[sumN]
 |cons x l ih=>rw[sumN_cons,sumN_cons,ih,Nat.mul_add]
theorem sumN_app(l m:List Nat)(f:Nat→Nat):sumN (l++m) f=sumN l f+sumN m f:=by simp[sumN]
noncomputable def ind(p:Bool):Nat:=if p then 1 else 0
theorem ind_sum(p:Nat→Bool)(l:List Nat):sumN l (fun x=>ind (p x))=(l.filter p).length:=by
 induction l with
 |nil=>rfl
 |cons x l ih=>
  rw[sumN_cons,ih,List.filter_cons]
  cases p x with
  |true=>simp[ind];omega
  |false=>simp[ind]
theorem ind_not(p:Bool):ind (!p)+ind p=1:=by cases p<;>rfl
theorem in_len{n:Nat}{L:List Nat}(nd:L.Nodup)(lt:∀x∈L,x<n):sumN (List.range n) (fun l=>ind (decide (l∈L)))=L.length:=by
 rw[ind_sum]
 refine Nat.le_antisymm (sub_len (List.Pairwise.filter _ (List.nodup_range (n:=n))) fun x hx=>by simpa using(List.mem_filter.mp hx).2) (sub_len nd fun x hx=> ?_)
 exact List.mem_filter.mpr ⟨by simpa using lt x hx,by simpa using hx⟩
noncomputable def row(b:Nat→Nat→Nat)(c i:Nat):List Nat:=(List.range c).map (b i)
structure Blk(n r c:Nat)(b:Nat→Nat→Nat):Prop where
 lt:∀i j,i<r→j<c→b i j<n
 row:∀i j k,i<r→j<c→k<c→b i j=b i k→j=k
 col:∀i k j,i<r→k<r→j<c→b i j=b k j→i=k
noncomputable def tms(b:Nat→Nat→Nat)(r c l:Nat):Nat:=sumN (List.range r) fun i=>ind (decide (l∈row b c i))
noncomputable def NoS(n r c:Nat)(b:Nat→Nat→Nat):Prop:=∀l,l<n→r+c≤tms b r c l+n
noncomputable def nin(n:Nat)(b:Nat→Nat→Nat)(c i:Nat):List Nat:=(List.range n).filter fun l=> !decide (l∈row b c i)
noncomputable def plenty(n:Nat)(b:Nat→Nat→Nat)(r c:Nat):List Nat:=(List.range n).filter fun l=>decide (r+c<tms b r c l+n)
noncomputable def cho(n r c:Nat)(b:Nat→Nat→Nat):List (List Nat):=(List.range r).map (nin n b c)++List.replicate (n - r) (plenty n b r c)
section
variable{n r c:Nat}{b:Nat→Nat→Nat}
theorem row_nd(B:Blk n r c b){i:Nat}(hi:i<r):(row b c i).Nodup:=by
 unfold row List.Nodup
 rw[List.pairwise_map]
 refine(List.Pairwise.and_mem.mp (List.nodup_range (n:=c))).imp ?_
 rintro x y ⟨hx,hy,ne⟩ e
 exact ne (B.row i x y hi (by simpa using hx) (by simpa using hy) e)
theorem row_lt(B:Blk n r c b){i:Nat}(hi:i<r):∀x∈row b c i,x<n:=fun x hx=>by
 obtain⟨j,hj,rfl⟩:=List.mem_map.mp hx
 exact B.lt i j hi (by simpa using hj)
theorem row_sum(B:Blk n r c b){i:Nat}(hi:i<r):sumN (List.range n) (fun l=>ind (decide (l∈row b c i)))=c:=by
 rw[in_len (row_nd B hi) (row_lt B hi)];simp[row]
theorem row_le(B:Blk n r c b)(hr:0<r):c≤n:=by
 have a:=in_len (row_nd B hr) (row_lt B hr)
 have b':=sub_len (row_nd B hr) (m:=List.range n) fun x hx=>by simpa using row_lt B hr x hx
 simpa[row]using b'
theorem tms_sum(B:Blk n r c b):sumN (List.range n) (tms b r c)=r * c:=by
 show sumN (List.range n) (fun l=>sumN (List.range r) fun i=>ind (decide (l∈row b c i)))=r * c
 rw[sumN_swap (List.range n) (List.range r) fun l i=>ind (decide (l∈row b c i))]
 rw[sumN_eq (g:=fun _=>c) fun i hi=>row_sum B (by simpa using hi),sumN_const]
 simp
theorem not_sum(l:Nat):sumN (List.range r) (fun i=>ind (!decide (l∈row b c i)))+tms b r c l=r:=by
 unfold tms
 rw[←sumN_add,sumN_eq (g:=fun _=>1) fun i _=>ind_not _,sumN_const]
 simp
theorem nin_sum(B:Blk n r c b){i:Nat}(hi:i<r):sumN (List.range n) (fun l=>ind (!decide (l∈row b c i)))+c=n:=by
 have a:=row_sum B hi
 have e:sumN (List.range n) (fun l=>ind (!decide (l∈row b c i)))+sumN (List.range n) (fun l=>ind (decide (l∈row b c i)))=n:=by
  rw[←sumN_add,sumN_eq (g:=fun _=>1) fun i _=>ind_not _,sumN_const]
  simp
 rw[a]at e
 exact e
theorem cho_len(h:r≤n):(cho n r c b).length=n:=by simp[cho];omega
theorem cho_lo{i:Nat}(h:i<r):(cho n r c b)[i]? =some (nin n b c i):=by
 unfold cho
 rw[List.getElem?_append_left (by simpa using h),List.getElem?_map,List.getElem?_range h]
 rfl
theorem cho_hi{i:Nat}(h:r≤i)(hn:i<n):(cho n r c b)[i]? =some (plenty n b r c):=by
 unfold cho
 rw[List.getElem?_append_right (by simpa using h),List.getElem?_replicate]
 rw[if_pos (by simp;omega)]
theorem cho_lt:∀ls∈cho n r c b,∀l∈ls,l<n:=fun ls hls l hl=>by
 unfold cho at hls
 rcases List.mem_append.mp hls with h|h
 ·obtain⟨i,_,rfl⟩:=List.mem_map.mp h
  simpa using(List.mem_filter.mp hl).1
 ·rw[(List.mem_replicate.mp h).2]at hl
  simpa using(List.mem_filter.mp hl).1
noncomputable def wgt(n r c:Nat)(b:Nat→Nat→Nat)(i l:Nat):Nat:=if i<r then(if r=n then 1 else n - r) * ind (!decide (l∈row b c i))else(n - c)+tms b r c l - r
theorem range_split(h:r≤n)(f:Nat→Nat):sumN (List.range n) f=sumN (List.range r) f+sumN (List.range' r (n - r)) f:=by
 have e:List.range n=List.range r++List.range' r (n - r):=by
  have q:=List.range'_append (s:=0) (m:=r) (n:=n - r) (step:=1)
  rw[Nat.zero_add,Nat.one_mul,show r+(n - r)=n by omega]at q
  rw[List.range_eq_range',List.range_eq_range',←q]
 rw[e,sumN_app]
theorem cho_hall(B:Blk n r c b)(S:NoS n r c b)(hr:0<r)(hrn:r≤n)(hc:c<n):Hall (cho n r c b):=by
 refine hall_of (n:=n) (R:=(if r=n then 1 else n - r) * (n - c)) (wgt n r c b) ?_ cho_lt (fun i hi=> ?_) (fun l hl=> ?_) (fun i ls l e hl hn=> ?_)
 ·split
  ·omega
  ·exact Nat.mul_pos (by omega) (by omega)
 ·rw[cho_len hrn]at hi
  by_cases hir:i<r
  ·rw[sumN_eq (g:=fun l=>(if r=n then 1 else n - r) * ind (!decide (l∈row b c i))) fun l _=>by unfold wgt;rw[if_pos hir],sumN_mul]
   have:=nin_sum B hir
   congr 1
   omega
  ·have hne:¬r=n:=by omega
   rw[if_neg hne,sumN_eq (g:=fun l=>(n - c)+tms b r c l - r) fun l _=>by unfold wgt;rw[if_neg hir]]
   have e:sumN (List.range n) (fun l=>(n - c)+tms b r c l - r)+n * r=n * (n - c)+r * c:=by
    have a:sumN (List.range n) (fun l=>((n - c)+tms b r c l - r)+r)=sumN (List.range n) fun l=>(n - c)+tms b r c l:=sumN_eq fun l hl=>by
     have:=S l (by simpa using hl)
     omega
    rw[sumN_add,sumN_add,sumN_const,sumN_const,tms_sum B]at a
    simpa using a
   have hk:n * (n - c)+r * c=(n - r) * (n - c)+n * r:=by
    obtain⟨k,rfl⟩:∃k,n=c+k:=⟨n - c,by omega⟩
    obtain⟨m,hm⟩:∃m,c+k=r+m:=⟨c+k - r,by omega⟩
    rw[show c+k - c=k by omega,show c+k - r=m by omega]
    have q1:(c+k) * k=r * k+m * k:=by rw[hm,Nat.add_mul]
    have q2:(c+k) * r=r * c+r * k:=by rw[Nat.mul_comm (c+k) r,Nat.mul_add]
    omega
   omega
 ·rw[cho_len hrn,range_split hrn]
  have e1:sumN (List.range r) (fun i=>wgt n r c b i l)=(if r=n then 1 else n - r) * sumN (List.range r) fun i=>ind (!decide (l∈row b c i)):=by
   rw[←sumN_mul]
   exact sumN_eq fun i hi=>by unfold wgt;rw[if_pos (by simpa using hi)]
  have e2:sumN (List.range' r (n - r)) (fun i=>wgt n r c b i l)=(n - r) * ((n - c)+tms b r c l - r):=by
   rw[sumN_eq (g:=fun _=>(n - c)+tms b r c l - r) fun i hi=>by
    unfold wgt
    have:=(List.mem_range'_1.mp hi).1
    rw[if_neg (by omega)],sumN_const,List.length_range']
  rw[e1,e2]
  have ns:=not_sum (b:=b) (r:=r) (c:=c) l
  have sl:=S l hl
  by_cases hne:r=n
  ·rw[if_pos hne,show n - r=0 by omega,Nat.zero_mul,Nat.one_mul,Nat.one_mul]
   omega
  ·rw[if_neg hne,←Nat.mul_add]
   exact Nat.mul_le_mul_left _ (by omega)
 ·by_cases hir:i<r
  ·rw[cho_lo hir]at e
   cases e
   unfold wgt
   rw[if_pos hir]
   have:l∈row b c i:=by
    apply Classical.byContradiction
    intro z
    exact hn (List.mem_filter.mpr ⟨by simpa using hl,by simpa using z⟩)
   simp[ind,this]
  ·have hin:i<n:=by
    have:=(List.getElem?_eq_some_iff.mp e).1
    rw[cho_len hrn]at this
    exact this
   rw[cho_hi (by omega) hin]at e
   cases e
   unfold wgt
   rw[if_neg hir]
   have:¬r+c<tms b r c l+n:=fun z=>hn (List.mem_filter.mpr ⟨by simpa using hl,by simpa using z⟩)
   have:=row_le B hr
   omega
end
end K7
namespace K7
theorem val_inj:∀{t:PL} {l l' q:Nat},(vals t).Nodup→(l,q)∈t→(l',q)∈t→l=l'
 |p::r,l,l',q,nd,a,b=>by
  have nd':p.2∉vals r∧(vals r).Nodup:=List.nodup_cons.mp nd
  rcases List.mem_cons.mp a with a|a<;>rcases List.mem_cons.mp b with b|b
  ·rw[←b]at a;exact(Prod.mk.inj a).1
  ·have:p.2∈vals r:=by rw[←a];exact List.mem_map.mpr ⟨_,b,rfl⟩
   exact absurd this nd'.1
  ·have:p.2∈vals r:=by rw[←b];exact List.mem_map.mpr ⟨_,a,rfl⟩
   exact absurd this nd'.1
  ·exact val_inj nd'.2 a b
noncomputable def ext(b:Nat→Nat→Nat)(c:Nat)(f:Nat→Nat)(i j:Nat):Nat:=if j=c then f i else b i j
section
variable{n r c:Nat}{b:Nat→Nat→Nat}{pl:PL}
theorem row_ext(f:Nat→Nat)(i:Nat):row (ext b c f) (c+1) i=row b c i++[f i]:=by
 unfold row
 rw[List.range_succ,List.map_append]
 congr 1
 ·refine List.map_congr_left fun j hj=> ?_
  have:j<c:=by simpa using hj
  unfold ext
  rw[if_neg (by omega)]
 ·simp[ext]
theorem mat_step(B:Blk n r c b)(S:NoS n r c b)(hr:0<r)(hrn:r≤n)(hc:c<n)(M:Mat (cho n r c b) n pl):
  ∃f:Nat→Nat,(∀i,i<n→lk pl (f i)=some i)∧Blk n r (c+1) (ext b c f)∧NoS n r (c+1) (ext b c f):=by
 have vnd:(vals pl).Nodup:=M.vals.nodup_iff.mpr List.nodup_range
 have ex:∀i,i<n→∃l,lk pl l=some i:=fun i hi=>by
  have:i∈vals pl:=M.vals.mem_iff.mpr (by simpa using hi)
  obtain⟨p,hp,e⟩:=List.mem_map.mp this
  exact⟨p.1,mem_lk M.nd (by rw[←e];exact hp)⟩
 let f:Nat→Nat:=fun i=>if h:i<n then(ex i h).choose else 0
 have hf:∀i,i<n→lk pl (f i)=some i:=fun i hi=>by
  show lk pl (if h:i<n then(ex i h).choose else 0)=some i
  rw[dif_pos hi]
  exact(ex i hi).choose_spec
 have flt:∀i,i<n→f i<n:=fun i hi=>by
  obtain⟨ls,h1,h2⟩:=M.edg _ _ (hf i hi)
  exact cho_lt ls (List.mem_of_getElem? h1) _ h2
 have finj:∀i j,i<n→j<n→f i=f j→i=j:=fun i j hi hj e=>by
  have a:=hf i hi
  rw[e,hf j hj]at a
  exact(Option.some.inj a).symm
 have fnot:∀i,i<r→f i∉row b c i:=fun i hi=>by
  obtain⟨ls,h1,h2⟩:=M.edg _ _ (hf i (by omega))
  rw[cho_lo hi]at h1
  cases h1
  have:=(List.mem_filter.mp h2).2
  simpa using this
 refine⟨f,hf,⟨fun i j hi hj=> ?_,fun i j k hi hj hk e=> ?_,fun i k j hi hk hj e=> ?_⟩,fun l hl=> ?_⟩
 ·unfold ext
  split
  ·exact flt i (by omega)
  ·exact B.lt i j hi (by omega)
 ·have mem:∀x,x<c→b i x∈row b c i:=fun x hx=>List.mem_map.mpr ⟨x,by simpa using hx,rfl⟩
  unfold ext at e
  split at e<;>split at e
  ·omega
  ·exact absurd (by rw[e];exact mem k (by omega)) (fnot i hi)
  ·exact absurd (by rw[←e];exact mem j (by omega)) (fnot i hi)
  ·exact B.row i j k hi (by omega) (by omega) e
 ·unfold ext at e
  split at e
  ·exact finj i k (by omega) (by omega) e
  ·exact B.col i k j hi hk (by omega) e
 ·have et:tms (ext b c f) r (c+1) l=tms b r c l+sumN (List.range r) fun i=>ind (decide (l=f i)):=by
   unfold tms
   rw[←sumN_add]
   refine sumN_eq fun i hi=> ?_
   have hi:i<r:=by simpa using hi
   rw[row_ext]
   by_cases h1:l∈row b c i
   ·have h2:l≠f i:=fun z=>fnot i hi (z▸h1)
    simp[ind,h1,h2]
   ·by_cases h2:l=f i
    ·simp[ind,h1,h2]
     intro z
     exact absurd z (fnot i hi)
    ·simp[ind,h1,h2]
  have sl:=S l hl
  by_cases tight:r+c<tms b r c l+n
  ·omega
  ·have hk:l∈keys pl:=by
    apply Classical.byContradiction
    intro z
    have a:=sub_len (l:=l::keys pl) (m:=List.range n) (List.nodup_cons.mpr ⟨z,M.nd⟩) fun x hx=>by
     rcases List.mem_cons.mp hx with rfl|hx
     ·simpa using hl
     ·obtain⟨p,hp,rfl⟩:=List.mem_map.mp hx
      obtain⟨ls,h1,h2⟩:=M.edg p.1 p.2 (mem_lk M.nd hp)
      simpa using cho_lt ls (List.mem_of_getElem? h1) _ h2
    have e1:(keys pl).length=n:=by
     have:(vals pl).length=n:=by rw[M.vals.length_eq];simp
     simpa[keys,vals]using this
    rw[List.length_cons,e1,List.length_range]at a
    omega
   obtain⟨p,hp,rfl⟩:=List.mem_map.mp hk
   have e:=mem_lk M.nd (l:=p.1) (q:=p.2) hp
   obtain⟨ls,h1,h2⟩:=M.edg _ _ e
   have hq:p.2<n:=by
    have:=(List.getElem?_eq_some_iff.mp h1).1
    rw[cho_len hrn]at this
    exact this
   by_cases hqr:p.2<r
   ·have ef:f p.2=p.1:=val_inj vnd (lk_mem (hf p.2 hq)) hp
    have:1≤sumN (List.range r) fun i=>ind (decide (p.1=f i)):=by
     have a:=sumN_sub (l:=[p.2]) (m:=List.range r) (f:=fun i=>ind (decide (p.1=f i))) (by simp) fun x hx=>by cases List.mem_singleton.mp hx;simpa using hqr
     have b1:sumN [p.2] (fun i=>ind (decide (p.1=f i)))=1:=by simp[sumN,ind,ef]
     omega
    omega
   ·rw[cho_hi (by omega) hq]at h1
    cases h1
    have:=(List.mem_filter.mp h2).2
    exact absurd (by simpa using this) tight
end
end K7
namespace K7
structure Sm(n:Nat)(pl:PL):Prop where
 nd:(keys pl).Nodup
 lt:∀l∈keys pl,l<n
theorem Sm.len{n:Nat}{pl:PL}(h:Sm n pl):pl.length≤n:=by
 have:=nd_len (n:=n) (l:=keys pl) ⟨h.nd,h.lt⟩
 simpa[keys]using this
theorem Sm.put{n:Nat}{pl:PL}{l q:Nat}(h:Sm n pl)(hl:l<n):Sm n (put pl l q):=by
 refine⟨keys_nd l q h.nd,fun x hx=> ?_⟩
 rw[keys_put]at hx
 split at hx
 ·exact h.lt x hx
 ·rcases List.mem_append.mp hx with z|z
  ·exact h.lt x z
  ·cases List.mem_singleton.mp z;exact hl
theorem Sm.nil(n:Nat):Sm n []:=⟨List.nodup_nil,fun l h=>by cases h⟩
noncomputable def SmR(n:Nat)(r:Option (Bool×PL×List Nat)):Prop:=∀b pl ak,r=some (b,pl,ak)→Sm n pl∧Ask n ak
theorem glL_small{n p:Nat}{rec:Nat→PL→List Nat→Option (Bool×PL×List Nat)}(hr:∀q pl ak,Sm n pl→Ask n ak→SmR n (rec q pl ak)):
  ∀(ls:List Nat) (pl:PL) (ak:List Nat),(∀l∈ls,l<n)→Sm n pl→Ask n ak→SmR n (glL rec p ls pl ak)
 | [],pl,ak,_,h1,h2=>fun b pl' ak' e=>by
  unfold glL at e;cases e;exact⟨h1,h2⟩
 |l::ls,pl,ak,hl,h1,h2=>by
  have hls:∀x∈ls,x<n:=fun x hx=>hl x (List.mem_cons_of_mem _ hx)
  have hl0:=hl l List.mem_cons_self
  unfold glL
  by_cases hin:l∈ak
  ·rw[if_pos hin];exact glL_small hr ls pl ak hls h1 h2
  ·rw[if_neg hin]
   have ha:=h2.snoc hl0 hin
   cases e:lk pl l with
   |none=>intro b pl' ak' e;cases e;exact⟨h1.put hl0,ha⟩
   |some q=>
    dsimp only
    have:=hr q pl (ak++[l]) h1 ha
    cases er:rec q pl (ak++[l])with
    |none=>intro b pl' ak' e;cases e
    |some r=>
     obtain⟨b,pl1,ak1⟩:=r
     obtain⟨s1,s2⟩:=this b pl1 ak1 er
     cases b with
     |true=>intro b pl' ak' e;cases e;exact⟨s1.put hl0,s2⟩
     |false=>exact glL_small hr ls pl1 ak1 hls s1 s2
theorem gl_small{cs:List (List Nat)}{n:Nat}(hc:∀ls∈cs,∀l∈ls,l<n):∀(f p:Nat) (pl:PL) (ak:List Nat),Sm n pl→Ask n ak→SmR n (gl cs f p pl ak)
 |0,p,pl,ak,_,_=>fun b pl' ak' e=>by unfold gl at e;cases e
 |f+1,p,pl,ak,h1,h2=>by
  unfold gl
  cases e:cs[p]? with
  |none=>intro b pl' ak' e;cases e
  |some ls=>exact glL_small (fun q pl ak a b=>gl_small hc f q pl ak a b) ls pl ak (hc ls (List.mem_of_getElem? e)) h1 h2
end K7
namespace L3
open PySem PySem.Spec L2
open PyProof.Rows hiding St
noncomputable def orW(m n:Rho→R D):Rho→R D:=fun ρ=>m ρ>>=fun d=>truR d>>=fun c=>if c=true then .ok d else n ρ
theorem d_orW{X:Cx}{a b:Expr}{rest:List Expr}{m n:Rho→R D}{pos:Pos}(ha:PD X a m)(hb:PD X (.BoolOp .Or (b::rest) pos) n):PD X (.BoolOp .Or (a::b::rest) pos) (orW m n):=by
 intro pins s σ H Q I ⟨G,ρ,hG,hρ,q⟩
 refine BoolOp_or (thn (ha pins s σ H _ I ⟨G,ρ,hG,hρ,DQ.bind q⟩) fun v s1 ⟨x,H1,I1,r1,d,_,e1,rd,q1⟩=> ?_)
 rcases truR_cases d with h|⟨h,hn⟩
 ·rw[h]at q1;exact q1.elim
 ·rw[h]at q1
  refine thn (tru_ok pins s1 σ H1 x v (fun k H2=>k=truB d∧H2=H1) I1 r1 ⟨_,tru_of hn rd,rfl,rfl⟩) fun k s2 ⟨H2,I2,ek,eH⟩=> ?_
  subst ek eH
  cases hb2:truB d with
  |true=>
   rw[hb2]at q1
   exact⟨x,H2,I2,r1,q1 x H2 (Same.refl H2) rd⟩
  |false=>
   rw[hb2]at q1
   exact hb pins s2 σ H2 Q I2 ⟨G,ρ,hG.same e1,hρ.same e1,q1⟩
theorem s_newV{X:Cx}{pos:Pos}{i:Nat}{x:Str}{e:Expr}{m:Rho→R (List D)}{pos':Pos}(he:PN X e m)(hN:ndB X.N=true:=by kernel_rfl)(hi:X.N[i]? =some x:=by rfl)(hx:Loc X.env.scope x:=by first|exact Or.inl rfl|exact Or.inr rfl)(hs:swapsWith e (some (.Name x pos')) pos.line X.env=pure false:=by rfl)
  (hf:X.fn x=true∨X.env.scope.names.lookup x=some .local:=by first|exact .inl rfl|exact .inr rfl):PSD X (.Assign [.Name x pos'] e pos) (sCmpV i m):=
 (ps_set (nd_of hN) hi hx he hs hf).imp fun E σ H ⟨G,O,τ,S,q⟩=>by
  refine⟨G,view τ,S.free,S.vw,?_⟩
  unfold sCmpV at q
  cases h:m (view τ)with
  |ok d=>
   rw[h]at q
   intro v H' e ⟨p,xs,ev,hp,hp',r⟩
   subst ev
   by_cases hn:noL.noLs d=true
   ·simp only[hn,if_true]at q
    obtain⟨O',s1,t1⟩:=S.new (i:=i) e hp hp' (noLs_rep d hn r)
    exact q O' _ H' t1 s1
   ·simp only[hn,if_false]at q;exact q.elim
  |ex c=>rw[h]at q;exact EndsOk.xq q S
  |bad=>rw[h]at q;exact q.elim
noncomputable def plK(pl:K7.PL):List (Key×V):=pl.map fun p:Nat×Nat=>((Sum.inl (p.1:Int):Key),V.int (p.2:Int))
noncomputable def akK(ak:List Nat):List (Key×V):=ak.map fun l:Nat=>((Sum.inl (l:Int):Key),V.bl true)
theorem inl_eq(a b:Nat):((Sum.inl (a:Int):Key)=Sum.inl (b:Int))↔a=b:=⟨fun h=>by have:=Sum.inl.inj h;omega,fun h=>by rw[h]⟩
theorem val_pl(l:Nat):∀pl:K7.PL,valV (plK pl) (Sum.inl (l:Int))=(K7.lk pl l).map fun q:Nat=>V.int (q:Int)
 | []=>rfl
 |p::t=>by
  have ih:=val_pl l t
  by_cases e:p.1=l
  ·have e':((Sum.inl (p.1:Int):Key))=Sum.inl (l:Int):=(inl_eq _ _).mpr e
   show valV ((_,_)::plK t) _=_
   rw[valV_pos e']
   simp[K7.lk,List.find?_cons,e]
  ·have e':¬((Sum.inl (p.1:Int):Key))=Sum.inl (l:Int):=fun z=>e ((inl_eq _ _).mp z)
   show valV ((_,_)::plK t) _=_
   rw[valV_neg e',ih]
   simp[K7.lk,List.find?_cons,e]
theorem val_ak(l:Nat):∀ak:List Nat,valV (akK ak) (Sum.inl (l:Int))=if l∈ak then some (V.bl true)else none
 | []=>rfl
 |p::t=>by
  have ih:=val_ak l t
  by_cases e:p=l
  ·have e':((Sum.inl (p:Int):Key))=Sum.inl (l:Int):=(inl_eq _ _).mpr e
   show valV ((_,_)::akK t) _=_
   rw[valV_pos e',if_pos (by rw[e];exact List.mem_cons_self)]
  ·have e':¬((Sum.inl (p:Int):Key))=Sum.inl (l:Int):=fun z=>e ((inl_eq _ _).mp z)
   show valV ((_,_)::akK t) _=_
   rw[valV_neg e',ih]
   by_cases h:l∈t
   ·rw[if_pos h,if_pos (List.mem_cons_of_mem _ h)]
   ·rw[if_neg h,if_neg (fun z=>(List.mem_cons.mp z).elim (fun y=>e y.symm) h)]
theorem any_pl(l:Nat)(pl:K7.PL):((plK pl).any fun kv=>decide (kv.1=(Sum.inl (l:Int):Key)))=pl.any fun p=>decide (p.1=l):=by
 unfold plK
 rw[List.any_map]
 congr 1
 funext p
 show decide ((Sum.inl (p.1:Int):Key)=Sum.inl (l:Int))=decide (p.1=l)
 exact decide_eq_decide.mpr (inl_eq _ _)
theorem put_pl(l q:Nat)(pl:K7.PL):putK (plK pl) (Sum.inl (l:Int)) (V.int (q:Int))=plK (K7.put pl l q):=by
 unfold putK K7.put
 rw[any_pl]
 split
 ·unfold plK
  rw[List.map_map,List.map_map]
  congr 1
  funext p
  show(if((Sum.inl (p.1:Int):Key))=Sum.inl (l:Int)then _ else _)=_
  by_cases e:p.1=l
  ·rw[if_pos ((inl_eq _ _).mpr e)]
   simp[Function.comp,e]
  ·rw[if_neg (fun z=>e ((inl_eq _ _).mp z))]
   simp[Function.comp,e]
 ·simp[plK]
theorem put_ak{l:Nat}{ak:List Nat}(h:l∉ak):putK (akK ak) (Sum.inl (l:Int)) (V.bl true)=akK (ak++[l]):=by
 rw[putK_new _ (by rw[val_ak,if_neg h])]
 simp[akK]
noncomputable def ChO(K:PySem.W.Frag)(H:Hp)(v:V)(cs:List (List Nat)):Prop:=∃a rs,v=.ref a∧SqL K H a rs∧rs.length=cs.length∧∀(i:Nat) ls,cs[i]? =some ls→∃r,rs[i]? =some (.ref r)∧SqL K H r (ls.map fun l:Nat=>V.int (l:Int))
noncomputable def But2(a b:Addr)(H H':Hp):Prop:=∀c o,H c=some o→c≠a→c≠b→H' c=some o
section
variable{K:PySem.W.Frag}{H H' H1 H2:Hp}{a b:Addr}
theorem But2.refl:But2 a b H H:=fun _ _ h _ _=>h
theorem But2.trans(x:But2 a b H H1)(y:But2 a b H1 H2):But2 a b H H2:=fun c o h n m=>y c o (x c o h n m) n m
theorem But2.updA{o:HO}:But2 a b H (upd H a o):=fun c o h n _=>by rw[upd_ne n];exact h
theorem But2.updB{o:HO}:But2 a b H (upd H b o):=fun c o h _ n=>by rw[upd_ne n];exact h
theorem sq_but{c:Addr}{xs:List V}{k1 k2:List (Key×V)}(x:But2 a b H H')(ha:H a=some (.dK k1))(hb:H b=some (.dK k2))(h:SqL K H c xs):SqL K H' c xs:=by
 rcases h with(h|⟨o,h⟩)|h
 ·exact .inl (.inl (x c _ h (ne_of h ha (by intro z;cases z)) (ne_of h hb (by intro z;cases z))))
 ·exact .inl (.inr ⟨o,x c _ h (ne_of h ha (by intro z;cases z)) (ne_of h hb (by intro z;cases z))⟩)
 ·exact .inr h
theorem ChO.but{v:V}{cs:List (List Nat)}{k1 k2:List (Key×V)}(h:ChO K H v cs)(x:But2 a b H H')(ha:H a=some (.dK k1))(hb:H b=some (.dK k2)):ChO K H' v cs:=by
 obtain⟨c,rs,e,s,l,f⟩:=h
 exact⟨c,rs,e,sq_but x ha hb s,l,fun i ls q=>let⟨r,e1,e2⟩:=f i ls q;⟨r,e1,sq_but x ha hb e2⟩⟩
end
noncomputable def spG(K:PySem.W.Frag)(n f:Nat):Sp:=fun vs H Q _=>∃(cs:List (List Nat)) (v:V) (p:Nat) (pa qa:Addr) (pl:K7.PL) (ak:List Nat) (b:Bool) (pl':K7.PL) (ak':List Nat),
 vs=[v, .int (p:Int), .ref pa, .ref qa]∧ChO K H v cs∧(∀ls∈cs,∀l∈ls,l<n)∧H pa=some (.dK (plK pl))∧H qa=some (.dK (akK ak))∧pa≠qa∧K7.Sm n pl∧K7.Ask n ak∧K7.gl cs f p pl ak=some (b,pl',ak')∧
 ∀H',But2 pa qa H H'→H' pa=some (.dK (plK pl'))→H' qa=some (.dK (akK ak'))→Q (.bl b) H'
structure CalleeG(P:Program)(w:World)(K:PySem.W.Frag)(mg:Str→Option Value)(base:Heap)(k:Nat)(x:Str)(n f:Nat):Prop where
 ex:∃a fd ps,FnOk P w K mg base (CXR P w) k a fd ps (spG K n f)∧Binds K fd ps []∧PySem.W.keepIn K (.ref a)=true∧mg x=some (.ref a)
section
variable{X:Cx}
theorem g_call{x:Str}{p pos:Pos}{e:Expr}{es:List Expr}{t:TA}{k n f:Nat}(c:CalleeG X.prog X.w X.K X.mg X.base k x n f)(hr:Room k X.A)(ha:PA X (e::es) t)
  (hg:Gl X x:=by rfl) (hdb:(x == ("__debug__":Str))=false:=by decide) (he:starEach (e::es) X.env=(false,eval e X.env)::starEach es X.env:=by rfl) (hpl:(backTo pos (starEach es X.env)).any (·.1)=false:=by rfl):
  PE X (.Call (.Name x p) (e::es) [] pos) (fun σ H Q=>t σ H fun vs H1=>spG X.K n f vs H1 Q fun _ _ _=>False):=by
 obtain⟨a,fd,ps,Fn,hb,hk,hm⟩:=c.ex
 refine(pe_call (dvs:=[]) (ds:=[]) (E:=fun _ _ _=>False) Fn hr hg hm hk hb .nil passes0 ha hdb he hpl).imp fun σ H Q h=> ?_
 unfold tCall
 simpa using h
noncomputable def tGb(X:Cx)(n f:Nat):TS:=fun E σ H=>∃(cs:List (List Nat)) (v:V) (p:Nat) (pa qa:Addr) (pl:K7.PL) (ak:List Nat) (b:Bool) (pl':K7.PL) (ak':List Nat),
 σ[0]? =some (some v)∧σ[1]? =some (some (.int (p:Int)))∧σ[2]? =some (some (.ref pa))∧σ[3]? =some (some (.ref qa))∧σ.length=5∧ChO X.K H v cs∧(∀ls∈cs,∀l∈ls,l<n)∧H pa=some (.dK (plK pl))∧H qa=some (.dK (akK ak))∧pa≠qa∧K7.Sm n pl∧K7.Ask n ak∧
 K7.gl cs (f+1) p pl ak=some (b,pl',ak')∧∀H',But2 pa qa H H'→H' pa=some (.dK (plK pl'))→H' qa=some (.dK (akK ak'))→E.rt (.bl b) H'
theorem gl_body{tg it c1 c2a c2b vt2 vf:Expr}{as1 as2:Stmt}{p1 p2 p3 p4 p5 p6 p7:Pos}{n f:Nat}(hx:PassesOwn (model X.prog X.w) X.A X.env X.xe)(hcalm:X.calm=true)(hn:n<sizeLine)
  (hi:PE X it (tOp (rIxL X.K) (tVar 0) (tVar 1))) (hg:PG X tg (gName 4)) (h1:PT X c1 (tB (tDIn (tVar 4) (tVar 3)))) (ha1:PS X as1 (sDPut (tVar 3) (tVar 4) (tC (.bl true))))
  (h2a:PT X c2a (tB (tDNotIn (tVar 4) (tVar 2)))) (h2b:PE X c2b (fun σ H Q=>tCons (tVar 0) (tCons (tDGet (tVar 2) (tVar 4)) (tCons (tVar 2) (tCons (tVar 3) tNil))) σ H fun vs H1=>spG X.K n f vs H1 Q fun _ _ _=>False)) (ht2:∀whole,isTrue c2b X.env whole=(do let v←whole;standAt c2b.pos;holding [v] (truthy v)))
  (ha2:PS X as2 (sDPut (tVar 2) (tVar 4) (tVar 1))) (hvt:PE X vt2 (tC (.bl true))) (hvf:PE X vf (tC (.bl false)))
  (hs:∀x,foldedSetIterable it X.env x=pure x):
  PSs X [.For tg it [.If c1 [.Continue p1] [] p2,as1, .If (.BoolOp .Or [c2a,c2b] p7) [as2, .Return (some vt2) p3] [] p4] [] p5, .Return (some vf) p6] (tGb X n f):=
 (pss_cons (ps_for hx hcalm (pi_seq hi) hg (pss_cons (ps_if h1 (pss_one ps_continue) pss_nil) (pss_cons ha1 (pss_one (ps_if (PW.pt (pw_or h2a (pw_or1 (pt_val h2b ht2)))) (pss_cons ha2 (pss_one (ps_ret hvt))) pss_nil)))) hs) (pss_one (ps_ret hvf))).imp
  fun E σ H ⟨cs,v,p,pa,qa,pl,ak,b,pl',ak',e0,e1,e2,e3,hlen,hch,hlt,hpa,hqa,hne,hsm,hak,hgl,q⟩=>by
  obtain⟨a,rs,rfl,sa,rl,rf⟩:=id hch
  unfold K7.gl at hgl
  cases ec:cs[p]? with
  |none=>rw[ec]at hgl;cases hgl
  |some ls=>
   rw[ec]at hgl
   replace hgl:K7.glL (K7.gl cs f) p ls pl ak=some (b,pl',ak'):=hgl
   obtain⟨r,er,sr⟩:=rf p ls ec
   have hls:∀l∈ls,l<n:=hlt ls (List.mem_of_getElem? ec)
   refine⟨_,e0,_,e1,a,rs,(p:Int), .ref r,rfl,rfl,sa,atI_nat er, .inl ⟨r,_,rfl,sr,fun _=> ?_⟩⟩
   refine⟨fun i m σ1 H1=>i≤ls.length∧m=ls.length - i∧∃pl1 ak1,K7.glL (K7.gl cs f) p (ls.drop i) pl1 ak1=some (b,pl',ak')∧K7.Sm n pl1∧K7.Ask n ak1∧But2 pa qa H H1∧H1 pa=some (.dK (plK pl1))∧H1 qa=some (.dK (akK ak1))∧
    σ1[0]? =some (some (.ref a))∧σ1[1]? =some (some (.int (p:Int)))∧σ1[2]? =some (some (.ref pa))∧σ1[3]? =some (some (.ref qa))∧σ1.length=5,
    ⟨_,Nat.zero_le _,rfl,pl,ak,hgl,hsm,hak,But2.refl,hpa,hqa,e0,e1,e2,e3,hlen⟩,?_⟩
   rintro i m σ1 H1 ⟨hi',rfl,pl1,ak1,hg1,sm1,as1',b1,ep1,eq1,f0,f1,f2,f3,fl⟩
   have sr1:SqL X.K H1 r (ls.map fun l:Nat=>V.int (l:Int)):=sq_but b1 hpa hqa sr
   by_cases hl:i<ls.length
   ·have hdrop:ls.drop i=ls[i]::ls.drop (i+1):=List.drop_eq_getElem_cons hl
    generalize hlv:ls[i]=l at hdrop
    rw[hdrop]at hg1
    have hln:l<n:=by rw[←hlv];exact hls _ (List.getElem_mem hl)
    have hget:(ls.map fun l:Nat=>V.int (l:Int))[i]? =some (.int (l:Int)):=by rw[List.getElem?_map,List.getElem?_eq_getElem hl,hlv];rfl
    refine .inr ⟨⟨_,_,sr1,hget⟩,fun σ2 H2=>i+1≤ls.length∧∃pl1 ak1,K7.glL (K7.gl cs f) p (ls.drop (i+1)) pl1 ak1=some (b,pl',ak')∧K7.Sm n pl1∧K7.Ask n ak1∧But2 pa qa H H2∧H2 pa=some (.dK (plK pl1))∧H2 qa=some (.dK (akK ak1))∧
     σ2[0]? =some (some (.ref a))∧σ2[1]? =some (some (.int (p:Int)))∧σ2[2]? =some (some (.ref pa))∧σ2[3]? =some (some (.ref qa))∧σ2.length=5,fun σ2 H2 ⟨a1,a2⟩=>⟨ls.length - (i+1),by omega,a1,rfl,a2⟩,fun x H2 ⟨eh,y⟩=> ?_⟩
    subst eh
    have hx2:x=.int (l:Int):=Option.some.inj ((y _ sr1).symm.trans hget)
    subst hx2
    show tSeq _ _ _ (σ1.set 4 (some (V.int (l:Int)))) H2
    have g0:(σ1.set 4 (some (V.int (l:Int))))[0]? =some (some (.ref a)):=by rw[List.getElem?_set_ne (by decide)];exact f0
    have g1:(σ1.set 4 (some (V.int (l:Int))))[1]? =some (some (.int (p:Int))):=by rw[List.getElem?_set_ne (by decide)];exact f1
    have g2:(σ1.set 4 (some (V.int (l:Int))))[2]? =some (some (.ref pa)):=by rw[List.getElem?_set_ne (by decide)];exact f2
    have g3:(σ1.set 4 (some (V.int (l:Int))))[3]? =some (some (.ref qa)):=by rw[List.getElem?_set_ne (by decide)];exact f3
    have g4:(σ1.set 4 (some (V.int (l:Int))))[4]? =some (some (.int (l:Int))):=List.getElem?_set_self (by omega)
    have gl5:(σ1.set 4 (some (V.int (l:Int)))).length=5:=by simpa using fl
    generalize σ1.set 4 (some (V.int (l:Int)))=σ2 at g0 g1 g2 g3 g4 gl5
    unfold K7.glL at hg1
    have dq:DGet H2 qa (.int (l:Int)) (valV (akK ak1) (Sum.inl (l:Int))):=DGet.k (k:=Sum.inl (l:Int)) eq1
    refine⟨_,g4,_,g3,qa,_,rfl,dq,_,rfl,?_⟩
    rw[val_ak]
    by_cases hin:l∈ak1
    ·rw[if_pos hin]at hg1
     rw[if_pos hin]
     exact⟨hl,pl1,ak1,hg1,sm1,as1',b1,ep1,eq1,g0,g1,g2,g3,gl5⟩
    ·rw[if_neg hin]at hg1
     rw[if_neg hin]
     have hal:(akK ak1).length<sizeLine:=by
      have:=K7.nd_len as1'
      simp only[akK,List.length_map];omega
     have hpl1:(plK pl1).length<sizeLine:=by
      have:=sm1.len
      simp only[plK,List.length_map];omega
     rw[if_neg (by simp)]
     refine⟨_,g3,_,g4,qa,_,rfl,DPut.k (k:=Sum.inl (l:Int)) eq1 hal,?_⟩
     rw[put_ak hin]
     have as2':=as1'.snoc hln hin
     have b2:But2 pa qa H2 (upd H2 qa (.dK (akK (ak1++[l])))):=But2.updB
     have ep2:(upd H2 qa (.dK (akK (ak1++[l])))) pa=some (.dK (plK pl1)):=by rw[upd_ne hne];exact ep1
     have eq2:(upd H2 qa (.dK (akK (ak1++[l])))) qa=some (.dK (akK (ak1++[l]))):=upd_same
     generalize upd H2 qa (.dK (akK (ak1++[l])))=H3 at b2 ep2 eq2
     have dp:DGet H3 pa (.int (l:Int)) (valV (plK pl1) (Sum.inl (l:Int))):=DGet.k (k:=Sum.inl (l:Int)) ep2
     have b3:=b1.trans b2
     refine⟨_,g4,_,g2,pa,_,rfl,dp,_,rfl,?_⟩
     rw[val_pl]
     have fin:∀(D:Ends),D.rt=E.rt→∀(pl2:K7.PL) (ak2:List Nat) (H4:Hp),But2 pa qa H H4→H4 pa=some (.dK (plK pl2))→H4 qa=some (.dK (akK ak2))→K7.Sm n pl2→some (true,K7.put pl2 l p,ak2)=some (b,pl',ak')→
       tSeq (sDPut (tVar 2) (tVar 4) (tVar 1)) (tRet (tC (.bl true))) D σ2 H4:=fun D hD pl2 ak2 H4 b4 ep4 eq4 sm4 e4=>by
      cases e4
      have hl4:(plK pl2).length<sizeLine:=by
       have:=sm4.len
       simp only[plK,List.length_map];omega
      refine⟨_,g1,_,g2,_,g4,pa,_,rfl,DPut.k (k:=Sum.inl (l:Int)) ep4 hl4,?_⟩
      rw[put_pl]
      show D.rt _ _
      rw[hD]
      exact q _ (b4.trans But2.updA) upd_same (by rw[upd_ne (Ne.symm hne)];exact eq4)
     cases ek:K7.lk pl1 l with
     |none=>
      rw[ek]at hg1
      refine fin _ rfl pl1 (ak1++[l]) H3 b3 ep2 eq2 sm1 hg1
     |some qq=>
      rw[ek]at hg1
      replace hg1:(match K7.gl cs f qq pl1 (ak1++[l])with
       |some (true,pl',ak')=>some (true,K7.put pl' l p,ak')
       |some (false,pl',ak')=>K7.glL (K7.gl cs f) p (ls.drop (i+1)) pl' ak'
       |none=>none)=some (b,pl',ak'):=hg1
      have dp':DGet H3 pa (.int (l:Int)) (some (.int (qq:Int))):=by
       have:=dp
       rw[val_pl,ek]at this
       exact this
      dsimp only[Option.map_some,Option.isSome_some,Bool.not_true]
      rw[if_neg (by decide)]
      cases eg:K7.gl cs f qq pl1 (ak1++[l])with
      |none=>rw[eg]at hg1;cases hg1
      |some rr=>
       obtain⟨b5,pl5,ak5⟩:=rr
       rw[eg]at hg1
       obtain⟨sm5,as5⟩:=K7.gl_small hlt f qq pl1 (ak1++[l]) sm1 as2' b5 pl5 ak5 eg
       refine⟨_,g0,_,g2,_,g4,pa,_,rfl,dp',_,g2,_,g3,cs, .ref a,qq,pa,qa,pl1,ak1++[l],b5,pl5,ak5,rfl,hch.but b3 hpa hqa,hlt,ep2,eq2,hne,sm1,as2',eg,fun H4 b4 ep4 eq4=>⟨b5,rfl,?_⟩⟩
       cases b5 with
       |true=>exact fin _ rfl pl5 ak5 H4 (b3.trans b4) ep4 eq4 sm5 hg1
       |false=>exact⟨hl,pl5,ak5,hg1,sm5,as5,b3.trans b4,ep4,eq4,g0,g1,g2,g3,gl5⟩
   ·have hie:i=ls.length:=by omega
    subst hie
    rw[List.drop_length]at hg1
    unfold K7.glL at hg1
    cases hg1
    exact .inl ⟨⟨_,sr1,by simp⟩,q H1 b1 ep1 eq1⟩
end
section
variable{P:Program}{w:World}{K:PySem.W.Frag}{mg:Str→Option Value}{base:Heap}
theorem gl_fn{x qual:Str}{st:Stmt}{a:Addr}{fd:FuncData}{N ps:List Str}{k n f:Nat}(F:Fun K x qual st a fd)(S:FnScope N ps (defScope st))(hn:ps.length=4)(hN:N.length=5)
  (hb:∀(cdv:Value) (A:Around) (outer:List Env) (s:Shared) (H:Hp) (E:XK),Room k (A.deeper (envOfC qual (defScope st) s.heap.objs.size a cdv))→PSs (cxOf (CXR P w) P w K mg base N qual (defScope st) a cdv A outer s H E) (defBody st) (tGb (cxOf (CXR P w) P w K mg base N qual (defScope st) a cdv A outer s H E) n f)):
  FnOk P w K mg base (CXR P w) (k+1) a fd ps (spG K n (f+1)):=by
 obtain⟨oc,od,kV,doc,pm,an,cdv,ct,osl,rfl,lk,hcd⟩:=F.ex
 refine fn_of lk hcd S (fun vs H Q E h=> ?_) fun A outer s H vs Q E hr h=> ?_
 ·obtain⟨cs,v,p,pa,qa,pl,ak,b,pl',ak',e,_⟩:=h
  rw[e,hn];rfl
 ·obtain⟨cs,v,p,pa,qa,pl,ak,b,pl',ak',rfl,h1,h2,h3,h4,h5,h6,h7,h8,h9⟩:=h
  exact⟨_,hb cdv A outer s H E hr,cs,v,p,pa,qa,pl,ak,b,pl',ak',rfl,rfl,rfl,rfl,by simp[L2.start,hN],h1,h2,h3,h4,h5,h6,h7,h8,h9⟩
theorem gl_none{a:Addr}{fd:FuncData}{ps:List Str}{k n:Nat}:FnOk P w K mg base (CXR P w) k a fd ps (spG K n 0):=by
 have no:∀vs H Q E,¬spG K n 0 vs H Q E:=by
  intro vs H Q E h
  obtain⟨cs,v,p,pa,qa,pl,ak,b,pl',ak',e,_,_,_,_,_,_,_,e8,_⟩:=h
  unfold K7.gl at e8
  cases e8
 exact⟨fun vs H Q E h=>(no _ _ _ _ h).elim,fun A outer s H args us vs Q E _ _ _ _ h=>(no _ _ _ _ h).elim⟩
end
end L3
namespace L3
open PySem PySem.Spec L2
open PyProof.Rows hiding St
noncomputable def lamArgs(p:Pos):Arguments:={posonlyargs:=[],args:=[{arg:="letter",annotation:=none,pos:=p}],vararg:=none,kwonlyargs:=[],kw_defaults:=[],kwarg:=none,defaults:=[]}
noncomputable def lamBody(p q r:Pos):Expr:=.Subscript (.Name "places" p) (.Name "letter" q) r
noncomputable def lamScope:Scope:={kind:=.function,names:=[(Str.ofString "letter", .local),(Str.ofString "places", .free)],isGenerator:=false,isCoroutine:=false,more:=[]}
noncomputable abbrev lamFn(p1 p2 p3 p4:Pos)(cc:Addr)(pm:Value)(c':Addr)(ctv:Value):Obj:=PySem.W.kla_obj "<lambda>" lamQ (lamArgs p1) (lamBody p2 p3 p4) lamScope [("places",cc)] pm c' ctv
section
variable{P:Program}{w:World}{A:Around}{E:Value→Shared→Prop}{s:Shared}
theorem dictOf_keeps{h h':Heap}{a:Addr}{vs:List (Key×Value)}(d:h.DictOf (mixKind P w) a vs)(k:∀b o,h.get? b=some o→h'.get? b=some o):h'.DictOf (mixKind P w) a vs:=
 let⟨o,es,ep,e,r⟩:=d;⟨o,es,ep,k _ _ e,r⟩
theorem isCell_keeps{h h':Heap}{c:Addr}{v:Option Value}(d:h.IsCell c v)(k:∀b o,h.get? b=some o→h'.get? b=some o):h'.IsCell c v:=
 let⟨o,e,r⟩:=d;⟨o,k _ _ e,r⟩
theorem lam_call{f c' cc pd:Addr}{p1 p2 p3 p4:Pos}{n k:Int}{t kt:Tok}{vs:List (Key×Value)}{pm ctv:Value}(hroom:A.depth<recursionLimit)(hlim:s.heap.NoLimit)(ho:s.heap.get? f=some (lamFn p1 p2 p3 p4 cc pm c' ctv))(hcd:s.heap.CodeRec (.ref c') lamQ)
  (hc:s.heap.IsCell cc (some (.ref pd))) (hd:s.heap.DictOf (mixKind P w) pd vs) (hv:valueAt vs (Sum.inl n)=some (.int k kt)):
  wpAny (model P w) A (call (.ref f) [.int n t]) (fun v s'=>∃h' tk,s'={s with heap:=h',toks:=tk}∧v=.int k kt∧∀b o,s.heap.get? b=some o→h'.get? b=some o) E s:=by
 refine wpAny_call (PySem.W.kla_callFunE hroom ho rfl rfl rfl rfl hcd ?_)
 have hb:bindArgs (PySem.W.kla_fn "<lambda>" lamQ (lamArgs p1) (lamBody p2 p3 p4) lamScope [("places",cc)] pm (.ref c') ctv) ⟨[.int n t],[]⟩=pure [((Str.ofString "letter":Str),Value.int n t)]:=rfl
 rw[hb]
 refine wpAny_pure (wpAny_newFunctionEnv (scope:=lamScope) (by decide) (by intro x hx;rw[List.mem_singleton.mp hx];rfl) (fun h₁ hns hsb=>⟨hlim.fresh _ hsb,?_⟩) rfl)
 have hk₁:∀b o,s.heap.get? b=some o→h₁.get? b=some o:=fun b o e=>hsb.extBut b o (Nat.ne_of_lt (Heap.lt_size e)) (Heap.get?_push_of_some _ e)
 refine PySem.W.kla_codeExpr ?_
 refine subD_of (T:="dict") PySem.F.slot_dict_getitem.lookup (fun _ _=>rfl) ?_
 refine wpAny_Name (wpAny_loadName_free rfl rfl rfl (isCell_keeps hc hk₁) ?_)
 refine wpAny_Name (wpAny_loadName_local rfl rfl hns rfl ?_)
 have hd1:=dictOf_keeps hd hk₁
 exact⟨hd1.typeIs,wpAny_getItem_of (keyIs_int n t) hd1.mapOf hv ⟨h₁,_,rfl,rfl,hk₁⟩⟩
end
noncomputable def BMain(mg:Str→Option Value)(base:Heap):Prop:=∃bm ob,mg "__builtins__"=some (.ref bm)∧bm≠builtinsNs∧base.get? bm=some ob∧ob.cls=.type "module"∧ob.dict=some builtinsNs∧ob.data=.plain
theorem triples_snoc{a b:Int}{t u:Tok}{c:Value}:∀(l:List Value),TriplesOk l→TriplesOk (l++[.int a t, .int b u,c])
 | [],_=>trivial
 | .int _ _:: .int _ _::_::r,h=>triples_snoc r h
theorem among_snoc{pos:Pos}{a b:Int}{t u:Tok}{c v:Value}:∀(l:List Value),TriplesOk l→codeAmong pos (l++[.int a t, .int b u,c])=some v→codeAmong pos l=some v∨v=c
 | [],_,e=>by
  unfold codeAmong at e
  split at e
  ·rename_i h;injection h with h1 h2;injection h2 with h3 h4;injection h4 with h5 h6
   subst h5
   split at e
   ·cases e;exact .inr rfl
   ·rename_i h7;rw[←h6]at e;unfold codeAmong at e;cases e
  ·cases e
 | .int x _:: .int y _::z::r,h,e=>by
  have e':(if x == pos.line&&y == pos.col then some z else codeAmong pos (r++[.int a t, .int b u,c]))=some v:=e
  show(if x == pos.line&&y == pos.col then some z else codeAmong pos r)=some v∨v=c
  split at e'
  ·rename_i hc;rw[if_pos hc];exact .inl e'
  ·rename_i hc;rw[if_neg hc];exact among_snoc r h e'
section
variable{X:Cx}{pins:List (Addr×Obj)}{σ:St}{H:Hp}{s:Shared}
theorem pin_on{f:Addr}{ob:Obj}(I:Inv X pins σ H s)(e:s.heap.get? f=some ob)(h1:H f=none)(h2:f≠X.env.locals)(h3:f∉X.fs)(h4:∀v,ob.data≠ .cell v):Inv X (pins++[(f,ob)]) σ H s:=
 I.pins_of fun p hp=>(List.mem_append.mp hp).elim (fun z=>I.pin p (List.mem_append_right _ z)) fun z=>by
  rw[List.mem_singleton.mp z];exact⟨e,h1,h2,h3,h4⟩
theorem lam_make{c P cc:Addr}{p1 p2 p3 p4 pos:Pos}(I:Inv X pins σ H s)(bm:BMain X.mg X.base)(C:PySem.W.CodeHd X.base c P)(hcode:X.env.code=.ref c)(ht:H P=some .tbl)(hq:X.env.qual++"<lambda>"=lamQ)(hcl:closureFor lamScope X.env=pure [((Str.ofString "places":Str),cc)]):
  wpAny (model X.prog X.w) X.A (eval (.Lambda (lamArgs p1) (lamBody p2 p3 p4) lamScope pos) X.env) (fun v s'=>∃f H' c' pm ctv,v=.ref f∧Inv X (pins++[(f,lamFn p1 p2 p3 p4 cc pm c' ctv)]) σ H' s'∧Same H H'∧s'.heap.CodeRec (.ref c') lamQ) X.xe s:=by
 obtain⟨ps,hP,hT,hA⟩:=(show ObjOk X.prog X.w H s.heap P .tbl from I.hok P _ ht)
 obtain⟨bmA,ob,b1,b2,b3,b4,b5,b6⟩:=bm
 have hbo:=I.bk _ _ b3
 have hgs:=I.mod.glob.keeps I.bk
 have hgP:mainGlobals≠P:=fun q=>by
  obtain⟨o,es,ep,e,hd,_⟩:=hgs
  rw[q,hP]at e;cases e;cases hd
 have hbP:bmA≠P:=fun q=>by
  rw[q,hP]at hbo;cases hbo;cases b4
 have hbG:bmA≠mainGlobals:=fun q=>by
  obtain⟨o,es,ep,e,hd,_⟩:=hgs
  rw[q,e]at hbo;cases hbo;rw[hd]at b6;cases b6
 have hLP:X.env.locals≠P:=fun q=>by
  have:=I.free
  rw[q,ht]at this;cases this
 refine PySem.W.kla_eval rfl ?_
 rw[hq]
 cases hf:codeAmong pos ps.toList with
 |some cv=>
  obtain⟨c',oc,vs,t,rfl,h2,h3,h4,h5⟩:=hA pos cv hf
  refine PySem.W.kla_makeFunctionHit (mg:=X.mg) hcl I.ok.glob hgs hcode (C.keeps I.bk) hP hT hf ⟨bmA,ob,b1,b2,hbG,hbP,hbo,b4,b5,b6⟩ fun ctv h' tk hk hsz=> ?_
  have kp:∀b o,s.heap.get? b=some o→(h'.push (lamFn p1 p2 p3 p4 cc ((X.mg "__name__").getD .none) c' ctv)).get? b=some o:=fun b o e=>Heap.get?_push_of_some _ (hk b o e)
  have I2:Inv X pins σ H {s with heap:=h'.push (lamFn p1 p2 p3 p4 cc ((X.mg "__name__").getD .none) c' ctv),toks:=tk}:=I.kept (t':=tk) kp
  refine⟨h'.objs.size,H,c',_,ctv,rfl,pin_on I2 (Heap.get?_push_size _ rfl) (I.hok.fresh hsz) (Nat.ne_of_gt (Nat.lt_of_lt_of_le I.lt hsz)) (I.nofs hsz) (fun v z=>by cases z),Same.refl _,⟨c',oc,vs,t,rfl,kp _ _ h3,h4,h5⟩⟩
 |none=>
  refine PySem.W.kla_makeFunction (mg:=X.mg) hcl I.ok.glob hgs hcode (C.keeps I.bk) hP hT hf hgP ⟨bmA,ob,b1,b2,hbG,hbP,hbo,b4,b5,b6⟩ fun c' ctv h' tk hx hge hlt hrec htb=> ?_
  have hsz:s.heap.objs.size≤h'.objs.size:=Nat.le_of_lt (Nat.lt_of_le_of_lt hge hlt)
  have hn:H c'=none:=I.hok.fresh hge
  have kp:∀b o,b≠P→s.heap.get? b=some o→(h'.push (lamFn p1 p2 p3 p4 cc ((X.mg "__name__").getD .none) c' ctv)).get? b=some o:=fun b o ne e=>Heap.get?_push_of_some _ (hx b o ne e)
  have nP:∀b,H b=none→b≠P:=fun b e z=>by rw[z,ht]at e;cases e
  have hcP:P≠c':=ne_of_none ht hn
  obtain⟨c2,oc,vs,t,e2,hoc,hd,hvs⟩:=id hrec
  cases e2
  have hP':(h'.push (lamFn p1 p2 p3 p4 cc ((X.mg "__name__").getD .none) c' ctv)).get? P=some (PySem.W.tabObj (ps++ #[rawInt pos.line,rawInt pos.col, .ref c'])):=Heap.get?_push_of_some _ htb
  have hok:HOk X.prog X.w (upd H c' (.own P)) (h'.push (lamFn p1 p2 p3 p4 cc ((X.mg "__name__").getD .none) c' ctv)):=fun a o e=>by
   by_cases hac:a=c'
   ·subst hac
    rw[upd_same]at e;cases e
    exact⟨oc,Heap.get?_push_of_some _ hoc⟩
   ·rw[upd_ne hac]at e
    by_cases haP:a=P
    ·subst haP
     rw[ht]at e;cases e
     refine⟨_,hP',?_,fun pos' v q=> ?_⟩
     ·rw[Array.toList_append]
      exact triples_snoc _ hT
     ·rw[Array.toList_append]at q
      rcases among_snoc _ hT q with q|q
      ·obtain⟨c3,oc3,vs3,t3,r1,r2,r3,r4⟩:=hA pos' v q
       refine⟨c3,oc3,vs3,t3,r1,?_,kp _ _ (fun z=>by rw[z,ht]at r2;cases r2) r3,r4⟩
       rw[upd_ne (ne_of_none r2 hn)];exact r2
      ·exact⟨c',oc,vs,t,q,upd_same,Heap.get?_push_of_some _ hoc,hd,hvs⟩
    ·refine(I.hok a o e).stay (fun b u hb q=>kp b u ?_ q) (fun b q=>by rw[upd_ne (ne_of_none q hn)];exact q) fun b xs q=>by rw[upd_ne (ne_of_none q hn)];exact q
     rcases hb with rfl|hb
     ·exact haP
     ·intro z;rw[z,ht]at hb;cases hb
  have I2:Inv X pins σ (upd H c' (.own P)) {s with heap:=h'.push (lamFn p1 p2 p3 p4 cc ((X.mg "__name__").getD .none) c' ctv),toks:=tk}:=by
   refine I.step (g':=s.gens) (d':=s.drawn) (ch:=[]) (fun _ z=>nomatch z) (fun b o _ _ _ e n=>kp b o (nP b n) e) (fun b o _ _ _ e n=>⟨o.slots,kp b o (nP b n) e⟩) (fun b o _ e n=>by rw[upd_ne (Nat.ne_of_lt (Nat.lt_of_lt_of_le (Heap.lt_size e) hge))];exact n) (fun b o _ e=> ?_)
    (fun b xs q=>by rw[upd_ne (ne_of_none q hn)];exact q) (fun b o u q=>by rw[upd_ne (ne_of_none q hn)];exact q) (fun b q=>by rw[upd_ne (ne_of_none q hn)];exact q) (fun m hm=>(hm.extBut hx hLP).push _) hok I.bare
   by_cases hb:b=P
   ·rw[hb];exact⟨_,hP'⟩
   ·exact⟨o,kp b o hb e⟩
  refine⟨h'.objs.size,upd H c' (.own P),c',_,ctv,rfl,pin_on I2 (Heap.get?_push_size _ rfl) ?_ (Nat.ne_of_gt (Nat.lt_of_lt_of_le I.lt hsz)) (I.nofs hsz) (fun v z=>by cases z),same_new hn _,hrec.push _⟩
  rw[upd_ne (Nat.ne_of_gt hlt)]
  exact I.hok.fresh hsz
end
end L3
namespace L3
open PySem PySem.Spec PySem.W L2
open PyProof.Rows hiding St
section
variable{P:Program}{w:World}
end
theorem keys_plK(pl:K7.PL):(plK pl).map (·.1)=(K7.keys pl).map fun l:Nat=>(Sum.inl (l:Int):Key):=by
 simp[plK,K7.keys]
theorem nd_plK{pl:K7.PL}(h:((plK pl).map (·.1)).Nodup):(K7.keys pl).Nodup:=by
 rw[keys_plK]at h
 rw[List.nodup_iff_pairwise_ne,List.pairwise_map]at h
 exact h.imp fun{a b} n e=>n (by rw[e])
theorem srt_out{pl:K7.PL}{ks outv:List Value}(hk:Paired (fun(p:Nat×Nat) (v:Value)=>∃t,v=.int (p.1:Int) t) pl ks)(ho:KskOut false (pl.map fun p:Nat×Nat=>(p.2:Int)) ks outv):
  ∃out:K7.PL,out.Perm pl∧out.Pairwise (fun a b=>a.2≤b.2)∧Vals (out.map fun p:Nat×Nat=>V.int (p.1:Int)) outv:=by
 obtain⟨ps,hp,rfl,hs⟩:=ho
 have key:∀(pl:K7.PL) (ks:List Value),Paired (fun(p:Nat×Nat) (v:Value)=>∃t,v=.int (p.1:Int) t) pl ks→∀x∈(pl.map fun p:Nat×Nat=>(p.2:Int)).zip ks,∃l q:Nat,∃t,x=((q:Int),Value.int (l:Int) t):=by
  intro pl ks h
  induction h with
  |nil=>intro x hx;simp at hx
  |cons a _ ih=>
   intro x hx
   rcases List.mem_cons.mp hx with rfl|hx
   ·obtain⟨t,rfl⟩:=a
    exact⟨_,_,t,rfl⟩
   ·exact ih x hx
 let g:Int×Value→Nat×Nat:=fun x=>(match x.2 with| .int l _=>l.toNat|_=>0,x.1.toNat)
 have gz:∀(pl:K7.PL) (ks:List Value),Paired (fun(p:Nat×Nat) (v:Value)=>∃t,v=.int (p.1:Int) t) pl ks→((pl.map fun p:Nat×Nat=>(p.2:Int)).zip ks).map g=pl:=by
  intro pl ks h
  induction h with
  |nil=>rfl
  |cons a _ ih=>
   obtain⟨t,rfl⟩:=a
   rw[List.map_cons,List.zip_cons_cons,List.map_cons,ih]
   simp[g]
 have all:∀x∈ps,∃l q:Nat,∃t,x=((q:Int),Value.int (l:Int) t):=fun x hx=>key pl ks hk x (hp.mem_iff.mp hx)
 refine⟨ps.map g,by rw[←gz pl ks hk];exact hp.map g,?_,?_⟩
 ·rw[List.pairwise_map]
  refine(List.Pairwise.and_mem.mp hs).imp fun{a b} ⟨ha,hb,h⟩=> ?_
  obtain⟨l,q,t,rfl⟩:=all a ha
  obtain⟨l',q',t',rfl⟩:=all b hb
  have h':(q:Int)≤(q':Int):=by simpa using h
  show(q:Int).toNat≤(q':Int).toNat
  omega
 ·clear hp hs gz
  induction ps with
  |nil=>exact .nil
  |cons x r ih=>
   obtain⟨l,q,t,rfl⟩:=all x List.mem_cons_self
   refine .cons ⟨t,?_⟩ (ih fun y hy=>all y (List.mem_cons_of_mem _ hy))
   show Value.int (l:Int) t=Value.int (((l:Int).toNat:Nat):Int) t
   simp
theorem KskEnd.grow{h₀ h h':Heap}{L:Addr}{m:Str→Option Value}{need:List (Addr×Obj)}{k:Int}{s:Shared}{kt:Tok}{tk tk':Nat}(F:Fr h₀ L h m)(N:News h₀ L h need)(kp:∀b o,h.get? b=some o→h'.get? b=some o):
  KskEnd h₀ L m need k {s with heap:=h,toks:=tk} (.int k kt) {s with heap:=h',toks:=tk'}:=
 ⟨h',tk',kt,rfl,rfl,F.kept kp,N.grown kp⟩
section
variable{X:Cx}{pins:List (Addr×Obj)}{σ:St}{H:Hp}{s:Shared}
theorem sorted_lam{f c' cc pd:Addr}{p1 p2 p3 p4:Pos}{pm ctv:Value}{pl:K7.PL}{Q:Value→Shared→Prop}(I:Inv X (pins++[(f,lamFn p1 p2 p3 p4 cc pm c' ctv)]) σ H s)(hh:X.A.handled=none)(hroom:X.A.depth<recursionLimit)(hcd:s.heap.CodeRec (.ref c') lamQ)
  (hcn:∃x,X.env.cells.lookup x=some cc) (hc:s.heap.IsCell cc (some (.ref pd))) (hd:H pd=some (.dK (plK pl))) (hl:pl.length<64)
  (q:∀p (out:K7.PL) s',H p=none→out.Perm pl→out.Pairwise (fun(a b:Nat×Nat)=>a.2≤b.2)→Inv X pins σ (upd H p (.lst (out.map fun x:Nat×Nat=>V.int (x.1:Int)))) s'→Q (.ref p) s'):
  wpAny (model X.prog X.w) X.A (call (.builtin "sorted") [.ref pd] [(Str.ofString "key", .ref f)]) Q X.xe s:=by
 obtain⟨hz,nsys,vs,rel,dd⟩:=dk_of I.hok hd
 obtain⟨o,es,ep,g,gc,gd,gk,gp,gn⟩:=id dd
 have hlen1:(plK pl).length=pl.length:=by simp[plK]
 have hlv:vs.length=pl.length:=by rw[←KV.length rel,hlen1]
 have hle:es.size=pl.length:=by rw[←Array.length_toList,gp.length,hlv]
 have nd:(K7.keys pl).Nodup:=nd_plK (by rw[KV.keys rel];exact gn)
 have hks:Paired (fun(p:Nat×Nat) (v:Value)=>∃t,v=.int (p.1:Int) t) pl (es.toList.map (·.key)):=by
  have main:∀(pl:K7.PL) (vs:List (Key×Value)) (es:List DictEntry),KV (plK pl) vs→Pairs (mixKind X.prog X.w) es vs→Paired (fun(p:Nat×Nat) (v:Value)=>∃t,v=.int (p.1:Int) t) pl (es.map (·.key)):=by
   intro pl
   induction pl with
   |nil=>intro vs es r p;cases r;cases p;exact .nil
   |cons x t ih=>
    intro vs es r p
    cases r with
    |cons a b=>
     cases p with
     |cons c d e=>
      refine .cons ?_ (ih _ _ b e)
      rcases keyIs_shape c with⟨i,t,h1,h2⟩|⟨y,t,h1,h2⟩
      ·refine⟨t,?_⟩
       have h3:(Sum.inl ((x.1:Nat):Int):Key)=Sum.inl i:=a.1.trans h1
       cases h3
       exact h2
      ·have h3:(Sum.inl ((x.1:Nat):Int):Key)=Sum.inr y:=a.1.trans h1
       cases h3
  exact main pl vs es.toList rel gp
 refine call_function_entry_kw kind_sorted plain_sorted entry_sorted (ksk_s1 _ _) (show wpAny _ _ (Builtin.«sorted» _) _ _ _ from ?_)
 unfold Builtin.«sorted»
 refine wpAny_bind (m:=checkCount "sorted" 1 1 _) (wpAny_pure (wpAny_bind (kdu_collect (A:=X.A.in1) (rawD_src nsys) hh ⟨o,g,gc,gd⟩ (by rw[hle,←hlen1];exact hz) fun h' tk acc hk hacc=> ?_)))
 rw[items_keys hacc]
 generalize hkv:es.toList.map (·.key)=ks at hks
 have hkl:ks.length=pl.length:=(Paired.length hks).symm
 have hlz:ks.length≤sizeLine:=by rw[hkl,←hlen1];exact hz
 refine wpAny_bind (wpAny_newList ?_ hlz)
 have hoL:(h'.push (seqObj "list" ks.toArray 0)).get? h'.objs.size=some (seqObj "list" ks.toArray 0):=Heap.get?_push_size _ rfl
 have I1:Inv X (pins++[(f,lamFn p1 p2 p3 p4 cc pm c' ctv)]) σ H {s with heap:=h',toks:=tk}:=I.kept (t':=tk) hk
 have hcd1:=hcd.keeps hk
 have hc1:=isCell_keeps hc hk
 have dd1:=dictOf_keeps dd hk
 clear hcd hc dd g gd gc gp gn hacc I
 have haL:h'.objs.size≠X.env.locals:=Nat.ne_of_gt I1.lt
 have ha0:X.base.get? h'.objs.size=none:=by
  cases e:X.base.get? h'.objs.size with
  |none=>rfl
  |some ob=>exact absurd (Heap.lt_size (I1.bk _ _ e)) (Nat.lt_irrefl _)
 have hHa:H h'.objs.size=none:=I1.hok.fresh (Nat.le_refl _)
 obtain⟨m,hm,_⟩:=id I1.loc
 have kp:∀b ob,h'.get? b=some ob→(h'.push (seqObj "list" ks.toArray 0)).get? b=some ob:=fun b ob e=>Heap.get?_push_of_some _ e
 have F:Fr X.base X.env.locals (h'.push (seqObj "list" ks.toArray 0)) m:=⟨Heap.Ns.push hm _,fun b ob e=>kp b ob (I1.bk b ob e),Nat.le_trans I1.ok.bsz I1.ok.above⟩
 have N:News X.base X.env.locals (h'.push (seqObj "list" ks.toArray 0)) (rest X.base (h'.push (seqObj "list" ks.toArray 0)) X.env.locals h'.objs.size):=fun p hp=>news_all p (List.mem_filter.mp hp).1
 have stay:∀(h2:Heap) (m2:Str→Option Value) (own:List (Addr×Obj)),Fr X.base X.env.locals h2 m2→News X.base X.env.locals h2 (rest X.base (h'.push (seqObj "list" ks.toArray 0)) X.env.locals h'.objs.size++own)→∀b ob,b≠X.env.locals→h'.get? b=some ob→h2.get? b=some ob:=fun h2 m2 own F2 N2 b ob hb e=>
  kept_of_news (d:=h'.objs.size) (fun b o e=>F.keep b o e) F2 (fun p hp=>N2 p (List.mem_append_left _ hp)) b ob hb (Nat.ne_of_lt (Heap.lt_size e)) (kp b ob e)
 refine wpAny_bind (wpAny_holding (wpAny_call_entry_kw slot_list_sort ⟨_,hoL,rfl⟩ entry_list_sort (show wpAny _ _ (Builtin.«list.sort» _) _ _ _ from ?_) (ksk_l1 _ _)))
 rw[ksk_t1]
 obtain⟨hof,hHf,hfL,hff,_⟩:=I1.pin (f,lamFn p1 p2 p3 p4 cc pm c' ctv) (List.mem_append_right _ (List.mem_append_right _ (List.mem_singleton.mpr rfl)))
 have hpL:pd≠X.env.locals:=fun z=>by have:=I1.free;rw[←z,hd]at this;cases this
 obtain⟨xc,hxc⟩:=hcn
 have hcL:cc≠X.env.locals:=I1.cne xc cc hxc
 refine ksk_sort (kz:=pl.map fun p:Nat×Nat=>(p.2:Int)) (s:={s with heap:=h'.push (seqObj "list" ks.toArray 0),toks:=tk}) F N hoL haL ha0 rest_ne (by rw[List.length_map,hkl]) (by rw[hkl];exact hl) (fun i v k hv hkk h2 tk2 own F2 N2=> ?_) fun h3 tk3 out c F3 N3 ko=>⟨_,rfl,wpAny_pure ⟨_,rfl,?_⟩⟩
 ·have st:=stay h2 m own F2 N2
  obtain⟨p,hpi,t,rfl⟩:∃p,pl[i]? =some p∧∃t,v=Value.int ((p.1:Nat):Int) t:=by
   have:∀(pl:K7.PL) (ks:List Value) (i:Nat),Paired (fun(p:Nat×Nat) (v:Value)=>∃t,v=.int (p.1:Int) t) pl ks→ks[i]? =some v→∃p,pl[i]? =some p∧∃t,v=Value.int ((p.1:Nat):Int) t:=by
    intro pl ks i h
    induction h generalizing i with
    |nil=>intro e;simp at e
    |cons a _ ih=>
     intro e
     cases i with
     |zero=>simp at e;subst e;exact⟨_,rfl,a⟩
     |succ i=>obtain⟨p,h1,h2⟩:=ih i (by simpa using e);exact⟨p,by simpa using h1,h2⟩
   exact this pl ks i hks hv
  rw[List.getElem?_map,hpi]at hkk
  have hkk:((p.2:Nat):Int)=k:=Option.some.inj hkk
  subst hkk
  have hlk:K7.lk pl p.1=some p.2:=K7.mem_lk nd (List.mem_of_getElem? hpi)
  have hval:=KV.val rel (Sum.inl ((p.1:Nat):Int))
  rw[val_pl,hlk]at hval
  obtain⟨u,hu,ru⟩:=RelO.some_of hval
  obtain⟨kt,rfl⟩:=ru
  have dd2:h2.DictOf (mixKind X.prog X.w) pd vs:=let⟨o,es,ep,e,r⟩:=dd1;⟨o,es,ep,st _ _ hpL e,r⟩
  have hc2:h2.IsCell cc (some (.ref pd)):=let⟨o,e,r⟩:=hc1;⟨o,st _ _ hcL e,r⟩
  have hcd2:h2.CodeRec (.ref c') lamQ:=by
   obtain⟨c3,oc,vs3,t3,e1,e2,e3,e4⟩:=hcd1
   refine⟨c3,oc,vs3,t3,e1,st _ _ (fun z=> ?_) e2,e3,e4⟩
   obtain⟨o,es,ep,ho,hd',_⟩:=hm
   rw[z,ho]at e2;cases e2;rw[hd']at e3;cases e3
  refine wpAny_mono (lam_call (s:={s with heap:=h2,toks:=tk2}) hroom (I1.ok.mod.nolimit.keeps F2.keep) (st _ _ hfL hof) hcd2 hc2 dd2 hu) (fun v2 s2 ⟨h4,tk4,e1,e2,e3⟩=> ?_) fun _ _ z=>z
  subst e1 e2
  exact KskEnd.grow F2 N2 e3
 ·have st:=stay h3 m [(h'.objs.size,seqObj "list" out c)] F3 (fun p hp=>N3 p ((List.mem_append.mp hp).elim (fun z=>List.mem_cons_of_mem _ z) fun z=>by rw[List.mem_singleton.mp z];exact List.mem_cons_self))
  obtain⟨outp,o1,o2,o3⟩:=srt_out hks ko
  have ho3:h3.get? h'.objs.size=some (seqObj "list" out c):=(N3 _ List.mem_cons_self).1
  refine q h'.objs.size outp _ hHa o1 o2 ?_
  have hok:HOk X.prog X.w (upd H h'.objs.size (.lst (outp.map fun x:Nat×Nat=>V.int (x.1:Int)))) h3:=fun b u e=>by
   by_cases hb:b=h'.objs.size
   ·subst hb
    rw[upd_same]at e;cases e
    refine⟨?_,out.toList,c,o3,by rw[Array.toArray_toList];exact ho3⟩
    rw[List.length_map,o1.length_eq,←hlen1];exact hz
   ·rw[upd_ne hb]at e
    refine(I1.hok b u e).stay (fun b2 u2 hb2 e2=>st b2 u2 ?_ e2) (fun b2 e2=>by rw[upd_ne (ne_of_none e2 hHa)];exact e2) fun b2 xs e2=>by rw[upd_ne (ne_of_none e2 hHa)];exact e2
    rcases hb2 with rfl|hb2
    ·intro z;rw[z,I1.free]at e;cases e
    ·intro z;rw[z,I1.free]at hb2;cases hb2
  have I3:Inv X (pins++[(f,lamFn p1 p2 p3 p4 cc pm c' ctv)]) σ (upd H h'.objs.size (.lst (outp.map fun x:Nat×Nat=>V.int (x.1:Int)))) {s with heap:=h3,toks:=tk3}:=by
   refine L2.Inv.step (s:={s with heap:=h',toks:=tk}) (h':=h3) (t':=tk3) (g':=s.gens) (d':=s.drawn) (ch:=[]) I1 (fun _ z=>nomatch z) (fun b ob h1 _ _ e _=>st b ob h1 e) (fun b ob h1 _ _ e _=>⟨ob.slots,st b ob h1 e⟩) (fun b ob _ e n=>by rw[upd_ne (Nat.ne_of_lt (Heap.lt_size e))];exact n) (fun b ob _ e=> ?_)
    (fun b xs e=>by rw[upd_ne (ne_of_none e hHa)];exact e) (fun b ob u e=>by rw[upd_ne (ne_of_none e hHa)];exact e) (fun b e=>by rw[upd_ne (ne_of_none e hHa)];exact e) (fun m' hm'=> ?_) hok I1.bare
   ·by_cases hb:b=X.env.locals
    ·obtain⟨oL,_,_,hoL2,_⟩:=F3.ns
     rw[hb];exact⟨oL,hoL2⟩
    ·exact⟨ob,st b ob hb e⟩
   ·have:m=m':=funext fun x=>Heap.Ns.agree hm hm' x
    rw[←this];exact F3.ns
  exact I3.pins_of fun p hp=>I3.pin p (List.mem_append_right _ (List.mem_append_left _ hp))
end
end L3
namespace L3
open PySem PySem.Spec L2
open PyProof.Rows hiding St
noncomputable abbrev le2:Nat×Nat→Nat×Nat→Bool:=fun a b=>decide (a.2≤b.2)
noncomputable def allO{α β:Type}(f:α→Option β):List α→Option (List β)
 | []=>some []
 |x::r=>match f x with
  |some y=>(match allO f r with
   |some ys=>some (y::ys)
   |none=>none)
  |none=>none
theorem allO_get{α β:Type}{f:α→Option β}:∀{l:List α} {ys:List β},allO f l=some ys→l.length=ys.length∧∀(i:Nat) y,ys[i]? =some y→∃x,l[i]? =some x∧f x=some y
 | [],ys,h=>by cases h;exact⟨rfl,fun i y e=>by simp at e⟩
 |x::r,ys,h=>by
  unfold allO at h
  split at h
  ·rename_i y hy
   split at h
   ·rename_i zs hz
    cases h
    obtain⟨h1,h2⟩:=allO_get hz
    refine⟨by simp[h1],fun i y' e=> ?_⟩
    cases i with
    |zero=>simp at e;subst e;exact⟨x,rfl,hy⟩
    |succ i=>obtain⟨x',a,b⟩:=h2 i y' (by simpa using e);exact⟨x',by simpa using a,b⟩
   ·cases h
  ·cases h
theorem allO_map{α β γ:Type}{f:α→Option β}{g:γ→α}{k:γ→β}:∀{l:List γ},(∀x∈l,f (g x)=some (k x))→allO f (l.map g)=some (l.map k)
 | [],_=>rfl
 |x::r,h=>by
  rw[List.map_cons]
  unfold allO
  rw[h x List.mem_cons_self,allO_map fun y hy=>h y (List.mem_cons_of_mem _ hy)]
  rfl
noncomputable def nat9:D→Option Nat
 | .int i=>if 0≤i∧i<9 then some i.toNat else none
 |_=>none
noncomputable def row9:D→Option (List Nat)
 | .lst es=>allO nat9 es
 |_=>none
noncomputable def cho9:D→Option (List (List Nat))
 | .lst es=>allO row9 es
 |_=>none
noncomputable def F_unlike_letters:List D→R D
 | [d]=>(match cho9 d with
  |some cs=>if cs.length≤63 then(match K7.unlF cs 10 (List.range cs.length) []with
   |some pl=>if(K7.vals pl).Nodup then .ok (.lst ((pl.mergeSort le2).map fun p:Nat×Nat=>D.int (p.1:Int)))else .bad
   |none=>.bad)else .bad
  |none=>.bad)
 |_=>.bad
theorem unl_noex(ds:List D)(c:Nat):F_unlike_letters ds≠ .ex c:=by
 intro h
 unfold F_unlike_letters at h
 (repeat' split at h)<;>cases h
section
variable{K:PySem.W.Frag}{G:Addr→Prop}{H:Hp}
theorem nat9_int{d:D}{n:Nat}(h:nat9 d=some n):d=.int (n:Int)∧n<9:=by
 unfold nat9 at h
 split at h
 ·split at h
  ·rename_i i hi
   cases h
   obtain⟨h1,h2⟩:=hi
   exact⟨by congr 1;omega,by omega⟩
  ·cases h
 ·cases h
theorem row9_sq{d:D}{v:V}{ls:List Nat}(r:Rep K G H d v)(h:row9 d=some ls):(∀l∈ls,l<9)∧∃a,v=.ref a∧SqL K H a (ls.map fun l:Nat=>V.int (l:Int)):=by
 unfold row9 at h
 split at h
 ·rename_i es
  obtain⟨a,xs,rfl,s,rl⟩:=r.lst_of
  obtain⟨h1,h2⟩:=allO_get h
  refine⟨fun l hl=> ?_,a,rfl,?_⟩
  ·obtain⟨i,hi⟩:=List.getElem?_of_mem hl
   obtain⟨x,_,hx⟩:=h2 i l hi
   exact(nat9_int hx).2
  ·have e:xs=ls.map fun l:Nat=>V.int (l:Int):=by
    apply List.ext_getElem?
    intro i
    rw[List.getElem?_map]
    cases hi:ls[i]? with
    |none=>
     have:=List.getElem?_eq_none_iff.mp hi
     rw[List.getElem?_eq_none_iff.mpr (by rw[rl.length];omega)];rfl
    |some l=>
     obtain⟨x,hx,hx2⟩:=h2 i l hi
     obtain⟨y,hy,ry⟩:=rl.get hx
     rw[(nat9_int hx2).1]at ry
     rw[hy,ry.int_of];rfl
   rw[←e];exact s.sq
 ·cases h
theorem cho9_ch{d:D}{v:V}{cs:List (List Nat)}(r:Rep K G H d v)(h:cho9 d=some cs):(∀ls∈cs,∀l∈ls,l<9)∧ChO K H v cs:=by
 unfold cho9 at h
 split at h
 ·rename_i es
  obtain⟨a,xs,rfl,s,rl⟩:=r.lst_of
  obtain⟨h1,h2⟩:=allO_get h
  refine⟨fun ls hl=> ?_,a,xs,rfl,s.sq,by rw[rl.length,h1],fun i ls hi=> ?_⟩
  ·obtain⟨i,hi⟩:=List.getElem?_of_mem hl
   obtain⟨x,hx,hx2⟩:=h2 i ls hi
   obtain⟨y,hy,ry⟩:=rl.get hx
   exact(row9_sq ry hx2).1
  ·obtain⟨x,hx,hx2⟩:=h2 i ls hi
   obtain⟨y,hy,ry⟩:=rl.get hx
   obtain⟨_,b,rfl,hb⟩:=row9_sq ry hx2
   exact⟨b,hy,hb⟩
 ·cases h
theorem rep_nats:∀(ls:List Nat),RepL K G H (ls.map fun l:Nat=>D.int (l:Int)) (ls.map fun l:Nat=>V.int (l:Int))
 | []=>RepL.nil
 |l::r=>RepL.cons Rep.int (rep_nats r)
end
theorem srt_eq{pl out:K7.PL}(h1:out.Perm pl)(h2:out.Pairwise fun(a b:Nat×Nat)=>a.2≤b.2)(nd:(K7.vals pl).Nodup):out=pl.mergeSort le2:=by
 have p2:=List.mergeSort_perm pl le2
 have s2:(pl.mergeSort le2).Pairwise fun a b=>a.2≤b.2:=(List.pairwise_mergeSort (le:=le2) (fun a b c h1 h2=>by simp only[decide_eq_true_eq]at *;omega) (fun a b=>by simp only[Bool.or_eq_true,decide_eq_true_eq];omega) pl).imp fun{a b} h=>by simpa using h
 refine List.Perm.eq_of_pairwise (le:=fun(a b:Nat×Nat)=>a.2≤b.2) (fun a b ha hb h3 h4=> ?_) h2 s2 (h1.trans p2.symm)
 have ha':=h1.mem_iff.mp ha
 have hb':=p2.mem_iff.mp hb
 obtain⟨l,q⟩:=a
 obtain⟨l',q'⟩:=b
 have e:q=q':=Nat.le_antisymm h3 h4
 subst e
 rw[K7.val_inj nd ha' hb']
noncomputable def codeOk(K:PySem.W.Frag)(P:Addr):Value→Bool
 | .ref c=>PySem.W.codeHdIn K c P
 |_=>false
theorem codeOk_of{K:PySem.W.Frag}{P:Addr}{v:Value}(h:codeOk K P v=true):∃c,v=.ref c∧PySem.W.codeHdIn K c P=true:=by
 unfold codeOk at h
 split at h
 ·exact⟨_,rfl,h⟩
 ·cases h
noncomputable def okLam(K:PySem.W.Frag)(f P:Addr):Bool:=match K.lookup f with
 |some ⟨_,_, .func fd,_⟩=>codeOk K P fd.code
 |_=>false
theorem tabIn_of{K:PySem.W.Frag}{x:Str}{f c P:Addr}{oc:Value}{od:Option Addr}{fd:FuncData}{osl:Array (Option Value)}(h1:PySem.W.nsIn K mainGlobals x=some (some (.ref f)))(h2:K.lookup f=some ⟨oc,od, .func fd,osl⟩)(h3:fd.code=.ref c)(h4:PySem.W.codeHdIn K c P=true):PySem.W.tabIn K x=some (c,P):=by
 unfold PySem.W.codeHdIn at h4
 split at h4
 ·rename_i vs _ hk
  simp only[Bool.and_eq_true]at h4
  obtain⟨⟨⟨⟨⟨e1,_⟩,_⟩,_⟩,_⟩,_⟩:=h4
  split at e1
  ·rename_i P' h11
   have hP:P'=P:=beq_iff_eq.mp e1
   subst hP
   unfold PySem.W.tabIn
   rw[h1]
   simp only[h2,h3,hk,h11]
  ·cases e1
 ·cases h4
theorem lam_tab{K:PySem.W.Frag}{x:Str}{f P:Addr}{oc:Value}{od:Option Addr}{fd:FuncData}{osl:Array (Option Value)}(h1:PySem.W.nsIn K mainGlobals x=some (some (.ref f)))(h2:K.lookup f=some ⟨oc,od, .func fd,osl⟩)(h3:okLam K f P=true):∃ct,PySem.W.tabIn K x=some (ct,P)∧PySem.W.codeHdIn K ct P=true:=by
 unfold okLam at h3
 rw[h2]at h3
 obtain⟨c,e,hc⟩:=codeOk_of h3
 exact⟨c,tabIn_of h1 h2 e hc,hc⟩
noncomputable def tSrt(i:Nat):TE:=fun σ H Q=>∃(pa:Addr) (pl:K7.PL),σ[i]? =some (some (.ref pa))∧H pa=some (.dK (plK pl))∧pl.length<64∧
 ∀(H':Hp) (p:Addr) (out:K7.PL),Same H H'→H' p=none→out.Perm pl→out.Pairwise (fun(a b:Nat×Nat)=>a.2≤b.2)→Q (.ref p) (upd H' p (.lst (out.map fun x:Nat×Nat=>V.int (x.1:Int))))
section
variable{X:Cx}
theorem pe_srt{i:Nat}{c P cc:Addr}{p q p1 p2 p3 p4 pos pos' kp:Pos}(hh:X.A.handled=none)(hroom:X.A.depth<recursionLimit)(hm:X.mg "sorted"=none)(bm:BMain X.mg X.base)(C:PySem.W.codeHdIn X.K c P=true)(hcode:X.env.code=.ref c)(htab:TabOf X.K P)
  (hN:X.N[i]? =some "places") (hv:Vis X.env.scope "places") (hk:X.env.kindOf "places"=some .cell) (hcc:X.env.cells.lookup ("places":Str)=some cc) (hcl:closureFor lamScope X.env=pure [((Str.ofString "places":Str),cc)]) (hq:X.env.qual++"<lambda>"=lamQ)
  (hg:Gl X "sorted":=by rfl):
  PE X (.Call (.Name "sorted" p) [.Name "places" q] [⟨some "key", .Lambda (lamArgs p1) (lamBody p2 p3 p4) lamScope pos',kp⟩] pos) (tSrt i):=by
 intro pins s σ H Q I ⟨pa,pl,e,hpa,hl,qq⟩
 refine wpAny_Call_Name_kw (ld_blt I hg hm boot_sorted ?_ (by decide) (by decide))
 refine callWith_kw (thn ((pa_cons (pe_var hN hv) pa_nil rfl:PA X [.Name "places" q] _) pos pins s σ H (fun vs H1=>vs=[V.ref pa]∧H1=H) I ⟨_,e,rfl,rfl⟩) fun us s1 ⟨vs,H1,I1,r,e1,e2⟩=> ?_) rfl rfl rfl rfl
 subst e1 e2
 obtain⟨u,rfl,ru⟩:∃u,us=[u]∧RelV (.ref pa) u:=by
  cases r with
  |cons a b=>cases b;exact⟨_,rfl,a⟩
 obtain rfl:u=Value.ref pa:=ru
 have hT:H1 P=some .tbl:=I1.base.tbls P (I1.ok.tab P htab)
 refine kws_cons (thn (lam_make I1 bm (PySem.W.codeHd_of_K I1.mod.kin C) hcode hT hq hcl) fun v s2 ⟨f,H2,c',pm,ctv,ev,I2,sm,hcd⟩=>kws_nil ?_)
 subst ev
 obtain⟨m,hns,hloc⟩:=id I2.loc
 obtain⟨u,ru,lk⟩:=hloc i "places" (.ref pa) hN e hv
 obtain rfl:u=Value.ref pa:=ru
 have hcell:s2.heap.IsCell cc (some (.ref pa)):=by
  rcases lk with⟨k1,_⟩|⟨_,c0,k2,k3⟩
  ·rw[hk]at k1;cases k1
  ·rw[hcc]at k2;cases k2;exact k3
 exact sorted_lam I2 hh hroom hcd ⟨_,hcc⟩ hcell (sm _ _ hpa) hl fun p2 out s3 h1 h2 h3 I3=>⟨.ref p2,_,I3,rfl,qq H2 p2 out sm h1 h2 h3⟩
noncomputable def tUb(X:Cx):TS:=fun E σ H=>∃(cs:List (List Nat)) (v:V) (plF:K7.PL),σ[0]? =some (some v)∧σ.length=3∧ChO X.K H v cs∧(∀ls∈cs,∀l∈ls,l<9)∧cs.length≤63∧K7.unlF cs 10 (List.range cs.length) []=some plF∧
 ∀(H':Hp) (p:Addr) (out:K7.PL),Same H H'→H' p=none→out.Perm plF→out.Pairwise (fun(a b:Nat×Nat)=>a.2≤b.2)→E.rt (.ref p) (upd H' p (.lst (out.map fun x:Nat×Nat=>V.int (x.1:Int))))
theorem ChO.same{K:PySem.W.Frag}{H H':Hp}{v:V}{cs:List (List Nat)}(h:ChO K H v cs)(e:Same H H'):ChO K H' v cs:=by
 have sq:∀{a:Addr} {xs:List V},SqL K H a xs→SqL K H' a xs:=fun{a xs} h=>by
  rcases h with(h|⟨o,h⟩)|h
  ·exact .inl (.inl (e _ _ h))
  ·exact .inl (.inr ⟨o,e _ _ h⟩)
  ·exact .inr h
 obtain⟨c,rs,e1,s,l,f⟩:=h
 exact⟨c,rs,e1,sq s,l,fun i ls q=>let⟨r,e1,e2⟩:=f i ls q;⟨r,e1,sq e2⟩⟩
theorem e_len{i:Nat}{e:Expr}{p pos:Pos}(hm:X.mg "len"=none)(ha:PE X e (tVar i))(hg:Gl X "len":=by rfl)(he:starEach [e] X.env=(false,eval e X.env)::starEach [] X.env:=by rfl)(hpl:(backTo pos (starEach [] X.env)).any (·.1)=false:=by rfl):
  PE X (.Call (.Name "len" p) [e] [] pos) (fun σ H Q=>∃v a xs,σ[i]? =some (some v)∧v=.ref a∧SqL X.K H a xs∧Q (.int (xs.length:Int)) H):=
 (pe_callB call_len_seq hg hm boot_len (pa_cons ha pa_nil he) (by decide) (by decide) he hpl).imp fun σ H Q ⟨v,a,xs,e,ev,hs,q⟩=>⟨v,e,a,xs,by rw[ev], .inl hs,q⟩
theorem unl_body{as1:Stmt}{tg it ec vr:Expr}{p1 p2 p3:Pos}(hx:PassesOwn (model X.prog X.w) X.A X.env X.xe)(hcalm:X.calm=true)
  (h1:PS X as1 (tAsg tDNewK (gName 2))) (hi:PI X tg it (iRng1 (tCons (fun σ H Q=>∃v a xs,σ[0]? =some (some v)∧v=.ref a∧SqL X.K H a xs∧Q (.int (xs.length:Int)) H) tNil))) (hg:PG X tg (gName 1))
  (he:PE X ec (fun σ H Q=>tCons (tVar 0) (tCons (tVar 1) (tCons (tVar 2) (tCons tDNewK tNil))) σ H fun vs H1=>spG X.K 9 10 vs H1 Q fun _ _ _=>False)) (hv:PE X vr (tSrt 2))
  (hs:∀x,foldedSetIterable it X.env x=pure x) (hsw:swapsWith ec none p1.line X.env=pure false):
  PSs X [as1, .For tg it [.Expr ec p1] [] p2, .Return (some vr) p3] (tUb X):=
 (pss_cons h1 (pss_cons (ps_for hx hcalm hi hg (pss_one (ps_expr he hsw)) hs) (pss_one (ps_ret hv)))).imp fun E σ H ⟨cs,v,plF,e0,hlen,hch,hlt,hcl,hun,q⟩=>by
  intro pa hpa
  have sm0:Same H (upd H pa (.dK [])):=same_new hpa _
  obtain⟨a,rs,rfl,sa,rl,rf⟩:=id (hch.same sm0)
  have g0:(σ.set 2 (some (V.ref pa)))[0]? =some (some (.ref a)):=by rw[List.getElem?_set_ne (by decide)];exact e0
  have g2:(σ.set 2 (some (V.ref pa)))[2]? =some (some (.ref pa)):=List.getElem?_set_self (by omega)
  have gl3:(σ.set 2 (some (V.ref pa))).length=3:=by simpa using hlen
  show tSeq _ _ _ (σ.set 2 (some (V.ref pa))) (upd H pa (.dK []))
  have hp0:(upd H pa (.dK [])) pa=some (.dK (plK [])):=upd_same
  generalize upd H pa (.dK [])=H0 at *
  generalize σ.set 2 (some (V.ref pa))=σ0 at *
  refine⟨_,a,rs,g0,rfl,sa,_,rfl,by omega,by rw[rl];omega,?_⟩
  have hj:((rs.length:Int)).toNat=cs.length:=by rw[rl];simp
  rw[hj]
  refine⟨fun i m σ1 H1=>i≤cs.length∧m=cs.length - i∧∃pl1,K7.unlF cs 10 (List.range' i (cs.length - i)) pl1=some plF∧K7.Sm 9 pl1∧Same H H1∧ChO X.K H1 (.ref a) cs∧H1 pa=some (.dK (plK pl1))∧σ1[0]? =some (some (.ref a))∧σ1[2]? =some (some (.ref pa))∧σ1.length=3,
   ⟨_,Nat.zero_le _,rfl,[],by rw[←List.range_eq_range'];exact hun,K7.Sm.nil 9,sm0,hch.same sm0,hp0,g0,g2,gl3⟩,?_⟩
  rintro i m σ1 H1 ⟨hi',rfl,pl1,hu1,sm1,sH,ch1,ep1,f0,f2,fl⟩
  by_cases hl:i<cs.length
  ·refine .inr ⟨hl,fun σ2 H2=>i+1≤cs.length∧∃pl1,K7.unlF cs 10 (List.range' (i+1) (cs.length - (i+1))) pl1=some plF∧K7.Sm 9 pl1∧Same H H2∧ChO X.K H2 (.ref a) cs∧H2 pa=some (.dK (plK pl1))∧σ2[0]? =some (some (.ref a))∧σ2[2]? =some (some (.ref pa))∧σ2.length=3,
    fun σ2 H2 ⟨a1,a2⟩=>⟨cs.length - (i+1),by omega,a1,rfl,a2⟩,fun x H2 ⟨eh,ex⟩=> ?_⟩
   subst eh
   subst ex
   have hr:List.range' i (cs.length - i)=i::List.range' (i+1) (cs.length - (i+1)):=by
    have:cs.length - i=(cs.length - (i+1))+1:=by omega
    rw[this];rfl
   rw[hr]at hu1
   unfold K7.unlF at hu1
   dsimp only[gName]
   have k0:(σ1.set 1 (some (V.int (0+(i:Int)))))[0]? =some (some (.ref a)):=by rw[List.getElem?_set_ne (by decide)];exact f0
   have k1:(σ1.set 1 (some (V.int (0+(i:Int)))))[1]? =some (some (.int (i:Int))):=by rw[List.getElem?_set_self (by omega)];simp
   have k2:(σ1.set 1 (some (V.int (0+(i:Int)))))[2]? =some (some (.ref pa)):=by rw[List.getElem?_set_ne (by decide)];exact f2
   have k3:(σ1.set 1 (some (V.int (0+(i:Int))))).length=3:=by simpa using fl
   generalize σ1.set 1 (some (V.int (0+(i:Int))))=σ2 at k0 k1 k2 k3
   cases eg:K7.gl cs 10 i pl1 []with
   |none=>rw[eg]at hu1;cases hu1
   |some r=>
    obtain⟨b,pl2,ak2⟩:=r
    rw[eg]at hu1
    obtain⟨sm2,as2⟩:=K7.gl_small hlt 10 i pl1 [] sm1 ⟨List.nodup_nil,fun l h=>by cases h⟩ b pl2 ak2 eg
    refine⟨_,k0,_,k1,_,k2,fun qa hqa=> ?_⟩
    have hne:pa≠qa:=ne_of_none ep1 hqa
    have smq:Same H2 (upd H2 qa (.dK [])):=same_new hqa _
    refine⟨cs, .ref a,i,pa,qa,pl1,[],b,pl2,ak2,rfl,ch1.same smq,hlt,by rw[upd_ne hne];exact ep1,upd_same,hne,sm1,⟨List.nodup_nil,fun l h=>by cases h⟩,eg,fun H3 b3 ep3 eq3=>⟨hl,pl2,hu1,sm2,fun c o hc=> ?_,?_,ep3,k0,k2,k3⟩⟩
    ·have hc2:=smq _ _ (sH _ _ hc)
     exact b3 c o hc2 (ne_of_none hc hpa) (fun z=>by subst z;have:=sH _ _ hc;rw[hqa]at this;cases this)
    ·exact(ch1.same smq).but b3 (by rw[upd_ne hne];exact ep1) (k2:=[]) upd_same
  ·have hie:i=cs.length:=by omega
   subst hie
   rw[Nat.sub_self]at hu1
   have hu1:some pl1=some plF:=hu1
   cases hu1
   refine .inl ⟨Nat.le_refl _,pa,plF,f2,ep1,Nat.lt_of_le_of_lt sm1.len (by decide),fun H2 p out s2 hp ho hs=>q H2 p out (sH.trans s2) hp ho hs⟩
end
section
variable{P:Program}{w:World}{K:PySem.W.Frag}{mg:Str→Option Value}{base:Heap}
theorem unl_fn{x qual:Str}{st:Stmt}{f Pt:Addr}{fd:FuncData}{N ps:List Str}{k:Nat}(F:Fun K x qual st f fd)(S:FnScope N ps (defScope st))(hn:ps.length=1)(hN:N.length=3)(hL:okLam K f Pt=true)
  (hb:∀(cdv:Value) (c:Addr) (A:Around) (outer:List Env) (s:Shared) (H:Hp) (E:XK),cdv=.ref c→PySem.W.codeHdIn K c Pt=true→Room k (A.deeper (envOfC qual (defScope st) s.heap.objs.size f cdv))→PSs (cxOf (CXR P w) P w K mg base N qual (defScope st) f cdv A outer s H E) (defBody st) (tUb (cxOf (CXR P w) P w K mg base N qual (defScope st) f cdv A outer s H E))):
  FnOk P w K mg base (CXR P w) (k+1) f fd ps (spD K F_unlike_letters):=by
 obtain⟨oc,od,kV,doc,pm,an,cdv,ct,osl,rfl,lk,hcd⟩:=F.ex
 obtain⟨c,hc,hC⟩:∃c,cdv=.ref c∧PySem.W.codeHdIn K c Pt=true:=by
  unfold okLam at hL
  rw[lk]at hL
  exact codeOk_of hL
 have one:∀(vs:List V) (H:Hp) (Q:VK) (E:XK),spD K F_unlike_letters vs H Q E→∃(G:Addr→Prop) (d:D) (v:V) (cs:List (List Nat)) (pl:K7.PL),vs=[v]∧Free G H∧Rep K G H d v∧cho9 d=some cs∧cs.length≤63∧K7.unlF cs 10 (List.range cs.length) []=some pl∧(K7.vals pl).Nodup∧
   ∀v H',Same H H'→Rep K G H' (.lst ((pl.mergeSort le2).map fun p:Nat×Nat=>D.int (p.1:Int))) v→Q v H':=by
  intro vs H Q E ⟨G,ds,hG,r,e⟩
  split at e
  ·rename_i d' hd
   unfold F_unlike_letters at hd
   split at hd
   ·rename_i d
    obtain⟨v,rfl,rv⟩:=one_of r
    split at hd
    ·rename_i cs hcs
     split at hd
     ·rename_i hl
      split at hd
      ·rename_i pl hpl
       split at hd
       ·rename_i hnd
        cases hd
        exact⟨G,d,v,cs,pl,rfl,hG,rv,hcs,hl,hpl,hnd,e⟩
       ·cases hd
      ·cases hd
     ·cases hd
    ·cases hd
   ·cases hd
  ·rename_i c' hd
   exact absurd hd (unl_noex _ _)
  ·exact e.elim
 refine fn_of lk hcd S (fun vs H Q E h=> ?_) fun A outer s H vs Q E hr h=> ?_
 ·obtain⟨G,d,v,cs,pl,rfl,_⟩:=one vs H Q E h
  rw[hn];rfl
 ·obtain⟨G,d,v,cs,pl,rfl,hG,rv,hcs,hl,hpl,hnd,q⟩:=one vs H Q E h
  obtain⟨hlt,hch⟩:=cho9_ch rv hcs
  refine⟨_,hb cdv c A outer s H E hc hC hr,cs,v,pl,rfl,by simp[L2.start,hN],hch,hlt,hl,hpl,fun H' p out sm hp ho hs=> ?_⟩
  refine q _ _ (sm.trans (same_new hp _)) ?_
  have e:=srt_eq ho hs hnd
  subst e
  refine Rep.lst upd_same (hG p (sm.free hp)) ?_
  have:=rep_nats (K:=K) (G:=G) (H:=upd H' p (.lst ((pl.mergeSort le2).map fun x:Nat×Nat=>V.int (x.1:Int)))) ((pl.mergeSort le2).map (·.1))
  rw[List.map_map,List.map_map]at this
  exact this
end
end L3
namespace L3
open PySem PySem.Spec L2
open PyProof.Rows hiding St
theorem law_call7{P:Program}{w:World}{K:PySem.W.Frag}{mg mb:Str→Option Value}{CX:CXT}{k:Nat}{fa a Pt ct:Addr}{fd:FuncData}{x:Str}{sp:Sp}{s₁:Shared}{vs:List Value}{ns:List Int}
  (KX:K.In s₁.heap) (hP:s₁.heap.get? Pt=some (PySem.W.tabObj #[])) (hK0:PySem.W.noTabs K=true) (ht:PySem.W.tabIn K "unlike_letters"=some (ct,Pt)) (hC:PySem.W.codeHdIn K ct Pt=true) (hbm:BMain mg s₁.heap)
  (hns:s₁.heap.Ns mainGlobals mg) (hb:s₁.heap.Ns builtinsNs mb) (hbb:∀x:Str,x≠"__name__"→mb x=bootBuiltins x) (hlim:s₁.heap.NoLimit) (hg:s₁.gens= #[])
  (ha:s₁.heap.get? a=some {cls:=.type "list",data:=.seq vs.toArray}) (hi:IntsAre vs ns) (hl:ns.length≤sizeLine) (hr:Room k callerA)
  (F:∀base:Heap,K.In base→base.Ns mainGlobals mg→BMain mg base→FnOk P w K mg base CX k fa fd [x] sp) (hbind:∀(s:Shared) (u:Value),BindsTo s fd ⟨[u],[]⟩ [(x,u)])
  (hsp:∀H:Hp,SqL K H a (ns.map V.int)→sp [.ref a] H (fun v _=>v=.bl true) fun _ _ _=>False)
  (hCX:∀H e s',CX [] H s₁ (fun _ _ _=>False) e s'→False):
  codeAny (model P w) callerA (.call (.ref fa) ⟨[.ref a],[]⟩) (fun r s'=>r=.ok (.ret (.bool true))∧OldK s₁.heap s'.heap∧s'.os=s₁.os∧AllBare s'.gens) s₁:=by
 have rv:=vals_ints hi
 have lenV:=hi.length
 have hKP:K.lookup Pt=none:=by
  cases e:K.lookup Pt with
  |none=>rfl
  |some o=>
   have h1:=KX Pt o e
   rw[hP]at h1
   cases h1
   have h2:=List.all_eq_true.mp hK0 _ (PySem.W.mem_of_lookupK e)
   exact absurd (show false=true from h2) Bool.false_ne_true
 have hCd:=PySem.W.codeHd_of_K KX hC
 have core:∀H0:Hp,H0 Pt=none→(∀b,H0 b=none∨∃o xs,H0 b=some (.frz o (.lst xs)))→SqL K H0 a (ns.map V.int)→HOk P w H0 s₁.heap→(∀b,H0 b≠none→b=a)→(H0 a≠none→K.lookup a=none)→
   codeAny (model P w) callerA (.call (.ref fa) ⟨[.ref a],[]⟩) (fun r s'=>r=.ok (.ret (.bool true))∧OldK s₁.heap s'.heap∧s'.os=s₁.os∧AllBare s'.gens) s₁:=by
  intro H0 hP0 hO0 hS0 hok0 hA0 hKa
  have sm0:Same H0 (upd H0 Pt .tbl):=same_new hP0 _
  have hok:HOk P w (upd H0 Pt .tbl) s₁.heap:=fun b o e=>by
   by_cases hb:b=Pt
   ·subst hb
    rw[upd_same]at e;cases e
    exact⟨#[],hP,trivial,fun pos v q=>by cases q⟩
   ·rw[upd_ne hb]at e
    exact(hok0 b o e).stay (fun _ _ _ q=>q) (fun c q=>sm0 _ _ q) fun c xs q=>sm0 _ _ q
  have hS:SqL K (upd H0 Pt .tbl) a (ns.map V.int):=by
   rcases hS0 with(h|⟨o,h⟩)|h
   ·exact .inl (.inl (sm0 _ _ h))
   ·exact .inl (.inr ⟨o,sm0 _ _ h⟩)
   ·exact .inr h
  have hT:(upd H0 Pt .tbl) Pt=some .tbl:=upd_same
  have hA:∀b,(upd H0 Pt .tbl) b≠none→b=a∨b=Pt:=fun b z=>by
   by_cases hb:b=Pt
   ·exact .inr hb
   ·rw[upd_ne hb]at z;exact .inl (hA0 b z)
  have hO:∀b,(upd H0 Pt .tbl) b=none∨b=Pt∨∃o xs,(upd H0 Pt .tbl) b=some (.frz o (.lst xs)):=fun b=>by
   by_cases hb:b=Pt
   ·exact .inr (.inl hb)
   ·rw[upd_ne hb]
    rcases hO0 b with z|z
    ·exact .inl z
    ·exact .inr (.inr z)
  have hKa':(upd H0 Pt .tbl) a≠none→a≠Pt→K.lookup a=none:=fun z y=>hKa (by rw[upd_ne y]at z;exact z)
  generalize upd H0 Pt .tbl=H at *
  have base_of:∀{b:Addr} {o:Obj},s₁.heap.get? b=some o→H b=none→(hidT s₁.heap H).get? b=some o:=fun e n=>hidT_get e n
  have free:∀{b:Addr} {o:Obj},s₁.heap.get? b=some o→b≠Pt→(b=a→K.lookup a≠none∨o.cls≠ .type "list")→H b=none:=fun{b o} e h1 h2=>by
   cases q:H b with
   |none=>rfl
   |some u=>
    rcases hA b (by rw[q];simp)with e'|e'
    ·subst e'
     rcases h2 rfl with z|z
     ·exact absurd (hKa' (by rw[q];simp) h1) z
     ·rw[ha]at e;cases e;exact absurd rfl z
    ·exact absurd e' h1
  have noA:∀{b:Addr} {o:Obj} {es:Array DictEntry} {ep:Nat},s₁.heap.get? b=some o→o.data=.dict es ep→H b=none:=fun{b o es ep} e d=>by
   cases q:H b with
   |none=>rfl
   |some u=>
    rcases hA b (by rw[q];simp)with e'|e'
    ·subst e'
     rw[ha]at e;cases e
     have d':Data.seq vs.toArray _=Data.dict es ep:=d
     cases d'
    ·subst e'
     rw[hP]at e;cases e
     have d':Data.fields #[]=Data.dict es ep:=d
     cases d'
  have nsK:∀{b:Addr} {m:Str→Option Value},s₁.heap.Ns b m→(hidT s₁.heap H).Ns b m:=fun{b m} ⟨o,es,ep,e,d,r⟩=>⟨o,es,ep,base_of e (noA e d),d,r⟩
  have hKb:K.In (hidT s₁.heap H):=fun b o e=>base_of (KX b o e) (free (KX b o e) (fun z=>by rw[z,hKP]at e;cases e) fun z=>.inl (by rw[←z,e];simp))
  have hM:Mod K mg (hidT s₁.heap H):=⟨hKb,nsK hns,⟨mb,nsK hb,hbb⟩,let⟨mc,h1,h2⟩:=hlim;⟨mc,nsK h1,h2⟩⟩
  have hB:BMain mg (hidT s₁.heap H):=by
   obtain⟨bm,ob,b1,b2,b3,b4,b5,b6⟩:=hbm
   refine⟨bm,ob,b1,b2,base_of b3 (free b3 (fun z=> ?_) fun _=>.inr (by rw[b4];intro z;injection z with z;exact absurd z (by decide))),b4,b5,b6⟩
   rw[z,hP]at b3;cases b3;cases b4
  have e0:Env0 P w K mg (hidT s₁.heap H) callerA [] s₁ H:=⟨rfl,hM,fun b o e=>of_hidT e,Nat.le_of_eq (hidT_size _ _),trivial,fun b hb=>absurd (show b∈([]:List Addr)from hb) (by simp),hok, .of_eq hg,fun Q ⟨c,hc⟩=>by
   rw[ht]at hc;cases hc;exact hT⟩
  refine codeAny_mono ((F _ hKb (nsK hns) hB).run callerA [] s₁ H ⟨[.ref a],[]⟩ [.ref a] [.ref a] _ _ hr e0 (hbind s₁ (.ref a)) (.cons rfl .nil) (hsp H hS)) fun r s' h=> ?_
  cases r with
  |error e=>exact(hCX H e s' h).elim
  |ok fl=>
   cases fl with
   |next=>exact False.elim h
   |brk=>exact False.elim h
   |cont=>exact False.elim h
   |ret u=>
    obtain⟨v,H',os,bare,un,hok',r',q⟩:=h
    have q':v=.bl true:=q
    subst q'
    obtain rfl:u=Value.bool true:=r'
    refine⟨rfl,⟨fun b o e=> ?_,fun b o e=>un.there b o e (by simp)⟩,os,bare⟩
    by_cases hbP:b=Pt
    ·subst hbP
     obtain⟨ps,hps,_⟩:=hok' b _ (un.tbls b hT)
     rw[hP]at e;cases e
     exact .inr (.inl ⟨(hCd.tab hP).isCodeTable,rfl,#[],ps,rfl,by rw[Array.empty_append];exact hps⟩)
    ·refine .inl ?_
     cases q:H b with
     |none=>exact un.keep b o e q (by intro z;exact absurd (show b∈([]:List Addr)from z) (by simp)) (by simp)
     |some u=>
      rcases hO b with z|z|⟨ob,xs,z⟩
      ·rw[q]at z;cases z
      ·exact absurd z hbP
      ·have z2:=un.frzs b ob _ z
       obtain⟨e1,_⟩:=hok b _ z
       obtain⟨e2,_⟩:=hok' b _ z2
       rw[e]at e1;cases e1
       exact e2
 have haP:a≠Pt:=fun z=>by rw[z,hP]at ha;cases ha
 cases hk:K.lookup a with
 |some o=>
  have e:=KX a o hk
  rw[ha]at e
  cases e
  exact core (fun _=>none) rfl (fun _=>.inl rfl) (.inr ⟨_,vs.toArray,_,hk,rfl,rfl,rfl,by rw[List.size_toArray,lenV];exact hl,by simpa using rv⟩) (fun b u z=>by have z':(none:Option HO)=some u:=z;cases z') (fun b z=>absurd rfl z) fun z=>absurd rfl z
 |none=>
  refine core (fun b=>if b=a then some (.frz {cls:=.type "list",data:=.seq vs.toArray} (.lst (ns.map V.int)))else none) (if_neg (Ne.symm haP)) (fun b=> ?_) (.inl (.inr ⟨{cls:=.type "list",data:=.seq vs.toArray},if_pos rfl⟩)) (fun b u z=> ?_) (fun b z=> ?_) fun _=>hk
  ·by_cases hb:b=a
   ·exact .inr ⟨_,_,if_pos hb⟩
   ·exact .inl (if_neg hb)
  ·by_cases hb:b=a
   ·have z':=(if_pos hb).symm.trans z
    cases z'
    subst hb
    exact⟨ha,by rw[List.length_map];exact hl,vs,_,rv,ha⟩
   ·have z':=(if_neg hb).symm.trans z
    cases z'
  ·by_cases hb:b=a
   ·exact hb
   ·exact absurd (if_neg hb) z
theorem walk_of7{l:PySem.W.OpenLaw}{n k:Nat}{Pt:Addr}{q:Program}{loose:List Str}{XP:(Str→Option Value)→Heap→Prop}{YP:World→Heap→Prop}{d:DefRec}{K:Params→PySem.W.Frag}{CX:World→CXT}{sp:World→Sp}{x:Str}
  (hn:l.most=some n) (hn2:n≤sizeLine) (hdf:d.params.defaults=[]) (hr:Room k callerA)
  (hY:∀(w:World) (h:Heap),YP w h→(K w.params).In h∧h.get? Pt=some (PySem.W.tabObj #[]))
  (F:∀(w:World) (mg:Str→Option Value) (fa:Addr) (h:Heap),(K w.params).In h→h.Ns mainGlobals mg→mg d.name=some (.ref fa)→
   (PySem.W.noTabs (K w.params)=true∧∃ct,PySem.W.tabIn (K w.params) "unlike_letters"=some (ct,Pt)∧PySem.W.codeHdIn (K w.params) ct Pt=true)∧∃fd:FuncData,(∀(s:Shared) (u:Value),BindsTo s fd ⟨[u],[]⟩ [(x,u)])∧
    ∀base:Heap,(K w.params).In base→base.Ns mainGlobals mg→BMain mg base→FnOk l.prog w (K w.params) mg base (CX w) k fa fd [x] (sp w))
  (hsp:∀(w:World) (H:Hp) (a:Addr) (ns:List Int),ns.length≤n→SqL (K w.params) H a (ns.map V.int)→sp w [.ref a] H (fun v _=>v=.bl true) fun _ _ _=>False)
  (hCX:∀(w:World) (H:Hp) (s:Shared) (e:Value) (s':Shared),CX w [] H s (fun _ _ _=>False) e s'→False):
  PySem.W.WalkO q loose XP YP l.row.toRowW d [] (fun f vs=>PySem.call f vs):=by
 refine Att.attach_call hn hdf fun w s₀ s₁ mg mb fa o pm cd doc a vs ns G Y ho hd hcd hmg hobj hints hlen hg=> ?_
 obtain⟨KX,hP⟩:=hY w _ Y
 obtain⟨⟨hK0,ct,ht,hC⟩,fd,hb,hF⟩:=F w mg fa _ KX G.T.g hmg
 exact law_call7 KX hP hK0 ht hC G.T.bmain G.T.g G.T.b G.T.builtins G.T.nolimit hg hobj hints (Nat.le_trans hlen hn2) hr hF hb (fun H hS=>hsp w H a ns hlen hS) fun H e s'=>hCX w H s₁ e s'
end L3
namespace L3
open PySem PySem.Spec L2
open PyProof.Rows hiding St
noncomputable abbrev M__law_cell:Tau→Fl:=
 sq (sIf (tst (bi (cmpD fun i j=>decide (i<j)) (vr 1) (ap lenD (cs (vr 0) (nl))))) (sRet (bi ixD (vr 0) (vr 1))) (sk))
 (sRet (cn (.int 0)))
noncomputable def F__law_cell:List D→R D:=fnF 2 2 M__law_cell
noncomputable abbrev M__law_first:Tau→Fl:=
 sq (sIf (andT (tst (bi eqD (vr 0) (cn (.int 5)))) (tst (bi eqD (bi modD (vr 1) (cn (.int 2))) (cn (.int 1))))) (sRet (tpl (cs (tpl (cns [0,1,2,3,4])) (cs (tpl (cns [1,0,3,4,2])) (cs (tpl (cns [2,3,4,0,1])) (cs (tpl (cns [3,4,1,2,0])) (cs (tpl (cns [4,2,0,1,3])) (nl)))))))) (sk))
 (sq (sIf (andT (tst (bi eqD (vr 0) (cn (.int 4)))) (tst (bi eqD (bi modD (vr 1) (cn (.int 2))) (cn (.int 1))))) (sRet (tpl (cs (tpl (cns [0,1,2,3])) (cs (tpl (cns [1,0,3,2])) (cs (tpl (cns [2,3,0,1])) (cs (tpl (cns [3,2,1,0])) (nl))))))) (sk))
 (sRet (ap tupD (cs (asL (cmp (apL rg1 (cs (vr 0) (nl))) 1 [0] [0] one (yes) (ap tupD (cs (asL (cmp (apL rg1 (cs (vr 1) (nl))) 1 [0,1] [0] one (yes) (bi modD (bi addD (vr 1) (vr 0)) (vr 2)))) (nl))))) (nl)))))
noncomputable def F__law_first:List D→R D:=fnF 2 2 M__law_first
noncomputable abbrev M__law_renamed:Tau→Fl:=
 sRet (ap tupD (cs (asL (cmp (srcD (vr 1)) 1 [2,3,0] [0] one (yes) (ap tupD (cs (asL (cmp (srcD (vr 1)) 1 [2,3,0] [0] one (yes) (bi ixD (vr 1) (bi ixD (bi ixD (vr 2) (vr 3)) (vr 0))))) (nl))))) (nl)))
noncomputable def F__law_renamed:List D→R D:=fnF 4 4 M__law_renamed
noncomputable abbrev M__law_mix:Tau→Fl:=
 sRet (bi modD (bi modD (bi mulD (vr 0) (cn (.int 48271))) (vr 1)) (vr 2))
noncomputable def F__law_mix:List D→R D:=fnF 3 3 M__law_mix
noncomputable abbrev M__law_twos:Tau→Fl:=
 sq (sNew 1 (lim (nl)))
 (sq (sSet 2 (ap lenD (cs (vr 0) (nl))))
 (sq (sFor (apL rg1 (cs (vr 2) (nl))) [3] one (sFor (apL rg2 (cs (bi addD (vr 3) (cn (.int 1))) (cs (vr 2) (nl)))) [4] one (sFor (apL rg1 (cs (vr 2) (nl))) [5] one (sFor (apL rg2 (cs (bi addD (vr 5) (cn (.int 1))) (cs (vr 2) (nl)))) [6] one (sIf (andT (tst (bi eqD (bi ixD (bi ixD (vr 0) (vr 3)) (vr 5)) (bi ixD (bi ixD (vr 0) (vr 4)) (vr 6)))) (tst (bi eqD (bi ixD (bi ixD (vr 0) (vr 3)) (vr 6)) (bi ixD (bi ixD (vr 0) (vr 4)) (vr 5))))) (sApp 1 (tpl (cs (vr 3) (cs (vr 4) (cs (vr 5) (cs (vr 6) (nl))))))) (sk))))))
 (sRet (vr 1))))
noncomputable def F__law_twos:List D→R D:=fnF 1 7 M__law_twos
noncomputable abbrev M__law_order:Tau→Fl:=
 sq (sSet 2 (asL (cmp (apL rg1 (cs (vr 1) (nl))) 1 [0] [0] one (yes) (tpl (cs (ap F__law_mix (cs (bi addD (bi addD (vr 1) (bi mulD (bi mulD (cn (.int 29)) (vr 0)) (vr 0))) (bi mulD (cn (.int 3)) (vr 0))) (cs (cn (.int 9973)) (cs (cn (.int 997)) (nl))))) (cs (vr 0) (nl)))))))
 (sRet (ap tupD (cs (asL (cmp (srcD (asL (apN srtD (cs (vr 2) (nl))))) 1 [] [0] one (yes) (bi ixD (vr 0) (cn (.int 1))))) (nl))))
noncomputable def F__law_order:List D→R D:=fnF 2 3 M__law_order
noncomputable abbrev M__law_switched:Tau→Fl:=
 sq (sNewN 2 (cmp (srcD (vr 0)) 1 [] [0] one (yes) (apN lisD (cs (vr 0) (nl)))))
 (sq (sFor (srcD (sli (vr 1) noP (soP (cn (.int 2))))) [3] one (sq (sSetF 4 (bi ixD (bi ixD (vr 2) (vr 3)) (bi ixD (vr 1) (cn (.int 2)))))
 (sq (sPutN 2 (vr 3) (bi ixD (vr 1) (cn (.int 2))) (bi ixD (bi ixD (vr 2) (vr 3)) (bi ixD (vr 1) (cn (.int 3)))))
 (sPutN 2 (vr 3) (bi ixD (vr 1) (cn (.int 3))) (vr 4)))))
 (sRet (ap tupD (cs (asL (cmp (srcD (vr 2)) 1 [] [0] one (yes) (ap tupD (cs (vr 0) (nl))))) (nl)))))
noncomputable def F__law_switched:List D→R D:=fnF 2 5 M__law_switched
noncomputable abbrev M__law_sized:Tau→Fl:=
 sq (sSet 3 (ap F__law_cell (cs (vr 0) (cs (vr 1) (nl)))))
 (sq (sSet 4 (ap F__law_first (cs (vr 2) (cs (bi divD (vr 3) (cn (.int 7))) (nl)))))
 (sq (sFor (apL rg1 (cs (ap F__law_mix (cs (vr 3) (cs (cn (.int 9949)) (cs (cn (.int 4)) (nl))))) (nl))) [5] one (sq (sSet 6 (ap F__law_twos (cs (vr 4) (nl))))
 (sIf (tst (bi neD (vr 6) (asL (lim (nl))))) (sSet 4 (ap F__law_switched (cs (vr 4) (cs (bi ixD (vr 6) (ap F__law_mix (cs (bi addD (ap F__law_cell (cs (vr 0) (cs (bi addD (vr 1) (cn (.int 1))) (nl)))) (bi mulD (cn (.int 31)) (vr 5))) (cs (cn (.int 9941)) (cs (ap lenD (cs (vr 6) (nl))) (nl)))))) (nl))))) (sk))))
 (sq (sSet 7 (asL (cmp (apL rg1 (cs (cn (.int 3)) (nl))) 1 [0,1,2] [0] one (yes) (ap F__law_order (cs (bi addD (ap F__law_cell (cs (vr 1) (cs (bi addD (vr 2) (cn (.int 1))) (nl)))) (bi mulD (cn (.int 101)) (vr 0))) (cs (vr 3) (nl)))))))
 (sRet (ap F__law_renamed (cs (vr 4) (cs (bi ixD (vr 7) (cn (.int 0))) (cs (bi ixD (vr 7) (cn (.int 1))) (cs (bi ixD (vr 7) (cn (.int 2))) (nl))))))))))
noncomputable def F__law_sized:List D→R D:=fnF 3 8 M__law_sized
noncomputable abbrev M_is_number_below:Tau→Fl:=
 sq (sIf (orT (tst (un (isiD .bool) (vr 1))) (notT (tst (un (isiD .int) (vr 1))))) (sRet (cn (.bl false))) (sk))
 (sRet (chn (cmpD fun i j=>decide (i≤j)) (cmpD fun i j=>decide (i<j)) (cn (.int 0)) (vr 1) (vr 0)))
noncomputable def F_is_number_below:List D→R D:=fnF 2 2 M_is_number_below
noncomputable abbrev M_check_many:Tau→Fl:=
 sIf (orT (notT (tst (ap F_is_number_below (cs (bi addD (cn (.int 9)) (cn (.int 1))) (cs (vr 0) (nl)))))) (tst (bi eqD (vr 0) (cn (.int 0))))) (sRaise 6 (cn (.str "this is no size from 1 to 9"))) (sk)
noncomputable def F_check_many:List D→R D:=fnF 1 1 M_check_many
noncomputable abbrev M_is_part_of_order:Tau→Fl:=
 sq (sIf (notT (tst (un (isiD .tuple) (vr 1)))) (sRet (cn (.bl false))) (sk))
 (sq (sIf (notT (tst (ap allD (cs (asL (cmp (srcD (vr 1)) 1 [0] [0] one (yes) (ap F_is_number_below (cs (vr 1) (cs (vr 0) (nl)))))) (nl))))) (sRet (cn (.bl false))) (sk))
 (sRet (bi eqD (un lenSetD (vr 1)) (ap lenD (cs (vr 1) (nl))))))
noncomputable def F_is_part_of_order:List D→R D:=fnF 2 2 M_is_part_of_order
noncomputable abbrev M_column_of:Tau→Fl:=
 sRet (ap tupD (cs (asL (cmp (srcD (vr 0)) 1 [1] [0] one (yes) (bi ixD (vr 0) (vr 1)))) (nl)))
noncomputable def F_column_of:List D→R D:=fnF 2 2 M_column_of
noncomputable abbrev M_columns_of:Tau→Fl:=
 sRet (ap tupD (cs (asL (cmp (apL rg1 (cs (ap lenD (cs (bi ixD (vr 0) (cn (.int 0))) (nl))) (nl))) 1 [0] [0] one (yes) (ap F_column_of (cs (vr 1) (cs (vr 0) (nl)))))) (nl)))
noncomputable def F_columns_of:List D→R D:=fnF 1 1 M_columns_of
noncomputable abbrev M_is_block:Tau→Fl:=
 sq (sIf (orT (notT (tst (un (isiD .tuple) (vr 1)))) (notT (tst (chn (cmpD fun i j=>decide (i≤j)) (cmpD fun i j=>decide (i≤j)) (cn (.int 1)) (ap lenD (cs (vr 1) (nl))) (vr 0))))) (sRet (cn (.bl false))) (sk))
 (sq (sIf (notT (tst (ap allD (cs (asL (cmp (srcD (vr 1)) 1 [0] [0] one (yes) (ap F_is_part_of_order (cs (vr 1) (cs (vr 0) (nl)))))) (nl))))) (sRet (cn (.bl false))) (sk))
 (sq (sSet 2 (ap lenD (cs (bi ixD (vr 1) (cn (.int 0))) (nl))))
 (sq (sIf (orT (tst (bi eqD (vr 2) (cn (.int 0)))) (notT (tst (ap allD (cs (asL (cmp (srcD (vr 1)) 1 [2] [0] one (yes) (bi eqD (ap lenD (cs (vr 0) (nl))) (vr 1)))) (nl)))))) (sRet (cn (.bl false))) (sk))
 (sRet (ap allD (cs (asL (cmp (srcD (ap F_columns_of (cs (vr 1) (nl)))) 1 [0] [0] one (yes) (ap F_is_part_of_order (cs (vr 1) (cs (vr 0) (nl)))))) (nl)))))))
noncomputable def F_is_block:List D→R D:=fnF 2 3 M_is_block
noncomputable abbrev M_check_block:Tau→Fl:=
 sq (sDrop (ap F_check_many (cs (vr 0) (nl))))
 (sIf (notT (tst (ap F_is_block (cs (vr 0) (cs (vr 1) (nl)))))) (sRaise 4 (cn (.str "this is no block for the size"))) (sk))
noncomputable def F_check_block:List D→R D:=fnF 2 2 M_check_block
noncomputable abbrev M_times_in:Tau→Fl:=
 sRet (ap sumD (cs (asL (cmp (srcD (vr 0)) 1 [1] [0] one (yes) (bn countD (vr 0) (vr 1)))) (nl)))
noncomputable def F_times_in:List D→R D:=fnF 2 2 M_times_in
noncomputable abbrev M_least_times:Tau→Fl:=
 sRet (bi subD (bi addD (ap lenD (cs (vr 1) (nl))) (ap lenD (cs (bi ixD (vr 1) (cn (.int 0))) (nl)))) (vr 0))
noncomputable def F_least_times:List D→R D:=fnF 2 2 M_least_times
noncomputable abbrev M_scarce:Tau→Fl:=
 sq (sDrop (ap F_check_block (cs (vr 0) (cs (vr 1) (nl)))))
 (sRet (asL (cmp (apL rg1 (cs (vr 0) (nl))) 1 [1,0] [0] one (tst (bi (cmpD fun i j=>decide (i<j)) (ap F_times_in (cs (vr 1) (cs (vr 0) (nl)))) (ap F_least_times (cs (vr 2) (cs (vr 1) (nl)))))) (vr 0))))
noncomputable def F_scarce:List D→R D:=fnF 2 2 M_scarce
noncomputable abbrev M_letters_not_in:Tau→Fl:=
 sRet (asL (cmp (apL rg1 (cs (vr 0) (nl))) 1 [1] [0] one (tst (bi ninD (vr 0) (vr 1))) (vr 0)))
noncomputable def F_letters_not_in:List D→R D:=fnF 2 2 M_letters_not_in
noncomputable abbrev M_next_column:Tau→Fl:=
 sq (sSet 2 (ap F_least_times (cs (vr 0) (cs (vr 1) (nl)))))
 (sq (sSet 3 (asL (cmp (apL rg1 (cs (vr 0) (nl))) 1 [1,2] [0] one (tst (bi (cmpD fun i j=>decide (j<i)) (ap F_times_in (cs (vr 1) (cs (vr 0) (nl)))) (vr 2))) (vr 0))))
 (sq (sSet 4 (bi addD (asL (cmp (srcD (vr 1)) 1 [0] [0] one (yes) (ap F_letters_not_in (cs (vr 1) (cs (vr 0) (nl)))))) (asL (repl (cs (vr 3) (nl)) (bi subD (vr 0) (ap lenD (cs (vr 1) (nl))))))))
 (sRet (sli (ap F_unlike_letters (cs (vr 4) (nl))) noP (soP (ap lenD (cs (vr 1) (nl))))))))
noncomputable def F_next_column:List D→R D:=fnF 2 5 M_next_column
noncomputable abbrev M_widened:Tau→Fl:=
 sq (sWhl 10 (tst (bi (cmpD fun i j=>decide (i<j)) (ap lenD (cs (bi ixD (vr 1) (cn (.int 0))) (nl))) (vr 0))) (sSet 1 (ap tupD (cs (asL (cmp (apL zipD (cs (vr 1) (cs (ap F_next_column (cs (vr 0) (cs (vr 1) (nl)))) (nl)))) 2 [] [0,1] (tupN 2) (yes) (bi addD (vr 0) (tpl (cs (vr 1) (nl)))))) (nl)))))
 (sRet (vr 1))
noncomputable def F_widened:List D→R D:=fnF 2 2 M_widened
noncomputable abbrev M_filled:Tau→Fl:=
 sq (sIf (tst (ap F_scarce (cs (vr 0) (cs (vr 1) (nl))))) (sRet (cn .non)) (sk))
 (sq (sSet 2 (ap F_widened (cs (vr 0) (cs (vr 1) (nl)))))
 (sRet (ap F_columns_of (cs (ap F_widened (cs (vr 0) (cs (ap F_columns_of (cs (vr 2) (nl))) (nl)))) (nl)))))
noncomputable def F_filled:List D→R D:=fnF 2 3 M_filled
noncomputable abbrev M__law_block:Tau→Fl:=
 sq (sSet 2 (bi addD (cn (.int 1)) (ap F__law_mix (cs (ap F__law_cell (cs (vr 0) (cs (cn (.int 2)) (nl)))) (cs (cn (.int 9923)) (cs (vr 1) (nl)))))))
 (sq (sSet 3 (bi addD (cn (.int 1)) (ap F__law_mix (cs (ap F__law_cell (cs (vr 0) (cs (cn (.int 3)) (nl)))) (cs (cn (.int 9907)) (cs (vr 1) (nl)))))))
 (sq (sIf (tst (bi eqD (bi modD (ap F__law_cell (cs (vr 0) (cs (cn (.int 0)) (nl)))) (cn (.int 2))) (cn (.int 0)))) (sq (sSet 4 (ap F__law_sized (cs (vr 0) (cs (cn (.int 2)) (cs (vr 1) (nl))))))
 (sRet (ap tupD (cs (asL (cmp (srcD (sliT (vr 4) noP (soP (vr 2)))) 1 [3] [0] one (yes) (sliT (vr 0) noP (soP (vr 1))))) (nl))))) (sk))
 (sq (sNew 5 (lim (nl)))
 (sq (sFor (apL rg1 (cs (vr 2) (nl))) [6] one (sq (sNew 7 (lim (nl)))
 (sq (sFor (apL rg1 (cs (vr 3) (nl))) [8] one (sq (sCmpV 9 (cmp (srcD (vr 5)) 1 [8] [0] one (yes) (bi ixD (vr 0) (vr 1))))
 (sq (sCmpV 10 (cmp (apL rg1 (cs (vr 1) (nl))) 1 [7,9] [0] one (tst (bi ninD (vr 0) (bi addD (vr 1) (vr 2)))) (vr 0)))
 (sq (sIf (tst (bi eqD (vr 10) (asL (lim (nl))))) (sRet (orW (ap tupD (cs (vr 5) (nl))) (tpl (cs (tpl (cs (cn (.int 0)) (nl))) (nl))))) (sk))
 (sAppF 7 (bi ixD (vr 10) (ap F__law_mix (cs (bi addD (bi addD (ap F__law_cell (cs (vr 0) (cs (cn (.int 4)) (nl)))) (bi mulD (bi mulD (cn (.int 37)) (vr 6)) (vr 6))) (bi mulD (cn (.int 11)) (vr 8))) (cs (cn (.int 9901)) (cs (ap lenD (cs (vr 10) (nl))) (nl)))))))))))
 (sAppF 5 (ap tupD (cs (vr 7) (nl)))))))
 (sRet (ap tupD (cs (vr 5) (nl))))))))
noncomputable def F__law_block:List D→R D:=fnF 2 11 M__law_block
noncomputable abbrev M_is_order:Tau→Fl:=
 sRet (andV (ap F_is_part_of_order (cs (vr 0) (cs (vr 1) (nl)))) (bi eqD (ap lenD (cs (vr 1) (nl))) (vr 0)))
noncomputable def F_is_order:List D→R D:=fnF 2 2 M_is_order
noncomputable abbrev M_is_square:Tau→Fl:=
 sq (sIf (orT (notT (tst (un (isiD .tuple) (vr 0)))) (notT (tst (chn (cmpD fun i j=>decide (i≤j)) (cmpD fun i j=>decide (i≤j)) (cn (.int 1)) (ap lenD (cs (vr 0) (nl))) (cn (.int 9)))))) (sRet (cn (.bl false))) (sk))
 (sq (sSet 1 (ap lenD (cs (vr 0) (nl))))
 (sq (sIf (notT (tst (ap allD (cs (asL (cmp (srcD (vr 0)) 1 [1] [0] one (yes) (ap F_is_order (cs (vr 1) (cs (vr 0) (nl)))))) (nl))))) (sRet (cn (.bl false))) (sk))
 (sRet (ap allD (cs (asL (cmp (srcD (ap F_columns_of (cs (vr 0) (nl)))) 1 [1] [0] one (yes) (ap F_is_order (cs (vr 1) (cs (vr 0) (nl)))))) (nl))))))
noncomputable def F_is_square:List D→R D:=fnF 1 2 M_is_square
noncomputable abbrev M_checked:Tau→Fl:=
 sq (sIf (notT (tst (ap F_is_square (cs (vr 0) (nl))))) (sRaise 1 (cn (.str "this is no square of a size from 1 to 9"))) (sk))
 (sRet (vr 0))
noncomputable def F_checked:List D→R D:=fnF 1 1 M_checked
noncomputable abbrev M_over:Tau→Fl:=
 sRet (ap F_columns_of (cs (ap F_checked (cs (vr 0) (nl))) (nl)))
noncomputable def F_over:List D→R D:=fnF 1 1 M_over
noncomputable abbrev M_law:Tau→Fl:=
 sq (sSet 1 (bi addD (cn (.int 2)) (bi modD (ap F__law_cell (cs (vr 0) (cs (cn (.int 0)) (nl)))) (cn (.int 5)))))
 (sq (sSet 2 (ap F__law_sized (cs (vr 0) (cs (cn (.int 3)) (cs (vr 1) (nl))))))
 (sq (sSet 3 (bi addD (cn (.int 1)) (bi modD (ap F__law_cell (cs (vr 0) (cs (cn (.int 1)) (nl)))) (vr 1))))
 (sq (sSet 4 (bi addD (cn (.int 1)) (bi modD (ap F__law_cell (cs (vr 0) (cs (cn (.int 2)) (nl)))) (vr 1))))
 (sq (sSet 5 (ap tupD (cs (asL (cmp (srcD (sliT (vr 2) noP (soP (vr 3)))) 1 [4] [0] one (yes) (sliT (vr 0) noP (soP (vr 1))))) (nl))))
 (sq (sIf (tst (bi neD (ap F_scarce (cs (vr 1) (cs (vr 5) (nl)))) (asL (lim (nl))))) (sRet (cn (.bl false))) (sk))
 (sq (sSet 6 (ap F_filled (cs (vr 1) (cs (vr 5) (nl)))))
 (sq (sIf (orT (tst (bi neD (ap F_checked (cs (vr 6) (nl))) (vr 6))) (tst (bi neD (ap tupD (cs (asL (cmp (srcD (sliT (vr 6) noP (soP (vr 3)))) 1 [4] [0] one (yes) (sliT (vr 0) noP (soP (vr 1))))) (nl))) (vr 5)))) (sRet (cn (.bl false))) (sk))
 (sq (sSet 7 (ap tupD (cs (asL (cmp (srcD (sliT (ap F_over (cs (vr 6) (nl))) noP (soP (vr 4)))) 1 [3] [0] one (yes) (sliT (vr 0) noP (soP (vr 1))))) (nl))))
 (sq (sIf (orT (tst (un isD (ap F_filled (cs (vr 1) (cs (vr 7) (nl)))))) (tst (bi neD (ap F_filled (cs (vr 1) (cs (vr 6) (nl)))) (vr 6)))) (sRet (cn (.bl false))) (sk))
 (sq (sSet 8 (ap F__law_block (cs (vr 0) (cs (vr 1) (nl)))))
 (sq (sIf (andT (tst (bi (cmpD fun i j=>decide (i≤j)) (bi addD (ap lenD (cs (vr 8) (nl))) (ap lenD (cs (bi ixD (vr 8) (cn (.int 0))) (nl)))) (vr 1))) (tst (un isD (ap F_filled (cs (vr 1) (cs (vr 8) (nl))))))) (sRet (cn (.bl false))) (sk))
 (sq (sSet 9 (bi addD (cn (.int 1)) (bi modD (ap F__law_cell (cs (vr 0) (cs (cn (.int 1)) (nl)))) (cn (.int 4)))))
 (sq (sSet 10 (ap F__law_sized (cs (vr 0) (cs (cn (.int 5)) (cs (vr 9) (nl))))))
 (sq (sSet 11 (bi addD (vr 9) (bi modD (ap F__law_cell (cs (vr 0) (cs (cn (.int 2)) (nl)))) (cn (.int 6)))))
 (sq (sIf (tst (bi (cmpD fun i j=>decide (j<i)) (vr 11) (cn (.int 9)))) (sRet (cn (.bl true))) (sk))
 (sq (sSet 12 (ap F_filled (cs (vr 11) (cs (vr 10) (nl)))))
 (sq (sIf (tst (bi neD (un isntD (vr 12)) (orV (bi eqD (vr 11) (vr 9)) (bi (cmpD fun i j=>decide (j≤i)) (vr 11) (bi mulD (cn (.int 2)) (vr 9)))))) (sRet (cn (.bl false))) (sk))
 (sRet (orV (un isD (vr 12)) (bi eqD (ap tupD (cs (asL (cmp (srcD (sliT (vr 12) noP (soP (vr 9)))) 1 [9] [0] one (yes) (sliT (vr 0) noP (soP (vr 1))))) (nl))) (vr 10)))))))))))))))))))))
noncomputable def F_law:List D→R D:=fnF 1 13 M_law
end L3
namespace L3
open PySem L2
section
variable{α β:Type}{ρ:Rho}{τ:Tau}
@[simp] theorem z_okb(a:α)(k:α→R β):(R.ok a>>=k)=k a:=rfl
@[simp] theorem z_badb(k:α→R β):((R.bad:R α)>>=k)=R.bad:=rfl
@[simp] theorem z_exb(c:Nat)(k:α→R β):((R.ex c:R α)>>=k)=R.ex c:=rfl
@[simp] theorem z_vr(i:Nat):vr i ρ=match ρ[i]? with
 |some (some d)=>.ok d
 |_=>.bad:=rfl
@[simp] theorem z_cn(d:D):cn d ρ=.ok d:=rfl
@[simp] theorem z_bi(op:D→D→R D)(a b:Rho→R D):bi op a b ρ=(a ρ>>=fun x=>b ρ>>=fun y=>op x y):=rfl
@[simp] theorem z_un(f:D→R D)(a:Rho→R D):un f a ρ=(a ρ>>=f):=rfl
@[simp] theorem z_add(i j:Int):addD (.int i) (.int j)=.ok (.int (i+j)):=rfl
@[simp] theorem z_sub(i j:Int):subD (.int i) (.int j)=.ok (.int (i - j)):=rfl
@[simp] theorem z_cmp(p:Int→Int→Bool)(i j:Int):cmpD p (.int i) (.int j)=.ok (.bl (p i j)):=rfl
@[simp] theorem z_tst(m:Rho→R D):tst m ρ=(m ρ>>=truR):=rfl
@[simp] theorem z_andT(m n:Rho→R Bool):andT m n ρ=(m ρ>>=fun c=>if c=true then n ρ else .ok false):=rfl
@[simp] theorem z_orT(m n:Rho→R Bool):orT m n ρ=(m ρ>>=fun c=>if c=true then .ok true else n ρ):=rfl
@[simp] theorem z_notT(m:Rho→R Bool):notT m ρ=(m ρ>>=fun c=>.ok (!c)):=rfl
@[simp] theorem z_andV(m n:Rho→R D):andV m n ρ=(m ρ>>=fun d=>blR d>>=fun c=>if c=true then n ρ else .ok (.bl false)):=rfl
@[simp] theorem z_orV(m n:Rho→R D):orV m n ρ=(m ρ>>=fun d=>blR d>>=fun c=>if c=true then .ok (.bl true)else n ρ):=rfl
@[simp] theorem z_blR(b:Bool):blR (.bl b)=.ok b:=rfl
@[simp] theorem z_ifV(c:Rho→R Bool)(m n:Rho→R D):ifV c m n ρ=(c ρ>>=fun b=>if b=true then m ρ else n ρ):=rfl
@[simp] theorem z_chn(f g:D→D→R D)(ma mb mc:Rho→R D):chn f g ma mb mc ρ=(ma ρ>>=fun x=>mb ρ>>=fun y=>f x y>>=fun z=>blR z>>=fun k=>if k=true then mc ρ>>=fun w=>g y w else .ok (.bl false)):=rfl
@[simp] theorem z_nl:nl ρ=.ok []:=rfl
@[simp] theorem z_cs(m:Rho→R D)(n:Rho→R (List D)):cs m n ρ=(m ρ>>=fun d=>n ρ>>=fun ds=>.ok (d::ds)):=rfl
@[simp] theorem z_cns(ks:List Int):cns ks ρ=.ok (ks.map .int):=rfl
@[simp] theorem z_tpl(n:Rho→R (List D)):tpl n ρ=(n ρ>>=fun ds=>if ds.length≤sizeLine then .ok (.tup ds)else .bad):=rfl
@[simp] theorem z_lim(n:Rho→R (List D)):lim n ρ=(n ρ>>=fun ds=>if ds.length≤sizeLine then .ok ds else .bad):=rfl
@[simp] theorem z_asL(m:Rho→R (List D)):asL m ρ=(m ρ>>=fun ds=>.ok (.lst ds)):=rfl
@[simp] theorem z_ap(g:List D→R D)(n:Rho→R (List D)):ap g n ρ=(n ρ>>=g):=rfl
@[simp] theorem z_apN(g:List D→R (List D))(n:Rho→R (List D)):apN g n ρ=(n ρ>>=g):=rfl
@[simp] theorem z_apL(g:List D→R (List D))(n:Rho→R (List D)):apL g n ρ=(n ρ>>=g):=rfl
@[simp] theorem z_srcD(m:Rho→R D):srcD m ρ=(m ρ>>=itsR):=rfl
@[simp] theorem z_itsT(xs:List D):itsR (.tup xs)=.ok xs:=rfl
@[simp] theorem z_itsL(xs:List D):itsR (.lst xs)=.ok xs:=rfl
@[simp] theorem z_lenT(xs:List D):lenD [.tup xs]=.ok (.int xs.length):=rfl
@[simp] theorem z_lenL(xs:List D):lenD [.lst xs]=.ok (.int xs.length):=rfl
@[simp] theorem z_tupT(xs:List D):tupD [.tup xs]=.ok (.tup xs):=rfl
@[simp] theorem z_tupL(xs:List D):tupD [.lst xs]=.ok (.tup xs):=rfl
@[simp] theorem z_lisT(xs:List D):lisD [.tup xs]=.ok xs:=rfl
@[simp] theorem z_lisL(xs:List D):lisD [.lst xs]=.ok xs:=rfl
@[simp] theorem z_one(d:D):one d=.ok [d]:=rfl
@[simp] theorem z_yes:yes ρ=.ok true:=rfl
@[simp] theorem z_cmpr(src:Rho→R (List D))(k:Nat)(js is:List Nat)(f:D→R (List D))(mt:Rho→R Bool)(me:Rho→R α):cmp src k js is f mt me ρ=(src ρ>>=fun ds=>nox (mapC f (bro k js ρ) is mt me ds)):=rfl
@[simp] theorem z_truBl(b:Bool):truR (.bl b)=.ok b:=rfl
@[simp] theorem z_truL(xs:List D):truR (.lst xs)=.ok (!xs.isEmpty):=rfl
@[simp] theorem z_truT(xs:List D):truR (.tup xs)=.ok (!xs.isEmpty):=rfl
@[simp] theorem z_truN:truR .non=.ok false:=rfl
@[simp] theorem z_nox{α:Type}(a:α):nox (.ok a)=.ok a:=rfl
@[simp] theorem z_bn(op:D→D→R D)(a b:Rho→R D):bn op a b ρ=(a ρ>>=fun x=>nox (b ρ)>>=fun y=>op x y):=rfl
@[simp] theorem z_noP:noP ρ=.ok none:=rfl
@[simp] theorem z_soP(m:Rho→R D):soP m ρ=(m ρ>>=fun d=>match d with| .int i=>.ok (some i)|_=>.bad):=rfl
@[simp] theorem z_sli(m:Rho→R D)(l h:Rho→R (Option Int)):sli m l h ρ=(m ρ>>=fun d=>l ρ>>=fun lo=>h ρ>>=fun hi=>slD d lo hi):=rfl
@[simp] theorem z_setD0:setD ρ [] []=ρ:=rfl
@[simp] theorem z_setD1(i:Nat)(is:List Nat)(d:D)(ds:List D):setD ρ (i::is) (d::ds)=setD (ρ.set i (some d)) is ds:=rfl
@[simp] theorem z_bro(k:Nat)(js:List Nat):bro k js ρ=List.replicate k none++js.map fun j=>(ρ[j]?).join:=rfl
@[simp] theorem z_viewN:view []=[]:=rfl
@[simp] theorem z_view(o:Option Sl)(t:Tau):view (o::t)=o.map Sl.d::view t:=rfl
@[simp] theorem z_hideN:hide []=[]:=rfl
@[simp] theorem z_hide(o:Option Sl)(t:Tau):hide (o::t)=o.bind Sl.h::hide t:=rfl
@[simp] theorem z_dsh(d:D):Sl.d (.sh d)=d:=rfl
@[simp] theorem z_dac(d:List D):Sl.d (.ac d)=.lst d:=rfl
@[simp] theorem z_dan(d:List (List D)):Sl.d (.an d)=.lst (d.map .lst):=rfl
@[simp] theorem z_hsh(d:D):Sl.h (.sh d)=some d:=rfl
@[simp] theorem z_hac(d:List D):Sl.h (.ac d)=none:=rfl
@[simp] theorem z_han(d:List (List D)):Sl.h (.an d)=none:=rfl
@[simp] theorem z_sq(M N:Tau→Fl):sq M N τ=match M τ with
 | .nx τ'=>N τ'
 |r=>r:=rfl
@[simp] theorem z_sk:sk τ=.nx τ:=rfl
@[simp] theorem z_sno:sno τ=.bad:=rfl
@[simp] theorem z_ret(m:Rho→R D):sRet m τ=match m (view τ)with
 | .ok d=>.rt d
 | .ex c=>.ex c τ
 | .bad=>.bad:=rfl
@[simp] theorem z_set(i:Nat)(m:Rho→R D):sSet i m τ=match m (hide τ)with
 | .ok d=>.nx (τ.set i (some (.sh d)))
 | .ex c=>.ex c τ
 | .bad=>.bad:=rfl
@[simp] theorem z_setF(i:Nat)(m:Rho→R D):sSetF i m τ=match m (view τ)with
 | .ok d=>if noL d=true then .nx (τ.set i (some (.sh d)))else .bad
 | .ex c=>.ex c τ
 | .bad=>.bad:=rfl
@[simp] theorem z_new(i:Nat)(m:Rho→R (List D)):sNew i m τ=match m (hide τ)with
 | .ok ds=>.nx (τ.set i (some (.ac ds)))
 | .ex c=>.ex c τ
 | .bad=>.bad:=rfl
@[simp] theorem z_newN(i:Nat)(m:Rho→R (List (List D))):sNewN i m τ=match m (hide τ)with
 | .ok ds=>.nx (τ.set i (some (.an ds)))
 | .ex c=>.ex c τ
 | .bad=>.bad:=rfl
@[simp] theorem z_cmpV(i:Nat)(m:Rho→R (List D)):sCmpV i m τ=match m (view τ)with
 | .ok ds=>if noL.noLs ds=true then .nx (τ.set i (some (.ac ds)))else .bad
 | .ex c=>.ex c τ
 | .bad=>.bad:=rfl
@[simp] theorem z_if(c:Rho→R Bool)(M N:Tau→Fl):sIf c M N τ=match c (view τ)with
 | .ok b=>if b=true then M τ else N τ
 | .ex c=>.ex c τ
 | .bad=>.bad:=rfl
@[simp] theorem z_drop(m:Rho→R D):sDrop m τ=match m (view τ)with
 | .ok _=>.nx τ
 | .ex c=>.ex c τ
 | .bad=>.bad:=rfl
@[simp] theorem z_app(i:Nat)(m:Rho→R D):sApp i m τ=match τ[i]?,m (hide τ)with
 |some (some (.ac ds)), .ok d=>if ds.length<sizeLine then .nx (τ.set i (some (.ac (ds++[d]))))else .bad
 |some (some (.ac _)), .ex c=>.ex c τ
 |_,_=>.bad:=rfl
@[simp] theorem z_raise(c:Nat)(m:Rho→R D):sRaise c m τ=match m (view τ)with
 | .ok _=>.ex c τ
 | .ex c=>.ex c τ
 | .bad=>.bad:=rfl
@[simp] theorem z_try(cs:List Nat)(d i:Nat)(M Mh:Tau→Fl):sTry cs d i M Mh τ=match M τ with
 | .ex c τ'=>if cs.contains c=true∧subC c d=true then goes i (Mh (τ'.set i (some (.sh (.exc c)))))else .bad
 |r=>r:=rfl
@[simp] theorem z_goesR(i:Nat)(d:D):goes i (.rt d)=.rt d:=rfl
@[simp] theorem z_goesN(i:Nat)(t:Tau):goes i (.nx t)=.nx (t.set i none):=rfl
@[simp] theorem z_isiE(cs:List Nat)(d c:Nat):isiE cs d (.exc c)=if cs.contains c=true then .ok (.bl (subC c d))else .bad:=rfl
@[simp] theorem z_isiV(cs:List Nat)(c:Nat):isiV cs (.exc c)=if cs.contains c=true then .ok (.bl true)else .bad:=rfl
@[simp] theorem z_two(i j:Nat)(a b:Rho→R D):sTwo i j a b τ=match a (view τ),b (view τ)with
 | .ok d, .ok e=>if noL d=true∧noL e=true then .nx ((τ.set i (some (.sh d))).set j (some (.sh e)))else .bad
 |_,_=>.bad:=rfl
@[simp] theorem z_max(i j:Int):maxD [.int i, .int j]=.ok (.int (if i<j then j else i)):=rfl
@[simp] theorem z_neg(i:Int):negD (.int i)=.ok (.int (-i)):=rfl
@[simp] theorem z_notBl(b:Bool):notD (.bl b)=.ok (.bl (!b)):=rfl
@[simp] theorem z_appF(i:Nat)(m:Rho→R D):sAppF i m τ=match τ[i]?,m (view τ)with
 |some (some (.ac ds)), .ok d=>if ds.length<sizeLine∧noL d=true then .nx (τ.set i (some (.ac (ds++[d]))))else .bad
 |_,_=>.bad:=rfl
@[simp] theorem z_ext(i:Nat)(m:Rho→R D):sExt i m τ=match τ[i]?,m (hide τ)with
 |some (some (.ac ds)), .ok (.lst es)=>if ds.length+es.length≤sizeLine then .nx (τ.set i (some (.ac (ds++es))))else .bad
 |_,_=>.bad:=rfl
@[simp] theorem z_put(i:Nat)(m v:Rho→R D):sPut i m v τ=match τ[i]?,v (view τ),m (view τ)with
 |some (some (.ac ds)), .ok d, .ok (.int k)=>match ixN ds.length k with
  |some j=>if noL d=true then .nx (τ.set i (some (.ac (ds.set j d))))else .bad
  |none=>.bad
 |_,_,_=>.bad:=rfl
@[simp] theorem z_putN(i:Nat)(m1 m2 v:Rho→R D):sPutN i m1 m2 v τ=match τ[i]?,v (view τ),m1 (view τ),m2 (view τ)with
 |some (some (.an dss)), .ok d, .ok (.int k1), .ok (.int k2)=>match ixN dss.length k1 with
  |some j1=>match dss[j1]? with
   |some ds=>match ixN ds.length k2 with
    |some j2=>if noL d=true then .nx (τ.set i (some (.an (dss.set j1 (ds.set j2 d)))))else .bad
    |none=>.bad
   |none=>.bad
  |none=>.bad
 |_,_,_,_=>.bad:=rfl
@[simp] theorem z_for(src:Rho→R (List D))(is:List Nat)(f:D→R (List D))(B:Tau→Fl):sFor src is f B τ=match src (hide τ)with
 | .ok ds=>forL is f B ds τ
 | .ex c=>.ex c τ
 | .bad=>.bad:=rfl
@[simp] theorem z_fornil(is:List Nat)(f:D→R (List D))(B:Tau→Fl):forL is f B [] τ=.nx τ:=rfl
@[simp] theorem z_setT0:setT τ [] []=τ:=rfl
@[simp] theorem z_setT1(i:Nat)(is:List Nat)(d:D)(ds:List D):setT τ (i::is) (d::ds)=setT (τ.set i (some (.sh d))) is ds:=rfl
end
theorem fn_eq{n nl:Nat}{M:Tau→Fl}{ds:List D}{r:R D}(hl:ds.length=n)(h:(match M (ds.map (fun d=>some (.sh d))++List.replicate (nl - n) none)with
 | .rt d=>R.ok d
 | .nx _=>.ok .non
 | .ex c _=>.ex c
 |_=>.bad)=r):fnF n nl M ds=r:=by unfold fnF;rw[if_pos hl];exact h
theorem sl_of{n:Nat}(h:n≤1000000):n≤sizeLine:=Nat.le_trans h (by decide)
@[simp] theorem sl_le(n:Nat)(h:n≤1000000):(n≤sizeLine)=True:=eq_true (sl_of h)
@[simp] theorem sl_lt(n:Nat)(h:n≤1000000):(n<sizeLine)=True:=eq_true (Nat.lt_of_le_of_lt h (by decide))
theorem z_mulR(i j:Int)(h:j.natAbs≤1000000000000):mulD (.int i) (.int j)=.ok (.int (i * j)):=by
 show(if i.natAbs≤1000000000000∨j.natAbs≤1000000000000 then R.ok (D.int (i * j))else .bad)=_
 rw[if_pos (.inr h)]
theorem z_mulL(i j:Int)(h:i.natAbs≤1000000000000):mulD (.int i) (.int j)=.ok (.int (i * j)):=by
 show(if i.natAbs≤1000000000000∨j.natAbs≤1000000000000 then R.ok (D.int (i * j))else .bad)=_
 rw[if_pos (.inl h)]
theorem z_mod(i j:Int)(h:0<j):modD (.int i) (.int j)=.ok (.int (i%j)):=by
 show(if 0<j then R.ok (D.int (i%j))else .bad)=_
 rw[if_pos h]
theorem z_div(i j:Int)(h:0<j∧j.natAbs≤1000000):divD (.int i) (.int j)=.ok (.int (i / j)):=by
 show(if 0<j∧j.natAbs≤1000000 then R.ok (D.int (i / j))else .bad)=_
 rw[if_pos h]
theorem z_rg1(n:Nat)(h:n≤1000000):rg1 [.int (n:Int)]=.ok ((List.range n).map fun(i:Nat)=>D.int (i:Int)):=by
 show(if(n:Int).natAbs≤1000000 then R.ok (rngL 0 (n:Int).toNat)else .bad)=_
 rw[if_pos (by omega),Int.toNat_natCast]
 unfold rngL
 simp
theorem z_rg2(m n:Nat)(hn:n≤1000000)(hm:m≤1000000):rg2 [.int (m:Int), .int (n:Int)]=.ok ((List.range (n - m)).map fun(i:Nat)=>D.int ((m+i:Nat):Int)):=by
 show(if(m:Int).natAbs≤1000000∧(n:Int).natAbs≤1000000 then R.ok (rngL m ((n:Int) - m).toNat)else .bad)=_
 rw[if_pos (by omega)]
 unfold rngL
 have:((n:Int) - (m:Int)).toNat=n - m:=by omega
 rw[this]
 simp
@[simp] theorem dep_int(i:Int):dep (.int i)=0:=rfl
@[simp] theorem dep_bl(i:Bool):dep (.bl i)=0:=rfl
theorem z_eq{x y:D}(h:dep x≤40∧dep y≤40):eqD x y=.ok (.bl (eqB x y)):=by
 unfold eqD shal
 rw[if_pos (by rw[decide_eq_true_eq];omega)]
theorem z_ne{x y:D}(h:dep x≤40∧dep y≤40):neD x y=.ok (.bl (!eqB x y)):=by
 unfold neD shal
 rw[if_pos (by rw[decide_eq_true_eq];omega)]
@[simp] theorem eqB_int(i j:Int):eqB (.int i) (.int j)=decide (i=j):=by
 show(i == j)=_
 by_cases h:i=j
 ·simp[h]
 ·rw[beq_eq_false_iff_ne.mpr h,decide_eq_false h]
@[simp] theorem z_eqI(i j:Int):eqD (.int i) (.int j)=.ok (.bl (decide (i=j))):=by rw[z_eq ⟨by simp,by simp⟩,eqB_int]
@[simp] theorem z_neI(i j:Int):neD (.int i) (.int j)=.ok (.bl (!decide (i=j))):=by rw[z_ne ⟨by simp,by simp⟩,eqB_int]
@[simp] theorem z_isiI(T:Ty)(x:Int):isiD T (.int x)=.ok (.bl (isT T (.int x))):=rfl
@[simp] theorem z_isiB(T:Ty)(x:Bool):isiD T (.bl x)=.ok (.bl (isT T (.bl x))):=rfl
@[simp] theorem z_isiT(T:Ty)(x:List D):isiD T (.tup x)=.ok (.bl (isT T (.tup x))):=rfl
@[simp] theorem z_isiL(T:Ty)(x:List D):isiD T (.lst x)=.ok (.bl (isT T (.lst x))):=rfl
@[simp] theorem z_isiS(T:Ty)(x:Str):isiD T (.str x)=.ok (.bl (isT T (.str x))):=rfl
@[simp] theorem z_isiN(T:Ty):isiD T .non=.ok (.bl (isT T .non)):=rfl
noncomputable def rowD(n:Nat)(p:Nat→Nat):D:=.tup ((List.range n).map fun i=>.int (p i:Int))
noncomputable def sqD(n:Nat)(g:Nat→Nat→Nat):D:=.tup ((List.range n).map fun r=>rowD n (g r))
@[simp] theorem z_isiRow(T:Ty)(n:Nat)(p:Nat→Nat):isiD T (rowD n p)=.ok (.bl (isT T (rowD n p))):=rfl
@[simp] theorem z_isiSq(T:Ty)(n:Nat)(g:Nat→Nat→Nat):isiD T (sqD n g)=.ok (.bl (isT T (sqD n g))):=rfl
theorem at_nat{α:Type}(xs:List α)(i:Nat)(h:i<xs.length):atI xs (i:Int)=xs[i]? :=by
 unfold atI ixN
 rw[if_pos (by omega),if_pos (by omega),Int.toNat_natCast]
 rfl
@[simp] theorem z_row{n:Nat}{p:Nat→Nat}{i:Nat}(h:i<n):ixD (rowD n p) (.int (i:Int))=.ok (.int (p i:Int)):=by
 unfold rowD
 show(match atI ((List.range n).map fun i=>D.int (p i:Int)) (i:Int)with|some d=>R.ok d|none=>.bad)=_
 rw[at_nat _ _ (by simpa using h)]
 simp[h]
@[simp] theorem z_sqr{n:Nat}{g:Nat→Nat→Nat}{i:Nat}(h:i<n):ixD (sqD n g) (.int (i:Int))=.ok (rowD n (g i)):=by
 unfold sqD
 show(match atI ((List.range n).map fun r=>rowD n (g r)) (i:Int)with|some d=>R.ok d|none=>.bad)=_
 rw[at_nat _ _ (by simpa using h)]
 simp[h]
@[simp] theorem len_row(n:Nat)(p:Nat→Nat):lenD [rowD n p]=.ok (.int (n:Int)):=by simp[rowD]
@[simp] theorem len_sq(n:Nat)(g:Nat→Nat→Nat):lenD [sqD n g]=.ok (.int (n:Int)):=by simp[sqD]
theorem mapC_map{α β:Type}{ρ0:Rho}{me:Rho→R α}(e:β→D)(g:β→α):∀(l:List β),(∀b∈l,me (setD ρ0 [0] [e b])=.ok (g b))→mapC one ρ0 [0] yes me (l.map e)=.ok (l.map g)
 | [],_=>rfl
 |b::l,h=>by
  have h1:=h b List.mem_cons_self
  have ih:=mapC_map e g l fun c hc=>h c (List.mem_cons_of_mem _ hc)
  rw[List.map_cons,mapC]
  simp only[z_one,z_okb,z_yes,h1,ih,if_true,List.map_cons]
theorem mapC_filt{α β:Type}{ρ0:Rho}{mt:Rho→R Bool}{me:Rho→R α}(e:β→D)(p:β→Bool)(g:β→α):∀(l:List β),(∀b∈l,mt (setD ρ0 [0] [e b])=.ok (p b)∧(p b=true→me (setD ρ0 [0] [e b])=.ok (g b)))→mapC one ρ0 [0] mt me (l.map e)=.ok ((l.filter p).map g)
 | [],_=>rfl
 |b::l,h=>by
  obtain⟨h1,h2⟩:=h b List.mem_cons_self
  have ih:=mapC_filt e p g l fun c hc=>h c (List.mem_cons_of_mem _ hc)
  rw[List.map_cons,mapC]
  cases hb:p b with
  |true=>simp only[z_one,z_okb,h1,hb,h2 hb,ih,if_true,List.filter_cons_of_pos,List.map_cons]
  |false=>simp only[z_one,z_okb,h1,hb,ih,Bool.false_eq_true,if_false,not_false_eq_true,List.filter_cons_of_neg]
theorem for_inv{is:List Nat}{f:D→R (List D)}{B:Tau→Fl}(P:Nat→Tau→Prop):∀(ds:List D) (k:Nat) (τ:Tau),P k τ→(∀i d τ,ds[i]? =some d→P (k+i) τ→∃vs τ',f d=.ok vs∧B (setT τ is vs)=.nx τ'∧P (k+i+1) τ')→∃τ',forL is f B ds τ=.nx τ'∧P (k+ds.length) τ'
 | [],k,τ,h,_=>⟨τ,rfl,h⟩
 |d::ds,k,τ,h,st=>by
  obtain⟨vs,τ1,h1,h2,h3⟩:=st 0 d τ rfl h
  obtain⟨τ2,h4,h5⟩:=for_inv P ds (k+1) τ1 h3 fun i d' τ' e p=>by
   have:=st (i+1) d' τ' (by simpa using e) (by rw[show k+(i+1)=k+1+i by omega];exact p)
   obtain⟨vs,τ3,a,b,c⟩:=this
   exact⟨vs,τ3,a,b,by rw[show k+1+i+1=k+(i+1)+1 by omega];exact c⟩
  refine⟨τ2,?_,by rw[List.length_cons,show k+(ds.length+1)=k+1+ds.length by omega];exact h5⟩
  rw[forL]
  simp only[h1,h2,h4]
theorem for_rng{i:Nat}{B:Tau→Fl}(P:Nat→Tau→Prop)(n m:Nat)(τ:Tau)(h0:P 0 τ)(st:∀j τ,j<n→P j τ→∃τ',B (τ.set i (some (.sh (.int ((m+j:Nat):Int)))))=.nx τ'∧P (j+1) τ'):
  ∃τ',forL [i] one B ((List.range n).map fun(j:Nat)=>D.int ((m+j:Nat):Int)) τ=.nx τ'∧P n τ':=by
 have:=for_inv (is:=[i]) (f:=one) (B:=B) P ((List.range n).map fun(j:Nat)=>D.int ((m+j:Nat):Int)) 0 τ h0 fun j d τ e p=>by
  rw[List.getElem?_map]at e
  cases hj:(List.range n)[j]? with
  |none=>rw[hj]at e;cases e
  |some q=>
   have hlt:j<n:=by have:=(List.getElem?_eq_some_iff.mp hj).1;simpa using this
   rw[List.getElem?_range hlt]at hj
   cases hj
   rw[List.getElem?_range hlt]at e
   cases e
   obtain⟨τ',a,b⟩:=st j τ hlt (by simpa using p)
   exact⟨_,τ',rfl,a,by simpa using b⟩
 simpa using this
theorem for_rng0{i:Nat}{B:Tau→Fl}(P:Nat→Tau→Prop)(n:Nat)(τ:Tau)(h0:P 0 τ)(st:∀j τ,j<n→P j τ→∃τ',B (τ.set i (some (.sh (.int (j:Int)))))=.nx τ'∧P (j+1) τ'):
  ∃τ',forL [i] one B ((List.range n).map fun(j:Nat)=>D.int (j:Int)) τ=.nx τ'∧P n τ':=by
 have:=for_rng (i:=i) (B:=B) P n 0 τ h0 fun j τ hj p=>by
  obtain⟨τ',a,b⟩:=st j τ hj p
  exact⟨τ',by rw[Nat.zero_add];exact a,b⟩
 simpa using this
theorem for_cons{is:List Nat}{f:D→R (List D)}{B:Tau→Fl}{d:D}{ds:List D}{τ τ':Tau}{vs:List D}(h1:f d=.ok vs)(h2:B (setT τ is vs)=.nx τ'):forL is f B (d::ds) τ=forL is f B ds τ':=by
 rw[forL];simp only[h1,h2]
theorem set_rng{α:Type}(n:Nat)(f:Nat→α)(a:Nat)(x:α):((List.range n).map f).set a x=(List.range n).map fun i=>if i=a then x else f i:=by
 apply List.ext_getElem?
 intro i
 by_cases hi:i<n
 ·by_cases ha:a=i
  ·subst ha
   rw[List.getElem?_set_self (by simpa using hi),List.getElem?_map,List.getElem?_range hi]
   simp
  ·rw[List.getElem?_set_ne ha,List.getElem?_map,List.getElem?_map,List.getElem?_range hi]
   simp[Ne.symm ha]
 ·rw[List.getElem?_eq_none (by simpa using hi),List.getElem?_eq_none (by simpa using hi)]
theorem get_rng{α:Type}(n:Nat)(f:Nat→α){a:Nat}(h:a<n):((List.range n).map f)[a]? =some (f a):=by
 rw[List.getElem?_map,List.getElem?_range h];rfl
theorem ixN_nat{n i:Nat}(h:i<n):ixN n (i:Int)=some i:=by
 unfold ixN
 rw[if_pos (by omega),if_pos (by omega),Int.toNat_natCast]
theorem ix_lst(xs:List D)(i:Nat)(d:D)(h:xs[i]? =some d):ixD (.lst xs) (.int (i:Int))=.ok d:=by
 show(match atI xs (i:Int)with|some d=>R.ok d|none=>.bad)=_
 rw[at_nat _ _ (List.getElem?_eq_some_iff.mp h).1,h]
theorem ix_tup(xs:List D)(i:Nat)(d:D)(h:xs[i]? =some d):ixD (.tup xs) (.int (i:Int))=.ok d:=by
 show(match atI xs (i:Int)with|some d=>R.ok d|none=>.bad)=_
 rw[at_nat _ _ (List.getElem?_eq_some_iff.mp h).1,h]
@[simp] theorem ix_tup0(d:D)(xs:List D):ixD (.tup (d::xs)) (.int 0)=.ok d:=ix_tup _ 0 _ rfl
@[simp] theorem ix_tup1(d e:D)(xs:List D):ixD (.tup (d::e::xs)) (.int 1)=.ok e:=ix_tup _ 1 _ rfl
@[simp] theorem ix_tup2(d e f:D)(xs:List D):ixD (.tup (d::e::f::xs)) (.int 2)=.ok f:=ix_tup _ 2 _ rfl
@[simp] theorem ix_tup3(d e f g:D)(xs:List D):ixD (.tup (d::e::f::g::xs)) (.int 3)=.ok g:=ix_tup _ 3 _ rfl
@[simp] theorem ix_lst0(d:D)(xs:List D):ixD (.lst (d::xs)) (.int 0)=.ok d:=ix_lst _ 0 _ rfl
@[simp] theorem ix_lst1(d e:D)(xs:List D):ixD (.lst (d::e::xs)) (.int 1)=.ok e:=ix_lst _ 1 _ rfl
@[simp] theorem ix_lst2(d e f:D)(xs:List D):ixD (.lst (d::e::f::xs)) (.int 2)=.ok f:=ix_lst _ 2 _ rfl
@[simp] theorem noL_int(i:Int):noL (.int i)=true:=by unfold noL;rfl
theorem eqB_lnil(xs:List D):eqB (.lst xs) (.lst [])=xs.isEmpty:=by
 cases xs with
 |nil=>rfl
 |cons x r=>rfl
@[simp] theorem dep_lnil:dep (.lst [])=1:=rfl
theorem flen{α:Type}(h:Nat→List α)(k:Nat):∀n,(∀j,j<n→(h j).length≤k)→((List.range n).flatMap h).length≤n * k
 |0,_=>by simp
 |n+1,hk=>by
  have h1:=flen h k n fun j hj=>hk j (Nat.lt_succ_of_lt hj)
  have h2:=hk n (Nat.lt_succ_self n)
  have e:(List.range (n+1)).flatMap h=(List.range n).flatMap h++h n:=by rw[List.range_succ,List.flatMap_append];simp
  rw[e,List.length_append,Nat.succ_mul]
  omega
theorem for_appK{i:Nat}{B:Tau→Fl}(S:List D→Tau→Prop)(h:Nat→List D)(k L n m:Nat)(acc:List D)(τ:Tau)(hk:∀j,j<n→(h j).length≤k)(hL:acc.length≤L)(h0:S acc τ)
  (st:∀j acc τ,j<n→acc.length≤L+j * k→S acc τ→∃τ',B (τ.set i (some (.sh (.int ((m+j:Nat):Int)))))=.nx τ'∧S (acc++h j) τ'):
  ∃τ',forL [i] one B ((List.range n).map fun(j:Nat)=>D.int ((m+j:Nat):Int)) τ=.nx τ'∧S (acc++(List.range n).flatMap h) τ':=
 for_rng (fun j τ=>S (acc++(List.range j).flatMap h) τ) n m τ (by simpa using h0) fun j τ hj p=>by
  have hl:(acc++(List.range j).flatMap h).length≤L+j * k:=by
   rw[List.length_append]
   have:=flen h k j fun i hi=>hk i (Nat.lt_trans hi hj)
   omega
  obtain⟨τ',a,b⟩:=st j _ τ hj hl p
  refine⟨τ',a,?_⟩
  rw[List.range_succ,List.flatMap_append,←List.append_assoc]
  simpa using b
theorem for_appK0{i:Nat}{B:Tau→Fl}(S:List D→Tau→Prop)(h:Nat→List D)(k L n:Nat)(acc:List D)(τ:Tau)(hk:∀j,j<n→(h j).length≤k)(hL:acc.length≤L)(h0:S acc τ)
  (st:∀j acc τ,j<n→acc.length≤L+j * k→S acc τ→∃τ',B (τ.set i (some (.sh (.int (j:Int)))))=.nx τ'∧S (acc++h j) τ'):
  ∃τ',forL [i] one B ((List.range n).map fun(j:Nat)=>D.int (j:Int)) τ=.nx τ'∧S (acc++(List.range n).flatMap h) τ':=by
 have:=for_appK (i:=i) (B:=B) S h k L n 0 acc τ hk hL h0 fun j acc τ hj hl p=>by
  obtain⟨τ',a,b⟩:=st j acc τ hj hl p
  exact⟨τ',by rw[Nat.zero_add];exact a,b⟩
 simpa using this
end L3
namespace L3
open PySem L2
noncomputable def scr(xs:List Int):D:=.lst (xs.map .int)
theorem f_cell(xs:List Int)(k:Nat):F__law_cell [scr xs, .int (k:Int)]=.ok (.int (xs.getD k 0)):=by
 refine fn_eq rfl ?_
 by_cases h:k<xs.length
 ·have h':((k:Int)<(xs.length:Int)):=by omega
  have e:atI (xs.map D.int) (k:Int)=some (.int (xs.getD k 0)):=by
   rw[at_nat _ _ (by simpa using h)];simp[h]
  simp[scr,h',ixD,e]
 ·have h':¬((k:Int)<(xs.length:Int)):=by omega
  have e:xs[k]? =none:=List.getElem?_eq_none (by omega)
  simp[scr,h',e]
theorem f_mix(c p m:Int)(hp:0<p)(hm:0<m):F__law_mix [.int c, .int p, .int m]=.ok (.int (c * 48271%p%m)):=by
 refine fn_eq rfl ?_
 simp[z_mod,hp,hm,z_mulR]
structure Ord(n:Nat)(p:Nat→Nat):Prop where
 lt:∀i,i<n→p i<n
 inj:∀i j,i<n→j<n→p i=p j→i=j
theorem perm_ord{n:Nat}{l:List Nat}(h:l.Perm (List.range n)):Ord n (fun i=>l.getD i 0)∧l=(List.range n).map (fun i=>l.getD i 0):=by
 have hl:l.length=n:=by rw[h.length_eq,List.length_range]
 have nd:l.Nodup:=h.nodup_iff.mpr List.nodup_range
 refine⟨⟨fun i hi=> ?_,fun i j hi hj e=> ?_⟩,?_⟩
 ·have hm:l[i]'(by omega)∈List.range n:=h.mem_iff.mp (List.getElem_mem _)
  show l.getD i 0<n
  rw[List.getD_eq_getElem?_getD,List.getElem?_eq_getElem (by omega)]
  simpa using hm
 ·have e':l.getD i 0=l.getD j 0:=e
  rw[List.getD_eq_getElem?_getD,List.getElem?_eq_getElem (by omega),List.getD_eq_getElem?_getD,List.getElem?_eq_getElem (by omega)]at e'
  exact(List.getElem_inj nd).mp e'
 ·apply List.ext_getElem?
  intro i
  rw[List.getElem?_map]
  by_cases hi:i<n
  ·rw[List.getElem?_range hi,List.getElem?_eq_getElem (by omega)]
   simp[List.getD_eq_getElem?_getD,List.getElem?_eq_getElem (show i<l.length by omega)]
  ·rw[List.getElem?_eq_none (by omega),List.getElem?_eq_none (by simpa using hi)]
   rfl
theorem tups_pairs(m:Nat→Int):∀(l:List Nat),tupsD (l.map fun k=>D.tup [.int (m k), .int (k:Int)])=some (l.map fun k=>[m k,(k:Int)])
 | []=>rfl
 |k::l=>by
  rw[List.map_cons,tupsD,tups_pairs m l]
  simp[intsD]
theorem ints_pairs(m:Nat→Int)(k:Nat)(l:List Nat):intsD ((k::l).map fun k=>D.tup [.int (m k), .int (k:Int)])=none:=rfl
theorem srt_pairs(m:Nat→Int)(n:Nat)(hn:n<64):∃l:List Nat,l.Perm (List.range n)∧srtL ((List.range n).map fun k=>D.tup [.int (m k), .int (k:Int)])=.ok (l.map fun k=>D.tup [.int (m k), .int (k:Int)]):=by
 by_cases h0:n=0
 ·subst h0
  exact⟨[], .refl _,by simp[srtL,intsD]⟩
 have hne:intsD ((List.range n).map fun k=>D.tup [.int (m k), .int (k:Int)])=none:=by
  obtain⟨n',rfl⟩:∃n',n=n'+1:=⟨n - 1,by omega⟩
  rw[List.range_succ_eq_map]
  exact ints_pairs m 0 _
 by_cases h2:n<2
 ·refine⟨List.range n, .refl _,?_⟩
  unfold srtL
  rw[if_pos (by simpa using hn),hne]
  simp only[tups_pairs]
  rw[if_pos (by simpa using h2)]
 ·refine⟨kOrd ((List.range n).map fun k=>[m k,(k:Int)]),(kOrd_perm _).trans (by rw[List.length_map,List.length_range]),?_⟩
  unfold srtL
  rw[if_pos (by simpa using hn),hne]
  simp only[tups_pairs]
  rw[if_neg (by simpa using h2)]
  congr 1
  apply List.map_congr_left
  intro i hi
  have hlt:i<n:=by
   have:=(kOrd_perm _).mem_iff.mp hi
   simpa using this
  rw[List.getD_eq_getElem?_getD,List.getElem?_map,List.getElem?_range hlt]
  rfl
theorem f_order(c:Int)(n:Nat)(hn:n<64):∃p,Ord n p∧F__law_order [.int c, .int (n:Int)]=.ok (rowD n p):=by
 let m:Nat→Int:=fun k=>(c+29 * (k:Int) * k+3 * (k:Int)) * 48271%9973%997
 obtain⟨l,hl,hs⟩:=srt_pairs m n hn
 obtain⟨o,e⟩:=perm_ord hl
 refine⟨_,o,?_⟩
 refine fn_eq rfl ?_
 simp[z_rg1 n (by omega)]
 rw[mapC_map (fun(i:Nat)=>D.int (i:Int)) (fun k=>D.tup [.int (m k), .int (k:Int)]) (List.range n) (fun k hk=>by
  have hk':k<n:=by simpa using hk
  have b1:(k:Int).natAbs≤1000000000000:=by omega
  simp[z_mulR _ _ b1,f_mix,m])]
 simp[srtD,hs]
 rw[mapC_map (fun(k:Nat)=>D.tup [.int (m k), .int (k:Int)]) (fun k=>D.int (k:Int)) l (fun k hk=>by simp[ixD,atI,ixN])]
 simp only[rowD,z_okb,z_tupL,z_ap,z_cs,z_nl]
 congr 2
 conv=>lhs;rw[e]
 rw[List.map_map]
 rfl
structure Lat(n:Nat)(g:Nat→Nat→Nat):Prop where
 lt:∀r c,r<n→c<n→g r c<n
 row:∀r c d,r<n→c<n→d<n→g r c=g r d→c=d
 col:∀r s c,r<n→s<n→c<n→g r c=g s c→r=s
theorem lat_cyc(n:Nat)(h1:1≤n)(h9:n≤9):Lat n (fun r c=>(r+c)%n):=by
 have a:∀n,n<10→∀r,r<n→∀c,c<n→∀d,d<n→(r+c)%n=(r+d)%n→c=d:=by decide+kernel
 exact⟨fun r c _ _=>Nat.mod_lt _ h1,fun r c d hr hc hd h=>a n (Nat.lt_succ_of_le h9) r hr c hc d hd h,fun r s c hr hs hc h=>a n (Nat.lt_succ_of_le h9) c hc r hr s hs (by rw[Nat.add_comm c r,Nat.add_comm c s];exact h)⟩
noncomputable def tab(t:List (List Nat)):Nat→Nat→Nat:=fun r c=>(t.getD r []).getD c 0
noncomputable def t5:List (List Nat):=[[0,1,2,3,4],[1,0,3,4,2],[2,3,4,0,1],[3,4,1,2,0],[4,2,0,1,3]]
noncomputable def t4:List (List Nat):=[[0,1,2,3],[1,0,3,2],[2,3,0,1],[3,2,1,0]]
theorem lat_t5:Lat 5 (tab t5):=by
 refine⟨?_,?_,?_⟩
 ·have:∀r,r<5→∀c,c<5→tab t5 r c<5:=by decide
  exact fun r c hr hc=>this r hr c hc
 ·have:∀r,r<5→∀c,c<5→∀d,d<5→tab t5 r c=tab t5 r d→c=d:=by decide
  exact fun r c d hr hc hd=>this r hr c hc d hd
 ·have:∀r,r<5→∀c,c<5→∀d,d<5→tab t5 r d=tab t5 c d→r=c:=by decide
  exact fun r c d hr hc hd=>this r hr c hc d hd
theorem lat_t4:Lat 4 (tab t4):=by
 refine⟨?_,?_,?_⟩
 ·have:∀r,r<4→∀c,c<4→tab t4 r c<4:=by decide
  exact fun r c hr hc=>this r hr c hc
 ·have:∀r,r<4→∀c,c<4→∀d,d<4→tab t4 r c=tab t4 r d→c=d:=by decide
  exact fun r c d hr hc hd=>this r hr c hc d hd
 ·have:∀r,r<4→∀c,c<4→∀d,d<4→tab t4 r d=tab t4 c d→r=c:=by decide
  exact fun r c d hr hc hd=>this r hr c hc d hd
theorem f_first(n:Nat)(w:Int)(h1:1≤n)(h9:n≤9):∃g,Lat n g∧F__law_first [.int (n:Int), .int w]=.ok (sqD n g):=by
 by_cases h5:n=5∧w%2=1
 ·obtain⟨rfl,hw⟩:=h5
  refine⟨tab t5,lat_t5,fn_eq rfl ?_⟩
  simp[z_mod,hw]
  rfl
 ·by_cases h4:n=4∧w%2=1
  ·obtain⟨rfl,hw⟩:=h4
   refine⟨tab t4,lat_t4,fn_eq rfl ?_⟩
   simp[z_mod,hw]
   rfl
  ·refine⟨_,lat_cyc n h1 h9,fn_eq rfl ?_⟩
   have e5:((n:Int)=5)↔n=5:=by omega
   have e4:((n:Int)=4)↔n=4:=by omega
   have k5:(if decide ((n:Int)=5)=true then R.ok (decide (w%2=1))else R.ok false)=R.ok false:=by
    by_cases h:n=5
    ·have:¬w%2=1:=fun z=>h5 ⟨h,z⟩
     simp[this]
    ·simp[e5,h]
   have k4:(if decide ((n:Int)=4)=true then R.ok (decide (w%2=1))else R.ok false)=R.ok false:=by
    by_cases h:n=4
    ·have:¬w%2=1:=fun z=>h4 ⟨h,z⟩
     simp[this]
    ·simp[e4,h]
   simp only[List.map_cons,List.map_nil,List.append_nil,z_sq,z_if,z_view,z_viewN,z_andT,z_tst,z_bi,z_vr,z_cn,z_okb,z_eqI,z_truBl,List.getElem?_cons_zero,List.getElem?_cons_succ,Option.map_some,z_dsh,Nat.sub_self,List.replicate_zero,z_mod w 2 (by decide),k5,k4,Bool.false_eq_true,if_false,z_sk,z_ret]
   simp[z_rg1 n (by omega)]
   rw[mapC_map (fun(i:Nat)=>D.int (i:Int)) (fun r=>rowD n (fun c=>(r+c)%n)) (List.range n) (fun r hr=>by
    simp[z_rg1 n (by omega)]
    rw[mapC_map (fun(i:Nat)=>D.int (i:Int)) (fun c=>D.int (((r+c)%n:Nat):Int)) (List.range n) (fun c hc=>by
     simp[z_mod _ _ (show(0:Int)<n by omega)])]
    simp[rowD])]
   simp[sqD]
noncomputable def fourD(a b l r:Nat):D:=.tup [.int (a:Int), .int (b:Int), .int (l:Int), .int (r:Int)]
noncomputable def isTwo(g:Nat→Nat→Nat)(a b l r:Nat):Bool:=decide (g a l=g b r)&&decide (g a r=g b l)
noncomputable def twosR(g:Nat→Nat→Nat)(a b l r:Nat):List D:=if isTwo g a b l r=true then [fourD a b l r]else []
noncomputable def twosC(n:Nat)(g:Nat→Nat→Nat)(a b l:Nat):List D:=(List.range (n - (l+1))).flatMap fun i=>twosR g a b l (l+1+i)
noncomputable def twosAt(n:Nat)(g:Nat→Nat→Nat)(a b:Nat):List D:=(List.range n).flatMap fun l=>twosC n g a b l
noncomputable def twosB(n:Nat)(g:Nat→Nat→Nat)(a:Nat):List D:=(List.range (n - (a+1))).flatMap fun i=>twosAt n g a (a+1+i)
noncomputable def twosL(n:Nat)(g:Nat→Nat→Nat):List D:=(List.range n).flatMap fun a=>twosB n g a
theorem lenR(g:Nat→Nat→Nat)(a b l r:Nat):(twosR g a b l r).length≤1:=by unfold twosR;split<;>simp
theorem lenC(n:Nat)(g:Nat→Nat→Nat)(a b l:Nat)(h9:n≤9):(twosC n g a b l).length≤9:=by
 have:=flen (fun i=>twosR g a b l (l+1+i)) 1 (n - (l+1)) fun i _=>lenR ..
 unfold twosC;omega
theorem lenAt(n:Nat)(g:Nat→Nat→Nat)(a b:Nat)(h9:n≤9):(twosAt n g a b).length≤81:=by
 have:=flen (fun l=>twosC n g a b l) 9 n fun i _=>lenC _ _ _ _ _ h9
 unfold twosAt;omega
theorem lenB(n:Nat)(g:Nat→Nat→Nat)(a:Nat)(h9:n≤9):(twosB n g a).length≤729:=by
 have:=flen (fun i=>twosAt n g a (a+1+i)) 81 (n - (a+1)) fun i _=>lenAt _ _ _ _ h9
 unfold twosB;omega
theorem lenL(n:Nat)(g:Nat→Nat→Nat)(h9:n≤9):(twosL n g).length≤6561:=by
 have:=flen (fun a=>twosB n g a) 729 n fun i _=>lenB _ _ _ h9
 unfold twosL;omega
theorem f_twos(n:Nat)(g:Nat→Nat→Nat)(h9:n≤9):F__law_twos [sqD n g]=.ok (.lst (twosL n g)):=by
 refine fn_eq rfl ?_
 simp[z_rg1 n (by omega)]
 let S:List D→Tau→Prop:=fun acc τ=>∃o3 o4 o5 o6,τ=[some (.sh (sqD n g)),some (.ac acc),some (.sh (.int (n:Int))),o3,o4,o5,o6]
 let S3:Nat→List D→Tau→Prop:=fun a acc τ=>∃o4 o5 o6,τ=[some (.sh (sqD n g)),some (.ac acc),some (.sh (.int (n:Int))),some (.sh (.int (a:Int))),o4,o5,o6]
 let S4:Nat→Nat→List D→Tau→Prop:=fun a b acc τ=>∃o5 o6,τ=[some (.sh (sqD n g)),some (.ac acc),some (.sh (.int (n:Int))),some (.sh (.int (a:Int))),some (.sh (.int (b:Int))),o5,o6]
 let S5:Nat→Nat→Nat→List D→Tau→Prop:=fun a b l acc τ=>∃o6,τ=[some (.sh (sqD n g)),some (.ac acc),some (.sh (.int (n:Int))),some (.sh (.int (a:Int))),some (.sh (.int (b:Int))),some (.sh (.int (l:Int))),o6]
 have main:=for_appK0 (i:=3) (B:=(sFor (apL rg2 (cs (bi addD (vr 3) (cn (.int 1))) (cs (vr 2) nl))) [4] one (sFor (apL rg1 (cs (vr 2) nl)) [5] one (sFor (apL rg2 (cs (bi addD (vr 5) (cn (.int 1))) (cs (vr 2) nl))) [6] one (sIf (andT (tst (bi eqD (bi ixD (bi ixD (vr 0) (vr 3)) (vr 5)) (bi ixD (bi ixD (vr 0) (vr 4)) (vr 6)))) (tst (bi eqD (bi ixD (bi ixD (vr 0) (vr 3)) (vr 6)) (bi ixD (bi ixD (vr 0) (vr 4)) (vr 5))))) (sApp 1 (tpl (cs (vr 3) (cs (vr 4) (cs (vr 5) (cs (vr 6) nl)))))) sk)))))
  S (fun a=>twosB n g a) 729 0 n [] [some (.sh (sqD n g)),some (.ac []),some (.sh (.int (n:Int))),none,none,none,none] (fun a _=>lenB _ _ _ h9) (by simp) ⟨_,_,_,_,rfl⟩ (by
  rintro a acc τ ha hl ⟨o3,o4,o5,o6,rfl⟩
  have e1:((a:Int)+1)=((a+1:Nat):Int):=by omega
  simp only[z_for,z_hide,z_hideN,z_apL,z_cs,z_bi,z_vr,z_cn,z_nl,z_add,z_okb,List.set_cons_succ,List.set_cons_zero,List.getElem?_cons_zero,List.getElem?_cons_succ,Option.bind_some,z_hsh,z_hac,e1,z_rg2 (a+1) n (by omega) (by omega)]
  obtain⟨τ',h1,o4',o5',o6',h2⟩:=for_appK (i:=4) (B:=(sFor (apL rg1 (cs (vr 2) nl)) [5] one (sFor (apL rg2 (cs (bi addD (vr 5) (cn (.int 1))) (cs (vr 2) nl))) [6] one (sIf (andT (tst (bi eqD (bi ixD (bi ixD (vr 0) (vr 3)) (vr 5)) (bi ixD (bi ixD (vr 0) (vr 4)) (vr 6)))) (tst (bi eqD (bi ixD (bi ixD (vr 0) (vr 3)) (vr 6)) (bi ixD (bi ixD (vr 0) (vr 4)) (vr 5))))) (sApp 1 (tpl (cs (vr 3) (cs (vr 4) (cs (vr 5) (cs (vr 6) nl)))))) sk))))
   (S3 a) (fun i=>twosAt n g a (a+1+i)) 81 (0+a * 729) (n - (a+1)) (a+1) acc [some (.sh (sqD n g)),some (.ac acc),some (.sh (.int (n:Int))),some (.sh (.int (a:Int))),o4,o5,o6] (fun i _=>lenAt _ _ _ _ h9) hl ⟨_,_,_,rfl⟩ (by
   rintro i acc τ hi hl ⟨o4,o5,o6,rfl⟩
   have hb:a+1+i<n:=by omega
   generalize hbe:a+1+i=b at hb ⊢
   simp only[z_for,z_hide,z_hideN,z_apL,z_cs,z_bi,z_vr,z_cn,z_nl,z_add,z_okb,List.set_cons_succ,List.set_cons_zero,List.getElem?_cons_zero,List.getElem?_cons_succ,Option.bind_some,z_hsh,z_hac,z_rg1 n (by omega)]
   obtain⟨τ',h1,o5',o6',h2⟩:=for_appK0 (i:=5) (B:=(sFor (apL rg2 (cs (bi addD (vr 5) (cn (.int 1))) (cs (vr 2) nl))) [6] one (sIf (andT (tst (bi eqD (bi ixD (bi ixD (vr 0) (vr 3)) (vr 5)) (bi ixD (bi ixD (vr 0) (vr 4)) (vr 6)))) (tst (bi eqD (bi ixD (bi ixD (vr 0) (vr 3)) (vr 6)) (bi ixD (bi ixD (vr 0) (vr 4)) (vr 5))))) (sApp 1 (tpl (cs (vr 3) (cs (vr 4) (cs (vr 5) (cs (vr 6) nl)))))) sk)))
    (S4 a b) (fun l=>twosC n g a b l) 9 (0+a * 729+i * 81) n acc [some (.sh (sqD n g)),some (.ac acc),some (.sh (.int (n:Int))),some (.sh (.int (a:Int))),some (.sh (.int (b:Int))),o5,o6] (fun l _=>lenC _ _ _ _ _ h9) hl ⟨_,_,rfl⟩ (by
    rintro l acc τ hl' hl ⟨o5,o6,rfl⟩
    have e1:((l:Int)+1)=((l+1:Nat):Int):=by omega
    simp only[z_for,z_hide,z_hideN,z_apL,z_cs,z_bi,z_vr,z_cn,z_nl,z_add,z_okb,List.set_cons_succ,List.set_cons_zero,List.getElem?_cons_zero,List.getElem?_cons_succ,Option.bind_some,z_hsh,z_hac,e1,z_rg2 (l+1) n (by omega) (by omega)]
    obtain⟨τ',h1,o6',h2⟩:=for_appK (i:=6) (B:=(sIf (andT (tst (bi eqD (bi ixD (bi ixD (vr 0) (vr 3)) (vr 5)) (bi ixD (bi ixD (vr 0) (vr 4)) (vr 6)))) (tst (bi eqD (bi ixD (bi ixD (vr 0) (vr 3)) (vr 6)) (bi ixD (bi ixD (vr 0) (vr 4)) (vr 5))))) (sApp 1 (tpl (cs (vr 3) (cs (vr 4) (cs (vr 5) (cs (vr 6) nl)))))) sk))
     (S5 a b l) (fun i=>twosR g a b l (l+1+i)) 1 (0+a * 729+i * 81+l * 9) (n - (l+1)) (l+1) acc [some (.sh (sqD n g)),some (.ac acc),some (.sh (.int (n:Int))),some (.sh (.int (a:Int))),some (.sh (.int (b:Int))),some (.sh (.int (l:Int))),o6] (fun i _=>lenR ..) hl ⟨_,rfl⟩ (by
     rintro q acc τ hq hl2 ⟨o6,rfl⟩
     have hr:l+1+q<n:=by omega
     generalize hre:l+1+q=r at hr ⊢
     have z1:acc.length≤1000000:=by omega
     simp[hb,hr,ha,hl']
     by_cases c1:g a l=g b r
     ·by_cases c2:g a r=g b l
      ·simp[c1,c2,z1,twosR,isTwo,fourD,S5]
      ·have:¬((g a r:Int)=(g b l:Int)):=by omega
       simp[c1,c2,this,twosR,isTwo,S5]
     ·have:¬((g a l:Int)=(g b r:Int)):=by omega
      simp[c1,this,twosR,isTwo,S5])
    subst h2
    exact⟨_,h1,_,_,rfl⟩)
   subst h2
   exact⟨_,h1,_,_,_,rfl⟩)
  subst h2
  exact⟨_,h1,_,_,_,_,rfl⟩)
 obtain⟨τ',h1,o3,o4,o5,o6,h2⟩:=main
 subst h2
 simp at h1
 rw[h1]
 simp[twosL]
noncomputable def sw(g:Nat→Nat→Nat)(a b l r:Nat):Nat→Nat→Nat:=fun i j=>if i=a∨i=b then(if j=l then g i r else if j=r then g i l else g i j)else g i j
structure Two(n:Nat)(g:Nat→Nat→Nat)(a b l r:Nat):Prop where
 ab:a<b
 bn:b<n
 lr:l<r
 rn:r<n
 e1:g a l=g b r
 e2:g a r=g b l
theorem mem_twos{n:Nat}{g:Nat→Nat→Nat}{d:D}(h:d∈twosL n g):∃a b l r,Two n g a b l r∧d=fourD a b l r:=by
 unfold twosL at h
 obtain⟨a,ha,h⟩:=List.mem_flatMap.mp h
 unfold twosB at h
 obtain⟨i,hi,h⟩:=List.mem_flatMap.mp h
 unfold twosAt at h
 obtain⟨l,hl,h⟩:=List.mem_flatMap.mp h
 unfold twosC at h
 obtain⟨j,hj,h⟩:=List.mem_flatMap.mp h
 rw[List.mem_range]at ha hi hl hj
 unfold twosR at h
 split at h
 ·rename_i c
  unfold isTwo at c
  simp at c
  refine⟨a,a+1+i,l,l+1+j,⟨by omega,by omega,by omega,by omega,c.1,c.2⟩,?_⟩
  simpa using h
 ·cases h
theorem lat_sw{n:Nat}{g:Nat→Nat→Nat}{a b l r:Nat}(L:Lat n g)(t:Two n g a b l r):Lat n (sw g a b l r):=by
 have ha:a<n:=Nat.lt_trans t.ab t.bn
 have hl:l<n:=Nat.lt_trans t.lr t.rn
 have hb:=t.bn
 have hr:=t.rn
 have nab:a≠b:=Nat.ne_of_lt t.ab
 have nlr:l≠r:=Nat.ne_of_lt t.lr
 refine⟨fun i j hi hj=> ?_,fun i j k hi hj hk e=> ?_,fun i k j hi hk hj e=> ?_⟩
 ·unfold sw
  repeat' split
  ·exact L.lt _ _ hi hr
  ·exact L.lt _ _ hi hl
  ·exact L.lt _ _ hi hj
  ·exact L.lt _ _ hi hj
 ·unfold sw at e
  by_cases hab:i=a∨i=b
  ·simp only[hab,if_true]at e
   by_cases j1:j=l<;>by_cases k1:k=l
   ·omega
   ·simp only[j1,k1,if_true,if_false]at e
    by_cases k2:k=r
    ·simp only[k2,if_true]at e
     exact absurd (L.row _ _ _ hi hr hl e) (Ne.symm nlr)
    ·simp only[k2,if_false]at e
     exact absurd (L.row _ _ _ hi hr hk e).symm k2
   ·simp only[j1,k1,if_true,if_false]at e
    by_cases j2:j=r
    ·simp only[j2,if_true]at e
     exact absurd (L.row _ _ _ hi hl hr e) nlr
    ·simp only[j2,if_false]at e
     exact absurd (L.row _ _ _ hi hj hr e) j2
   ·simp only[j1,k1,if_false]at e
    by_cases j2:j=r<;>by_cases k2:k=r
    ·omega
    ·simp only[j2,k2,if_true,if_false]at e
     exact absurd (L.row _ _ _ hi hl hk e).symm k1
    ·simp only[j2,k2,if_true,if_false]at e
     exact absurd (L.row _ _ _ hi hj hl e) j1
    ·simp only[j2,k2,if_false]at e
     exact L.row _ _ _ hi hj hk e
  ·simp only[hab,if_false]at e
   exact L.row _ _ _ hi hj hk e
 ·have key:∀i,i<n→i≠a→i≠b→∀x y,(x=a∧y=b∨x=b∧y=a)→∀c d,(c=l∧d=r∨c=r∧d=l)→g i c≠g x d:=by
   intro i hi h1 h2 x y hx c d hc e
   have exy:g x d=g y c:=by
    rcases hx with⟨rfl,rfl⟩|⟨rfl,rfl⟩<;>rcases hc with⟨rfl,rfl⟩|⟨rfl,rfl⟩
    ·exact t.e2
    ·exact t.e1
    ·exact t.e1.symm
    ·exact t.e2.symm
   rw[exy]at e
   have hy:y<n:=by rcases hx with⟨_,rfl⟩|⟨_,rfl⟩<;>assumption
   have hcn:c<n:=by rcases hc with⟨rfl,_⟩|⟨rfl,_⟩<;>assumption
   have:=L.col _ _ _ hi hy hcn e
   rcases hx with⟨_,rfl⟩|⟨_,rfl⟩
   ·exact h2 this
   ·exact h1 this
  unfold sw at e
  by_cases j1:j=l
  ·subst j1
   simp only[if_true]at e
   by_cases hi1:i=a∨i=b<;>by_cases hk1:k=a∨k=b
   ·simp only[hi1,hk1,if_true]at e
    exact L.col _ _ _ hi hk hr e
   ·simp only[hi1,hk1,if_true,if_false]at e
    exfalso
    rcases hi1 with rfl|rfl
    ·exact key k hk (fun z=>hk1 (.inl z)) (fun z=>hk1 (.inr z)) i b (.inl ⟨rfl,rfl⟩) j r (.inl ⟨rfl,rfl⟩) e.symm
    ·exact key k hk (fun z=>hk1 (.inl z)) (fun z=>hk1 (.inr z)) i a (.inr ⟨rfl,rfl⟩) j r (.inl ⟨rfl,rfl⟩) e.symm
   ·simp only[hi1,hk1,if_true,if_false]at e
    exfalso
    rcases hk1 with rfl|rfl
    ·exact key i hi (fun z=>hi1 (.inl z)) (fun z=>hi1 (.inr z)) k b (.inl ⟨rfl,rfl⟩) j r (.inl ⟨rfl,rfl⟩) e
    ·exact key i hi (fun z=>hi1 (.inl z)) (fun z=>hi1 (.inr z)) k a (.inr ⟨rfl,rfl⟩) j r (.inl ⟨rfl,rfl⟩) e
   ·simp only[hi1,hk1,if_false]at e
    exact L.col _ _ _ hi hk hj e
  ·by_cases j2:j=r
   ·subst j2
    simp only[j1,if_true,if_false]at e
    by_cases hi1:i=a∨i=b<;>by_cases hk1:k=a∨k=b
    ·simp only[hi1,hk1,if_true]at e
     exact L.col _ _ _ hi hk hl e
    ·simp only[hi1,hk1,if_true,if_false]at e
     exfalso
     rcases hi1 with rfl|rfl
     ·exact key k hk (fun z=>hk1 (.inl z)) (fun z=>hk1 (.inr z)) i b (.inl ⟨rfl,rfl⟩) j l (.inr ⟨rfl,rfl⟩) e.symm
     ·exact key k hk (fun z=>hk1 (.inl z)) (fun z=>hk1 (.inr z)) i a (.inr ⟨rfl,rfl⟩) j l (.inr ⟨rfl,rfl⟩) e.symm
    ·simp only[hi1,hk1,if_true,if_false]at e
     exfalso
     rcases hk1 with rfl|rfl
     ·exact key i hi (fun z=>hi1 (.inl z)) (fun z=>hi1 (.inr z)) k b (.inl ⟨rfl,rfl⟩) j l (.inr ⟨rfl,rfl⟩) e
     ·exact key i hi (fun z=>hi1 (.inl z)) (fun z=>hi1 (.inr z)) k a (.inr ⟨rfl,rfl⟩) j l (.inr ⟨rfl,rfl⟩) e
    ·simp only[hi1,hk1,if_false]at e
     exact L.col _ _ _ hi hk hj e
   ·simp only[j1,j2,if_false]at e
    have e':g i j=g k j:=by
     by_cases hi1:i=a∨i=b<;>by_cases hk1:k=a∨k=b<;>simp only[hi1,hk1,if_true,if_false]at e<;>exact e
    exact L.col _ _ _ hi hk hj e'
noncomputable def rowsL(n:Nat)(g:Nat→Nat→Nat):List (List D):=(List.range n).map fun r=>(List.range n).map fun c=>.int (g r c:Int)
theorem rowsL_get{n:Nat}{g:Nat→Nat→Nat}{r:Nat}(h:r<n):(rowsL n g)[r]? =some ((List.range n).map fun c=>.int (g r c:Int)):=get_rng n _ h
theorem rowsL_len(n:Nat)(g:Nat→Nat→Nat):(rowsL n g).length=n:=by simp[rowsL]
noncomputable def put(g:Nat→Nat→Nat)(r c x:Nat):Nat→Nat→Nat:=fun i j=>if i=r then(if j=c then x else g i j)else g i j
theorem rowsL_put{n:Nat}{g:Nat→Nat→Nat}{r c x:Nat}(h:r<n):(rowsL n g).set r (((List.range n).map fun c=>D.int (g r c:Int)).set c (.int (x:Int)))=rowsL n (put g r c x):=by
 unfold rowsL
 rw[set_rng,set_rng]
 apply List.map_congr_left
 intro i hi
 unfold put
 by_cases hir:i=r
 ·subst hir
  simp only[if_true]
  apply List.map_congr_left
  intro j hj
  split<;>rfl
 ·simp only[hir,if_false]
theorem ix_rowsL{n:Nat}{g:Nat→Nat→Nat}{r:Nat}(h:r<n):ixD (.lst ((rowsL n g).map .lst)) (.int (r:Int))=.ok (.lst ((List.range n).map fun c=>.int (g r c:Int))):=
 ix_lst _ _ _ (by rw[List.getElem?_map,rowsL_get h];rfl)
theorem ix_lrow{n:Nat}{p:Nat→Nat}{c:Nat}(h:c<n):ixD (.lst ((List.range n).map fun c=>D.int (p c:Int))) (.int (c:Int))=.ok (.int (p c:Int)):=ix_lst _ _ _ (get_rng n _ h)
theorem s_putN_ok{τ:Tau}{i n r c x:Nat}{g:Nat→Nat→Nat}{m1 m2 v:Rho→R D}(h:τ[i]? =some (some (.an (rowsL n g))))(h1:m1 (view τ)=.ok (.int (r:Int)))(h2:m2 (view τ)=.ok (.int (c:Int)))(hv:v (view τ)=.ok (.int (x:Int)))(hr:r<n)(hc:c<n):
  sPutN i m1 m2 v τ=.nx (τ.set i (some (.an (rowsL n (put g r c x))))):=by
 rw[z_putN]
 simp only[h,h1,h2,hv,rowsL_len,ixN_nat hr,rowsL_get hr,List.length_map,List.length_range,ixN_nat hc,noL_int,if_true]
 rw[rowsL_put hr]
theorem f_switched(n:Nat)(g:Nat→Nat→Nat)(a b l r:Nat)(h9:n≤9)(t:Two n g a b l r):F__law_switched [sqD n g,fourD a b l r]=.ok (sqD n (sw g a b l r)):=by
 have ha:a<n:=Nat.lt_trans t.ab t.bn
 have hl:l<n:=Nat.lt_trans t.lr t.rn
 have hb:=t.bn
 have hr:=t.rn
 refine fn_eq rfl ?_
 have eS:slD (fourD a b l r) none (some 2)=.ok (.tup [.int (a:Int), .int (b:Int)]):=rfl
 have e0:mapC one [none] [0] yes (apN lisD (cs (vr 0) nl)) ((List.range n).map fun r=>rowD n (g r))=.ok (rowsL n g):=
  mapC_map (fun r=>rowD n (g r)) _ (List.range n) fun r hr=>by simp[rowD]
 have i2:ixD (fourD a b l r) (.int 2)=.ok (.int (l:Int)):=rfl
 have i3:ixD (fourD a b l r) (.int 3)=.ok (.int (r:Int)):=rfl
 simp[sqD,e0]
 have turn:∀(h:Nat→Nat→Nat) (x:Nat) (o3 o4:Option Sl),x<n→(sq (sSetF 4 (bi ixD (bi ixD (vr 2) (vr 3)) (bi ixD (vr 1) (cn (.int 2)))))
   (sq (sPutN 2 (vr 3) (bi ixD (vr 1) (cn (.int 2))) (bi ixD (bi ixD (vr 2) (vr 3)) (bi ixD (vr 1) (cn (.int 3)))))
    (sPutN 2 (vr 3) (bi ixD (vr 1) (cn (.int 3))) (vr 4)))) [some (.sh (sqD n g)),some (.sh (fourD a b l r)),some (.an (rowsL n h)),some (.sh (.int (x:Int))),o4]
   =.nx [some (.sh (sqD n g)),some (.sh (fourD a b l r)),some (.an (rowsL n (put (put h x l (h x r)) x r (h x l)))),some (.sh (.int (x:Int))),some (.sh (.int (h x l:Int)))]:=by
  intro h x o3 o4 hx
  rw[z_sq,z_setF]
  simp only[z_view,z_viewN,z_bi,z_vr,z_cn,z_okb,List.getElem?_cons_zero,List.getElem?_cons_succ,Option.map_some,z_dsh,z_dan,ix_rowsL hx,i2,ix_lrow hl,noL_int,if_true,List.set_cons_succ,List.set_cons_zero,z_sq]
  rw[s_putN_ok (r:=x) (c:=l) (x:=h x r) rfl (by simp) (by simp[i2]) (by simp[ix_rowsL hx,i3,ix_lrow hr]) hx hl]
  simp only[List.set_cons_succ,List.set_cons_zero]
  rw[s_putN_ok (r:=x) (c:=r) (x:=h x l) rfl (by simp) (by simp[i3]) (by simp) hx hr]
  simp only[List.set_cons_succ,List.set_cons_zero]
 rw[eS]
 simp only[z_okb,z_itsT]
 have t1:=turn g a (some (.sh (.int (a:Int)))) none ha
 have t2:=turn (put (put g a l (g a r)) a r (g a l)) b (some (.sh (.int (b:Int)))) (some (.sh (.int (g a l:Int)))) hb
 rw[for_cons (vs:=[.int (a:Int)]) rfl (by simpa[sqD]using t1),for_cons (vs:=[.int (b:Int)]) rfl (by simpa[sqD]using t2)]
 simp
 have e1:∀h:Nat→Nat→Nat,mapC one [none] [0] yes (ap tupD (cs (vr 0) nl)) ((rowsL n h).map .lst)=.ok ((List.range n).map fun r=>rowD n (h r)):=fun h=>by
  unfold rowsL
  rw[List.map_map]
  exact mapC_map _ _ (List.range n) fun r hr=>by simp[rowD]
 rw[e1]
 simp
 intro i hi
 unfold rowD
 congr 1
 apply List.map_congr_left
 intro j hj
 congr 2
 have nab:a≠b:=Nat.ne_of_lt t.ab
 have nlr:l≠r:=Nat.ne_of_lt t.lr
 unfold put sw
 by_cases i1:i=a
 ·subst i1
  by_cases j1:j=l
  ·subst j1;simp[nab,nlr]
  ·by_cases j2:j=r
   ·subst j2;simp[nab,j1]
   ·simp[nab,j1,j2]
 ·by_cases i2:i=b
  ·subst i2
   by_cases j1:j=l
   ·subst j1;simp[i1,nlr]
   ·by_cases j2:j=r
    ·subst j2;simp[i1,j1]
    ·simp[i1,j1,j2]
  ·simp[i1,i2]
theorem lat_ren{n:Nat}{g:Nat→Nat→Nat}{p q s:Nat→Nat}(L:Lat n g)(P:Ord n p)(Q:Ord n q)(S:Ord n s):Lat n (fun i j=>s (g (p i) (q j))) where
 lt:=fun r c hr hc=>S.lt _ (L.lt _ _ (P.lt _ hr) (Q.lt _ hc))
 row:=fun r c d hr hc hd e=>Q.inj _ _ hc hd (L.row _ _ _ (P.lt _ hr) (Q.lt _ hc) (Q.lt _ hd) (S.inj _ _ (L.lt _ _ (P.lt _ hr) (Q.lt _ hc)) (L.lt _ _ (P.lt _ hr) (Q.lt _ hd)) e))
 col:=fun r c d hr hc hd e=>P.inj _ _ hr hc (L.col _ _ _ (P.lt _ hr) (P.lt _ hc) (Q.lt _ hd) (S.inj _ _ (L.lt _ _ (P.lt _ hr) (Q.lt _ hd)) (L.lt _ _ (P.lt _ hc) (Q.lt _ hd)) e))
theorem f_renamed{n:Nat}{g:Nat→Nat→Nat}{p q s:Nat→Nat}(L:Lat n g)(P:Ord n p)(Q:Ord n q):F__law_renamed [sqD n g,rowD n p,rowD n q,rowD n s]=.ok (sqD n (fun i j=>s (g (p i) (q j)))):=by
 refine fn_eq rfl ?_
 simp only[List.map_cons,List.map_nil,z_ret,z_ap,z_cs,z_asL,z_cmpr,z_srcD,z_vr,z_view,z_viewN,Option.map_some,z_dsh,List.cons_append,List.nil_append,List.getElem?_cons_zero,List.getElem?_cons_succ,z_okb,z_nl]
 have e1:itsR (rowD n p)=.ok ((List.range n).map fun i=>.int (p i:Int)):=rfl
 have e2:itsR (rowD n q)=.ok ((List.range n).map fun i=>.int (q i:Int)):=rfl
 simp only[e1,z_okb]
 rw[mapC_map (fun i=>D.int (p i:Int)) (fun i=>rowD n (fun j=>s (g (p i) (q j)))) (List.range n) (fun i hi=>by
  have hi':i<n:=by simpa using hi
  simp[e2]
  rw[mapC_map (fun i=>D.int (q i:Int)) (fun j=>D.int (s (g (p i) (q j)):Int)) (List.range n) (fun j hj=>by
   have hj':j<n:=by simpa using hj
   simp[z_sqr (P.lt _ hi'),z_row (Q.lt _ hj'),z_row (L.lt _ _ (P.lt _ hi') (Q.lt _ hj'))])]
  simp[rowD])]
 simp[sqD]
theorem deps_le{k:Nat}:∀(l:List D),(∀d∈l,dep d≤k)→deps l≤k
 | [],_=>Nat.zero_le _
 |d::l,h=>by
  show max (dep d) (deps l)≤k
  exact Nat.max_le.mpr ⟨h d List.mem_cons_self,deps_le l fun e he=>h e (List.mem_cons_of_mem _ he)⟩
theorem dep_tup(l:List D):dep (.tup l)=deps l+1:=rfl
theorem dep_lst(l:List D):dep (.lst l)=deps l+1:=rfl
theorem dep_twos(n:Nat)(g:Nat→Nat→Nat):dep (.lst (twosL n g))≤2:=by
 rw[dep_lst]
 have:=deps_le (k:=1) (twosL n g) fun d hd=>by
  obtain⟨a,b,l,r,_,rfl⟩:=mem_twos hd
  exact Nat.le_refl 1
 omega
theorem ne_twos(n:Nat)(g:Nat→Nat→Nat):neD (.lst (twosL n g)) (.lst [])=.ok (.bl (!(twosL n g).isEmpty)):=by rw[z_ne ⟨Nat.le_trans (dep_twos n g) (by decide),by simp⟩,eqB_lnil]
theorem emod_nat(x:Int)(n:Nat)(h:0<n):∃k:Nat,k<n∧x%(n:Int)=(k:Int):=by
 have h1:=Int.emod_nonneg x (b:=(n:Int)) (by omega)
 have h2:=Int.emod_lt_of_pos x (b:=(n:Int)) (by omega)
 exact⟨(x%(n:Int)).toNat,by omega,by omega⟩
theorem f_sized(xs:List Int)(at_ n:Nat)(h1:1≤n)(h9:n≤9):∃g,Lat n g∧F__law_sized [scr xs, .int (at_:Int), .int (n:Int)]=.ok (sqD n g):=by
 obtain⟨g0,L0,e0⟩:=f_first n (xs.getD at_ 0 / 7) h1 h9
 have e1:((at_:Int)+1)=((at_+1:Nat):Int):=by omega
 obtain⟨k,hk,ek⟩:=emod_nat (xs.getD at_ 0 * 48271%9949) 4 (by omega)
 have em:F__law_mix [.int (xs.getD at_ 0), .int 9949, .int 4]=.ok (.int (k:Int)):=by rw[f_mix _ _ _ (by decide) (by decide),←ek];rfl
 let C:Int:=xs.getD (at_+1) 0
 have loop:∃τ',forL [5] one (sq (sSet 6 (ap F__law_twos (cs (vr 4) (nl))))
   (sIf (tst (bi neD (vr 6) (asL (lim (nl))))) (sSet 4 (ap F__law_switched (cs (vr 4) (cs (bi ixD (vr 6) (ap F__law_mix (cs (bi addD (ap F__law_cell (cs (vr 0) (cs (bi addD (vr 1) (cn (.int 1))) (nl)))) (bi mulD (cn (.int 31)) (vr 5))) (cs (cn (.int 9941)) (cs (ap lenD (cs (vr 6) (nl))) (nl)))))) (nl))))) (sk))) ((List.range k).map fun(j:Nat)=>D.int (j:Int))
   [some (.sh (scr xs)),some (.sh (.int (at_:Int))),some (.sh (.int (n:Int))),some (.sh (.int (xs.getD at_ 0))),some (.sh (sqD n g0)),none,none,none]=.nx τ'∧
   ∃g o5 o6,Lat n g∧τ'=[some (.sh (scr xs)),some (.sh (.int (at_:Int))),some (.sh (.int (n:Int))),some (.sh (.int (xs.getD at_ 0))),some (.sh (sqD n g)),o5,o6,none]:=by
  refine for_rng0 (fun _ τ'=>∃g o5 o6,Lat n g∧τ'=[some (.sh (scr xs)),some (.sh (.int (at_:Int))),some (.sh (.int (n:Int))),some (.sh (.int (xs.getD at_ 0))),some (.sh (sqD n g)),o5,o6,none]) k _ ⟨g0,_,_,L0,rfl⟩ ?_
  rintro j τ hj ⟨g,o5,o6,L,rfl⟩
  have ne:neD (.lst (twosL n g)) (.lst [])=.ok (.bl (!(twosL n g).isEmpty)):=ne_twos n g
  have b1:(31:Int).natAbs≤1000000000000:=by decide
  by_cases hem:(twosL n g).isEmpty=true
  ·refine⟨_,?_,g,some (.sh (.int (j:Int))),some (.sh (.lst (twosL n g))),L,rfl⟩
   simp[f_twos n g h9,ne,hem]
  ·have hem':(twosL n g).isEmpty=false:=by simpa using hem
   have hpos:0<(twosL n g).length:=by
    cases h:twosL n g with
    |nil=>rw[h]at hem;exact absurd rfl hem
    |cons _ _=>simp
   obtain⟨i,hi,ei⟩:=emod_nat ((C+31 * (j:Int)) * 48271%9941) (twosL n g).length hpos
   have hget:=List.getElem?_eq_getElem hi
   obtain⟨a,b,l,r,t,ed⟩:=mem_twos (List.getElem_mem hi)
   rw[ed]at hget
   have hlen:(twosL n g).length≤6561:=lenL n g h9
   have emx:F__law_mix [.int (C+31 * (j:Int)), .int 9941, .int ((twosL n g).length:Int)]=.ok (.int (i:Int)):=by rw[f_mix _ _ _ (by decide) (by omega),ei]
   refine⟨_,?_,sw g a b l r,some (.sh (.int (j:Int))),some (.sh (.lst (twosL n g))),lat_sw L t,rfl⟩
   have ec:=f_cell xs (at_+1)
   simp only[←e1]at ec
   simp[f_twos n g h9,ne,hem',ec,z_mulL _ _ b1,show xs[at_+1]?.getD 0=C by simp[C],emx,ix_lst _ _ _ hget,f_switched n g a b l r h9 t]
 obtain⟨τ',hl,g,o5,o6,L,rfl⟩:=loop
 obtain⟨p0,P0,ep0⟩:=f_order (C+101 * ((0:Nat):Int)) n (by omega)
 obtain⟨p1,P1,ep1⟩:=f_order (C+101 * ((1:Nat):Int)) n (by omega)
 obtain⟨p2,P2,ep2⟩:=f_order (C+101 * ((2:Nat):Int)) n (by omega)
 refine⟨fun i j=>p2 (g (p0 i) (p1 j)),lat_ren L P0 P1 P2,fn_eq rfl ?_⟩
 have ec0:=f_cell xs at_
 have ec:=f_cell xs (at_+1)
 simp only[←e1]at ec
 have r3:rg1 [.int 3]=.ok [.int 0, .int 1, .int 2]:=rfl
 have m3:mapC one [none,some (scr xs),some (.int (at_:Int)),some (.int (n:Int))] [0] yes (ap F__law_order (cs (bi addD (ap F__law_cell (cs (vr 1) (cs (bi addD (vr 2) (cn (.int 1))) (nl)))) (bi mulD (cn (.int 101)) (vr 0))) (cs (vr 3) (nl)))) [.int 0, .int 1, .int 2]=.ok [rowD n p0,rowD n p1,rowD n p2]:=by
  have b1:(101:Int).natAbs≤1000000000000:=by decide
  have hC:xs.getD (at_+1) 0=C:=rfl
  simp[mapC,ec,z_mulL _ _ b1,show xs[at_+1]?.getD 0=C by simp[C]]
  simp at ep0 ep1 ep2
  simp[ep0,ep1,ep2]
 simp only[List.getD_eq_getElem?_getD]at ec0 em e0 hl
 have d7:divD (.int (xs[at_]?.getD 0)) (.int 7)=.ok (.int (xs[at_]?.getD 0 / 7)):=z_div _ _ (by decide)
 simp[ec0,d7,e0,em,z_rg1 k (by omega),hl,r3,m3,f_renamed L P0 P1]
theorem nd_len:∀(n:Nat) (l:List Nat),l.Nodup→(∀x∈l,x<n)→l.length≤n
 |0,l,_,h=>by
  cases l with
  |nil=>simp
  |cons x r=>exact absurd (h x List.mem_cons_self) (by omega)
 |n+1,l,nd,h=>by
  by_cases hm:n∈l
  ·have:=nd_len n (l.erase n) (nd.erase n) fun x hx=>by
    have h1:=h x (List.mem_of_mem_erase hx)
    have h2:x≠n:=fun e=>by subst e;exact(List.Nodup.not_mem_erase nd) hx
    omega
   rw[List.length_erase_of_mem hm]at this
   omega
  ·have:=nd_len n l nd fun x hx=>by
    have h1:=h x hx
    have h2:x≠n:=fun e=>by subst e;exact hm hx
    omega
   omega
theorem nd_perm:∀(n:Nat) (l:List Nat),l.Nodup→(∀x∈l,x<n)→l.length=n→l.Perm (List.range n)
 |0,l,_,_,hl=>by rw[List.length_eq_zero_iff.mp hl];exact .refl _
 |n+1,l,nd,h,hl=>by
  have hm:n∈l:=by
   apply Classical.byContradiction
   intro hm
   have:=nd_len n l nd fun x hx=>by
    have h1:=h x hx
    have h2:x≠n:=fun e=>by subst e;exact hm hx
    omega
   omega
  have ih:=nd_perm n (l.erase n) (nd.erase n) (fun x hx=>by
    have h1:=h x (List.mem_of_mem_erase hx)
    have h2:x≠n:=fun e=>by subst e;exact(List.Nodup.not_mem_erase nd) hx
    omega) (by rw[List.length_erase_of_mem hm];omega)
  rw[List.range_succ]
  exact(List.perm_cons_erase hm).trans ((ih.cons n).trans (List.perm_append_singleton n _).symm)
theorem Ord.nd{n:Nat}{p:Nat→Nat}(o:Ord n p):((List.range n).map p).Nodup:=by
 rw[List.nodup_iff_pairwise_ne,List.pairwise_map]
 have:=List.nodup_range (n:=n)
 rw[List.nodup_iff_pairwise_ne]at this
 exact this.imp_of_mem fun{a b} ha hb hab e=>hab (o.inj a b (by simpa using ha) (by simpa using hb) e)
theorem Ord.perm{n:Nat}{p:Nat→Nat}(o:Ord n p):((List.range n).map p).Perm (List.range n):=
 nd_perm n _ o.nd (fun x hx=>by obtain⟨i,hi,rfl⟩:=List.mem_map.mp hx;exact o.lt i (by simpa using hi)) (by simp)
theorem Ord.sur{n:Nat}{p:Nat→Nat}(o:Ord n p){y:Nat}(h:y<n):∃i,i<n∧p i=y:=by
 have:y∈(List.range n).map p:=o.perm.mem_iff.mpr (by simpa using h)
 obtain⟨i,hi,e⟩:=List.mem_map.mp this
 exact⟨i,by simpa using hi,e⟩
mutual
theorem eqB_refl:∀d:D,eqB d d=true
 | .non=>rfl
 | .bl b=>by show(b == b)=true;simp
 | .int i=>by show(i == i)=true;simp
 | .str x=>by show(x == x)=true;simp
 | .tup xs=>by show PyData.eqvAll (toPs xs) (toPs xs)=true;exact eqBs_refl xs
 | .lst xs=>by show PyData.eqvAll (toPs xs) (toPs xs)=true;exact eqBs_refl xs
 | .exc c=>by show PyData.eqv far far=true;decide+kernel
 | .dct c=>by show PyData.eqv far far=true;decide+kernel
theorem eqBs_refl:∀ds:List D,PyData.eqvAll (toPs ds) (toPs ds)=true
 | []=>rfl
 |d::ds=>by
  show(PyData.eqv (toP d) (toP d)&&PyData.eqvAll (toPs ds) (toPs ds))=true
  have h1:=eqB_refl d
  unfold eqB at h1
  rw[h1,eqBs_refl ds];rfl
end
theorem dep_row(n:Nat)(p:Nat→Nat):dep (rowD n p)≤1:=by
 unfold rowD;rw[dep_tup]
 have:=deps_le (k:=0) ((List.range n).map fun i=>D.int (p i:Int)) fun d hd=>by obtain⟨i,_,rfl⟩:=List.mem_map.mp hd;simp
 omega
theorem ne_self{d:D}(h:dep d≤40):neD d d=.ok (.bl false):=by rw[z_ne ⟨h,h⟩,eqB_refl];rfl
theorem eq_self{d:D}(h:dep d≤40):eqD d d=.ok (.bl true):=by rw[z_eq ⟨h,h⟩,eqB_refl]
theorem f_num(m x:Int):F_is_number_below [.int m, .int x]=.ok (.bl (decide (0≤x)&&decide (x<m))):=by
 refine fn_eq rfl ?_
 have e1:isT .bool (.int x)=false:=rfl
 have e2:isT .int (.int x)=true:=rfl
 simp[e1,e2]
 by_cases h:0≤x<;>simp[h]
theorem intsD_map:∀(ns:List Int),intsD (ns.map .int)=some ns
 | []=>rfl
 |n::r=>by rw[List.map_cons,intsD,intsD_map r];rfl
theorem dd_app:∀(ns acc:List Int),(acc++ns).Nodup→ns.foldl (fun σ v=>if σ.any (· == v)then σ else σ++[v]) acc=acc++ns
 | [],acc,_=>by simp
 |n::r,acc,h=>by
  have h1:acc.any (· == n)=false:=by
   rw[List.any_eq_false]
   intro x hx e
   have:=(List.nodup_append.mp h).2.2 x hx n List.mem_cons_self
   exact this (by simpa using e)
  rw[List.foldl_cons,h1]
  simp only[Bool.false_eq_true,if_false]
  rw[dd_app r (acc++[n]) (by simpa using h)]
  simp
theorem dd_nodup{ns:List Int}(h:ns.Nodup):dd ns=ns:=by
 have:=dd_app ns [] (by simpa using h)
 simpa[dd]using this
theorem nodup_cast{l:List Nat}(h:l.Nodup):(l.map fun(x:Nat)=>(x:Int)).Nodup:=by
 rw[List.nodup_iff_pairwise_ne]at h ⊢
 rw[List.pairwise_map]
 exact h.imp fun{a b} hab e=>hab (by omega)
theorem bls_map{α:Type}(f:α→Bool):∀l:List α,bls (l.map fun x=>D.bl (f x))=some (l.map f)
 | []=>rfl
 |x::l=>by rw[List.map_cons,bls,bls_map f l];rfl
theorem allD_map{α:Type}(f:α→Bool)(l:List α):allD [.lst (l.map fun x=>D.bl (f x))]=.ok (.bl (l.all f)):=by
 show(match bls (l.map fun x=>D.bl (f x))with|some bs=>R.ok (D.bl (bs.all id))|none=>.bad)=_
 rw[bls_map];simp[List.all_map]
theorem all_true(n:Nat):allD [.lst ((List.range n).map fun _=>D.bl true)]=.ok (.bl true):=by rw[allD_map (fun _=>true)];simp
theorem lenSet_row{n:Nat}{p:Nat→Nat}(o:Ord n p)(h:n≤9):lenSetD (rowD n p)=.ok (.int (n:Int)):=by
 show(match intsD ((List.range n).map fun i=>D.int (p i:Int))with|some ns=>if ns.length<1000 then R.ok (D.int (dd ns).length)else .bad|none=>.bad)=_
 have e:((List.range n).map fun i=>D.int (p i:Int))=(((List.range n).map p).map fun(x:Nat)=>(x:Int)).map D.int:=by simp
 rw[e,intsD_map]
 simp only
 rw[dd_nodup (nodup_cast o.nd)]
 simp
 omega
theorem f_part{n m:Nat}{p:Nat→Nat}(o:Ord n p)(h:n≤9):F_is_part_of_order [.int (n:Int),rowD n p]=.ok (.bl true):=by
 refine fn_eq rfl ?_
 have e1:isT .tuple (rowD n p)=true:=rfl
 have e2:itsR (rowD n p)=.ok ((List.range n).map fun i=>.int (p i:Int)):=rfl
 simp[e1,e2]
 rw[mapC_map (fun i=>D.int (p i:Int)) (fun i=>D.bl true) (List.range n) (fun i hi=>by
  have:=o.lt i (by simpa using hi)
  simp[f_num];omega)]
 simp[all_true,lenSet_row o h]
theorem f_isord{n:Nat}{p:Nat→Nat}(o:Ord n p)(h:n≤9):F_is_order [.int (n:Int),rowD n p]=.ok (.bl true):=by
 refine fn_eq rfl ?_
 simp[f_part (m:=0) o h]
theorem f_col{n m:Nat}{g:Nat→Nat→Nat}(c:Nat)(hc:c<n):F_column_of [sqD n g, .int (c:Int)]=.ok (rowD n (fun r=>g r c)):=by
 refine fn_eq rfl ?_
 have e2:itsR (sqD n g)=.ok ((List.range n).map fun r=>rowD n (g r)):=rfl
 simp[e2]
 rw[mapC_map (fun r=>rowD n (g r)) (fun r=>D.int (g r c:Int)) (List.range n) (fun i hi=>by simp[z_row hc])]
 simp[rowD]
theorem f_cols{n:Nat}{g:Nat→Nat→Nat}(h1:1≤n)(h:n≤9):F_columns_of [sqD n g]=.ok (sqD n (fun r c=>g c r)):=by
 refine fn_eq rfl ?_
 have e0:ixD (sqD n g) (.int 0)=.ok (rowD n (g 0)):=z_sqr (i:=0) (by omega)
 simp[e0,z_rg1 n (by omega)]
 rw[mapC_map (fun(i:Nat)=>D.int (i:Int)) (fun c=>rowD n (fun r=>g r c)) (List.range n) (fun c hc=>by simp[f_col (m:=0) c (by simpa using hc)])]
 simp[sqD]
theorem Lat.rowO{n:Nat}{g:Nat→Nat→Nat}(L:Lat n g){r:Nat}(h:r<n):Ord n (g r):=⟨fun c hc=>L.lt r c h hc,fun c d hc hd e=>L.row r c d h hc hd e⟩
theorem Lat.tr{n:Nat}{g:Nat→Nat→Nat}(L:Lat n g):Lat n (fun r c=>g c r):=⟨fun r c hr hc=>L.lt c r hc hr,fun r c d hr hc hd e=>L.col c d r hc hd hr e,fun r s c hr hs hc e=>L.row c r s hc hr hs e⟩
theorem f_issq{n:Nat}{g:Nat→Nat→Nat}(L:Lat n g)(h1:1≤n)(h:n≤9):F_is_square [sqD n g]=.ok (.bl true):=by
 refine fn_eq rfl ?_
 have e1:isT .tuple (sqD n g)=true:=rfl
 have e2:∀g,itsR (sqD n g)=.ok ((List.range n).map fun r=>rowD n (g r)):=fun _=>rfl
 have c1:(1:Int)≤(n:Int):=by omega
 have c2:(n:Int)≤9:=by omega
 simp[e1,c1,c2,e2,f_cols h1 h]
 rw[mapC_map (fun r=>rowD n (g r)) (fun i=>D.bl true) (List.range n) (fun i hi=>by simp[f_isord (L.rowO (by simpa using hi)) h])]
 simp[all_true,f_cols h1 h,e2]
 rw[mapC_map (fun r=>rowD n (fun c=>g c r)) (fun i=>D.bl true) (List.range n) (fun i hi=>by simp[f_isord (L.tr.rowO (by simpa using hi)) h])]
 simp[all_true]
theorem f_checked{n:Nat}{g:Nat→Nat→Nat}(L:Lat n g)(h1:1≤n)(h:n≤9):F_checked [sqD n g]=.ok (sqD n g):=by
 refine fn_eq rfl ?_
 simp[f_issq L h1 h]
noncomputable def itr(s:Nat→Nat):Nat→Nat→Nat
 |0,c=>c
 |k+1,c=>s (itr s k c)
noncomputable def orbL(s:Nat→Nat)(c m:Nat):List Nat:=(List.range m).map fun i=>itr s i c
section
variable{n:Nat}{s:Nat→Nat}(o:Ord n s)
include o
end
noncomputable def intsL(l:List Nat):List D:=l.map fun(x:Nat)=>D.int (x:Int)
theorem inB_ints(x:Nat):∀l:List Nat,inB (.int (x:Int)) (intsL l)=decide (x∈l)
 | []=>by simp[inB,intsL]
 |y::l=>by
  have ih:=inB_ints x l
  unfold inB intsL at ih ⊢
  rw[List.map_cons,List.any_cons,ih,eqB_int]
  have e:((y:Int)=(x:Int))↔x=y:=by omega
  by_cases h:x=y<;>simp[e,h]
theorem dep_ints(l:List Nat):dep (.lst (intsL l))≤1:=by
 rw[dep_lst]
 have:=deps_le (k:=0) (intsL l) fun d hd=>by obtain⟨i,_,rfl⟩:=List.mem_map.mp hd;simp
 omega
theorem z_nin(x:Nat)(l:List Nat):ninD (.int (x:Int)) (.lst (intsL l))=.ok (.bl (!decide (x∈l))):=by
 show(if deps (intsL l)≤39∧dep (.int (x:Int))≤40 then R.ok (D.bl (!inB (.int (x:Int)) (intsL l)))else .bad)=_
 rw[if_pos (by have:=dep_ints l;rw[dep_lst]at this;rw[dep_int];omega),inB_ints]
theorem whl_step{k:Nat}{c:Rho→R Bool}{B:Tau→Fl}{τ τ':Tau}(h1:c (view τ)=.ok true)(h2:B τ=.nx τ'):sWhl (k+1) c B τ=sWhl k c B τ':=by
 conv=>lhs;unfold sWhl
 simp only[h1,h2]
theorem whl_end{k:Nat}{c:Rho→R Bool}{B:Tau→Fl}{τ:Tau}(h1:c (view τ)=.ok false):sWhl (k+1) c B τ=.nx τ:=by
 conv=>lhs;unfold sWhl
 simp only[h1]
structure Lead(n:Nat)(p q s:Nat→Nat):Prop where
 P:Ord n p
 Q:Ord n q
 S:Ord n s
 eq:∀c,c<n→p (s c)=q c
structure RingsOk(n k:Nat)(s:Nat→Nat)(rs:List (List Nat)):Prop where
 ring:∀r∈rs,∃c m,c<n∧1≤m∧m≤n∧itr s m c=c∧r=orbL s c m
 nd:rs.flatten.Nodup
 lt:∀x∈rs.flatten,x<n
 all:∀x,x<k→x∈rs.flatten
 low:∀r∈rs,∀x∈r,r.headD 0≤x
 asc:(rs.map fun r=>r.headD 0).Pairwise (· < ·)
 below:∀r∈rs,r.headD 0<k
noncomputable def blkD(r c:Nat)(b:Nat→Nat→Nat):D:=.tup ((List.range r).map fun i=>rowD c (b i))
@[simp] theorem z_isiBlk(T:Ty)(r c:Nat)(b:Nat→Nat→Nat):isiD T (blkD r c b)=.ok (.bl (isT T (blkD r c b))):=rfl
@[simp] theorem len_blk(r c:Nat)(b:Nat→Nat→Nat):lenD [blkD r c b]=.ok (.int (r:Int)):=by simp[blkD]
theorem its_blk(r c:Nat)(b:Nat→Nat→Nat):itsR (blkD r c b)=.ok ((List.range r).map fun i=>rowD c (b i)):=rfl
theorem its_row(n:Nat)(p:Nat→Nat):itsR (rowD n p)=.ok ((List.range n).map fun i=>.int (p i:Int)):=rfl
theorem z_blk{r c:Nat}{b:Nat→Nat→Nat}{i:Nat}(h:i<r):ixD (blkD r c b) (.int (i:Int))=.ok (rowD c (b i)):=by
 unfold blkD
 show(match atI ((List.range r).map fun i=>rowD c (b i)) (i:Int)with|some d=>R.ok d|none=>.bad)=_
 rw[at_nat _ _ (by simpa using h)]
 simp[h]
theorem z_blk0{r c:Nat}{b:Nat→Nat→Nat}(h:0<r):ixD (blkD r c b) (.int 0)=.ok (rowD c (b 0)):=z_blk (i:=0) h
structure Prt(n m:Nat)(p:Nat→Nat):Prop where
 lt:∀i,i<m→p i<n
 inj:∀i j,i<m→j<m→p i=p j→i=j
theorem Prt.nd{n m:Nat}{p:Nat→Nat}(o:Prt n m p):((List.range m).map p).Nodup:=by
 rw[List.nodup_iff_pairwise_ne,List.pairwise_map]
 refine(List.Pairwise.and_mem.mp (List.nodup_iff_pairwise_ne.mp (List.nodup_range (n:=m)))).imp fun{a b} ⟨ha,hb,h⟩ e=>h (o.inj a b (by simpa using ha) (by simpa using hb) e)
theorem lenSet_prt{n m:Nat}{p:Nat→Nat}(o:Prt n m p)(h:m≤9):lenSetD (rowD m p)=.ok (.int (m:Int)):=by
 show(match intsD ((List.range m).map fun i=>D.int (p i:Int))with|some ns=>if ns.length<1000 then R.ok (D.int (dd ns).length)else .bad|none=>.bad)=_
 have e:((List.range m).map fun i=>D.int (p i:Int))=(((List.range m).map p).map fun(x:Nat)=>(x:Int)).map D.int:=by simp
 rw[e,intsD_map]
 simp only
 rw[dd_nodup (nodup_cast o.nd)]
 simp
 omega
theorem f_prt{n m:Nat}{p:Nat→Nat}(o:Prt n m p)(h:m≤9):F_is_part_of_order [.int (n:Int),rowD m p]=.ok (.bl true):=by
 refine fn_eq rfl ?_
 have e1:isT .tuple (rowD m p)=true:=rfl
 simp[e1,its_row]
 rw[mapC_map (fun i=>D.int (p i:Int)) (fun i=>D.bl true) (List.range m) (fun i hi=>by
  have:=o.lt i (by simpa using hi)
  simp[f_num];omega)]
 simp[all_true,lenSet_prt o h]
theorem f_colB{r c:Nat}{b:Nat→Nat→Nat}(j:Nat)(hj:j<c):F_column_of [blkD r c b, .int (j:Int)]=.ok (rowD r (fun i=>b i j)):=by
 refine fn_eq rfl ?_
 simp[its_blk]
 rw[mapC_map (fun i=>rowD c (b i)) (fun i=>D.int (b i j:Int)) (List.range r) (fun i hi=>by simp[z_row hj])]
 simp[rowD]
theorem f_colsB{r c:Nat}{b:Nat→Nat→Nat}(h1:1≤r)(h:c≤9):F_columns_of [blkD r c b]=.ok (blkD c r (fun i j=>b j i)):=by
 refine fn_eq rfl ?_
 simp[z_blk0 (r:=r) (c:=c) (b:=b) h1,z_rg1 c (by omega)]
 rw[mapC_map (fun(i:Nat)=>D.int (i:Int)) (fun j=>rowD r (fun i=>b i j)) (List.range c) (fun j hj=>by simp[f_colB j (by simpa using hj)])]
 simp[blkD]
theorem blk_row{n r c:Nat}{b:Nat→Nat→Nat}(B:K7.Blk n r c b){i:Nat}(h:i<r):Prt n c (b i):=⟨fun j hj=>B.lt i j h hj,fun j k hj hk e=>B.row i j k h hj hk e⟩
theorem blk_col{n r c:Nat}{b:Nat→Nat→Nat}(B:K7.Blk n r c b){j:Nat}(h:j<c):Prt n r (fun i=>b i j):=⟨fun i hi=>B.lt i j hi h,fun i k hi hk e=>B.col i k j hi hk h e⟩
theorem blk_tr{n r c:Nat}{b:Nat→Nat→Nat}(B:K7.Blk n r c b):K7.Blk n c r (fun i j=>b j i):=⟨fun i j hi hj=>B.lt j i hj hi,fun i j k hi hj hk e=>B.col j k i hj hk hi e,fun i k j hi hk hj e=>B.row j i k hj hi hk e⟩
theorem f_many{n:Nat}(h1:1≤n)(h9:n≤9):F_check_many [.int (n:Int)]=.ok .non:=by
 refine fn_eq rfl ?_
 have a:(n:Int)<10:=by omega
 have b:¬n=0:=by omega
 simp[f_num,a,b]
section
variable{n r c:Nat}{b:Nat→Nat→Nat}
theorem f_isblk(B:K7.Blk n r c b)(hr:1≤r)(hrn:r≤n)(hc:1≤c)(h9:n≤9):F_is_block [.int (n:Int),blkD r c b]=.ok (.bl true):=by
 have hcn:c≤n:=K7.row_le B hr
 refine fn_eq rfl ?_
 have e1:isT .tuple (blkD r c b)=true:=rfl
 have g1:(1:Int)≤(r:Int):=by omega
 have g2:(r:Int)≤(n:Int):=by omega
 have g3:¬c=0:=by omega
 simp[e1,g1,g2,its_blk]
 rw[mapC_map (fun i=>rowD c (b i)) (fun i=>D.bl true) (List.range r) (fun i hi=>by simp[f_prt (blk_row B (by simpa using hi)) (by omega)])]
 simp[all_true,z_blk0 (r:=r) (c:=c) (b:=b) hr,g3,its_blk]
 rw[mapC_map (fun i=>rowD c (b i)) (fun i=>D.bl true) (List.range r) (fun i hi=>by simp)]
 simp[all_true,f_colsB (b:=b) hr (show c≤9 by omega),its_blk]
 rw[mapC_map (fun j=>rowD r (fun i=>b i j)) (fun i=>D.bl true) (List.range c) (fun j hj=>by simp[f_prt (blk_col B (by simpa using hj)) (by omega)])]
 simp[all_true]
theorem f_chkblk(B:K7.Blk n r c b)(hr:1≤r)(hrn:r≤n)(hc:1≤c)(h9:n≤9):F_check_block [.int (n:Int),blkD r c b]=.ok .non:=by
 refine fn_eq rfl ?_
 simp[f_many (show 1≤n by omega) h9,f_isblk B hr hrn hc h9]
theorem count_row{p:Nat→Nat}{m:Nat}(o:Prt n m p)(l:Nat):countD (rowD m p) (.int (l:Int))=.ok (.int ((K7.ind (decide (l∈(List.range m).map p)):Nat):Int)):=by
 show cnt ((List.range m).map fun i=>D.int (p i:Int)) (.int (l:Int))=_
 have e:((List.range m).map fun i=>D.int (p i:Int))=(((List.range m).map p).map fun(x:Nat)=>(x:Int)).map D.int:=by simp
 unfold cnt
 rw[e,intsD_map]
 simp only
 congr 3
 have nd:=nodup_cast o.nd
 rw[List.Nodup.count nd]
 unfold K7.ind
 have:(((l:Nat):Int)∈((List.range m).map p).map fun(x:Nat)=>(x:Int))↔l∈(List.range m).map p:=by
  constructor
  ·intro h
   obtain⟨x,hx,e⟩:=List.mem_map.mp h
   have:x=l:=by omega
   rw[←this];exact hx
  ·intro h;exact List.mem_map.mpr ⟨l,h,rfl⟩
 by_cases h:l∈(List.range m).map p
 ·rw[if_pos (this.mpr h),decide_eq_true h];rfl
 ·rw[if_neg (fun z=>h (this.mp z)),decide_eq_false h];rfl
theorem count_blk(B:K7.Blk n r c b){i:Nat}(hi:i<r)(l:Nat):countD (rowD c (b i)) (.int (l:Int))=.ok (.int ((K7.ind (decide (l∈K7.row b c i)):Nat):Int)):=count_row (blk_row B hi) l
theorem sum_cast:∀(l:List Nat),(l.map fun(x:Nat)=>(x:Int)).sum=((l.sum:Nat):Int)
 | []=>rfl
 |x::r=>by simp[sum_cast r]
theorem f_times(B:K7.Blk n r c b)(l:Nat):F_times_in [blkD r c b, .int (l:Int)]=.ok (.int ((K7.tms b r c l:Nat):Int)):=by
 refine fn_eq rfl ?_
 simp[its_blk]
 rw[mapC_map (fun i=>rowD c (b i)) (fun i=>D.int ((K7.ind (decide (l∈K7.row b c i)):Nat):Int)) (List.range r) (fun i hi=>by
  simp[count_blk B (show i<r by simpa using hi) l])]
 have e:((List.range r).map fun i=>D.int ((K7.ind (decide (l∈K7.row b c i)):Nat):Int))=(((List.range r).map fun i=>K7.ind (decide (l∈K7.row b c i))).map fun(x:Nat)=>(x:Int)).map D.int:=by simp
 have s:sumD [.lst ((List.range r).map fun i=>D.int ((K7.ind (decide (l∈K7.row b c i)):Nat):Int))]=.ok (.int ((K7.tms b r c l:Nat):Int)):=by
  rw[e]
  show(match intsD (List.map D.int _)with|some ns=>R.ok (D.int ns.sum)|none=>.bad)=_
  rw[intsD_map]
  simp only
  rw[sum_cast]
  rfl
 simp[s]
theorem f_least(hr:1≤r):F_least_times [.int (n:Int),blkD r c b]=.ok (.int ((r:Int)+(c:Int) - (n:Int))):=by
 refine fn_eq rfl ?_
 simp[z_blk0 (r:=r) (c:=c) (b:=b) hr]
noncomputable def scl(n r c:Nat)(b:Nat→Nat→Nat):List Nat:=(List.range n).filter fun l=>decide (K7.tms b r c l+n<r+c)
theorem f_scarce(B:K7.Blk n r c b)(hr:1≤r)(hrn:r≤n)(hc:1≤c)(h9:n≤9):F_scarce [.int (n:Int),blkD r c b]=.ok (.lst (intsL (scl n r c b))):=by
 refine fn_eq rfl ?_
 simp[f_chkblk B hr hrn hc h9,z_rg1 n (by omega)]
 rw[mapC_filt (fun(l:Nat)=>D.int (l:Int)) (fun l=>decide (K7.tms b r c l+n<r+c)) (fun(l:Nat)=>D.int (l:Int)) (List.range n) (fun l hl=>by
  refine⟨?_,fun _=>by simp⟩
  simp[f_times B l,f_least (n:=n) (c:=c) (b:=b) hr]
  omega)]
 simp[scl,intsL]
theorem f_lni(hc:c≤9)(h9:n≤9)(i:Nat):F_letters_not_in [.int (n:Int),rowD c (b i)]=.ok (.lst (intsL (K7.nin n b c i))):=by
 refine fn_eq rfl ?_
 have e:∀l:Nat,ninD (.int (l:Int)) (rowD c (b i))=.ok (.bl (!decide (l∈K7.row b c i))):=fun l=>by
  have h1:rowD c (b i)=.tup (intsL (K7.row b c i)):=by simp[rowD,intsL,K7.row]
  have h2:=z_nin l (K7.row b c i)
  rw[h1]
  exact h2
 simp[z_rg1 n (by omega)]
 rw[mapC_filt (fun(l:Nat)=>D.int (l:Int)) (fun l=> !decide (l∈K7.row b c i)) (fun(l:Nat)=>D.int (l:Int)) (List.range n) (fun l hl=>⟨by simp[e],fun _=>by simp⟩)]
 simp[K7.nin,intsL]
end
noncomputable def chD(cs:List (List Nat)):D:=.lst (cs.map fun ls=>.lst (intsL ls))
theorem row9_ints{ls:List Nat}(h:∀l∈ls,l<9):row9 (.lst (intsL ls))=some ls:=by
 show allO nat9 (ls.map fun(x:Nat)=>D.int (x:Int))=some ls
 rw[allO_map (k:=fun x=>x) (fun x hx=>by
  have:=h x hx
  show(if 0≤(x:Int)∧(x:Int)<9 then some (x:Int).toNat else none)=some x
  rw[if_pos (by omega)];simp)]
 simp
theorem cho9_chD{cs:List (List Nat)}(h:∀ls∈cs,∀l∈ls,l<9):cho9 (chD cs)=some cs:=by
 show allO row9 (cs.map fun ls=>D.lst (intsL ls))=some cs
 rw[allO_map (k:=fun x=>x) (fun x hx=>row9_ints (h x hx))]
 simp
section
variable{n r c:Nat}{b:Nat→Nat→Nat}
theorem f_unl(B:K7.Blk n r c b)(S:K7.NoS n r c b)(hr:0<r)(hrn:r≤n)(hc:c<n)(h9:n≤9):
  ∃f:Nat→Nat,K7.Blk n r (c+1) (K7.ext b c f)∧K7.NoS n r (c+1) (K7.ext b c f)∧F_unlike_letters [chD (K7.cho n r c b)]=.ok (.lst ((List.range n).map fun i=>.int (f i:Int))):=by
 have hlt:∀ls∈K7.cho n r c b,∀l∈ls,l<n:=K7.cho_lt
 have hlen:(K7.cho n r c b).length=n:=K7.cho_len hrn
 obtain⟨pl,e,M⟩:=K7.unl_ok (F:=10) hlt (K7.cho_hall B S hr hrn hc) (by omega) n 0 [] (by rw[hlen];omega) ⟨List.nodup_nil,(fun l q z=>by cases (show(none:Option Nat)=some q from z)),List.Perm.refl _⟩
 rw[hlen]at M
 rw[←List.range_eq_range']at e
 obtain⟨f,hf,B2,S2⟩:=K7.mat_step B S hr hrn hc M
 refine⟨f,B2,S2,?_⟩
 have vnd:(K7.vals pl).Nodup:=M.vals.nodup_iff.mpr List.nodup_range
 have hout:((List.range n).map fun i=>(f i,i)).Perm pl:=by
  refine(List.perm_ext_iff_of_nodup ?_ ?_).mpr fun p=>⟨fun hp=> ?_,fun hp=> ?_⟩
  ·rw[List.nodup_iff_pairwise_ne,List.pairwise_map]
   exact(List.nodup_iff_pairwise_ne.mp (List.nodup_range (n:=n))).imp fun{a b} h e=>h (Prod.mk.inj e).2
  ·have nd:=M.nd
   unfold K7.keys at nd
   rw[List.nodup_iff_pairwise_ne,List.pairwise_map]at nd
   exact List.nodup_iff_pairwise_ne.mpr (nd.imp fun{a b} h e=>h (by rw[e]))
  ·obtain⟨i,hi,rfl⟩:=List.mem_map.mp hp
   exact K7.lk_mem (hf i (by simpa using hi))
  ·obtain⟨l,q⟩:=p
   have hq:q∈K7.vals pl:=List.mem_map.mpr ⟨(l,q),hp,rfl⟩
   have hq2:q<n:=by simpa using M.vals.mem_iff.mp hq
   have:=K7.val_inj vnd hp (K7.lk_mem (hf q hq2))
   exact List.mem_map.mpr ⟨q,by simpa using hq2,by rw[this]⟩
 have hs:=srt_eq hout (by
  rw[List.pairwise_map]
  exact(List.pairwise_lt_range (n:=n)).imp fun{a b} h=>Nat.le_of_lt h) vnd
 show(match cho9 (chD (K7.cho n r c b))with
  |some cs=>if cs.length≤63 then(match K7.unlF cs 10 (List.range cs.length) []with
   |some pl=>if(K7.vals pl).Nodup then R.ok (D.lst ((pl.mergeSort le2).map fun p:Nat×Nat=>D.int (p.1:Int)))else .bad
   |none=>.bad)else .bad
  |none=>.bad)=_
 rw[cho9_chD fun ls hls l hl=>by have:=hlt ls hls l hl;omega]
 dsimp only
 rw[hlen,if_pos (by omega),e]
 dsimp only
 rw[if_pos vnd,←hs,List.map_map]
 rfl
theorem sl_upto(xs:List D)(k:Nat)(h:k≤xs.length):slD (.lst xs) none (some (k:Int))=.ok (.lst (xs.take k)):=by
 show R.ok (D.lst (cutD xs none (some (k:Int))))=_
 unfold cutD
 rw[HT.sIx_nat,HT.sIx_none,Nat.min_eq_left h]
 simp
theorem z_repl(n:Rho→R (List D))(b:Rho→R D)(ρ:Rho):repl n b ρ=(n ρ>>=fun ds=>nox (b ρ)>>=fun k=>match ds,k with
 | [d], .int i=>if i.natAbs≤1000 then .ok (List.replicate i.toNat d)else .bad
 |_,_=>.bad):=rfl
theorem add_lst(xs ys:List D)(h:xs.length+ys.length≤1000000):addD (.lst xs) (.lst ys)=.ok (.lst (xs++ys)):=by
 show(if xs.length+ys.length≤sizeLine then R.ok (D.lst (xs++ys))else .bad)=_
 rw[if_pos (sl_of h)]
theorem f_next(B:K7.Blk n r c b)(S:K7.NoS n r c b)(hr:0<r)(hrn:r≤n)(hc:c<n)(h9:n≤9):
  ∃f:Nat→Nat,K7.Blk n r (c+1) (K7.ext b c f)∧K7.NoS n r (c+1) (K7.ext b c f)∧F_next_column [.int (n:Int),blkD r c b]=.ok (.lst ((List.range r).map fun i=>.int (f i:Int))):=by
 obtain⟨f,B2,S2,hu⟩:=f_unl B S hr hrn hc h9
 refine⟨f,B2,S2,fn_eq rfl ?_⟩
 simp[f_least (n:=n) (c:=c) (b:=b) hr,z_rg1 n (by omega)]
 rw[mapC_filt (fun(l:Nat)=>D.int (l:Int)) (fun l=>decide (r+c<K7.tms b r c l+n)) (fun(l:Nat)=>D.int (l:Int)) (List.range n) (fun l hl=>by
  refine⟨?_,fun _=>by simp⟩
  simp[f_times B l]
  omega)]
 simp[its_blk]
 rw[mapC_map (fun i=>rowD c (b i)) (fun i=>D.lst (intsL (K7.nin n b c i))) (List.range r) (fun i hi=>by simp[f_lni (n:=n) (b:=b) (show c≤9 by omega) h9 i])]
 have g1:((n:Int) - (r:Int)).natAbs≤1000:=by omega
 have g2:((n:Int) - (r:Int)).toNat=n - r:=by omega
 have e3:((List.range r).map fun i=>D.lst (intsL (K7.nin n b c i)))++List.replicate (n - r) (D.lst (((List.range n).filter fun l=>decide (r+c<K7.tms b r c l+n)).map fun(l:Nat)=>D.int (l:Int)))=(K7.cho n r c b).map fun ls=>D.lst (intsL ls):=by
  unfold K7.cho
  rw[List.map_append,List.map_map,List.map_replicate]
  rfl
 have e4:=add_lst ((List.range r).map fun i=>D.lst (intsL (K7.nin n b c i))) (List.replicate (n - r) (D.lst (((List.range n).filter fun l=>decide (r+c<K7.tms b r c l+n)).map fun(l:Nat)=>D.int (l:Int)))) (by simp;omega)
 rw[e3]at e4
 have e5:=sl_upto ((List.range n).map fun i=>D.int (f i:Int)) r (by simpa using hrn)
 have e6:((List.range n).map fun i=>D.int (f i:Int)).take r=(List.range r).map fun i=>D.int (f i:Int):=by
  rw[←List.map_take,List.take_range,Nat.min_eq_left hrn]
 rw[e6]at e5
 have hu2:F_unlike_letters [.lst ((K7.cho n r c b).map fun ls=>D.lst (intsL ls))]=.ok (.lst ((List.range n).map fun i=>.int (f i:Int))):=hu
 simp[z_repl,g1,g2,e4,hu2,e5]
end
theorem tupN2(a b:D):tupN 2 (.tup [a,b])=.ok [a,b]:=rfl
theorem mapC_map2{α β:Type}{ρ0:Rho}{me:Rho→R α}(e1 e2:β→D)(g:β→α):∀(l:List β),(∀b∈l,me (setD ρ0 [0,1] [e1 b,e2 b])=.ok (g b))→mapC (tupN 2) ρ0 [0,1] yes me (l.map fun b=>.tup [e1 b,e2 b])=.ok (l.map g)
 | [],_=>rfl
 |b::l,h=>by
  have h1:=h b List.mem_cons_self
  have ih:=mapC_map2 e1 e2 g l fun c hc=>h c (List.mem_cons_of_mem _ hc)
  rw[List.map_cons,mapC]
  simp only[tupN2,z_okb,z_yes,h1,ih,if_true,List.map_cons]
noncomputable abbrev wC:Rho→R Bool:=tst (bi (cmpD fun i j=>decide (i<j)) (ap lenD (cs (bi ixD (vr 1) (cn (.int 0))) (nl))) (vr 0))
noncomputable abbrev wB:Tau→Fl:=sSet 1 (ap tupD (cs (asL (cmp (apL zipD (cs (vr 1) (cs (ap F_next_column (cs (vr 0) (cs (vr 1) (nl)))) (nl)))) 2 [] [0,1] (tupN 2) (yes) (bi addD (vr 0) (tpl (cs (vr 1) (nl)))))) (nl)))
section
variable{n r:Nat}
theorem row_snoc(c:Nat)(b:Nat→Nat→Nat)(f:Nat→Nat)(i:Nat):addD (rowD c (b i)) (.tup [.int (f i:Int)])=if c+1≤sizeLine then .ok (rowD (c+1) (K7.ext b c f i))else .bad:=by
 have e:((List.range c).map fun j=>D.int (b i j:Int))++[D.int (f i:Int)]=(List.range (c+1)).map fun j=>D.int (K7.ext b c f i j:Int):=by
  rw[List.range_succ,List.map_append]
  congr 1
  ·refine List.map_congr_left fun j hj=> ?_
   have:j<c:=by simpa using hj
   unfold K7.ext
   rw[if_neg (by omega)]
  ·simp[K7.ext]
 show(if((List.range c).map fun j=>D.int (b i j:Int)).length+1≤sizeLine then R.ok (D.tup (((List.range c).map fun j=>D.int (b i j:Int))++[D.int (f i:Int)]))else .bad)=_
 rw[e];simp[rowD]
theorem w_step{c:Nat}{b:Nat→Nat→Nat}(B:K7.Blk n r c b)(S:K7.NoS n r c b)(hr:0<r)(hrn:r≤n)(hc:c<n)(h9:n≤9):
  ∃f:Nat→Nat,K7.Blk n r (c+1) (K7.ext b c f)∧K7.NoS n r (c+1) (K7.ext b c f)∧wB [some (.sh (.int (n:Int))),some (.sh (blkD r c b))]=.nx [some (.sh (.int (n:Int))),some (.sh (blkD r (c+1) (K7.ext b c f)))]:=by
 obtain⟨f,B2,S2,hf⟩:=f_next B S hr hrn hc h9
 refine⟨f,B2,S2,?_⟩
 have ez:zipD [blkD r c b, .lst ((List.range r).map fun i=>.int (f i:Int))]=.ok ((List.range r).map fun i=>.tup [rowD c (b i), .int (f i:Int)]):=by
  show R.ok (zipL ((List.range r).map fun i=>rowD c (b i)) ((List.range r).map fun i=>D.int (f i:Int)))=_
  unfold zipL
  rw[List.zip_map']
  simp
 have hsz:c+1≤sizeLine:=sl_of (by omega)
 simp[hf,ez]
 rw[mapC_map2 (fun i=>rowD c (b i)) (fun i=>D.int (f i:Int)) (fun i=>rowD (c+1) (K7.ext b c f i)) (List.range r) (fun i hi=>by simp[row_snoc,hsz])]
 simp[blkD]
theorem w_cond{c:Nat}{b:Nat→Nat→Nat}(hr:0<r):wC [some (.int (n:Int)),some (blkD r c b)]=.ok (decide (c<n)):=by
 simp[z_blk0 (r:=r) (c:=c) (b:=b) hr]
theorem w_loop(hr:0<r)(hrn:r≤n)(h9:n≤9):∀(k c:Nat) (b:Nat→Nat→Nat),n - c=k→K7.Blk n r c b→K7.NoS n r c b→∃b',K7.Blk n r n b'∧(∀i j,i<r→j<c→b' i j=b i j)∧∀fuel,k<fuel→sWhl fuel wC wB [some (.sh (.int (n:Int))),some (.sh (blkD r c b))]=.nx [some (.sh (.int (n:Int))),some (.sh (blkD r n b'))]
 |0,c,b,hk,B,S=>by
  have hcn:=K7.row_le B hr
  have:c=n:=by omega
  subst this
  refine⟨b,B,fun _ _ _ _=>rfl,fun fuel hf=> ?_⟩
  obtain⟨m,rfl⟩:∃m,fuel=m+1:=⟨fuel - 1,by omega⟩
  exact whl_end (by
   have:=w_cond (n:=c) (c:=c) (b:=b) hr
   rw[decide_eq_false (Nat.lt_irrefl c)]at this
   exact this)
 |k+1,c,b,hk,B,S=>by
  have hc:c<n:=by omega
  obtain⟨f,B2,S2,hs⟩:=w_step B S hr hrn hc h9
  obtain⟨b',B3,hx,hl⟩:=w_loop hr hrn h9 k (c+1) (K7.ext b c f) (by omega) B2 S2
  refine⟨b',B3,fun i j hi hj=> ?_,fun fuel hf=> ?_⟩
  ·rw[hx i j hi (by omega)]
   unfold K7.ext
   rw[if_neg (by omega)]
  ·obtain⟨m,rfl⟩:∃m,fuel=m+1:=⟨fuel - 1,by omega⟩
   rw[whl_step (by
    have:=w_cond (n:=n) (c:=c) (b:=b) hr
    rw[decide_eq_true hc]at this
    exact this) hs]
   exact hl m (by omega)
theorem f_wide{c:Nat}{b:Nat→Nat→Nat}(hr:0<r)(hrn:r≤n)(h9:n≤9)(B:K7.Blk n r c b)(S:K7.NoS n r c b):∃b',K7.Blk n r n b'∧(∀i j,i<r→j<c→b' i j=b i j)∧F_widened [.int (n:Int),blkD r c b]=.ok (blkD r n b'):=by
 obtain⟨b',B2,hx,hl⟩:=w_loop hr hrn h9 (n - c) c b rfl B S
 refine⟨b',B2,hx,fn_eq rfl ?_⟩
 have:=hl 10 (by omega)
 have e:sq (sWhl 10 wC wB) (sRet (vr 1)) [some (.sh (.int (n:Int))),some (.sh (blkD r c b))]=.rt (blkD r n b'):=by
  rw[z_sq,this]
  simp
 rw[show(List.map (fun d=>some (Sl.sh d)) [D.int (n:Int),blkD r c b]++List.replicate (2 - 2) none)=[some (.sh (.int (n:Int))),some (.sh (blkD r c b))]from rfl]
 unfold M_widened
 rw[e]
theorem full_no{b:Nat→Nat→Nat}(B:K7.Blk n r n b):K7.NoS n n r (fun i j=>b j i):=by
 intro l hl
 have ex:∀i,i<r→∃j,j<n∧b i j=l:=fun i hi=>by
  have p:=nd_perm n ((List.range n).map (b i)) (blk_row B hi).nd (fun x hx=>by
   obtain⟨j,hj,rfl⟩:=List.mem_map.mp hx
   exact B.lt i j hi (by simpa using hj)) (by simp)
  obtain⟨j,hj,e⟩:=List.mem_map.mp (p.mem_iff.mpr (by simpa using hl:l∈List.range n))
  exact⟨j,by simpa using hj,e⟩
 let q:Nat→Nat:=fun i=>if h:i<r then(ex i h).choose else 0
 have hq:∀i,i<r→q i<n∧b i (q i)=l:=fun i hi=>by
  have:q i=(ex i hi).choose:=dif_pos hi
  rw[this];exact(ex i hi).choose_spec
 have hle:r≤K7.tms (fun i j=>b j i) n r l:=by
  unfold K7.tms
  rw[K7.ind_sum]
  have:((List.range r).map q).length≤((List.range n).filter fun j=>decide (l∈K7.row (fun i j=>b j i) r j)).length:=by
   refine K7.sub_len ?_ fun x hx=> ?_
   ·rw[List.nodup_iff_pairwise_ne,List.pairwise_map]
    refine(List.Pairwise.and_mem.mp (List.nodup_iff_pairwise_ne.mp (List.nodup_range (n:=r)))).imp fun{a c} ⟨ha,hc,h⟩ e=>h ?_
    have ha':=hq a (by simpa using ha)
    have hc':=hq c (by simpa using hc)
    exact B.col a c (q a) (by simpa using ha) (by simpa using hc) ha'.1 (by rw[ha'.2,e,hc'.2])
   ·obtain⟨i,hi,rfl⟩:=List.mem_map.mp hx
    have hi':i<r:=by simpa using hi
    refine List.mem_filter.mpr ⟨by simpa using(hq i hi').1,decide_eq_true ?_⟩
    exact List.mem_map.mpr ⟨i,hi,(hq i hi').2⟩
  simpa using this
 omega
theorem blk_lat{b:Nat→Nat→Nat}(B:K7.Blk n n n b):Lat n b:=⟨B.lt,B.row,B.col⟩
theorem lat_blk{g:Nat→Nat→Nat}(L:Lat n g){c:Nat}(hr:r≤n)(hc:c≤n):K7.Blk n r c g:=⟨fun i j hi hj=>L.lt i j (by omega) (by omega),fun i j k hi hj hk e=>L.row i j k (by omega) (by omega) (by omega) e,fun i k j hi hk hj e=>L.col i k j (by omega) (by omega) (by omega) e⟩
theorem scl_nil{c:Nat}{b:Nat→Nat→Nat}:scl n r c b=[]↔K7.NoS n r c b:=by
 unfold scl K7.NoS
 rw[List.filter_eq_nil_iff]
 constructor
 ·intro h l hl
  have:=h l (by simpa using hl)
  simp at this;omega
 ·intro h l hl
  have:=h l (by simpa using hl)
  simp;omega
theorem f_filled0{c:Nat}{b:Nat→Nat→Nat}(B:K7.Blk n r c b)(hr:1≤r)(hrn:r≤n)(hc:1≤c)(h9:n≤9)(h:scl n r c b≠[]):F_filled [.int (n:Int),blkD r c b]=.ok .non:=by
 refine fn_eq rfl ?_
 have e:(intsL (scl n r c b)).isEmpty=false:=by
  cases q:scl n r c b with
  |nil=>exact absurd q h
  |cons x t=>rfl
 simp[f_scarce B hr hrn hc h9,e]
theorem f_filled1{c:Nat}{b:Nat→Nat→Nat}(B:K7.Blk n r c b)(hr:1≤r)(hrn:r≤n)(hc:1≤c)(h9:n≤9)(h:scl n r c b=[]):∃g,Lat n g∧(∀i j,i<r→j<c→g i j=b i j)∧F_filled [.int (n:Int),blkD r c b]=.ok (sqD n g):=by
 obtain⟨b1,B1,x1,e1⟩:=f_wide hr hrn h9 B (scl_nil.mp h)
 obtain⟨b2,B2,x2,e2⟩:=f_wide (show 0<n by omega) (Nat.le_refl n) h9 (blk_tr B1) (full_no B1)
 have c1:=f_colsB (r:=r) (c:=n) (b:=b1) hr h9
 have c2:=f_colsB (r:=n) (c:=n) (b:=b2) (by omega) h9
 have hcn:=K7.row_le B hr
 refine⟨fun i j=>b2 j i,blk_lat (blk_tr B2),fun i j hi hj=> ?_,fn_eq rfl ?_⟩
 ·show b2 j i=b i j
  rw[x2 j i (by omega) hi,x1 i j hi hj]
 ·have e:(intsL (scl n r c b)).isEmpty=true:=by rw[h];rfl
  simp[f_scarce B hr hrn hc h9,e,e1,c1,e2,c2]
  rfl
end
@[simp] theorem z_sliT(m:Rho→R D)(l h:Rho→R (Option Int))(ρ:Rho):sliT m l h ρ=(m ρ>>=fun d=>l ρ>>=fun lo=>h ρ>>=fun hi=>slT d lo hi):=rfl
@[simp] theorem z_orW(m n:Rho→R D)(ρ:Rho):orW m n ρ=(m ρ>>=fun d=>truR d>>=fun c=>if c=true then .ok d else n ρ):=rfl
theorem slT_take(xs:List D)(k:Nat)(h:k≤xs.length):slT (.tup xs) none (some (k:Int))=.ok (.tup (xs.take k)):=by
 show R.ok (D.tup (cutD xs none (some (k:Int))))=_
 unfold cutD
 rw[HT.sIx_nat,HT.sIx_none,Nat.min_eq_left h]
 simp
theorem slT_row{n c:Nat}{p:Nat→Nat}(h:c≤n):slT (rowD n p) none (some (c:Int))=.ok (rowD c p):=by
 unfold rowD
 rw[slT_take _ _ (by simpa using h),←List.map_take,List.take_range,Nat.min_eq_left h]
theorem slT_blk{n c r:Nat}{b:Nat→Nat→Nat}(h:r≤n):slT (blkD n c b) none (some (r:Int))=.ok (blkD r c b):=by
 unfold blkD
 rw[slT_take _ _ (by simpa using h),←List.map_take,List.take_range,Nat.min_eq_left h]
theorem for_or{is:List Nat}{f:D→R (List D)}{B:Tau→Fl}(P:Nat→Tau→Prop)(Q:D→Prop):∀(ds:List D) (k:Nat) (τ:Tau),P k τ→(∀i d τ,ds[i]? =some d→P (k+i) τ→∃vs,f d=.ok vs∧((∃τ',B (setT τ is vs)=.nx τ'∧P (k+i+1) τ')∨∃x,B (setT τ is vs)=.rt x∧Q x))→
  (∃τ',forL is f B ds τ=.nx τ'∧P (k+ds.length) τ')∨∃x,forL is f B ds τ=.rt x∧Q x
 | [],k,τ,h,_=>.inl ⟨τ,rfl,h⟩
 |d::ds,k,τ,h,st=>by
  obtain⟨vs,h1,h2⟩:=st 0 d τ rfl h
  rcases h2 with⟨τ1,h2,h3⟩|⟨x,h2,h3⟩
  ·rcases for_or P Q ds (k+1) τ1 h3 fun i d' τ' e p=>by
    obtain⟨vs,a,c⟩:=st (i+1) d' τ' (by simpa using e) (by rw[show k+(i+1)=k+1+i by omega];exact p)
    refine⟨vs,a,?_⟩
    rw[show k+1+i+1=k+(i+1)+1 by omega];exact c with⟨τ2,h4,h5⟩|⟨x,h4,h5⟩
   ·refine .inl ⟨τ2,?_,by rw[List.length_cons,show k+(ds.length+1)=k+1+ds.length by omega];exact h5⟩
    rw[forL];simp only[h1,h2,h4]
   ·refine .inr ⟨x,?_,h5⟩
    rw[forL];simp only[h1,h2,h4]
  ·refine .inr ⟨x,?_,h3⟩
   rw[forL];simp only[h1,h2]
theorem for_rngor{i:Nat}{B:Tau→Fl}(P:Nat→Tau→Prop)(Q:D→Prop)(n:Nat)(τ:Tau)(h0:P 0 τ)(st:∀j τ,j<n→P j τ→(∃τ',B (τ.set i (some (.sh (.int (j:Int)))))=.nx τ'∧P (j+1) τ')∨∃x,B (τ.set i (some (.sh (.int (j:Int)))))=.rt x∧Q x):
  (∃τ',forL [i] one B ((List.range n).map fun(j:Nat)=>D.int (j:Int)) τ=.nx τ'∧P n τ')∨∃x,forL [i] one B ((List.range n).map fun(j:Nat)=>D.int (j:Int)) τ=.rt x∧Q x:=by
 have:=for_or (is:=[i]) (f:=one) (B:=B) P Q ((List.range n).map fun(j:Nat)=>D.int (j:Int)) 0 τ h0 fun j d τ e p=>by
  rw[List.getElem?_map]at e
  cases hj:(List.range n)[j]? with
  |none=>rw[hj]at e;cases e
  |some q=>
   have hlt:j<n:=by have:=(List.getElem?_eq_some_iff.mp hj).1;simpa using this
   rw[List.getElem?_range hlt]at hj
   cases hj
   rw[List.getElem?_range hlt]at e
   cases e
   refine⟨_,rfl,?_⟩
   rw[Nat.zero_add]at p ⊢
   exact st j τ hlt p
 simpa using this
theorem noLs_ints:∀l:List Nat,noL.noLs (intsL l)=true
 | []=>rfl
 |x::r=>by
  show(noL (.int (x:Int))&&noL.noLs (intsL r))=true
  rw[noLs_ints r];rfl
theorem eq_nil(l:List Nat):eqD (.lst (intsL l)) (.lst [])=.ok (.bl l.isEmpty):=by
 rw[z_eq ⟨by have:=dep_ints l;omega,by simp⟩,eqB_lnil]
 cases l<;>rfl
noncomputable def IsBlk(n:Nat)(x:D):Prop:=∃r c b,1≤r∧r≤n∧1≤c∧c≤n∧K7.Blk n r c b∧x=blkD r c b
theorem row_ints{c:Nat}{L:List Nat}(h:L.length=c):D.tup (intsL L)=rowD c (fun q=>L.getD q 0):=by
 unfold rowD intsL
 congr 1
 apply List.ext_getElem?
 intro i
 rw[List.getElem?_map,List.getElem?_map]
 by_cases hi:i<c
 ·rw[List.getElem?_range hi,List.getElem?_eq_getElem (by omega)]
  simp[show i<L.length by omega]
 ·rw[List.getElem?_eq_none (by omega),List.getElem?_eq_none (by simpa using hi)]
  rfl
noncomputable abbrev bIn:Tau→Fl:=(sq (sCmpV 9 (cmp (srcD (vr 5)) 1 [8] [0] one (yes) (bi ixD (vr 0) (vr 1))))
 (sq (sCmpV 10 (cmp (apL rg1 (cs (vr 1) (nl))) 1 [7,9] [0] one (tst (bi ninD (vr 0) (bi addD (vr 1) (vr 2)))) (vr 0)))
 (sq (sIf (tst (bi eqD (vr 10) (asL (lim (nl))))) (sRet (orW (ap tupD (cs (vr 5) (nl))) (tpl (cs (tpl (cs (cn (.int 0)) (nl))) (nl))))) (sk))
 (sAppF 7 (bi ixD (vr 10) (ap F__law_mix (cs (bi addD (bi addD (ap F__law_cell (cs (vr 0) (cs (cn (.int 4)) (nl)))) (bi mulD (bi mulD (cn (.int 37)) (vr 6)) (vr 6))) (bi mulD (cn (.int 11)) (vr 8))) (cs (cn (.int 9901)) (cs (ap lenD (cs (vr 10) (nl))) (nl))))))))))
structure Ln(n i:Nat)(b:Nat→Nat→Nat)(L:List Nat):Prop where
 nd:L.Nodup
 lt:∀x∈L,x<n
 ab:∀q k,q<L.length→k<i→L.getD q 0≠b k q
theorem b_in{n r c i j:Nat}{b:Nat→Nat→Nat}{L:List Nat}{xs:List Int}{o9 o10:Option Sl}(h1:1≤n)(h9:n≤9)(hi:i<n)(hc:1≤c)(hcn:c≤n)(hj:j<c)(B:K7.Blk n i c b)(hL:Ln n i b L)(hl:L.length=j):
  (∃l p9 p10,Ln n i b (L++[l])∧bIn [some (.sh (scr xs)),some (.sh (.int (n:Int))),some (.sh (.int (r:Int))),some (.sh (.int (c:Int))),none,some (.ac ((List.range i).map fun k=>rowD c (b k))),some (.sh (.int (i:Int))),some (.ac (intsL L)),some (.sh (.int (j:Int))),o9,o10]=
   .nx [some (.sh (scr xs)),some (.sh (.int (n:Int))),some (.sh (.int (r:Int))),some (.sh (.int (c:Int))),none,some (.ac ((List.range i).map fun k=>rowD c (b k))),some (.sh (.int (i:Int))),some (.ac (intsL (L++[l]))),some (.sh (.int (j:Int))),p9,p10])∨
  ∃x,bIn [some (.sh (scr xs)),some (.sh (.int (n:Int))),some (.sh (.int (r:Int))),some (.sh (.int (c:Int))),none,some (.ac ((List.range i).map fun k=>rowD c (b k))),some (.sh (.int (i:Int))),some (.ac (intsL L)),some (.sh (.int (j:Int))),o9,o10]=.rt x∧IsBlk n x:=by
 have ea:mapC one [none,some (D.int (j:Int))] [0] yes (bi ixD (vr 0) (vr 1)) ((List.range i).map fun k=>rowD c (b k))=.ok (intsL ((List.range i).map fun k=>b k j)):=by
  rw[mapC_map (fun k=>rowD c (b k)) (fun k=>D.int (b k j:Int)) (List.range i) (fun k hk=>by simp[z_row hj])]
  simp[intsL]
 have eadd:addD (.lst (intsL L)) (.lst (intsL ((List.range i).map fun k=>b k j)))=.ok (.lst (intsL (L++(List.range i).map fun k=>b k j))):=by
  rw[add_lst _ _ (by simp[intsL];omega)]
  simp[intsL]
 have es:mapC one [none,some (.lst (intsL L)),some (.lst (intsL ((List.range i).map fun k=>b k j)))] [0] (tst (bi ninD (vr 0) (bi addD (vr 1) (vr 2)))) (vr 0) ((List.range n).map fun(l:Nat)=>D.int (l:Int))=.ok (intsL ((List.range n).filter fun l=> !decide (l∈L++(List.range i).map fun k=>b k j))):=by
  rw[mapC_filt (fun(l:Nat)=>D.int (l:Int)) (fun l=> !decide (l∈L++(List.range i).map fun k=>b k j)) (fun(l:Nat)=>D.int (l:Int)) (List.range n) (fun l hl=>⟨by
   simp only[z_setD1,z_setD0,z_tst,z_bi,z_vr]
   simp[eadd,z_nin,-List.mem_append],fun _=>by simp⟩)]
  rfl
 have hn1:=noLs_ints ((List.range i).map fun k=>b k j)
 generalize hA:(List.range i).map (fun k=>b k j)=A at *
 generalize hS:((List.range n).filter fun l=> !decide (l∈L++A))=S at *
 have hn2:=noLs_ints S
 have he:=eq_nil S
 have hrg:=z_rg1 n (show n≤1000000 by omega)
 cases hSe:S with
 |nil=>
  subst hSe
  right
  by_cases h0:i=0
  ·subst h0
   refine⟨blkD 1 1 (fun _ _=>0),?_,1,1,fun _ _=>0,by omega,h1,by omega,h1,⟨fun _ _ _ _=>by omega,fun _ j k _ hj hk _=>by omega,fun i k _ hi hk _ _=>by omega⟩,rfl⟩
   have e0:truR (.tup [])=.ok false:=rfl
   simp at ea
   simp[ea,hrg,es,hn1,hn2,he]
   rfl
  ·refine⟨blkD i c b,?_,i,c,b,by omega,by omega,hc,hcn,B,rfl⟩
   have e0:((List.range i).map fun k=>rowD c (b k)).isEmpty=false:=by
    cases i with
    |zero=>exact absurd rfl h0
    |succ i=>rw[List.range_succ_eq_map];rfl
   simp[ea,hrg,es,hn1,hn2,he,e0]
   rfl
 |cons x T=>
  left
  have hpos:0<S.length:=by rw[hSe];simp
  obtain⟨k,hk,ek⟩:=emod_nat ((xs.getD 4 0+37 * (i:Int) * (i:Int)+11 * (j:Int)) * 48271%9901) S.length hpos
  have emx:F__law_mix [.int (xs.getD 4 0+37 * (i:Int) * (i:Int)+11 * (j:Int)), .int 9901, .int (S.length:Int)]=.ok (.int (k:Int)):=by rw[f_mix _ _ _ (by decide) (by omega),ek]
  have hget:(intsL S)[k]? =some (.int (S[k]:Int)):=by
   unfold intsL
   rw[List.getElem?_map,List.getElem?_eq_getElem hk];rfl
  have hix:=ix_lst _ _ _ hget
  have hmem:S[k]∈S:=List.getElem_mem hk
  generalize S[k]=y at hmem hget hix
  have hmem2:y<n∧y∉L∧y∉A:=by
   rw[←hS]at hmem
   obtain⟨m1,m2⟩:=List.mem_filter.mp hmem
   have m3:¬(y∈L++A):=by simpa using m2
   exact⟨by simpa using m1,fun z=>m3 (List.mem_append_left _ z),fun z=>m3 (List.mem_append_right _ z)⟩
  have hse:S.isEmpty=false:=by rw[hSe];rfl
  have ec:F__law_cell [scr xs, .int 4]=.ok (.int (xs.getD 4 0)):=f_cell xs 4
  have hsl:(intsL S).length=S.length:=by simp[intsL]
  have m1:mulD (.int 37) (.int (i:Int))=.ok (.int (37 * (i:Int))):=z_mulL _ _ (by decide)
  have m2:mulD (.int (37 * (i:Int))) (.int (i:Int))=.ok (.int (37 * (i:Int) * (i:Int))):=z_mulR _ _ (by omega)
  have m3:mulD (.int 11) (.int (j:Int))=.ok (.int (11 * (j:Int))):=z_mulL _ _ (by decide)
  have hlen:lenD [.lst (intsL S)]=.ok (.int (S.length:Int)):=by simp[intsL]
  have hll:(intsL L).length≤1000000:=by simp[intsL];omega
  refine⟨y,some (.ac (intsL A)),some (.ac (intsL S)),⟨?_,?_,?_⟩,?_⟩
  ·rw[List.nodup_append]
   refine⟨hL.nd,by simp,fun a ha b hb=> ?_⟩
   rw[List.mem_singleton.mp hb]
   intro z;rw[z]at ha;exact hmem2.2.1 ha
  ·intro y hy
   rcases List.mem_append.mp hy with z|z
   ·exact hL.lt y z
   ·rw[List.mem_singleton.mp z];exact hmem2.1
  ·intro q k' hq hk'
   rw[List.length_append,List.length_singleton]at hq
   by_cases hq2:q<L.length
   ·have:=hL.ab q k' hq2 hk'
    simpa[List.getElem?_append_left hq2]using this
   ·have e:q=L.length:=by omega
    rw[e]
    have:(L++[y]).getD L.length 0=y:=by simp
    rw[this,hl]
    intro z
    refine hmem2.2.2 ?_
    rw[←hA]
    exact List.mem_map.mpr ⟨k',by simpa using hk',z.symm⟩
  ·have e9:intsL (L++[y])=intsL L++[D.int (y:Int)]:=by simp[intsL]
   rw[e9]
   simp only[List.getD_eq_getElem?_getD]at ec emx
   simp[ea,hrg,es,hn1,hn2,he,hse,ec,m1,m2,m3,emx,hix,hll,hsl]
noncomputable abbrev bOut:Tau→Fl:=(sq (sNew 7 (lim (nl)))
 (sq (sFor (apL rg1 (cs (vr 3) (nl))) [8] one bIn)
 (sAppF 5 (ap tupD (cs (vr 7) (nl))))))
theorem b_out{n r c i:Nat}{b:Nat→Nat→Nat}{xs:List Int}{o7 o8 o9 o10:Option Sl}(h1:1≤n)(h9:n≤9)(hi:i<n)(hc:1≤c)(hcn:c≤n)(B:K7.Blk n i c b):
  (∃b' p7 p8 p9 p10,K7.Blk n (i+1) c b'∧bOut [some (.sh (scr xs)),some (.sh (.int (n:Int))),some (.sh (.int (r:Int))),some (.sh (.int (c:Int))),none,some (.ac ((List.range i).map fun k=>rowD c (b k))),some (.sh (.int (i:Int))),o7,o8,o9,o10]=
   .nx [some (.sh (scr xs)),some (.sh (.int (n:Int))),some (.sh (.int (r:Int))),some (.sh (.int (c:Int))),none,some (.ac ((List.range (i+1)).map fun k=>rowD c (b' k))),some (.sh (.int (i:Int))),p7,p8,p9,p10])∨
  ∃x,bOut [some (.sh (scr xs)),some (.sh (.int (n:Int))),some (.sh (.int (r:Int))),some (.sh (.int (c:Int))),none,some (.ac ((List.range i).map fun k=>rowD c (b k))),some (.sh (.int (i:Int))),o7,o8,o9,o10]=.rt x∧IsBlk n x:=by
 have loop:=for_rngor (i:=8) (B:=bIn) (fun j τ=>∃L o8 o9 o10,L.length=j∧Ln n i b L∧τ=[some (.sh (scr xs)),some (.sh (.int (n:Int))),some (.sh (.int (r:Int))),some (.sh (.int (c:Int))),none,some (.ac ((List.range i).map fun k=>rowD c (b k))),some (.sh (.int (i:Int))),some (.ac (intsL L)),o8,o9,o10])
  (IsBlk n) c [some (.sh (scr xs)),some (.sh (.int (n:Int))),some (.sh (.int (r:Int))),some (.sh (.int (c:Int))),none,some (.ac ((List.range i).map fun k=>rowD c (b k))),some (.sh (.int (i:Int))),some (.ac (intsL [])),o8,o9,o10] ⟨[],o8,o9,o10,rfl,⟨List.nodup_nil,(fun x h=>by cases h),fun q k hq _=>by simp at hq⟩,rfl⟩ (by
  rintro j τ hj ⟨L,p8,p9,p10,hl,hL,rfl⟩
  rcases b_in (r:=r) (xs:=xs) (o9:=p9) (o10:=p10) h1 h9 hi hc hcn hj B hL hl with⟨l,q9,q10,hL2,e⟩|⟨x,e,hx⟩
  ·exact .inl ⟨_,e,L++[l],_,_,_,by simp[hl],hL2,rfl⟩
  ·exact .inr ⟨x,e,hx⟩)
 have hrg:=z_rg1 c (show c≤1000000 by omega)
 rcases loop with⟨τ',hl,L,p8,p9,p10,hlen,hL,rfl⟩|⟨x,hl,hx⟩
 ·left
  refine⟨fun k q=>if k=i then L.getD q 0 else b k q,some (.ac (intsL L)),p8,p9,p10,⟨fun k q hk hq=> ?_,fun k q q' hk hq hq' e=> ?_,fun k k' q hk hk' hq e=> ?_⟩,?_⟩
  ·show(if k=i then L.getD q 0 else b k q)<n
   split
   ·refine hL.lt _ ?_
    have:L.getD q 0=L[q]'(by omega):=by simp[show q<L.length by omega]
    rw[this];exact List.getElem_mem _
   ·exact B.lt k q (by omega) hq
  ·have e:(if k=i then L.getD q 0 else b k q)=(if k=i then L.getD q' 0 else b k q'):=e
   by_cases hki:k=i
   ·rw[if_pos hki,if_pos hki]at e
    have e1:L.getD q 0=L[q]'(by omega):=by simp[show q<L.length by omega]
    have e2:L.getD q' 0=L[q']'(by omega):=by simp[show q'<L.length by omega]
    rw[e1,e2]at e
    exact(List.getElem_inj hL.nd).mp e
   ·rw[if_neg hki,if_neg hki]at e
    exact B.row k q q' (by omega) hq hq' e
  ·have e:(if k=i then L.getD q 0 else b k q)=(if k'=i then L.getD q 0 else b k' q):=e
   by_cases h2:k=i
   ·by_cases h3:k'=i
    ·omega
    ·rw[if_pos h2,if_neg h3]at e
     exact absurd e (hL.ab q k' (by omega) (by omega))
   ·by_cases h3:k'=i
    ·rw[if_neg h2,if_pos h3]at e
     exact absurd e.symm (hL.ab q k (by omega) (by omega))
    ·rw[if_neg h2,if_neg h3]at e
     exact B.col k k' q (by omega) (by omega) hq e
  ·have e1:((List.range (i+1)).map fun k=>rowD c (fun q=>if k=i then L.getD q 0 else b k q))=((List.range i).map fun k=>rowD c (b k))++[D.tup (intsL L)]:=by
    rw[List.range_succ,List.map_append,row_ints hlen]
    congr 1
    ·refine List.map_congr_left fun k hk=> ?_
     have:k<i:=by simpa using hk
     have hne:k≠i:=by omega
     simp only[hne,if_false]
    ·simp
   rw[e1]
   have hn:noL (.tup (intsL L))=true:=noLs_ints L
   have hz:((List.range i).map fun k=>rowD c (b k)).length≤1000000:=by simp;omega
   simp only[z_sq,z_new,z_lim,z_nl,z_okb]
   simp[hrg]
   rw[show(some (Sl.ac ([]:List D)))=some (Sl.ac (intsL []))from rfl,hl]
   simp[hn,sl_lt i (by omega)]
 ·right
  refine⟨x,?_,hx⟩
  simp only[z_sq,z_new,z_lim,z_nl,z_okb]
  simp[hrg]
  rw[show(some (Sl.ac ([]:List D)))=some (Sl.ac (intsL []))from rfl,hl]
theorem f_lblock(xs:List Int)(n:Nat)(h1:1≤n)(h9:n≤9):∃x,IsBlk n x∧F__law_block [scr xs, .int (n:Int)]=.ok x:=by
 obtain⟨k1,hk1,ek1⟩:=emod_nat (xs.getD 2 0 * 48271%9923) n (by omega)
 obtain⟨k2,hk2,ek2⟩:=emod_nat (xs.getD 3 0 * 48271%9907) n (by omega)
 have em1:F__law_mix [.int (xs.getD 2 0), .int 9923, .int (n:Int)]=.ok (.int (k1:Int)):=by rw[f_mix _ _ _ (by decide) (by omega),ek1]
 have em2:F__law_mix [.int (xs.getD 3 0), .int 9907, .int (n:Int)]=.ok (.int (k2:Int)):=by rw[f_mix _ _ _ (by decide) (by omega),ek2]
 have c0:F__law_cell [scr xs, .int 0]=.ok (.int (xs.getD 0 0)):=f_cell xs 0
 have c2:F__law_cell [scr xs, .int 2]=.ok (.int (xs.getD 2 0)):=f_cell xs 2
 have c3:F__law_cell [scr xs, .int 3]=.ok (.int (xs.getD 3 0)):=f_cell xs 3
 have mo:modD (.int (xs.getD 0 0)) (.int 2)=.ok (.int (xs.getD 0 0%2)):=z_mod _ _ (by decide)
 obtain⟨r,hr⟩:∃r:Nat,r=1+k1:=⟨_,rfl⟩
 obtain⟨c,hc⟩:∃c:Nat,c=1+k2:=⟨_,rfl⟩
 have z1:(1:Int)+(k1:Int)=(r:Int):=by omega
 have z2:(1:Int)+(k2:Int)=(c:Int):=by omega
 simp only[List.getD_eq_getElem?_getD]at em1 em2 c0 c2 c3 mo
 by_cases hev:xs[0]?.getD 0%2=0
 ·obtain⟨g,Lg,eg⟩:=f_sized xs 2 n h1 h9
  have eg:F__law_sized [scr xs, .int 2, .int (n:Int)]=.ok (sqD n g):=eg
  refine⟨blkD r c g,⟨r,c,g,by omega,by omega,by omega,by omega,lat_blk Lg (by omega) (by omega),rfl⟩,fn_eq rfl ?_⟩
  have s1:slT (sqD n g) none (some (r:Int))=.ok (blkD r n g):=slT_blk (by omega)
  simp[c0,c2,c3,em1,em2,mo,hev,eg,z1,z2,s1,its_blk]
  rw[mapC_map (fun i=>rowD n (g i)) (fun i=>rowD c (g i)) (List.range r) (fun i hi=>by simp[slT_row (n:=n) (p:=g i) (show c≤n by omega)])]
  simp[blkD]
 ·have loop:=for_rngor (i:=6) (B:=bOut) (fun i τ=>∃b o6 o7 o8 o9 o10,K7.Blk n i c b∧τ=[some (.sh (scr xs)),some (.sh (.int (n:Int))),some (.sh (.int (r:Int))),some (.sh (.int (c:Int))),none,some (.ac ((List.range i).map fun k=>rowD c (b k))),o6,o7,o8,o9,o10])
   (IsBlk n) r [some (.sh (scr xs)),some (.sh (.int (n:Int))),some (.sh (.int (r:Int))),some (.sh (.int (c:Int))),none,some (.ac []),none,none,none,none,none] ⟨fun _ _=>0,none,none,none,none,none,⟨fun _ _ hi=>by omega,fun _ _ _ hi=>by omega,fun _ _ _ hi=>by omega⟩,rfl⟩ (by
   rintro i τ hi ⟨b,o6,o7,o8,o9,o10,B,rfl⟩
   rcases b_out (r:=r) (xs:=xs) (o7:=o7) (o8:=o8) (o9:=o9) (o10:=o10) h1 h9 (show i<n by omega) (show 1≤c by omega) (show c≤n by omega) B with⟨b',q7,q8,q9,q10,B2,e⟩|⟨x,e,hx⟩
   ·exact .inl ⟨_,e,b',_,_,_,_,_,B2,rfl⟩
   ·exact .inr ⟨x,e,hx⟩)
  have hrg:=z_rg1 r (show r≤1000000 by omega)
  rcases loop with⟨τ',hl,b,o6,o7,o8,o9,o10,B,rfl⟩|⟨x,hl,hx⟩
  ·refine⟨blkD r c b,⟨r,c,b,by omega,by omega,by omega,by omega,B,rfl⟩,fn_eq rfl ?_⟩
   simp[c0,c2,c3,em1,em2,mo,hev,z1,z2,hrg]
   rw[hl]
   simp[blkD]
  ·refine⟨x,hx,fn_eq rfl ?_⟩
   simp[c0,c2,c3,em1,em2,mo,hev,z1,z2,hrg]
   rw[hl]
end L3
namespace L3
open PySem L2
theorem f_overL{n:Nat}{g:Nat→Nat→Nat}(L:Lat n g)(h1:1≤n)(h9:n≤9):F_over [sqD n g]=.ok (sqD n (fun r c=>g c r)):=by
 refine fn_eq rfl ?_
 simp[f_checked L h1 h9,f_cols (n:=n) (g:=g) h1 h9]
theorem lat_noS{n r c:Nat}{g:Nat→Nat→Nat}(L:Lat n g)(hr:r≤n)(hc:c≤n):K7.NoS n r c g:=by
 intro l hl
 have ex:∀i,i<r→∃j,j<n∧g i j=l:=fun i hi=>(L.rowO (show i<n by omega)).sur hl
 let q:Nat→Nat:=fun i=>if h:i<r then(ex i h).choose else 0
 have hq:∀i,i<r→q i<n∧g i (q i)=l:=fun i hi=>by
  have:q i=(ex i hi).choose:=dif_pos hi
  rw[this];exact(ex i hi).choose_spec
 have hs:=K7.not_sum (b:=g) (r:=r) (c:=c) l
 rw[K7.ind_sum]at hs
 have hmem:∀i∈(List.range r).filter (fun i=> !decide (l∈K7.row g c i)),i<r∧c≤q i:=fun i hi=>by
  obtain⟨h1,h2⟩:=List.mem_filter.mp hi
  have hir:i<r:=by simpa using h1
  refine⟨hir,Nat.le_of_not_lt fun hlt=> ?_⟩
  have h3:¬l∈K7.row g c i:=by simpa using h2
  exact h3 (List.mem_map.mpr ⟨q i,by simpa using hlt,(hq i hir).2⟩)
 have hle:(((List.range r).filter (fun i=> !decide (l∈K7.row g c i))).map fun i=>q i - c).length≤n - c:=by
  refine K7.nd_len ⟨?_,fun x hx=> ?_⟩
  ·rw[List.nodup_iff_pairwise_ne,List.pairwise_map]
   refine(List.Pairwise.and_mem.mp (List.nodup_iff_pairwise_ne.mp (List.Pairwise.filter _ (List.nodup_range (n:=r))))).imp fun{a d} ⟨ha,hd,h⟩ e=>h ?_
   obtain⟨a1,a2⟩:=hmem a ha
   obtain⟨d1,d2⟩:=hmem d hd
   have e':q a=q d:=by omega
   exact L.col a d (q a) (by omega) (by omega) (hq a a1).1 (by rw[(hq a a1).2,e',(hq d d1).2])
  ·obtain⟨i,hi,rfl⟩:=List.mem_map.mp hx
   obtain⟨a1,a2⟩:=hmem i hi
   have:=(hq i a1).1
   omega
 rw[List.length_map]at hle
 omega
theorem few_noS{n r c:Nat}{b:Nat→Nat→Nat}(h:r+c≤n):K7.NoS n r c b:=fun l _=>by omega
theorem in_blk{m n:Nat}{g:Nat→Nat→Nat}(L:Lat n g)(h:n≤m):K7.Blk m n n g:=⟨fun i j hi hj=>Nat.lt_of_lt_of_le (L.lt i j hi hj) h,L.row,L.col⟩
theorem in_scl{m n:Nat}{g:Nat→Nat→Nat}(L:Lat n g)(h1:1≤n)(h:n≤m):scl m n n g=[]↔(m=n∨2 * n≤m):=by
 rw[scl_nil]
 constructor
 ·intro S
  by_cases he:m=n
  ·exact .inl he
  ·right
   have:=S n (by omega)
   have ht:K7.tms g n n n=0:=by
    unfold K7.tms
    rw[K7.ind_sum]
    rw[List.filter_eq_nil_iff.mpr fun i hi=>by
     have hi':i<n:=by simpa using hi
     intro z
     have z:n∈K7.row g n i:=by simpa using z
     obtain⟨j,hj,e⟩:=List.mem_map.mp z
     have:=L.lt i j hi' (by simpa using hj)
     omega]
    rfl
   omega
 ·rintro(rfl|h2)
  ·exact lat_noS L (Nat.le_refl _) (Nat.le_refl _)
  ·intro l _;omega
theorem cut_rows{n r c:Nat}{h:Nat→Nat→Nat}(hc:c≤n):mapC one [none,some (.int (c:Int))] [0] yes (sliT (vr 0) noP (soP (vr 1))) ((List.range r).map fun i=>rowD n (h i))=.ok ((List.range r).map fun i=>rowD c (h i)):=
 mapC_map (fun i=>rowD n (h i)) (fun i=>rowD c (h i)) (List.range r) (fun i hi=>by simp[slT_row (n:=n) (p:=h i) hc])
theorem blk_congr{r c:Nat}{g h:Nat→Nat→Nat}(e:∀i j,i<r→j<c→g i j=h i j):blkD r c g=blkD r c h:=by
 unfold blkD
 congr 1
 refine List.map_congr_left fun i hi=> ?_
 unfold rowD
 congr 1
 refine List.map_congr_left fun j hj=> ?_
 rw[e i j (by simpa using hi) (by simpa using hj)]
theorem dep_blk(r c:Nat)(b:Nat→Nat→Nat):dep (blkD r c b)≤2:=by
 unfold blkD
 rw[dep_tup]
 have:=deps_le (k:=1) ((List.range r).map fun i=>rowD c (b i)) (fun d hd=>by
  obtain⟨i,_,rfl⟩:=List.mem_map.mp hd
  exact dep_row c (b i))
 omega
theorem ne_blk(r c:Nat)(b:Nat→Nat→Nat):neD (blkD r c b) (blkD r c b)=.ok (.bl false):=ne_self (by have:=dep_blk r c b;omega)
theorem eq_blk(r c:Nat)(b:Nat→Nat→Nat):eqD (blkD r c b) (blkD r c b)=.ok (.bl true):=eq_self (by have:=dep_blk r c b;omega)
theorem ne_bl(a b:Bool):neD (.bl a) (.bl b)=.ok (.bl (a != b)):=by cases a<;>cases b<;>rfl
theorem non_blk(r c:Nat)(b:Nat→Nat→Nat):isNonD (blkD r c b)=false:=rfl
theorem k08_law(xs:List Int)(hx:xs.length≤63):F_law [scr xs]=.ok (.bl true):=by
 obtain⟨k,hk,ek⟩:=emod_nat (xs.getD 0 0) 5 (by decide)
 obtain⟨n,hn⟩:∃n:Nat,n=2+k:=⟨_,rfl⟩
 have hzn:(2:Int)+(k:Int)=(n:Int):=by omega
 obtain⟨g,Lg,eg⟩:=f_sized xs 3 n (by omega) (by omega)
 have eg:F__law_sized [scr xs, .int 3, .int (n:Int)]=.ok (blkD n n g):=eg
 obtain⟨k1,hk1,ek1⟩:=emod_nat (xs.getD 1 0) n (by omega)
 obtain⟨k2,hk2,ek2⟩:=emod_nat (xs.getD 2 0) n (by omega)
 obtain⟨r,hr⟩:∃r:Nat,r=1+k1:=⟨_,rfl⟩
 obtain⟨c,hc⟩:∃c:Nat,c=1+k2:=⟨_,rfl⟩
 have hzr:(1:Int)+(k1:Int)=(r:Int):=by omega
 have hzc:(1:Int)+(k2:Int)=(c:Int):=by omega
 obtain⟨k3,hk3,ek3⟩:=emod_nat (xs.getD 1 0) 4 (by decide)
 obtain⟨k4,hk4,ek4⟩:=emod_nat (xs.getD 2 0) 6 (by decide)
 obtain⟨lo,hlo⟩:∃lo:Nat,lo=1+k3:=⟨_,rfl⟩
 obtain⟨m,hm⟩:∃m:Nat,m=lo+k4:=⟨_,rfl⟩
 have hzl:(1:Int)+(k3:Int)=(lo:Int):=by omega
 have hzm:(lo:Int)+(k4:Int)=(m:Int):=by omega
 obtain⟨g2,Lg2,eg2⟩:=f_sized xs 5 lo (by omega) (by omega)
 have eg2:F__law_sized [scr xs, .int 5, .int (lo:Int)]=.ok (blkD lo lo g2):=eg2
 have c0:F__law_cell [scr xs, .int 0]=.ok (.int (xs.getD 0 0)):=f_cell xs 0
 have c1:F__law_cell [scr xs, .int 1]=.ok (.int (xs.getD 1 0)):=f_cell xs 1
 have c2:F__law_cell [scr xs, .int 2]=.ok (.int (xs.getD 2 0)):=f_cell xs 2
 have m0:modD (.int (xs.getD 0 0)) (.int 5)=.ok (.int (k:Int)):=by rw[z_mod _ _ (by decide)];rw[←ek];rfl
 have m1:modD (.int (xs.getD 1 0)) (.int (n:Int))=.ok (.int (k1:Int)):=by rw[z_mod _ _ (by omega),ek1]
 have m2:modD (.int (xs.getD 2 0)) (.int (n:Int))=.ok (.int (k2:Int)):=by rw[z_mod _ _ (by omega),ek2]
 have m3:modD (.int (xs.getD 1 0)) (.int 4)=.ok (.int (k3:Int)):=by rw[z_mod _ _ (by decide)];rw[←ek3];rfl
 have m4:modD (.int (xs.getD 2 0)) (.int 6)=.ok (.int (k4:Int)):=by rw[z_mod _ _ (by decide)];rw[←ek4];rfl
 have h9:n≤9:=by omega
 have h1:1≤n:=by omega
 have hr1:1≤r:=by omega
 have hc1:1≤c:=by omega
 have hrn:r≤n:=by omega
 have hcn:c≤n:=by omega
 have B:=lat_blk Lg hrn hcn
 have sN:scl n r c g=[]:=scl_nil.mpr (lat_noS Lg hrn hcn)
 have es:=f_scarce B hr1 hrn hc1 h9
 rw[sN]at es
 have es:F_scarce [.int (n:Int),blkD r c g]=.ok (.lst []):=es
 have ne0:neD (.lst []) (.lst [])=.ok (.bl false):=ne_self (by simp)
 obtain⟨h,Lh,hx1,ef⟩:=f_filled1 B hr1 hrn hc1 h9 sN
 have ef:F_filled [.int (n:Int),blkD r c g]=.ok (blkD n n h):=ef
 have ech:F_checked [blkD n n h]=.ok (blkD n n h):=f_checked Lh h1 h9
 have eov:F_over [blkD n n h]=.ok (blkD n n fun i j=>h j i):=f_overL Lh h1 h9
 have cut1:=slT_blk (c:=n) (b:=g) hrn
 have cut2:=slT_blk (c:=n) (b:=h) hrn
 have cut3:=slT_blk (c:=n) (b:=fun i j=>h j i) hcn
 have row1:=cut_rows (r:=r) (h:=g) hcn
 have row2:=cut_rows (r:=r) (h:=h) hcn
 have row3:=cut_rows (r:=c) (h:=fun i j=>h j i) hrn
 have eqb:blkD r c h=blkD r c g:=blk_congr hx1
 have eqb2:D.tup ((List.range r).map fun i=>rowD c (h i))=blkD r c g:=eqb
 have eqb1:D.tup ((List.range r).map fun i=>rowD c (g i))=blkD r c g:=rfl
 have eqb3:D.tup ((List.range c).map fun i=>rowD r (fun j=>h j i))=blkD c r (fun i j=>h j i):=rfl
 obtain⟨h',Lh',_,ef2⟩:=f_filled1 (lat_blk Lh.tr hcn hrn) hc1 hcn hr1 h9 (scl_nil.mpr (lat_noS Lh.tr hcn hrn))
 have ef2:F_filled [.int (n:Int),blkD c r (fun i j=>h j i)]=.ok (blkD n n h'):=ef2
 obtain⟨h2,Lh2,hx2,ef3⟩:=f_filled1 (lat_blk Lh (Nat.le_refl n) (Nat.le_refl n)) h1 (Nat.le_refl n) h1 h9 (scl_nil.mpr (lat_noS Lh (Nat.le_refl n) (Nat.le_refl n)))
 have ef3:F_filled [.int (n:Int),blkD n n h]=.ok (blkD n n h):=by rw[ef3];show R.ok (blkD n n h2)=_;rw[blk_congr hx2]
 obtain⟨x,⟨r',c',b',hr',hrn',hc',hcn',B',rfl⟩,eb⟩:=f_lblock xs n h1 h9
 have loose:(r':Int)+(c':Int)≤(n:Int)→∃h3,F_filled [.int (n:Int),blkD r' c' b']=.ok (blkD n n h3):=fun hle=>by
  obtain⟨h3,_,_,e⟩:=f_filled1 B' hr' hrn' hc' h9 (scl_nil.mpr (few_noS (by omega)))
  exact⟨h3,e⟩
 have zb:=z_blk0 (r:=r') (c:=c') (b:=b') (by omega)
 have mul2:mulD (.int 2) (.int (lo:Int))=.ok (.int (2 * (lo:Int))):=z_mulL _ _ (by decide)
 simp only[List.getD_eq_getElem?_getD]at c0 c1 c2 m0 m1 m2 m3 m4
 have nb1:=ne_blk n n h
 have nb2:=ne_blk r c g
 have big:9<m∨(m≤9∧(∃h4,F_filled [.int (m:Int),blkD lo lo g2]=.ok (blkD m m h4)∧blkD lo lo h4=blkD lo lo g2∧(m=lo∨2 * lo≤m))∨(m≤9∧F_filled [.int (m:Int),blkD lo lo g2]=.ok .non∧¬m=lo∧¬2 * lo≤m)):=by
  by_cases h10:9<m
  ·exact .inl h10
  ·right
   by_cases hsc:scl m lo lo g2=[]
   ·left
    obtain⟨h4,L4,hx4,e4⟩:=f_filled1 (in_blk Lg2 (by omega)) (show 1≤lo by omega) (by omega) (by omega) (by omega) hsc
    exact⟨by omega,h4,e4,blk_congr hx4,(in_scl Lg2 (by omega) (by omega)).mp hsc⟩
   ·right
    have e5:=f_filled0 (in_blk Lg2 (by omega)) (show 1≤lo by omega) (show lo≤m by omega) (by omega) (by omega) hsc
    have hne:¬(m=lo∨2 * lo≤m):=fun z=>hsc ((in_scl Lg2 (by omega) (by omega)).mpr z)
    exact⟨by omega,e5,fun z=>hne (.inl z),fun z=>hne (.inr z)⟩
 have rowL:∀h4:Nat→Nat→Nat,m≤9→mapC one [none,some (.int (lo:Int))] [0] yes (sliT (vr 0) noP (soP (vr 1))) ((List.range lo).map fun i=>rowD m (h4 i))=.ok ((List.range lo).map fun i=>rowD lo (h4 i)):=fun h4 _=>cut_rows (by omega)
 have cutL:∀h4:Nat→Nat→Nat,slT (blkD m m h4) none (some (lo:Int))=.ok (blkD lo m h4):=fun h4=>slT_blk (by omega)
 have main:∀(o8:Option Sl),(match sq (sSet 9 (bi addD (cn (.int 1)) (bi modD (ap F__law_cell (cs (vr 0) (cs (cn (.int 1)) (nl)))) (cn (.int 4)))))
   (sq (sSet 10 (ap F__law_sized (cs (vr 0) (cs (cn (.int 5)) (cs (vr 9) (nl))))))
   (sq (sSet 11 (bi addD (vr 9) (bi modD (ap F__law_cell (cs (vr 0) (cs (cn (.int 2)) (nl)))) (cn (.int 6)))))
   (sq (sIf (tst (bi (cmpD fun i j=>decide (j<i)) (vr 11) (cn (.int 9)))) (sRet (cn (.bl true))) (sk))
   (sq (sSet 12 (ap F_filled (cs (vr 11) (cs (vr 10) (nl)))))
   (sq (sIf (tst (bi neD (un isntD (vr 12)) (orV (bi eqD (vr 11) (vr 9)) (bi (cmpD fun i j=>decide (j≤i)) (vr 11) (bi mulD (cn (.int 2)) (vr 9)))))) (sRet (cn (.bl false))) (sk))
   (sRet (orV (un isD (vr 12)) (bi eqD (ap tupD (cs (asL (cmp (srcD (sliT (vr 12) noP (soP (vr 9)))) 1 [9] [0] one (yes) (sliT (vr 0) noP (soP (vr 1))))) (nl))) (vr 10)))))))))
   [some (.sh (scr xs)),some (.sh (.int (n:Int))),some (.sh (blkD n n g)),some (.sh (.int (r:Int))),some (.sh (.int (c:Int))),some (.sh (blkD r c g)),some (.sh (blkD n n h)),some (.sh (blkD c r (fun i j=>h j i))),o8,none,none,none,none]with
   | .rt d=>R.ok d
   | .nx _=>.ok .non
   | .ex c _=>.ex c
   |_=>.bad)=.ok (.bl true):=by
  intro o8
  rcases big with h10|⟨hm9,h4,e4,eb4,hor⟩|⟨hm9,e5,hn1,hn2⟩
  ·have:(9:Int)<(m:Int):=by omega
   simp[c1,m3,hzl,eg2,c2,m4,hzm,this]
  ·have hlt:¬(9:Int)<(m:Int):=by omega
   have cc:=cutL h4
   have rr:=rowL h4 hm9
   have eb5:D.tup ((List.range lo).map fun i=>rowD lo (h4 i))=blkD lo lo g2:=eb4
   have nn:=ne_bl true true
   by_cases hml:m=lo
   ·subst hml
    simp[c1,m3,hzl,eg2,c2,m4,hzm,hlt,e4,non_blk,nn,mul2,cc,its_blk,rr,eb5,eq_blk]
   ·have hml':¬(m:Int)=(lo:Int):=by omega
    have hge:2 * (lo:Int)≤(m:Int):=by omega
    simp[c1,m3,hzl,eg2,c2,m4,hzm,hlt,e4,non_blk,hml,hml',hge,nn,mul2,cc,its_blk,rr,eb5,eq_blk]
  ·have hlt:¬(9:Int)<(m:Int):=by omega
   have hge:¬2 * (lo:Int)≤(m:Int):=by omega
   have nn:=ne_bl false false
   have nnn:isNonD .non=true:=rfl
   have hn3:¬(m:Int)=(lo:Int):=by omega
   simp[c1,m3,hzl,eg2,c2,m4,hzm,hlt,e5,nnn,hn1,hn3,hge,nn,mul2]
 refine fn_eq rfl ?_
 simp[c0,m0,hzn,eg,c1,m1,hzr,c2,m2,hzc,cut1,its_blk,row1,eqb1,es,ne0,ef,ech,nb1,cut2,row2,eqb2,nb2,eov,cut3,row3,eqb3,ef2,non_blk,ef3,eb,zb]
 have hcond:(if(r':Int)+(c':Int)≤(n:Int)then F_filled [.int (n:Int),blkD r' c' b']>>=isD>>=truR else R.ok false)=.ok false:=by
  by_cases hle:(r':Int)+(c':Int)≤(n:Int)
  ·obtain⟨h3,e3⟩:=loose hle
   rw[if_pos hle,e3]
   rfl
  ·rw[if_neg hle]
 rw[hcond]
 exact main (some (.sh (blkD r' c' b')))
end L3
namespace L3
open PySem PySem.Spec L2
open PyProof.Rows hiding St
noncomputable def top(i:Nat):Stmt:=PySem.Challenge.pw_matesquare_k08_whole_blocks.main.body.getD i (.Pass ⟨0,0,0,0⟩)
noncomputable abbrev s__law_cell:Stmt:=top 30
noncomputable abbrev s__law_first:Stmt:=top 33
noncomputable abbrev s__law_renamed:Stmt:=top 36
noncomputable abbrev s__law_mix:Stmt:=top 31
noncomputable abbrev s__law_twos:Stmt:=top 34
noncomputable abbrev s__law_order:Stmt:=top 32
noncomputable abbrev s__law_switched:Stmt:=top 35
noncomputable abbrev s__law_sized:Stmt:=top 37
noncomputable abbrev s_is_number_below:Stmt:=top 7
noncomputable abbrev s_check_many:Stmt:=top 14
noncomputable abbrev s_is_part_of_order:Stmt:=top 8
noncomputable abbrev s_column_of:Stmt:=top 10
noncomputable abbrev s_columns_of:Stmt:=top 11
noncomputable abbrev s_is_block:Stmt:=top 16
noncomputable abbrev s_check_block:Stmt:=top 17
noncomputable abbrev s_times_in:Stmt:=top 18
noncomputable abbrev s_least_times:Stmt:=top 19
noncomputable abbrev s_scarce:Stmt:=top 20
noncomputable abbrev s_give_letter:Stmt:=top 21
noncomputable abbrev s_unlike_letters:Stmt:=top 22
noncomputable abbrev s_letters_not_in:Stmt:=top 23
noncomputable abbrev s_next_column:Stmt:=top 24
noncomputable abbrev s_widened:Stmt:=top 25
noncomputable abbrev s_filled:Stmt:=top 26
noncomputable abbrev s__law_block:Stmt:=top 38
noncomputable abbrev s_is_order:Stmt:=top 9
noncomputable abbrev s_is_square:Stmt:=top 12
noncomputable abbrev s_checked:Stmt:=top 13
noncomputable abbrev s_over:Stmt:=top 28
noncomputable abbrev s_law:Stmt:=top 39
structure Txt(K:PySem.W.Frag)(mg:Str→Option Value):Prop where
 cls:ClsOk K mg [0,1,4,6]
 b_all:mg "all"=none
 b_bool:mg "bool"=none
 b_int:mg "int"=none
 b_isinstance:mg "isinstance"=none
 b_len:mg "len"=none
 b_list:mg "list"=none
 b_range:mg "range"=none
 b_set:mg "set"=none
 b_sorted:mg "sorted"=none
 b_sum:mg "sum"=none
 b_tuple:mg "tuple"=none
 b_zip:mg "zip"=none
 g_LARGEST_SIZE:∃t,mg "LARGEST_SIZE"=some (.int 9 t)
section
variable{P:Program}{w:World}{K:PySem.W.Frag}{mg:Str→Option Value}{base:Heap}{f:Addr}{fd:FuncData}(T:Txt K mg)
theorem sc__law_cell:FnScope ["_law_script","_law_k"] ["_law_script","_law_k"] (defScope s__law_cell):=⟨rfl,rfl,rfl,by decide+kernel,rfl,by decide+kernel,by decide+kernel⟩
include T in
theorem b__law_cell:BodyOk P w K mg base 0 f ["_law_script","_law_k"] "_law_cell" s__law_cell M__law_cell:=by
 intro cdv A outer s H E hr
 refine ss_cons ?_ ?_
 ·refine s_if ?_ ?_ (ss_nil)
  ·refine t_cmp opd_lt ?_ ?_ bl_cmp
   ·exact d_var 1
   refine d_callB cd_len T.b_len boot_len ?_
   refine a_cons ?_ (a_nil) ?_
   ·exact d_var 0
   exact st_Name
  refine ss_one ?_
  refine s_ret ?_
  refine d_ix ?_ ?_
  ·exact d_var 0
  exact d_var 1
 refine ss_one ?_
 refine s_ret ?_
 exact d_int
include T in
theorem k__law_cell(F:Fun K "_law_cell" "_law_cell" s__law_cell f fd)(m:mg "_law_cell"=some (.ref f)):Callee P w K mg base 1 "_law_cell" F__law_cell:=by
 have hb:= @b__law_cell P w K mg base f T
 unfold F__law_cell
 refine⟨f,fd,_,fun_ok F sc__law_cell rfl rfl ?_,(binds2 F (fun _ _ _ _ _ _ _ _=>rfl)),F.kp,m⟩
 assumption
variable(c__law_cell:Callee P w K mg base 1 "_law_cell" F__law_cell)
theorem sc__law_first:FnScope ["_law_many","_law_way"] ["_law_many","_law_way"] (defScope s__law_first):=⟨rfl,rfl,rfl,by decide+kernel,rfl,by decide+kernel,by decide+kernel⟩
include T in
theorem b__law_first:BodyOk P w K mg base 0 f ["_law_many","_law_way"] "_law_first" s__law_first M__law_first:=by
 intro cdv A outer s H E hr
 refine ss_cons ?_ ?_
 ·refine s_if ?_ ?_ (ss_nil)
  ·refine t_w ?_
   refine w_and ?_ ?_
   ·refine t_cmp (opd_eq hr.units) ?_ ?_ bl_eq
    ·exact d_var 0
    exact d_int
   refine w_one ?_
   refine t_cmp (opd_eq hr.units) ?_ ?_ bl_eq
   ·refine d_op opd_mod ?_ ?_
    ·exact d_var 1
    exact d_int
   exact d_int
  refine ss_one ?_
  refine s_ret ?_
  refine d_tup ?_
  refine a_cons ?_ ?_ ?_
  ·refine d_tup ?_
   exact a_ints _ _ rfl
  ·refine a_cons ?_ ?_ ?_
   ·refine d_tup ?_
    exact a_ints _ _ rfl
   ·refine a_cons ?_ ?_ ?_
    ·refine d_tup ?_
     exact a_ints _ _ rfl
    ·refine a_cons ?_ ?_ ?_
     ·refine d_tup ?_
      exact a_ints _ _ rfl
     ·refine a_cons ?_ (a_nil) ?_
      ·refine d_tup ?_
       exact a_ints _ _ rfl
      exact st_Tuple
     exact st_Tuple
    exact st_Tuple
   exact st_Tuple
  exact st_Tuple
 refine ss_cons ?_ ?_
 ·refine s_if ?_ ?_ (ss_nil)
  ·refine t_w ?_
   refine w_and ?_ ?_
   ·refine t_cmp (opd_eq hr.units) ?_ ?_ bl_eq
    ·exact d_var 0
    exact d_int
   refine w_one ?_
   refine t_cmp (opd_eq hr.units) ?_ ?_ bl_eq
   ·refine d_op opd_mod ?_ ?_
    ·exact d_var 1
    exact d_int
   exact d_int
  refine ss_one ?_
  refine s_ret ?_
  refine d_tup ?_
  refine a_cons ?_ ?_ ?_
  ·refine d_tup ?_
   exact a_ints _ _ rfl
  ·refine a_cons ?_ ?_ ?_
   ·refine d_tup ?_
    exact a_ints _ _ rfl
   ·refine a_cons ?_ ?_ ?_
    ·refine d_tup ?_
     exact a_ints _ _ rfl
    ·refine a_cons ?_ (a_nil) ?_
     ·refine d_tup ?_
      exact a_ints _ _ rfl
     exact st_Tuple
    exact st_Tuple
   exact st_Tuple
  exact st_Tuple
 refine ss_one ?_
 refine s_ret ?_
 refine d_callTy cd_tup T.b_tuple boot_tuple ?_
 refine a_cons ?_ (a_nil) ?_
 ·refine d_new ?_
  refine n_comp ["_law_row","_law_many"] ?_ ?_ ?_ ?_
  ·refine i_range1 T.b_range ?_
   refine a_cons ?_ (a_nil) ?_
   ·exact d_var 0
   exact st_Name
  ·intro _ _ _ _ _
   exact g_name
  ·intro _ _ _ _ _
   exact ts_nil
  intro _ _ _ _ _
  refine d_callTy cd_tup T.b_tuple boot_tuple ?_
  refine a_cons ?_ (a_nil) ?_
  ·refine d_new ?_
   refine n_comp ["_law_column","_law_row","_law_many"] ?_ ?_ ?_ ?_
   ·refine i_range1 T.b_range ?_
    refine a_cons ?_ (a_nil) ?_
    ·exact d_var 1
    exact st_Name
   ·intro _ _ _ _ _
    exact g_name
   ·intro _ _ _ _ _
    exact ts_nil
   intro _ _ _ _ _
   refine d_op opd_mod ?_ ?_
   ·refine d_op opd_add ?_ ?_
    ·exact d_var 1
    exact d_var 0
   exact d_var 2
  exact st_ListComp
 exact st_ListComp
include T in
theorem k__law_first(F:Fun K "_law_first" "_law_first" s__law_first f fd)(m:mg "_law_first"=some (.ref f)):Callee P w K mg base 1 "_law_first" F__law_first:=by
 have hb:= @b__law_first P w K mg base f T
 unfold F__law_first
 refine⟨f,fd,_,fun_ok F sc__law_first rfl rfl ?_,(binds2 F (fun _ _ _ _ _ _ _ _=>rfl)),F.kp,m⟩
 assumption
variable(c__law_first:Callee P w K mg base 1 "_law_first" F__law_first)
theorem sc__law_renamed:FnScope ["_law_square","_law_rows","_law_columns","_law_letters"] ["_law_square","_law_rows","_law_columns","_law_letters"] (defScope s__law_renamed):=⟨rfl,rfl,rfl,by decide+kernel,rfl,by decide+kernel,by decide+kernel⟩
include T in
theorem b__law_renamed:BodyOk P w K mg base 0 f ["_law_square","_law_rows","_law_columns","_law_letters"] "_law_renamed" s__law_renamed M__law_renamed:=by
 intro cdv A outer s H E hr
 refine ss_one ?_
 refine s_ret ?_
 refine d_callTy cd_tup T.b_tuple boot_tuple ?_
 refine a_cons ?_ (a_nil) ?_
 ·refine d_new ?_
  refine n_comp ["_law_row","_law_columns","_law_letters","_law_square"] ?_ ?_ ?_ ?_
  ·refine i_seq ?_
   exact d_var 1
  ·intro _ _ _ _ _
   exact g_name
  ·intro _ _ _ _ _
   exact ts_nil
  intro _ _ _ _ _
  refine d_callTy cd_tup T.b_tuple boot_tuple ?_
  refine a_cons ?_ (a_nil) ?_
  ·refine d_new ?_
   refine n_comp ["_law_column","_law_letters","_law_square","_law_row"] ?_ ?_ ?_ ?_
   ·refine i_seq ?_
    exact d_var 1
   ·intro _ _ _ _ _
    exact g_name
   ·intro _ _ _ _ _
    exact ts_nil
   intro _ _ _ _ _
   refine d_ix ?_ ?_
   ·exact d_var 1
   refine d_ix ?_ ?_
   ·refine d_ix ?_ ?_
    ·exact d_var 2
    exact d_var 3
   exact d_var 0
  exact st_ListComp
 exact st_ListComp
include T in
theorem k__law_renamed(F:Fun K "_law_renamed" "_law_renamed" s__law_renamed f fd)(m:mg "_law_renamed"=some (.ref f)):Callee P w K mg base 1 "_law_renamed" F__law_renamed:=by
 have hb:= @b__law_renamed P w K mg base f T
 unfold F__law_renamed
 refine⟨f,fd,_,fun_ok F sc__law_renamed rfl rfl ?_,(binds4 F (fun _ _ _ _ _ _ _ _ _ _=>rfl)),F.kp,m⟩
 assumption
variable(c__law_renamed:Callee P w K mg base 1 "_law_renamed" F__law_renamed)
theorem sc__law_mix:FnScope ["_law_cell_here","_law_prime","_law_many"] ["_law_cell_here","_law_prime","_law_many"] (defScope s__law_mix):=⟨rfl,rfl,rfl,by decide+kernel,rfl,by decide+kernel,by decide+kernel⟩
include T in
theorem b__law_mix:BodyOk P w K mg base 0 f ["_law_cell_here","_law_prime","_law_many"] "_law_mix" s__law_mix M__law_mix:=by
 intro cdv A outer s H E hr
 refine ss_one ?_
 refine s_ret ?_
 refine d_op opd_mod ?_ ?_
 ·refine d_op opd_mod ?_ ?_
  ·refine d_op opd_mul ?_ ?_
   ·exact d_var 0
   exact d_int
  exact d_var 1
 exact d_var 2
include T in
theorem k__law_mix(F:Fun K "_law_mix" "_law_mix" s__law_mix f fd)(m:mg "_law_mix"=some (.ref f)):Callee P w K mg base 1 "_law_mix" F__law_mix:=by
 have hb:= @b__law_mix P w K mg base f T
 unfold F__law_mix
 refine⟨f,fd,_,fun_ok F sc__law_mix rfl rfl ?_,(binds3 F (fun _ _ _ _ _ _ _ _ _=>rfl)),F.kp,m⟩
 assumption
variable(c__law_mix:Callee P w K mg base 1 "_law_mix" F__law_mix)
theorem sc__law_twos:FnScope ["_law_square","_law_found","_law_many","_law_one","_law_two","_law_left","_law_right"] ["_law_square"] (defScope s__law_twos):=⟨rfl,rfl,rfl,by decide+kernel,rfl,by decide+kernel,by decide+kernel⟩
include T in
theorem b__law_twos:BodyOk P w K mg base 0 f ["_law_square","_law_found","_law_many","_law_one","_law_two","_law_left","_law_right"] "_law_twos" s__law_twos M__law_twos:=by
 intro cdv A outer s H E hr
 refine ss_cons ?_ ?_
 ·refine s_new ?_
  refine n_lst (a_nil)
 refine ss_cons ?_ ?_
 ·refine s_set ?_
  refine d_callB cd_len T.b_len boot_len ?_
  refine a_cons ?_ (a_nil) ?_
  ·exact d_var 0
  exact st_Name
 refine ss_cons ?_ ?_
 ·refine s_for ?_ ?_ ?_
  ·intro _
   refine i_range1 T.b_range ?_
   refine a_cons ?_ (a_nil) ?_
   ·exact d_var 2
   exact st_Name
  ·intro _
   exact g_name
  intro _
  refine ss_one ?_
  refine s_for ?_ ?_ ?_
  ·intro _
   refine i_range2 T.b_range ?_
   refine a_cons ?_ ?_ ?_
   ·refine d_op opd_add ?_ ?_
    ·exact d_var 3
    exact d_int
   ·refine a_cons ?_ (a_nil) ?_
    ·exact d_var 2
    exact st_Name
   exact st_BinOp
  ·intro _
   exact g_name
  intro _
  refine ss_one ?_
  refine s_for ?_ ?_ ?_
  ·intro _
   refine i_range1 T.b_range ?_
   refine a_cons ?_ (a_nil) ?_
   ·exact d_var 2
   exact st_Name
  ·intro _
   exact g_name
  intro _
  refine ss_one ?_
  refine s_for ?_ ?_ ?_
  ·intro _
   refine i_range2 T.b_range ?_
   refine a_cons ?_ ?_ ?_
   ·refine d_op opd_add ?_ ?_
    ·exact d_var 5
    exact d_int
   ·refine a_cons ?_ (a_nil) ?_
    ·exact d_var 2
    exact st_Name
   exact st_BinOp
  ·intro _
   exact g_name
  intro _
  refine ss_one ?_
  refine s_if ?_ ?_ (ss_nil)
  ·refine t_w ?_
   refine w_and ?_ ?_
   ·refine t_cmp (opd_eq hr.units) ?_ ?_ bl_eq
    ·refine d_ix ?_ ?_
     ·refine d_ix ?_ ?_
      ·exact d_var 0
      exact d_var 3
     exact d_var 5
    refine d_ix ?_ ?_
    ·refine d_ix ?_ ?_
     ·exact d_var 0
     exact d_var 4
    exact d_var 6
   refine w_one ?_
   refine t_cmp (opd_eq hr.units) ?_ ?_ bl_eq
   ·refine d_ix ?_ ?_
    ·refine d_ix ?_ ?_
     ·exact d_var 0
     exact d_var 3
    exact d_var 6
   refine d_ix ?_ ?_
   ·refine d_ix ?_ ?_
    ·exact d_var 0
    exact d_var 4
   exact d_var 5
  refine ss_one ?_
  refine s_app ?_
  refine d_tup ?_
  refine a_cons ?_ ?_ ?_
  ·exact d_var 3
  ·refine a_cons ?_ ?_ ?_
   ·exact d_var 4
   ·refine a_cons ?_ ?_ ?_
    ·exact d_var 5
    ·refine a_cons ?_ (a_nil) ?_
     ·exact d_var 6
     exact st_Name
    exact st_Name
   exact st_Name
  exact st_Name
 refine ss_one ?_
 refine s_ret ?_
 exact d_var 1
include T in
theorem k__law_twos(F:Fun K "_law_twos" "_law_twos" s__law_twos f fd)(m:mg "_law_twos"=some (.ref f)):Callee P w K mg base 1 "_law_twos" F__law_twos:=by
 have hb:= @b__law_twos P w K mg base f T
 unfold F__law_twos
 refine⟨f,fd,_,fun_ok F sc__law_twos rfl rfl ?_,(binds1 F (fun _ _ _ _ _ _ _=>rfl)),F.kp,m⟩
 assumption
variable(c__law_twos:Callee P w K mg base 1 "_law_twos" F__law_twos)
theorem sc__law_order:FnScope ["_law_cell_here","_law_many","_law_keys"] ["_law_cell_here","_law_many"] (defScope s__law_order):=⟨rfl,rfl,rfl,by decide+kernel,rfl,by decide+kernel,by decide+kernel⟩
include T c__law_mix in
theorem b__law_order:BodyOk P w K mg base 1 f ["_law_cell_here","_law_many","_law_keys"] "_law_order" s__law_order M__law_order:=by
 intro cdv A outer s H E hr
 refine ss_cons ?_ ?_
 ·refine s_comp ["_law_k","_law_cell_here"] ?_ ?_ ?_ ?_
  ·refine i_range1 T.b_range ?_
   refine a_cons ?_ (a_nil) ?_
   ·exact d_var 1
   exact st_Name
  ·intro _ _ _ _ _
   exact g_name
  ·intro _ _ _ _ _
   exact ts_nil
  intro _ _ _ _ _
  refine d_tup ?_
  refine a_cons ?_ ?_ ?_
  ·refine d_callC c__law_mix ?_ ?_
   ·exact hr.lo
   refine a_cons ?_ ?_ ?_
   ·refine d_op opd_add ?_ ?_
    ·refine d_op opd_add ?_ ?_
     ·exact d_var 1
     refine d_op opd_mul ?_ ?_
     ·refine d_op opd_mul ?_ ?_
      ·exact d_int
      exact d_var 0
     exact d_var 0
    refine d_op opd_mul ?_ ?_
    ·exact d_int
    exact d_var 0
   ·refine a_cons ?_ ?_ ?_
    ·exact d_int
    ·refine a_cons ?_ (a_nil) ?_
     ·exact d_int
     exact st_Constant
    exact st_Constant
   exact st_BinOp
  ·refine a_cons ?_ (a_nil) ?_
   ·exact d_var 0
   exact st_Name
  exact st_Call
 refine ss_one ?_
 refine s_ret ?_
 refine d_callTy cd_tup T.b_tuple boot_tuple ?_
 refine a_cons ?_ (a_nil) ?_
 ·refine d_new ?_
  refine n_comp ["_law_key"] ?_ ?_ ?_ ?_
  ·refine i_seq ?_
   refine d_new ?_
   refine n_callB cn_sorted T.b_sorted boot_sorted ?_
   refine a_cons ?_ (a_nil) ?_
   ·exact d_var 2
   exact st_Name
  ·intro _ _ _ _ _
   exact g_name
  ·intro _ _ _ _ _
   exact ts_nil
  intro _ _ _ _ _
  refine d_ix ?_ ?_
  ·exact d_var 0
  exact d_int
 exact st_ListComp
include T c__law_mix in
theorem k__law_order(F:Fun K "_law_order" "_law_order" s__law_order f fd)(m:mg "_law_order"=some (.ref f)):Callee P w K mg base 2 "_law_order" F__law_order:=by
 have hb:= @b__law_order P w K mg base f T c__law_mix
 unfold F__law_order
 refine⟨f,fd,_,fun_ok F sc__law_order rfl rfl ?_,(binds2 F (fun _ _ _ _ _ _ _ _=>rfl)),F.kp,m⟩
 assumption
variable(c__law_order:Callee P w K mg base 2 "_law_order" F__law_order)
theorem sc__law_switched:FnScope ["_law_square","_law_two","_law_rows","_law_row","_law_left"] ["_law_square","_law_two"] (defScope s__law_switched):=⟨rfl,rfl,rfl,by decide+kernel,rfl,by decide+kernel,by decide+kernel⟩
include T in
theorem b__law_switched:BodyOk P w K mg base 0 f ["_law_square","_law_two","_law_rows","_law_row","_law_left"] "_law_switched" s__law_switched M__law_switched:=by
 intro cdv A outer s H E hr
 refine ss_cons ?_ ?_
 ·refine s_compNN ["_law_row"] ?_ ?_ ?_ ?_
  ·refine i_seq ?_
   exact d_var 0
  ·intro _ _ _ _ _
   exact g_name
  ·intro _ _ _ _ _
   exact ts_nil
  intro _ _ _ _ _
  refine n_callTy cn_list T.b_list boot_list ?_
  refine a_cons ?_ (a_nil) ?_
  ·exact d_var 0
  exact st_Name
 refine ss_cons ?_ ?_
 ·refine s_for ?_ ?_ ?_
  ·intro _
   refine i_seq ?_
   refine d_slice ?_ o_none ?_
   ·exact d_var 1
   refine o_some ?_
   exact d_int
  ·intro _
   exact g_name
  intro _
  refine ss_cons ?_ ?_
  ·refine s_setF ?_
   refine d_ix ?_ ?_
   ·refine d_ix ?_ ?_
    ·exact d_var 2
    exact d_var 3
   refine d_ix ?_ ?_
   ·exact d_var 1
   exact d_int
  refine ss_cons ?_ ?_
  ·refine s_putN ?_ ?_ ?_
   ·exact d_var 3
   ·refine d_ix ?_ ?_
    ·exact d_var 1
    exact d_int
   refine d_ix ?_ ?_
   ·refine d_ix ?_ ?_
    ·exact d_var 2
    exact d_var 3
   refine d_ix ?_ ?_
   ·exact d_var 1
   exact d_int
  refine ss_one ?_
  refine s_putN ?_ ?_ ?_
  ·exact d_var 3
  ·refine d_ix ?_ ?_
   ·exact d_var 1
   exact d_int
  exact d_var 4
 refine ss_one ?_
 refine s_ret ?_
 refine d_callTy cd_tup T.b_tuple boot_tuple ?_
 refine a_cons ?_ (a_nil) ?_
 ·refine d_new ?_
  refine n_comp ["_law_row"] ?_ ?_ ?_ ?_
  ·refine i_seq ?_
   exact d_var 2
  ·intro _ _ _ _ _
   exact g_name
  ·intro _ _ _ _ _
   exact ts_nil
  intro _ _ _ _ _
  refine d_callTy cd_tup T.b_tuple boot_tuple ?_
  refine a_cons ?_ (a_nil) ?_
  ·exact d_var 0
  exact st_Name
 exact st_ListComp
include T in
theorem k__law_switched(F:Fun K "_law_switched" "_law_switched" s__law_switched f fd)(m:mg "_law_switched"=some (.ref f)):Callee P w K mg base 1 "_law_switched" F__law_switched:=by
 have hb:= @b__law_switched P w K mg base f T
 unfold F__law_switched
 refine⟨f,fd,_,fun_ok F sc__law_switched rfl rfl ?_,(binds2 F (fun _ _ _ _ _ _ _ _=>rfl)),F.kp,m⟩
 assumption
variable(c__law_switched:Callee P w K mg base 1 "_law_switched" F__law_switched)
theorem sc__law_sized:FnScope ["_law_script","_law_at","_law_many","_law_cell_here","_law_found","_law_k","_law_some","_law_orders"] ["_law_script","_law_at","_law_many"] (defScope s__law_sized):=⟨rfl,rfl,rfl,by decide+kernel,rfl,by decide+kernel,by decide+kernel⟩
include T c__law_cell c__law_first c__law_renamed c__law_mix c__law_twos c__law_order c__law_switched in
theorem b__law_sized:BodyOk P w K mg base 2 f ["_law_script","_law_at","_law_many","_law_cell_here","_law_found","_law_k","_law_some","_law_orders"] "_law_sized" s__law_sized M__law_sized:=by
 intro cdv A outer s H E hr
 refine ss_cons ?_ ?_
 ·refine s_set ?_
  refine d_callC c__law_cell ?_ ?_
  ·exact hr.lo
  refine a_cons ?_ ?_ ?_
  ·exact d_var 0
  ·refine a_cons ?_ (a_nil) ?_
   ·exact d_var 1
   exact st_Name
  exact st_Name
 refine ss_cons ?_ ?_
 ·refine s_set ?_
  refine d_callC c__law_first ?_ ?_
  ·exact hr.lo
  refine a_cons ?_ ?_ ?_
  ·exact d_var 2
  ·refine a_cons ?_ (a_nil) ?_
   ·refine d_op opd_div ?_ ?_
    ·exact d_var 3
    exact d_int
   exact st_BinOp
  exact st_Name
 refine ss_cons ?_ ?_
 ·refine s_for ?_ ?_ ?_
  ·intro _
   refine i_range1 T.b_range ?_
   refine a_cons ?_ (a_nil) ?_
   ·refine d_callC c__law_mix ?_ ?_
    ·exact hr.lo
    refine a_cons ?_ ?_ ?_
    ·exact d_var 3
    ·refine a_cons ?_ ?_ ?_
     ·exact d_int
     ·refine a_cons ?_ (a_nil) ?_
      ·exact d_int
      exact st_Constant
     exact st_Constant
    exact st_Name
   exact st_Call
  ·intro _
   exact g_name
  intro _
  refine ss_cons ?_ ?_
  ·refine s_set ?_
   refine d_callC c__law_twos ?_ ?_
   ·exact hr.lo
   refine a_cons ?_ (a_nil) ?_
   ·exact d_var 4
   exact st_Name
  refine ss_one ?_
  refine s_if ?_ ?_ (ss_nil)
  ·refine t_cmp (opd_ne hr.units) ?_ ?_ bl_ne
   ·exact d_var 6
   refine d_new ?_
   refine n_lst (a_nil)
  refine ss_one ?_
  refine s_set ?_
  refine d_callC c__law_switched ?_ ?_
  ·exact hr.lo
  refine a_cons ?_ ?_ ?_
  ·exact d_var 4
  ·refine a_cons ?_ (a_nil) ?_
   ·refine d_ix ?_ ?_
    ·exact d_var 6
    refine d_callC c__law_mix ?_ ?_
    ·exact hr.lo
    refine a_cons ?_ ?_ ?_
    ·refine d_op opd_add ?_ ?_
     ·refine d_callC c__law_cell ?_ ?_
      ·exact hr.lo
      refine a_cons ?_ ?_ ?_
      ·exact d_var 0
      ·refine a_cons ?_ (a_nil) ?_
       ·refine d_op opd_add ?_ ?_
        ·exact d_var 1
        exact d_int
       exact st_BinOp
      exact st_Name
     refine d_op opd_mul ?_ ?_
     ·exact d_int
     exact d_var 5
    ·refine a_cons ?_ ?_ ?_
     ·exact d_int
     ·refine a_cons ?_ (a_nil) ?_
      ·refine d_callB cd_len T.b_len boot_len ?_
       refine a_cons ?_ (a_nil) ?_
       ·exact d_var 6
       exact st_Name
      exact st_Call
     exact st_Constant
    exact st_BinOp
   exact st_Subscript
  exact st_Name
 refine ss_cons ?_ ?_
 ·refine s_comp ["_law_k","_law_script","_law_at","_law_many"] ?_ ?_ ?_ ?_
  ·refine i_range1 T.b_range ?_
   refine a_cons ?_ (a_nil) ?_
   ·exact d_int
   exact st_Constant
  ·intro _ _ _ _ _
   exact g_name
  ·intro _ _ _ _ _
   exact ts_nil
  intro _ _ _ _ _
  refine d_callC c__law_order ?_ ?_
  ·exact hr.lo
  refine a_cons ?_ ?_ ?_
  ·refine d_op opd_add ?_ ?_
   ·refine d_callC c__law_cell ?_ ?_
    ·exact hr.lo
    refine a_cons ?_ ?_ ?_
    ·exact d_var 1
    ·refine a_cons ?_ (a_nil) ?_
     ·refine d_op opd_add ?_ ?_
      ·exact d_var 2
      exact d_int
     exact st_BinOp
    exact st_Name
   refine d_op opd_mul ?_ ?_
   ·exact d_int
   exact d_var 0
  ·refine a_cons ?_ (a_nil) ?_
   ·exact d_var 3
   exact st_Name
  exact st_BinOp
 refine ss_one ?_
 refine s_ret ?_
 refine d_callC c__law_renamed ?_ ?_
 ·exact hr.lo
 refine a_cons ?_ ?_ ?_
 ·exact d_var 4
 ·refine a_cons ?_ ?_ ?_
  ·refine d_ix ?_ ?_
   ·exact d_var 7
   exact d_int
  ·refine a_cons ?_ ?_ ?_
   ·refine d_ix ?_ ?_
    ·exact d_var 7
    exact d_int
   ·refine a_cons ?_ (a_nil) ?_
    ·refine d_ix ?_ ?_
     ·exact d_var 7
     exact d_int
    exact st_Subscript
   exact st_Subscript
  exact st_Subscript
 exact st_Name
include T c__law_cell c__law_first c__law_renamed c__law_mix c__law_twos c__law_order c__law_switched in
theorem k__law_sized(F:Fun K "_law_sized" "_law_sized" s__law_sized f fd)(m:mg "_law_sized"=some (.ref f)):Callee P w K mg base 3 "_law_sized" F__law_sized:=by
 have hb:= @b__law_sized P w K mg base f T c__law_cell c__law_first c__law_renamed c__law_mix c__law_twos c__law_order c__law_switched
 unfold F__law_sized
 refine⟨f,fd,_,fun_ok F sc__law_sized rfl rfl ?_,(binds3 F (fun _ _ _ _ _ _ _ _ _=>rfl)),F.kp,m⟩
 assumption
variable(c__law_sized:Callee P w K mg base 3 "_law_sized" F__law_sized)
theorem sc_is_number_below:FnScope ["many","thing"] ["many","thing"] (defScope s_is_number_below):=⟨rfl,rfl,rfl,by decide+kernel,rfl,by decide+kernel,by decide+kernel⟩
include T in
theorem b_is_number_below:BodyOk P w K mg base 0 f ["many","thing"] "is_number_below" s_is_number_below M_is_number_below:=by
 intro cdv A outer s H E hr
 refine ss_cons ?_ ?_
 ·refine s_if ?_ ?_ (ss_nil)
  ·refine t_w ?_
   refine w_or ?_ ?_
   ·refine t_val ?_
    refine d_isi .bool ?_ T.b_isinstance T.b_bool boot_bool
    exact d_var 1
   refine w_one' ?_
   refine t_not ?_
   refine t_val ?_
   refine d_isi .int ?_ T.b_isinstance T.b_int boot_int
   exact d_var 1
  refine ss_one ?_
  refine s_ret ?_
  exact d_bl
 refine ss_one ?_
 refine s_ret ?_
 refine d_chain opd_le opd_lt ?_ ?_ ?_
 ·exact d_int
 ·exact d_var 1
 exact d_var 0
include T in
theorem k_is_number_below(F:Fun K "is_number_below" "is_number_below" s_is_number_below f fd)(m:mg "is_number_below"=some (.ref f)):Callee P w K mg base 1 "is_number_below" F_is_number_below:=by
 have hb:= @b_is_number_below P w K mg base f T
 unfold F_is_number_below
 refine⟨f,fd,_,fun_ok F sc_is_number_below rfl rfl ?_,(binds2 F (fun _ _ _ _ _ _ _ _=>rfl)),F.kp,m⟩
 assumption
variable(c_is_number_below:Callee P w K mg base 1 "is_number_below" F_is_number_below)
theorem sc_check_many:FnScope ["thing"] ["thing"] (defScope s_check_many):=⟨rfl,rfl,rfl,by decide+kernel,rfl,by decide+kernel,by decide+kernel⟩
include T c_is_number_below in
theorem b_check_many:BodyOk P w K mg base 1 f ["thing"] "check_many" s_check_many M_check_many:=by
 intro cdv A outer s H E hr
 refine ss_one ?_
 refine s_if ?_ ?_ (ss_nil)
 ·refine t_w ?_
  refine w_or ?_ ?_
  ·refine t_not ?_
   refine t_val ?_
   refine d_callC c_is_number_below ?_ ?_
   ·exact hr.lo
   refine a_cons ?_ ?_ ?_
   ·refine d_op opd_add ?_ ?_
    ·exact d_gint rfl T.g_LARGEST_SIZE.choose_spec
    exact d_int
   ·refine a_cons ?_ (a_nil) ?_
    ·exact d_var 0
    exact st_Name
   exact st_BinOp
  refine w_one' ?_
  refine t_cmp (opd_eq hr.units) ?_ ?_ bl_eq
  ·exact d_var 0
  exact d_int
 refine ss_one ?_
 refine s_raise T.cls ?_ ?_
 ·exact(by decide)
 exact d_str
include T c_is_number_below in
theorem k_check_many(F:Fun K "check_many" "check_many" s_check_many f fd)(m:mg "check_many"=some (.ref f)):Callee P w K mg base 2 "check_many" F_check_many:=by
 have hb:= @b_check_many P w K mg base f T c_is_number_below
 unfold F_check_many
 refine⟨f,fd,_,fun_ok F sc_check_many rfl rfl ?_,(binds1 F (fun _ _ _ _ _ _ _=>rfl)),F.kp,m⟩
 assumption
variable(c_check_many:Callee P w K mg base 2 "check_many" F_check_many)
theorem sc_is_part_of_order:FnScope ["many","thing"] ["many","thing"] (defScope s_is_part_of_order):=⟨rfl,rfl,rfl,by decide+kernel,rfl,by decide+kernel,by decide+kernel⟩
include T c_is_number_below in
theorem b_is_part_of_order:BodyOk P w K mg base 1 f ["many","thing"] "is_part_of_order" s_is_part_of_order M_is_part_of_order:=by
 intro cdv A outer s H E hr
 refine ss_cons ?_ ?_
 ·refine s_if ?_ ?_ (ss_nil)
  ·refine t_not ?_
   refine t_val ?_
   refine d_isi .tuple ?_ T.b_isinstance T.b_tuple boot_tuple
   exact d_var 1
  refine ss_one ?_
  refine s_ret ?_
  exact d_bl
 refine ss_cons ?_ ?_
 ·refine s_if ?_ ?_ (ss_nil)
  ·refine t_not ?_
   refine t_val ?_
   refine d_callB (cd_all hr.hd) T.b_all boot_all ?_
   refine a_cons ?_ (a_nil) ?_
   ·refine d_new ?_
    refine n_comp ["number","many"] ?_ ?_ ?_ ?_
    ·refine i_seq ?_
     exact d_var 1
    ·intro _ _ _ _ _
     exact g_name
    ·intro _ _ _ _ _
     exact ts_nil
    intro _ _ _ _ _
    refine d_callC c_is_number_below ?_ ?_
    ·exact hr.lo
    refine a_cons ?_ ?_ ?_
    ·exact d_var 1
    ·refine a_cons ?_ (a_nil) ?_
     ·exact d_var 0
     exact st_Name
    exact st_Name
   exact st_ListComp
  refine ss_one ?_
  refine s_ret ?_
  exact d_bl
 refine ss_one ?_
 refine s_ret ?_
 refine d_cmp (opd_eq hr.units) ?_ ?_
 ·refine d_lenset ?_ T.b_len T.b_set ?_
  ·exact hr.hd
  exact d_var 1
 refine d_callB cd_len T.b_len boot_len ?_
 refine a_cons ?_ (a_nil) ?_
 ·exact d_var 1
 exact st_Name
include T c_is_number_below in
theorem k_is_part_of_order(F:Fun K "is_part_of_order" "is_part_of_order" s_is_part_of_order f fd)(m:mg "is_part_of_order"=some (.ref f)):Callee P w K mg base 2 "is_part_of_order" F_is_part_of_order:=by
 have hb:= @b_is_part_of_order P w K mg base f T c_is_number_below
 unfold F_is_part_of_order
 refine⟨f,fd,_,fun_ok F sc_is_part_of_order rfl rfl ?_,(binds2 F (fun _ _ _ _ _ _ _ _=>rfl)),F.kp,m⟩
 assumption
variable(c_is_part_of_order:Callee P w K mg base 2 "is_part_of_order" F_is_part_of_order)
theorem sc_column_of:FnScope ["rows","column"] ["rows","column"] (defScope s_column_of):=⟨rfl,rfl,rfl,by decide+kernel,rfl,by decide+kernel,by decide+kernel⟩
include T in
theorem b_column_of:BodyOk P w K mg base 0 f ["rows","column"] "column_of" s_column_of M_column_of:=by
 intro cdv A outer s H E hr
 refine ss_one ?_
 refine s_ret ?_
 refine d_callTy cd_tup T.b_tuple boot_tuple ?_
 refine a_cons ?_ (a_nil) ?_
 ·refine d_new ?_
  refine n_comp ["row","column"] ?_ ?_ ?_ ?_
  ·refine i_seq ?_
   exact d_var 0
  ·intro _ _ _ _ _
   exact g_name
  ·intro _ _ _ _ _
   exact ts_nil
  intro _ _ _ _ _
  refine d_ix ?_ ?_
  ·exact d_var 0
  exact d_var 1
 exact st_ListComp
include T in
theorem k_column_of(F:Fun K "column_of" "column_of" s_column_of f fd)(m:mg "column_of"=some (.ref f)):Callee P w K mg base 1 "column_of" F_column_of:=by
 have hb:= @b_column_of P w K mg base f T
 unfold F_column_of
 refine⟨f,fd,_,fun_ok F sc_column_of rfl rfl ?_,(binds2 F (fun _ _ _ _ _ _ _ _=>rfl)),F.kp,m⟩
 assumption
variable(c_column_of:Callee P w K mg base 1 "column_of" F_column_of)
theorem sc_columns_of:FnScope ["rows"] ["rows"] (defScope s_columns_of):=⟨rfl,rfl,rfl,by decide+kernel,rfl,by decide+kernel,by decide+kernel⟩
include T c_column_of in
theorem b_columns_of:BodyOk P w K mg base 1 f ["rows"] "columns_of" s_columns_of M_columns_of:=by
 intro cdv A outer s H E hr
 refine ss_one ?_
 refine s_ret ?_
 refine d_callTy cd_tup T.b_tuple boot_tuple ?_
 refine a_cons ?_ (a_nil) ?_
 ·refine d_new ?_
  refine n_comp ["column","rows"] ?_ ?_ ?_ ?_
  ·refine i_range1 T.b_range ?_
   refine a_cons ?_ (a_nil) ?_
   ·refine d_callB cd_len T.b_len boot_len ?_
    refine a_cons ?_ (a_nil) ?_
    ·refine d_ix ?_ ?_
     ·exact d_var 0
     exact d_int
    exact st_Subscript
   exact st_Call
  ·intro _ _ _ _ _
   exact g_name
  ·intro _ _ _ _ _
   exact ts_nil
  intro _ _ _ _ _
  refine d_callC c_column_of ?_ ?_
  ·exact hr.lo
  refine a_cons ?_ ?_ ?_
  ·exact d_var 1
  ·refine a_cons ?_ (a_nil) ?_
   ·exact d_var 0
   exact st_Name
  exact st_Name
 exact st_ListComp
include T c_column_of in
theorem k_columns_of(F:Fun K "columns_of" "columns_of" s_columns_of f fd)(m:mg "columns_of"=some (.ref f)):Callee P w K mg base 2 "columns_of" F_columns_of:=by
 have hb:= @b_columns_of P w K mg base f T c_column_of
 unfold F_columns_of
 refine⟨f,fd,_,fun_ok F sc_columns_of rfl rfl ?_,(binds1 F (fun _ _ _ _ _ _ _=>rfl)),F.kp,m⟩
 assumption
variable(c_columns_of:Callee P w K mg base 2 "columns_of" F_columns_of)
theorem sc_is_block:FnScope ["many","thing","length"] ["many","thing"] (defScope s_is_block):=⟨rfl,rfl,rfl,by decide+kernel,rfl,by decide+kernel,by decide+kernel⟩
include T c_is_part_of_order c_columns_of in
theorem b_is_block:BodyOk P w K mg base 2 f ["many","thing","length"] "is_block" s_is_block M_is_block:=by
 intro cdv A outer s H E hr
 refine ss_cons ?_ ?_
 ·refine s_if ?_ ?_ (ss_nil)
  ·refine t_w ?_
   refine w_or ?_ ?_
   ·refine t_not ?_
    refine t_val ?_
    refine d_isi .tuple ?_ T.b_isinstance T.b_tuple boot_tuple
    exact d_var 1
   refine w_one' ?_
   refine t_not ?_
   refine t_chain opd_le opd_le ?_ ?_ ?_ bl_cmp
   ·exact d_int
   ·refine d_callB cd_len T.b_len boot_len ?_
    refine a_cons ?_ (a_nil) ?_
    ·exact d_var 1
    exact st_Name
   exact d_var 0
  refine ss_one ?_
  refine s_ret ?_
  exact d_bl
 refine ss_cons ?_ ?_
 ·refine s_if ?_ ?_ (ss_nil)
  ·refine t_not ?_
   refine t_val ?_
   refine d_callB (cd_all hr.hd) T.b_all boot_all ?_
   refine a_cons ?_ (a_nil) ?_
   ·refine d_new ?_
    refine n_comp ["row","many"] ?_ ?_ ?_ ?_
    ·refine i_seq ?_
     exact d_var 1
    ·intro _ _ _ _ _
     exact g_name
    ·intro _ _ _ _ _
     exact ts_nil
    intro _ _ _ _ _
    refine d_callC c_is_part_of_order ?_ ?_
    ·exact hr.lo
    refine a_cons ?_ ?_ ?_
    ·exact d_var 1
    ·refine a_cons ?_ (a_nil) ?_
     ·exact d_var 0
     exact st_Name
    exact st_Name
   exact st_ListComp
  refine ss_one ?_
  refine s_ret ?_
  exact d_bl
 refine ss_cons ?_ ?_
 ·refine s_set ?_
  refine d_callB cd_len T.b_len boot_len ?_
  refine a_cons ?_ (a_nil) ?_
  ·refine d_ix ?_ ?_
   ·exact d_var 1
   exact d_int
  exact st_Subscript
 refine ss_cons ?_ ?_
 ·refine s_if ?_ ?_ (ss_nil)
  ·refine t_w ?_
   refine w_or ?_ ?_
   ·refine t_cmp (opd_eq hr.units) ?_ ?_ bl_eq
    ·exact d_var 2
    exact d_int
   refine w_one' ?_
   refine t_not ?_
   refine t_val ?_
   refine d_callB (cd_all hr.hd) T.b_all boot_all ?_
   refine a_cons ?_ (a_nil) ?_
   ·refine d_new ?_
    refine n_comp ["row","length"] ?_ ?_ ?_ ?_
    ·refine i_seq ?_
     exact d_var 1
    ·intro _ _ _ _ _
     exact g_name
    ·intro _ _ _ _ _
     exact ts_nil
    intro _ _ _ _ _
    refine d_cmp (opd_eq hr.units) ?_ ?_
    ·refine d_callB cd_len T.b_len boot_len ?_
     refine a_cons ?_ (a_nil) ?_
     ·exact d_var 0
     exact st_Name
    exact d_var 1
   exact st_ListComp
  refine ss_one ?_
  refine s_ret ?_
  exact d_bl
 refine ss_one ?_
 refine s_ret ?_
 refine d_callB (cd_all hr.hd) T.b_all boot_all ?_
 refine a_cons ?_ (a_nil) ?_
 ·refine d_new ?_
  refine n_comp ["column","many"] ?_ ?_ ?_ ?_
  ·refine i_seq ?_
   refine d_callC c_columns_of ?_ ?_
   ·exact hr.lo
   refine a_cons ?_ (a_nil) ?_
   ·exact d_var 1
   exact st_Name
  ·intro _ _ _ _ _
   exact g_name
  ·intro _ _ _ _ _
   exact ts_nil
  intro _ _ _ _ _
  refine d_callC c_is_part_of_order ?_ ?_
  ·exact hr.lo
  refine a_cons ?_ ?_ ?_
  ·exact d_var 1
  ·refine a_cons ?_ (a_nil) ?_
   ·exact d_var 0
   exact st_Name
  exact st_Name
 exact st_ListComp
include T c_is_part_of_order c_columns_of in
theorem k_is_block(F:Fun K "is_block" "is_block" s_is_block f fd)(m:mg "is_block"=some (.ref f)):Callee P w K mg base 3 "is_block" F_is_block:=by
 have hb:= @b_is_block P w K mg base f T c_is_part_of_order c_columns_of
 unfold F_is_block
 refine⟨f,fd,_,fun_ok F sc_is_block rfl rfl ?_,(binds2 F (fun _ _ _ _ _ _ _ _=>rfl)),F.kp,m⟩
 assumption
variable(c_is_block:Callee P w K mg base 3 "is_block" F_is_block)
theorem sc_check_block:FnScope ["many","block"] ["many","block"] (defScope s_check_block):=⟨rfl,rfl,rfl,by decide+kernel,rfl,by decide+kernel,by decide+kernel⟩
include T c_check_many c_is_block in
theorem b_check_block:BodyOk P w K mg base 3 f ["many","block"] "check_block" s_check_block M_check_block:=by
 intro cdv A outer s H E hr
 refine ss_cons ?_ ?_
 ·refine s_expr ?_
  refine d_callC c_check_many ?_ ?_
  ·exact hr.lo
  refine a_cons ?_ (a_nil) ?_
  ·exact d_var 0
  exact st_Name
 refine ss_one ?_
 refine s_if ?_ ?_ (ss_nil)
 ·refine t_not ?_
  refine t_val ?_
  refine d_callC c_is_block ?_ ?_
  ·exact hr.lo
  refine a_cons ?_ ?_ ?_
  ·exact d_var 0
  ·refine a_cons ?_ (a_nil) ?_
   ·exact d_var 1
   exact st_Name
  exact st_Name
 refine ss_one ?_
 refine s_raise T.cls ?_ ?_
 ·exact(by decide)
 exact d_str
include T c_check_many c_is_block in
theorem k_check_block(F:Fun K "check_block" "check_block" s_check_block f fd)(m:mg "check_block"=some (.ref f)):Callee P w K mg base 4 "check_block" F_check_block:=by
 have hb:= @b_check_block P w K mg base f T c_check_many c_is_block
 unfold F_check_block
 refine⟨f,fd,_,fun_ok F sc_check_block rfl rfl ?_,(binds2 F (fun _ _ _ _ _ _ _ _=>rfl)),F.kp,m⟩
 assumption
variable(c_check_block:Callee P w K mg base 4 "check_block" F_check_block)
theorem sc_times_in:FnScope ["rows","letter"] ["rows","letter"] (defScope s_times_in):=⟨rfl,rfl,rfl,by decide+kernel,rfl,by decide+kernel,by decide+kernel⟩
include T in
theorem b_times_in:BodyOk P w K mg base 0 f ["rows","letter"] "times_in" s_times_in M_times_in:=by
 intro cdv A outer s H E hr
 refine ss_one ?_
 refine s_ret ?_
 refine d_callB (cd_sum hr) T.b_sum boot_sum ?_
 refine a_cons ?_ (a_nil) ?_
 ·refine d_new ?_
  refine n_comp ["row","letter"] ?_ ?_ ?_ ?_
  ·refine i_seq ?_
   exact d_var 0
  ·intro _ _ _ _ _
   exact g_name
  ·intro _ _ _ _ _
   exact ts_nil
  intro _ _ _ _ _
  refine d_count hr ?_ ?_
  ·exact d_var 0
  exact d_var 1
 exact st_ListComp
include T in
theorem k_times_in(F:Fun K "times_in" "times_in" s_times_in f fd)(m:mg "times_in"=some (.ref f)):Callee P w K mg base 1 "times_in" F_times_in:=by
 have hb:= @b_times_in P w K mg base f T
 unfold F_times_in
 refine⟨f,fd,_,fun_ok F sc_times_in rfl rfl ?_,(binds2 F (fun _ _ _ _ _ _ _ _=>rfl)),F.kp,m⟩
 assumption
variable(c_times_in:Callee P w K mg base 1 "times_in" F_times_in)
theorem sc_least_times:FnScope ["many","rows"] ["many","rows"] (defScope s_least_times):=⟨rfl,rfl,rfl,by decide+kernel,rfl,by decide+kernel,by decide+kernel⟩
include T in
theorem b_least_times:BodyOk P w K mg base 0 f ["many","rows"] "least_times" s_least_times M_least_times:=by
 intro cdv A outer s H E hr
 refine ss_one ?_
 refine s_ret ?_
 refine d_op opd_sub ?_ ?_
 ·refine d_op opd_add ?_ ?_
  ·refine d_callB cd_len T.b_len boot_len ?_
   refine a_cons ?_ (a_nil) ?_
   ·exact d_var 1
   exact st_Name
  refine d_callB cd_len T.b_len boot_len ?_
  refine a_cons ?_ (a_nil) ?_
  ·refine d_ix ?_ ?_
   ·exact d_var 1
   exact d_int
  exact st_Subscript
 exact d_var 0
include T in
theorem k_least_times(F:Fun K "least_times" "least_times" s_least_times f fd)(m:mg "least_times"=some (.ref f)):Callee P w K mg base 1 "least_times" F_least_times:=by
 have hb:= @b_least_times P w K mg base f T
 unfold F_least_times
 refine⟨f,fd,_,fun_ok F sc_least_times rfl rfl ?_,(binds2 F (fun _ _ _ _ _ _ _ _=>rfl)),F.kp,m⟩
 assumption
variable(c_least_times:Callee P w K mg base 1 "least_times" F_least_times)
theorem sc_scarce:FnScope ["many","block"] ["many","block"] (defScope s_scarce):=⟨rfl,rfl,rfl,by decide+kernel,rfl,by decide+kernel,by decide+kernel⟩
include T c_check_block c_times_in c_least_times in
theorem b_scarce:BodyOk P w K mg base 4 f ["many","block"] "scarce" s_scarce M_scarce:=by
 intro cdv A outer s H E hr
 refine ss_cons ?_ ?_
 ·refine s_expr ?_
  refine d_callC c_check_block ?_ ?_
  ·exact hr.lo
  refine a_cons ?_ ?_ ?_
  ·exact d_var 0
  ·refine a_cons ?_ (a_nil) ?_
   ·exact d_var 1
   exact st_Name
  exact st_Name
 refine ss_one ?_
 refine s_ret ?_
 refine d_new ?_
 refine n_comp ["letter","block","many"] ?_ ?_ ?_ ?_
 ·refine i_range1 T.b_range ?_
  refine a_cons ?_ (a_nil) ?_
  ·exact d_var 0
  exact st_Name
 ·intro _ _ _ _ _
  exact g_name
 ·intro _ _ _ _ _
  refine ts_one ?_
  refine t_cmp opd_lt ?_ ?_ bl_cmp
  ·refine d_callC c_times_in ?_ ?_
   ·exact hr.lo
   refine a_cons ?_ ?_ ?_
   ·exact d_var 1
   ·refine a_cons ?_ (a_nil) ?_
    ·exact d_var 0
    exact st_Name
   exact st_Name
  refine d_callC c_least_times ?_ ?_
  ·exact hr.lo
  refine a_cons ?_ ?_ ?_
  ·exact d_var 2
  ·refine a_cons ?_ (a_nil) ?_
   ·exact d_var 1
   exact st_Name
  exact st_Name
 intro _ _ _ _ _
 exact d_var 0
include T c_check_block c_times_in c_least_times in
theorem k_scarce(F:Fun K "scarce" "scarce" s_scarce f fd)(m:mg "scarce"=some (.ref f)):Callee P w K mg base 5 "scarce" F_scarce:=by
 have hb:= @b_scarce P w K mg base f T c_check_block c_times_in c_least_times
 unfold F_scarce
 refine⟨f,fd,_,fun_ok F sc_scarce rfl rfl ?_,(binds2 F (fun _ _ _ _ _ _ _ _=>rfl)),F.kp,m⟩
 assumption
variable(c_scarce:Callee P w K mg base 5 "scarce" F_scarce)
theorem sc_give_letter:FnScope ["choices","place","places","asked","letter"] ["choices","place","places","asked"] (defScope s_give_letter):=⟨rfl,rfl,rfl,by decide+kernel,rfl,by decide+kernel,by decide+kernel⟩
theorem b_give_letter{n:Nat}(c_give_letter:CalleeG P w K mg base (0+n) "give_letter" 9 n):∀(cdv:Value) (A:Around) (outer:List Env) (s:Shared) (H:Hp) (E:XK),Room (0+n) (A.deeper (envOfC "give_letter" (defScope s_give_letter) s.heap.objs.size f cdv))→PSs (cxOf (CXR P w) P w K mg base ["choices","place","places","asked","letter"] "give_letter" (defScope s_give_letter) f cdv A outer s H E) (defBody s_give_letter) (tGb (cxOf (CXR P w) P w K mg base ["choices","place","places","asked","letter"] "give_letter" (defScope s_give_letter) f cdv A outer s H E) 9 n):=by
 intro cdv A outer s H E hr
 refine PSs.nox ?_
 refine gl_body PassesOwn.never rfl (by decide) ?_ ?_ ?_ ?_ ?_ ?_ (by intro _;rfl) ?_ ?_ ?_ (by intro _;rfl)
 ·exact pe_ix ix_list (pe_var rfl (Or.inl rfl)) (pe_var rfl (Or.inl rfl)) (by intro _ _;rfl)
 ·exact pg_name (nd_of (by kernel_rfl)) rfl (Or.inl rfl)
 ·exact pt_cmp (pc_din (u1 hr.units) (pe_var rfl (Or.inl rfl)) (pe_var rfl (Or.inl rfl))) rfl
 ·exact ps_dput (u1 hr.units) (pe_var rfl (Or.inl rfl)) (pe_var rfl (Or.inl rfl)) pe_bl rfl
 ·exact pt_cmp (pc_dnotin (u1 hr.units) (pe_var rfl (Or.inl rfl)) (pe_var rfl (Or.inl rfl))) rfl
 ·exact g_call c_give_letter hr.lo (pa_cons (pe_var rfl (Or.inl rfl)) (pa_cons (pe_dget (u1 hr.units) (pe_var rfl (Or.inl rfl)) (pe_var rfl (Or.inl rfl)) (by intro _ _;rfl)) (pa_cons (pe_var rfl (Or.inl rfl)) (pa_cons (pe_var rfl (Or.inl rfl)) pa_nil))))
 ·exact ps_dput (u1 hr.units) (pe_var rfl (Or.inl rfl)) (pe_var rfl (Or.inl rfl)) (pe_var rfl (Or.inl rfl)) rfl
 ·exact pe_bl
 ·exact pe_bl
theorem k_give_letter(F:Fun K "give_letter" "give_letter" s_give_letter f fd)(m:mg "give_letter"=some (.ref f)):∀n:Nat,CalleeG P w K mg base (0+n) "give_letter" 9 n
 |0=>⟨f,fd,["choices","place","places","asked"],gl_none,(binds4 F (fun _ _ _ _ _ _ _ _ _ _=>rfl)),F.kp,m⟩
 |n+1=>by
  have hb:= @b_give_letter P w K mg base f n (k_give_letter F m n)
  exact⟨f,fd,_,gl_fn F sc_give_letter rfl rfl hb,(binds4 F (fun _ _ _ _ _ _ _ _ _ _=>rfl)),F.kp,m⟩
variable(c_give_letter:CalleeG P w K mg base 10 "give_letter" 9 10)
theorem sc_unlike_letters:FnScope ["choices","place","places"] ["choices"] (defScope s_unlike_letters):=⟨rfl,rfl,rfl,by decide+kernel,rfl,by decide+kernel,by decide+kernel⟩
include T c_give_letter in
theorem b_unlike_letters{Pt:Addr}(bm:BMain mg base)(tb:TabOf K Pt):∀(cdv:Value) (c:Addr) (A:Around) (outer:List Env) (s:Shared) (H:Hp) (E:XK),cdv=.ref c→PySem.W.codeHdIn K c Pt=true→Room 10 (A.deeper (envOfC "unlike_letters" (defScope s_unlike_letters) s.heap.objs.size f cdv))→PSs (cxOf (CXR P w) P w K mg base ["choices","place","places"] "unlike_letters" (defScope s_unlike_letters) f cdv A outer s H E) (defBody s_unlike_letters) (tUb (cxOf (CXR P w) P w K mg base ["choices","place","places"] "unlike_letters" (defScope s_unlike_letters) f cdv A outer s H E)):=by
 intro cdv c A outer s H E hc hC hr
 subst hc
 refine PSs.nox ?_
 refine unl_body PassesOwn.never rfl ?_ ?_ ?_ ?_ ?_ (by intro _;rfl) rfl
 ·exact ps_set (nd_of (by kernel_rfl)) rfl (Or.inr rfl) pe_dnewK
 ·exact pi_range1 rfl T.b_range (pa_cons (e_len T.b_len (pe_var rfl (Or.inl rfl))) pa_nil)
 ·exact pg_name (nd_of (by kernel_rfl)) rfl (Or.inl rfl)
 ·exact g_call c_give_letter hr.lo (pa_cons (pe_var rfl (Or.inl rfl)) (pa_cons (pe_var rfl (Or.inl rfl)) (pa_cons (pe_var rfl (Or.inr (Or.inl rfl))) (pa_cons pe_dnewK pa_nil))))
 ·exact pe_srt hr.hd hr.depth T.b_sorted bm hC rfl tb rfl (Or.inr (Or.inl rfl)) rfl rfl rfl rfl
include T c_give_letter in
theorem k_unlike_letters{Pt:Addr}(bm:BMain mg base)(tb:TabOf K Pt)(hL:okLam K f Pt=true)(F:Fun K "unlike_letters" "unlike_letters" s_unlike_letters f fd)(m:mg "unlike_letters"=some (.ref f)):Callee P w K mg base 11 "unlike_letters" F_unlike_letters:=by
 have hb:= @b_unlike_letters P w K mg base f T c_give_letter Pt bm tb
 exact⟨f,fd,_,unl_fn F sc_unlike_letters rfl rfl hL hb,(binds1 F (fun _ _ _ _ _ _ _=>rfl)),F.kp,m⟩
variable(c_unlike_letters:Callee P w K mg base 11 "unlike_letters" F_unlike_letters)
theorem sc_letters_not_in:FnScope ["many","row"] ["many","row"] (defScope s_letters_not_in):=⟨rfl,rfl,rfl,by decide+kernel,rfl,by decide+kernel,by decide+kernel⟩
include T in
theorem b_letters_not_in:BodyOk P w K mg base 0 f ["many","row"] "letters_not_in" s_letters_not_in M_letters_not_in:=by
 intro cdv A outer s H E hr
 refine ss_one ?_
 refine s_ret ?_
 refine d_new ?_
 refine n_comp ["letter","row"] ?_ ?_ ?_ ?_
 ·refine i_range1 T.b_range ?_
  refine a_cons ?_ (a_nil) ?_
  ·exact d_var 0
  exact st_Name
 ·intro _ _ _ _ _
  exact g_name
 ·intro _ _ _ _ _
  refine ts_one ?_
  refine t_cmp (opd_nin hr.units) ?_ ?_ bl_nin
  ·exact d_var 0
  exact d_var 1
 intro _ _ _ _ _
 exact d_var 0
include T in
theorem k_letters_not_in(F:Fun K "letters_not_in" "letters_not_in" s_letters_not_in f fd)(m:mg "letters_not_in"=some (.ref f)):Callee P w K mg base 1 "letters_not_in" F_letters_not_in:=by
 have hb:= @b_letters_not_in P w K mg base f T
 unfold F_letters_not_in
 refine⟨f,fd,_,fun_ok F sc_letters_not_in rfl rfl ?_,(binds2 F (fun _ _ _ _ _ _ _ _=>rfl)),F.kp,m⟩
 assumption
variable(c_letters_not_in:Callee P w K mg base 1 "letters_not_in" F_letters_not_in)
theorem sc_next_column:FnScope ["many","rows","least","plenty","choices"] ["many","rows"] (defScope s_next_column):=⟨rfl,rfl,rfl,by decide+kernel,rfl,by decide+kernel,by decide+kernel⟩
include T c_times_in c_least_times c_unlike_letters c_letters_not_in in
theorem b_next_column:BodyOk P w K mg base 11 f ["many","rows","least","plenty","choices"] "next_column" s_next_column M_next_column:=by
 intro cdv A outer s H E hr
 refine ss_cons ?_ ?_
 ·refine s_set ?_
  refine d_callC c_least_times ?_ ?_
  ·exact hr.lo
  refine a_cons ?_ ?_ ?_
  ·exact d_var 0
  ·refine a_cons ?_ (a_nil) ?_
   ·exact d_var 1
   exact st_Name
  exact st_Name
 refine ss_cons ?_ ?_
 ·refine s_comp ["letter","rows","least"] ?_ ?_ ?_ ?_
  ·refine i_range1 T.b_range ?_
   refine a_cons ?_ (a_nil) ?_
   ·exact d_var 0
   exact st_Name
  ·intro _ _ _ _ _
   exact g_name
  ·intro _ _ _ _ _
   refine ts_one ?_
   refine t_cmp opd_gt ?_ ?_ bl_cmp
   ·refine d_callC c_times_in ?_ ?_
    ·exact hr.lo
    refine a_cons ?_ ?_ ?_
    ·exact d_var 1
    ·refine a_cons ?_ (a_nil) ?_
     ·exact d_var 0
     exact st_Name
    exact st_Name
   exact d_var 2
  intro _ _ _ _ _
  exact d_var 0
 refine ss_cons ?_ ?_
 ·refine s_set ?_
  refine d_op opd_add ?_ ?_
  ·refine d_new ?_
   refine n_comp ["row","many"] ?_ ?_ ?_ ?_
   ·refine i_seq ?_
    exact d_var 1
   ·intro _ _ _ _ _
    exact g_name
   ·intro _ _ _ _ _
    exact ts_nil
   intro _ _ _ _ _
   refine d_callC c_letters_not_in ?_ ?_
   ·exact hr.lo
   refine a_cons ?_ ?_ ?_
   ·exact d_var 1
   ·refine a_cons ?_ (a_nil) ?_
    ·exact d_var 0
    exact st_Name
   exact st_Name
  refine d_new ?_
  refine n_rep ?_ ?_
  ·refine a_cons ?_ (a_nil) ?_
   ·exact d_var 3
   exact st_Name
  refine d_op opd_sub ?_ ?_
  ·exact d_var 0
  refine d_callB cd_len T.b_len boot_len ?_
  refine a_cons ?_ (a_nil) ?_
  ·exact d_var 1
  exact st_Name
 refine ss_one ?_
 refine s_ret ?_
 refine d_slice ?_ o_none ?_
 ·refine d_callC c_unlike_letters ?_ ?_
  ·exact hr.lo
  refine a_cons ?_ (a_nil) ?_
  ·exact d_var 4
  exact st_Name
 refine o_some ?_
 refine d_callB cd_len T.b_len boot_len ?_
 refine a_cons ?_ (a_nil) ?_
 ·exact d_var 1
 exact st_Name
include T c_times_in c_least_times c_unlike_letters c_letters_not_in in
theorem k_next_column(F:Fun K "next_column" "next_column" s_next_column f fd)(m:mg "next_column"=some (.ref f)):Callee P w K mg base 12 "next_column" F_next_column:=by
 have hb:= @b_next_column P w K mg base f T c_times_in c_least_times c_unlike_letters c_letters_not_in
 unfold F_next_column
 refine⟨f,fd,_,fun_ok F sc_next_column rfl rfl ?_,(binds2 F (fun _ _ _ _ _ _ _ _=>rfl)),F.kp,m⟩
 assumption
variable(c_next_column:Callee P w K mg base 12 "next_column" F_next_column)
theorem sc_widened:FnScope ["many","rows"] ["many","rows"] (defScope s_widened):=⟨rfl,rfl,rfl,by decide+kernel,rfl,by decide+kernel,by decide+kernel⟩
include T c_next_column in
theorem b_widened:BodyOk P w K mg base 12 f ["many","rows"] "widened" s_widened M_widened:=by
 intro cdv A outer s H E hr
 refine ss_cons ?_ ?_
 ·refine s_while ?_ ?_
  ·intro _
   refine t_cmp opd_lt ?_ ?_ bl_cmp
   ·refine d_callB cd_len T.b_len boot_len ?_
    refine a_cons ?_ (a_nil) ?_
    ·refine d_ix ?_ ?_
     ·exact d_var 1
     exact d_int
    exact st_Subscript
   exact d_var 0
  intro _
  refine ss_one ?_
  refine s_set ?_
  refine d_callTy cd_tup T.b_tuple boot_tuple ?_
  refine a_cons ?_ (a_nil) ?_
  ·refine d_new ?_
   refine n_comp ["row","letter"] ?_ ?_ ?_ ?_
   ·refine i_zip T.b_zip ?_
    refine a_cons ?_ ?_ ?_
    ·exact d_var 1
    ·refine a_cons ?_ (a_nil) ?_
     ·refine d_callC c_next_column ?_ ?_
      ·exact hr.lo
      refine a_cons ?_ ?_ ?_
      ·exact d_var 0
      ·refine a_cons ?_ (a_nil) ?_
       ·exact d_var 1
       exact st_Name
      exact st_Name
     exact st_Call
    exact st_Name
   ·intro _ _ _ _ _
    refine g_tup ?_
    refine ns_cons ?_
    exact ns_cons ns_nil
   ·intro _ _ _ _ _
    exact ts_nil
   intro _ _ _ _ _
   refine d_op opd_add ?_ ?_
   ·exact d_var 0
   refine d_tup ?_
   refine a_cons ?_ (a_nil) ?_
   ·exact d_var 1
   exact st_Name
  exact st_ListComp
 refine ss_one ?_
 refine s_ret ?_
 exact d_var 1
include T c_next_column in
theorem k_widened(F:Fun K "widened" "widened" s_widened f fd)(m:mg "widened"=some (.ref f)):Callee P w K mg base 13 "widened" F_widened:=by
 have hb:= @b_widened P w K mg base f T c_next_column
 unfold F_widened
 refine⟨f,fd,_,fun_ok F sc_widened rfl rfl ?_,(binds2 F (fun _ _ _ _ _ _ _ _=>rfl)),F.kp,m⟩
 assumption
variable(c_widened:Callee P w K mg base 13 "widened" F_widened)
theorem sc_filled:FnScope ["many","block","broad"] ["many","block"] (defScope s_filled):=⟨rfl,rfl,rfl,by decide+kernel,rfl,by decide+kernel,by decide+kernel⟩
include T c_columns_of c_scarce c_widened in
theorem b_filled:BodyOk P w K mg base 13 f ["many","block","broad"] "filled" s_filled M_filled:=by
 intro cdv A outer s H E hr
 refine ss_cons ?_ ?_
 ·refine s_if ?_ ?_ (ss_nil)
  ·refine t_val ?_
   refine d_callC c_scarce ?_ ?_
   ·exact hr.lo
   refine a_cons ?_ ?_ ?_
   ·exact d_var 0
   ·refine a_cons ?_ (a_nil) ?_
    ·exact d_var 1
    exact st_Name
   exact st_Name
  refine ss_one ?_
  refine s_ret ?_
  exact d_non
 refine ss_cons ?_ ?_
 ·refine s_set ?_
  refine d_callC c_widened ?_ ?_
  ·exact hr.lo
  refine a_cons ?_ ?_ ?_
  ·exact d_var 0
  ·refine a_cons ?_ (a_nil) ?_
   ·exact d_var 1
   exact st_Name
  exact st_Name
 refine ss_one ?_
 refine s_ret ?_
 refine d_callC c_columns_of ?_ ?_
 ·exact hr.lo
 refine a_cons ?_ (a_nil) ?_
 ·refine d_callC c_widened ?_ ?_
  ·exact hr.lo
  refine a_cons ?_ ?_ ?_
  ·exact d_var 0
  ·refine a_cons ?_ (a_nil) ?_
   ·refine d_callC c_columns_of ?_ ?_
    ·exact hr.lo
    refine a_cons ?_ (a_nil) ?_
    ·exact d_var 2
    exact st_Name
   exact st_Call
  exact st_Name
 exact st_Call
include T c_columns_of c_scarce c_widened in
theorem k_filled(F:Fun K "filled" "filled" s_filled f fd)(m:mg "filled"=some (.ref f)):Callee P w K mg base 14 "filled" F_filled:=by
 have hb:= @b_filled P w K mg base f T c_columns_of c_scarce c_widened
 unfold F_filled
 refine⟨f,fd,_,fun_ok F sc_filled rfl rfl ?_,(binds2 F (fun _ _ _ _ _ _ _ _=>rfl)),F.kp,m⟩
 assumption
variable(c_filled:Callee P w K mg base 14 "filled" F_filled)
theorem sc__law_block:FnScope ["_law_script","_law_many","_law_rows","_law_columns","_law_square","_law_found","_law_row","_law_line","_law_column","_law_above","_law_some"] ["_law_script","_law_many"] (defScope s__law_block):=⟨rfl,rfl,rfl,by decide+kernel,rfl,by decide+kernel,by decide+kernel⟩
include T c__law_cell c__law_mix c__law_sized in
theorem b__law_block:BodyOk P w K mg base 3 f ["_law_script","_law_many","_law_rows","_law_columns","_law_square","_law_found","_law_row","_law_line","_law_column","_law_above","_law_some"] "_law_block" s__law_block M__law_block:=by
 intro cdv A outer s H E hr
 refine ss_cons ?_ ?_
 ·refine s_set ?_
  refine d_op opd_add ?_ ?_
  ·exact d_int
  refine d_callC c__law_mix ?_ ?_
  ·exact hr.lo
  refine a_cons ?_ ?_ ?_
  ·refine d_callC c__law_cell ?_ ?_
   ·exact hr.lo
   refine a_cons ?_ ?_ ?_
   ·exact d_var 0
   ·refine a_cons ?_ (a_nil) ?_
    ·exact d_int
    exact st_Constant
   exact st_Name
  ·refine a_cons ?_ ?_ ?_
   ·exact d_int
   ·refine a_cons ?_ (a_nil) ?_
    ·exact d_var 1
    exact st_Name
   exact st_Constant
  exact st_Call
 refine ss_cons ?_ ?_
 ·refine s_set ?_
  refine d_op opd_add ?_ ?_
  ·exact d_int
  refine d_callC c__law_mix ?_ ?_
  ·exact hr.lo
  refine a_cons ?_ ?_ ?_
  ·refine d_callC c__law_cell ?_ ?_
   ·exact hr.lo
   refine a_cons ?_ ?_ ?_
   ·exact d_var 0
   ·refine a_cons ?_ (a_nil) ?_
    ·exact d_int
    exact st_Constant
   exact st_Name
  ·refine a_cons ?_ ?_ ?_
   ·exact d_int
   ·refine a_cons ?_ (a_nil) ?_
    ·exact d_var 1
    exact st_Name
   exact st_Constant
  exact st_Call
 refine ss_cons ?_ ?_
 ·refine s_if ?_ ?_ (ss_nil)
  ·refine t_cmp (opd_eq hr.units) ?_ ?_ bl_eq
   ·refine d_op opd_mod ?_ ?_
    ·refine d_callC c__law_cell ?_ ?_
     ·exact hr.lo
     refine a_cons ?_ ?_ ?_
     ·exact d_var 0
     ·refine a_cons ?_ (a_nil) ?_
      ·exact d_int
      exact st_Constant
     exact st_Name
    exact d_int
   exact d_int
  refine ss_cons ?_ ?_
  ·refine s_set ?_
   refine d_callC c__law_sized ?_ ?_
   ·exact hr.lo
   refine a_cons ?_ ?_ ?_
   ·exact d_var 0
   ·refine a_cons ?_ ?_ ?_
    ·exact d_int
    ·refine a_cons ?_ (a_nil) ?_
     ·exact d_var 1
     exact st_Name
    exact st_Constant
   exact st_Name
  refine ss_one ?_
  refine s_ret ?_
  refine d_callTy cd_tup T.b_tuple boot_tuple ?_
  refine a_cons ?_ (a_nil) ?_
  ·refine d_new ?_
   refine n_comp ["_law_row","_law_columns"] ?_ ?_ ?_ ?_
   ·refine i_seq ?_
    refine d_sliceT ?_ o_none ?_
    ·exact d_var 4
    refine o_some ?_
    exact d_var 2
   ·intro _ _ _ _ _
    exact g_name
   ·intro _ _ _ _ _
    exact ts_nil
   intro _ _ _ _ _
   refine d_sliceT ?_ o_none ?_
   ·exact d_var 0
   refine o_some ?_
   exact d_var 1
  exact st_ListComp
 refine ss_cons ?_ ?_
 ·refine s_new ?_
  refine n_lst (a_nil)
 refine ss_cons ?_ ?_
 ·refine s_for ?_ ?_ ?_
  ·intro _
   refine i_range1 T.b_range ?_
   refine a_cons ?_ (a_nil) ?_
   ·exact d_var 2
   exact st_Name
  ·intro _
   exact g_name
  intro _
  refine ss_cons ?_ ?_
  ·refine s_new ?_
   refine n_lst (a_nil)
  refine ss_cons ?_ ?_
  ·refine s_for ?_ ?_ ?_
   ·intro _
    refine i_range1 T.b_range ?_
    refine a_cons ?_ (a_nil) ?_
    ·exact d_var 3
    exact st_Name
   ·intro _
    exact g_name
   intro _
   refine ss_cons ?_ ?_
   ·refine s_newV ?_
    refine n_comp ["_law_one","_law_column"] ?_ ?_ ?_ ?_
    ·refine i_seq ?_
     exact d_var 5
    ·intro _ _ _ _ _
     exact g_name
    ·intro _ _ _ _ _
     exact ts_nil
    intro _ _ _ _ _
    refine d_ix ?_ ?_
    ·exact d_var 0
    exact d_var 1
   refine ss_cons ?_ ?_
   ·refine s_compV ["_law_letter","_law_line","_law_above"] ?_ ?_ ?_ ?_
    ·refine i_range1 T.b_range ?_
     refine a_cons ?_ (a_nil) ?_
     ·exact d_var 1
     exact st_Name
    ·intro _ _ _ _ _
     exact g_name
    ·intro _ _ _ _ _
     refine ts_one ?_
     refine t_cmp (opd_nin hr.units) ?_ ?_ bl_nin
     ·exact d_var 0
     refine d_op opd_add ?_ ?_
     ·exact d_var 1
     exact d_var 2
    intro _ _ _ _ _
    exact d_var 0
   refine ss_cons ?_ ?_
   ·refine s_if ?_ ?_ (ss_nil)
    ·refine t_cmp (opd_eq hr.units) ?_ ?_ bl_eq
     ·exact d_var 10
     refine d_new ?_
     refine n_lst (a_nil)
    refine ss_one ?_
    refine s_ret ?_
    refine d_orW ?_ ?_
    ·refine d_callTy cd_tup T.b_tuple boot_tuple ?_
     refine a_cons ?_ (a_nil) ?_
     ·exact d_var 5
     exact st_Name
    refine d_one ?_
    refine d_tup ?_
    refine a_cons ?_ (a_nil) ?_
    ·refine d_tup ?_
     refine a_cons ?_ (a_nil) ?_
     ·exact d_int
     exact st_Constant
    exact st_Tuple
   refine ss_one ?_
   refine s_appF ?_
   refine d_ix ?_ ?_
   ·exact d_var 10
   refine d_callC c__law_mix ?_ ?_
   ·exact hr.lo
   refine a_cons ?_ ?_ ?_
   ·refine d_op opd_add ?_ ?_
    ·refine d_op opd_add ?_ ?_
     ·refine d_callC c__law_cell ?_ ?_
      ·exact hr.lo
      refine a_cons ?_ ?_ ?_
      ·exact d_var 0
      ·refine a_cons ?_ (a_nil) ?_
       ·exact d_int
       exact st_Constant
      exact st_Name
     refine d_op opd_mul ?_ ?_
     ·refine d_op opd_mul ?_ ?_
      ·exact d_int
      exact d_var 6
     exact d_var 6
    refine d_op opd_mul ?_ ?_
    ·exact d_int
    exact d_var 8
   ·refine a_cons ?_ ?_ ?_
    ·exact d_int
    ·refine a_cons ?_ (a_nil) ?_
     ·refine d_callB cd_len T.b_len boot_len ?_
      refine a_cons ?_ (a_nil) ?_
      ·exact d_var 10
      exact st_Name
     exact st_Call
    exact st_Constant
   exact st_BinOp
  refine ss_one ?_
  refine s_appF ?_
  refine d_callTy cd_tup T.b_tuple boot_tuple ?_
  refine a_cons ?_ (a_nil) ?_
  ·exact d_var 7
  exact st_Name
 refine ss_one ?_
 refine s_ret ?_
 refine d_callTy cd_tup T.b_tuple boot_tuple ?_
 refine a_cons ?_ (a_nil) ?_
 ·exact d_var 5
 exact st_Name
include T c__law_cell c__law_mix c__law_sized in
theorem k__law_block(F:Fun K "_law_block" "_law_block" s__law_block f fd)(m:mg "_law_block"=some (.ref f)):Callee P w K mg base 4 "_law_block" F__law_block:=by
 have hb:= @b__law_block P w K mg base f T c__law_cell c__law_mix c__law_sized
 unfold F__law_block
 refine⟨f,fd,_,fun_ok F sc__law_block rfl rfl ?_,(binds2 F (fun _ _ _ _ _ _ _ _=>rfl)),F.kp,m⟩
 assumption
variable(c__law_block:Callee P w K mg base 4 "_law_block" F__law_block)
theorem sc_is_order:FnScope ["many","thing"] ["many","thing"] (defScope s_is_order):=⟨rfl,rfl,rfl,by decide+kernel,rfl,by decide+kernel,by decide+kernel⟩
include T c_is_part_of_order in
theorem b_is_order:BodyOk P w K mg base 2 f ["many","thing"] "is_order" s_is_order M_is_order:=by
 intro cdv A outer s H E hr
 refine ss_one ?_
 refine s_ret ?_
 refine d_and ?_ ?_
 ·refine d_callC c_is_part_of_order ?_ ?_
  ·exact hr.lo
  refine a_cons ?_ ?_ ?_
  ·exact d_var 0
  ·refine a_cons ?_ (a_nil) ?_
   ·exact d_var 1
   exact st_Name
  exact st_Name
 refine d_one ?_
 refine d_cmp (opd_eq hr.units) ?_ ?_
 ·refine d_callB cd_len T.b_len boot_len ?_
  refine a_cons ?_ (a_nil) ?_
  ·exact d_var 1
  exact st_Name
 exact d_var 0
include T c_is_part_of_order in
theorem k_is_order(F:Fun K "is_order" "is_order" s_is_order f fd)(m:mg "is_order"=some (.ref f)):Callee P w K mg base 3 "is_order" F_is_order:=by
 have hb:= @b_is_order P w K mg base f T c_is_part_of_order
 unfold F_is_order
 refine⟨f,fd,_,fun_ok F sc_is_order rfl rfl ?_,(binds2 F (fun _ _ _ _ _ _ _ _=>rfl)),F.kp,m⟩
 assumption
variable(c_is_order:Callee P w K mg base 3 "is_order" F_is_order)
theorem sc_is_square:FnScope ["thing","many"] ["thing"] (defScope s_is_square):=⟨rfl,rfl,rfl,by decide+kernel,rfl,by decide+kernel,by decide+kernel⟩
include T c_columns_of c_is_order in
theorem b_is_square:BodyOk P w K mg base 3 f ["thing","many"] "is_square" s_is_square M_is_square:=by
 intro cdv A outer s H E hr
 refine ss_cons ?_ ?_
 ·refine s_if ?_ ?_ (ss_nil)
  ·refine t_w ?_
   refine w_or ?_ ?_
   ·refine t_not ?_
    refine t_val ?_
    refine d_isi .tuple ?_ T.b_isinstance T.b_tuple boot_tuple
    exact d_var 0
   refine w_one' ?_
   refine t_not ?_
   refine t_chain opd_le opd_le ?_ ?_ ?_ bl_cmp
   ·exact d_int
   ·refine d_callB cd_len T.b_len boot_len ?_
    refine a_cons ?_ (a_nil) ?_
    ·exact d_var 0
    exact st_Name
   exact d_gint rfl T.g_LARGEST_SIZE.choose_spec
  refine ss_one ?_
  refine s_ret ?_
  exact d_bl
 refine ss_cons ?_ ?_
 ·refine s_set ?_
  refine d_callB cd_len T.b_len boot_len ?_
  refine a_cons ?_ (a_nil) ?_
  ·exact d_var 0
  exact st_Name
 refine ss_cons ?_ ?_
 ·refine s_if ?_ ?_ (ss_nil)
  ·refine t_not ?_
   refine t_val ?_
   refine d_callB (cd_all hr.hd) T.b_all boot_all ?_
   refine a_cons ?_ (a_nil) ?_
   ·refine d_new ?_
    refine n_comp ["row","many"] ?_ ?_ ?_ ?_
    ·refine i_seq ?_
     exact d_var 0
    ·intro _ _ _ _ _
     exact g_name
    ·intro _ _ _ _ _
     exact ts_nil
    intro _ _ _ _ _
    refine d_callC c_is_order ?_ ?_
    ·exact hr.lo
    refine a_cons ?_ ?_ ?_
    ·exact d_var 1
    ·refine a_cons ?_ (a_nil) ?_
     ·exact d_var 0
     exact st_Name
    exact st_Name
   exact st_ListComp
  refine ss_one ?_
  refine s_ret ?_
  exact d_bl
 refine ss_one ?_
 refine s_ret ?_
 refine d_callB (cd_all hr.hd) T.b_all boot_all ?_
 refine a_cons ?_ (a_nil) ?_
 ·refine d_new ?_
  refine n_comp ["column","many"] ?_ ?_ ?_ ?_
  ·refine i_seq ?_
   refine d_callC c_columns_of ?_ ?_
   ·exact hr.lo
   refine a_cons ?_ (a_nil) ?_
   ·exact d_var 0
   exact st_Name
  ·intro _ _ _ _ _
   exact g_name
  ·intro _ _ _ _ _
   exact ts_nil
  intro _ _ _ _ _
  refine d_callC c_is_order ?_ ?_
  ·exact hr.lo
  refine a_cons ?_ ?_ ?_
  ·exact d_var 1
  ·refine a_cons ?_ (a_nil) ?_
   ·exact d_var 0
   exact st_Name
  exact st_Name
 exact st_ListComp
include T c_columns_of c_is_order in
theorem k_is_square(F:Fun K "is_square" "is_square" s_is_square f fd)(m:mg "is_square"=some (.ref f)):Callee P w K mg base 4 "is_square" F_is_square:=by
 have hb:= @b_is_square P w K mg base f T c_columns_of c_is_order
 unfold F_is_square
 refine⟨f,fd,_,fun_ok F sc_is_square rfl rfl ?_,(binds1 F (fun _ _ _ _ _ _ _=>rfl)),F.kp,m⟩
 assumption
variable(c_is_square:Callee P w K mg base 4 "is_square" F_is_square)
theorem sc_checked:FnScope ["square"] ["square"] (defScope s_checked):=⟨rfl,rfl,rfl,by decide+kernel,rfl,by decide+kernel,by decide+kernel⟩
include T c_is_square in
theorem b_checked:BodyOk P w K mg base 4 f ["square"] "checked" s_checked M_checked:=by
 intro cdv A outer s H E hr
 refine ss_cons ?_ ?_
 ·refine s_if ?_ ?_ (ss_nil)
  ·refine t_not ?_
   refine t_val ?_
   refine d_callC c_is_square ?_ ?_
   ·exact hr.lo
   refine a_cons ?_ (a_nil) ?_
   ·exact d_var 0
   exact st_Name
  refine ss_one ?_
  refine s_raise T.cls ?_ ?_
  ·exact(by decide)
  exact d_str
 refine ss_one ?_
 refine s_ret ?_
 exact d_var 0
include T c_is_square in
theorem k_checked(F:Fun K "checked" "checked" s_checked f fd)(m:mg "checked"=some (.ref f)):Callee P w K mg base 5 "checked" F_checked:=by
 have hb:= @b_checked P w K mg base f T c_is_square
 unfold F_checked
 refine⟨f,fd,_,fun_ok F sc_checked rfl rfl ?_,(binds1 F (fun _ _ _ _ _ _ _=>rfl)),F.kp,m⟩
 assumption
variable(c_checked:Callee P w K mg base 5 "checked" F_checked)
theorem sc_over:FnScope ["square"] ["square"] (defScope s_over):=⟨rfl,rfl,rfl,by decide+kernel,rfl,by decide+kernel,by decide+kernel⟩
include T c_columns_of c_checked in
theorem b_over:BodyOk P w K mg base 5 f ["square"] "over" s_over M_over:=by
 intro cdv A outer s H E hr
 refine ss_one ?_
 refine s_ret ?_
 refine d_callC c_columns_of ?_ ?_
 ·exact hr.lo
 refine a_cons ?_ (a_nil) ?_
 ·refine d_callC c_checked ?_ ?_
  ·exact hr.lo
  refine a_cons ?_ (a_nil) ?_
  ·exact d_var 0
  exact st_Name
 exact st_Call
include T c_columns_of c_checked in
theorem k_over(F:Fun K "over" "over" s_over f fd)(m:mg "over"=some (.ref f)):Callee P w K mg base 6 "over" F_over:=by
 have hb:= @b_over P w K mg base f T c_columns_of c_checked
 unfold F_over
 refine⟨f,fd,_,fun_ok F sc_over rfl rfl ?_,(binds1 F (fun _ _ _ _ _ _ _=>rfl)),F.kp,m⟩
 assumption
variable(c_over:Callee P w K mg base 6 "over" F_over)
theorem sc_law:FnScope ["_law_script","_law_many","_law_square","_law_rows","_law_columns","_law_block_here","_law_found","_law_turned_block","_law_loose","_law_low","_law_inner","_law_size","_law_told"] ["_law_script"] (defScope s_law):=⟨rfl,rfl,rfl,by decide+kernel,rfl,by decide+kernel,by decide+kernel⟩
include T c__law_cell c__law_sized c_scarce c_filled c__law_block c_checked c_over in
theorem b_law:BodyOk P w K mg base 14 f ["_law_script","_law_many","_law_square","_law_rows","_law_columns","_law_block_here","_law_found","_law_turned_block","_law_loose","_law_low","_law_inner","_law_size","_law_told"] "law" s_law M_law:=by
 intro cdv A outer s H E hr
 refine ss_cons ?_ ?_
 ·refine s_set ?_
  refine d_op opd_add ?_ ?_
  ·exact d_int
  refine d_op opd_mod ?_ ?_
  ·refine d_callC c__law_cell ?_ ?_
   ·exact hr.lo
   refine a_cons ?_ ?_ ?_
   ·exact d_var 0
   ·refine a_cons ?_ (a_nil) ?_
    ·exact d_int
    exact st_Constant
   exact st_Name
  exact d_int
 refine ss_cons ?_ ?_
 ·refine s_set ?_
  refine d_callC c__law_sized ?_ ?_
  ·exact hr.lo
  refine a_cons ?_ ?_ ?_
  ·exact d_var 0
  ·refine a_cons ?_ ?_ ?_
   ·exact d_int
   ·refine a_cons ?_ (a_nil) ?_
    ·exact d_var 1
    exact st_Name
   exact st_Constant
  exact st_Name
 refine ss_cons ?_ ?_
 ·refine s_set ?_
  refine d_op opd_add ?_ ?_
  ·exact d_int
  refine d_op opd_mod ?_ ?_
  ·refine d_callC c__law_cell ?_ ?_
   ·exact hr.lo
   refine a_cons ?_ ?_ ?_
   ·exact d_var 0
   ·refine a_cons ?_ (a_nil) ?_
    ·exact d_int
    exact st_Constant
   exact st_Name
  exact d_var 1
 refine ss_cons ?_ ?_
 ·refine s_set ?_
  refine d_op opd_add ?_ ?_
  ·exact d_int
  refine d_op opd_mod ?_ ?_
  ·refine d_callC c__law_cell ?_ ?_
   ·exact hr.lo
   refine a_cons ?_ ?_ ?_
   ·exact d_var 0
   ·refine a_cons ?_ (a_nil) ?_
    ·exact d_int
    exact st_Constant
   exact st_Name
  exact d_var 1
 refine ss_cons ?_ ?_
 ·refine s_set ?_
  refine d_callTy cd_tup T.b_tuple boot_tuple ?_
  refine a_cons ?_ (a_nil) ?_
  ·refine d_new ?_
   refine n_comp ["_law_row","_law_columns"] ?_ ?_ ?_ ?_
   ·refine i_seq ?_
    refine d_sliceT ?_ o_none ?_
    ·exact d_var 2
    refine o_some ?_
    exact d_var 3
   ·intro _ _ _ _ _
    exact g_name
   ·intro _ _ _ _ _
    exact ts_nil
   intro _ _ _ _ _
   refine d_sliceT ?_ o_none ?_
   ·exact d_var 0
   refine o_some ?_
   exact d_var 1
  exact st_ListComp
 refine ss_cons ?_ ?_
 ·refine s_if ?_ ?_ (ss_nil)
  ·refine t_cmp (opd_ne hr.units) ?_ ?_ bl_ne
   ·refine d_callC c_scarce ?_ ?_
    ·exact hr.lo
    refine a_cons ?_ ?_ ?_
    ·exact d_var 1
    ·refine a_cons ?_ (a_nil) ?_
     ·exact d_var 5
     exact st_Name
    exact st_Name
   refine d_new ?_
   refine n_lst (a_nil)
  refine ss_one ?_
  refine s_ret ?_
  exact d_bl
 refine ss_cons ?_ ?_
 ·refine s_set ?_
  refine d_callC c_filled ?_ ?_
  ·exact hr.lo
  refine a_cons ?_ ?_ ?_
  ·exact d_var 1
  ·refine a_cons ?_ (a_nil) ?_
   ·exact d_var 5
   exact st_Name
  exact st_Name
 refine ss_cons ?_ ?_
 ·refine s_if ?_ ?_ (ss_nil)
  ·refine t_w ?_
   refine w_or ?_ ?_
   ·refine t_cmp (opd_ne hr.units) ?_ ?_ bl_ne
    ·refine d_callC c_checked ?_ ?_
     ·exact hr.lo
     refine a_cons ?_ (a_nil) ?_
     ·exact d_var 6
     exact st_Name
    exact d_var 6
   refine w_one' ?_
   refine t_cmp (opd_ne hr.units) ?_ ?_ bl_ne
   ·refine d_callTy cd_tup T.b_tuple boot_tuple ?_
    refine a_cons ?_ (a_nil) ?_
    ·refine d_new ?_
     refine n_comp ["_law_row","_law_columns"] ?_ ?_ ?_ ?_
     ·refine i_seq ?_
      refine d_sliceT ?_ o_none ?_
      ·exact d_var 6
      refine o_some ?_
      exact d_var 3
     ·intro _ _ _ _ _
      exact g_name
     ·intro _ _ _ _ _
      exact ts_nil
     intro _ _ _ _ _
     refine d_sliceT ?_ o_none ?_
     ·exact d_var 0
     refine o_some ?_
     exact d_var 1
    exact st_ListComp
   exact d_var 5
  refine ss_one ?_
  refine s_ret ?_
  exact d_bl
 refine ss_cons ?_ ?_
 ·refine s_set ?_
  refine d_callTy cd_tup T.b_tuple boot_tuple ?_
  refine a_cons ?_ (a_nil) ?_
  ·refine d_new ?_
   refine n_comp ["_law_row","_law_rows"] ?_ ?_ ?_ ?_
   ·refine i_seq ?_
    refine d_sliceT ?_ o_none ?_
    ·refine d_callC c_over ?_ ?_
     ·exact hr.lo
     refine a_cons ?_ (a_nil) ?_
     ·exact d_var 6
     exact st_Name
    refine o_some ?_
    exact d_var 4
   ·intro _ _ _ _ _
    exact g_name
   ·intro _ _ _ _ _
    exact ts_nil
   intro _ _ _ _ _
   refine d_sliceT ?_ o_none ?_
   ·exact d_var 0
   refine o_some ?_
   exact d_var 1
  exact st_ListComp
 refine ss_cons ?_ ?_
 ·refine s_if ?_ ?_ (ss_nil)
  ·refine t_w ?_
   refine w_or ?_ ?_
   ·refine t_isN ?_
    refine d_callC c_filled ?_ ?_
    ·exact hr.lo
    refine a_cons ?_ ?_ ?_
    ·exact d_var 1
    ·refine a_cons ?_ (a_nil) ?_
     ·exact d_var 7
     exact st_Name
    exact st_Name
   refine w_one' ?_
   refine t_cmp (opd_ne hr.units) ?_ ?_ bl_ne
   ·refine d_callC c_filled ?_ ?_
    ·exact hr.lo
    refine a_cons ?_ ?_ ?_
    ·exact d_var 1
    ·refine a_cons ?_ (a_nil) ?_
     ·exact d_var 6
     exact st_Name
    exact st_Name
   exact d_var 6
  refine ss_one ?_
  refine s_ret ?_
  exact d_bl
 refine ss_cons ?_ ?_
 ·refine s_set ?_
  refine d_callC c__law_block ?_ ?_
  ·exact hr.lo
  refine a_cons ?_ ?_ ?_
  ·exact d_var 0
  ·refine a_cons ?_ (a_nil) ?_
   ·exact d_var 1
   exact st_Name
  exact st_Name
 refine ss_cons ?_ ?_
 ·refine s_if ?_ ?_ (ss_nil)
  ·refine t_w ?_
   refine w_and ?_ ?_
   ·refine t_cmp opd_le ?_ ?_ bl_cmp
    ·refine d_op opd_add ?_ ?_
     ·refine d_callB cd_len T.b_len boot_len ?_
      refine a_cons ?_ (a_nil) ?_
      ·exact d_var 8
      exact st_Name
     refine d_callB cd_len T.b_len boot_len ?_
     refine a_cons ?_ (a_nil) ?_
     ·refine d_ix ?_ ?_
      ·exact d_var 8
      exact d_int
     exact st_Subscript
    exact d_var 1
   refine w_one ?_
   refine t_isN ?_
   refine d_callC c_filled ?_ ?_
   ·exact hr.lo
   refine a_cons ?_ ?_ ?_
   ·exact d_var 1
   ·refine a_cons ?_ (a_nil) ?_
    ·exact d_var 8
    exact st_Name
   exact st_Name
  refine ss_one ?_
  refine s_ret ?_
  exact d_bl
 refine ss_cons ?_ ?_
 ·refine s_set ?_
  refine d_op opd_add ?_ ?_
  ·exact d_int
  refine d_op opd_mod ?_ ?_
  ·refine d_callC c__law_cell ?_ ?_
   ·exact hr.lo
   refine a_cons ?_ ?_ ?_
   ·exact d_var 0
   ·refine a_cons ?_ (a_nil) ?_
    ·exact d_int
    exact st_Constant
   exact st_Name
  exact d_int
 refine ss_cons ?_ ?_
 ·refine s_set ?_
  refine d_callC c__law_sized ?_ ?_
  ·exact hr.lo
  refine a_cons ?_ ?_ ?_
  ·exact d_var 0
  ·refine a_cons ?_ ?_ ?_
   ·exact d_int
   ·refine a_cons ?_ (a_nil) ?_
    ·exact d_var 9
    exact st_Name
   exact st_Constant
  exact st_Name
 refine ss_cons ?_ ?_
 ·refine s_set ?_
  refine d_op opd_add ?_ ?_
  ·exact d_var 9
  refine d_op opd_mod ?_ ?_
  ·refine d_callC c__law_cell ?_ ?_
   ·exact hr.lo
   refine a_cons ?_ ?_ ?_
   ·exact d_var 0
   ·refine a_cons ?_ (a_nil) ?_
    ·exact d_int
    exact st_Constant
   exact st_Name
  exact d_int
 refine ss_cons ?_ ?_
 ·refine s_if ?_ ?_ (ss_nil)
  ·refine t_cmp opd_gt ?_ ?_ bl_cmp
   ·exact d_var 11
   exact d_int
  refine ss_one ?_
  refine s_ret ?_
  exact d_bl
 refine ss_cons ?_ ?_
 ·refine s_set ?_
  refine d_callC c_filled ?_ ?_
  ·exact hr.lo
  refine a_cons ?_ ?_ ?_
  ·exact d_var 11
  ·refine a_cons ?_ (a_nil) ?_
   ·exact d_var 10
   exact st_Name
  exact st_Name
 refine ss_cons ?_ ?_
 ·refine s_if ?_ ?_ (ss_nil)
  ·refine t_cmp (opd_ne hr.units) ?_ ?_ bl_ne
   ·refine d_notN ?_
    exact d_var 12
   refine d_or ?_ ?_
   ·refine d_cmp (opd_eq hr.units) ?_ ?_
    ·exact d_var 11
    exact d_var 9
   refine d_one ?_
   refine d_cmp opd_ge ?_ ?_
   ·exact d_var 11
   refine d_op opd_mul ?_ ?_
   ·exact d_int
   exact d_var 9
  refine ss_one ?_
  refine s_ret ?_
  exact d_bl
 refine ss_one ?_
 refine s_ret ?_
 refine d_or ?_ ?_
 ·refine d_isN ?_
  exact d_var 12
 refine d_one ?_
 refine d_cmp (opd_eq hr.units) ?_ ?_
 ·refine d_callTy cd_tup T.b_tuple boot_tuple ?_
  refine a_cons ?_ (a_nil) ?_
  ·refine d_new ?_
   refine n_comp ["_law_row","_law_low"] ?_ ?_ ?_ ?_
   ·refine i_seq ?_
    refine d_sliceT ?_ o_none ?_
    ·exact d_var 12
    refine o_some ?_
    exact d_var 9
   ·intro _ _ _ _ _
    exact g_name
   ·intro _ _ _ _ _
    exact ts_nil
   intro _ _ _ _ _
   refine d_sliceT ?_ o_none ?_
   ·exact d_var 0
   refine o_some ?_
   exact d_var 1
  exact st_ListComp
 exact d_var 10
end
end L3
namespace L3
open PySem PySem.Spec L2
open PyProof.Rows hiding St
noncomputable def spLaw(K:PySem.W.Frag):Sp:=fun vs H Q _=>∃(a:Addr) (ns:List Int),vs=[.ref a]∧SqL K H a (ns.map V.int)∧ns.length≤63∧∀H',Q (.bl true) H'
theorem law_spec{P:Program}{w:World}{K:PySem.W.Frag}{mg:Str→Option Value}{base:Heap}{k:Nat}{fa:Addr}{fd:FuncData}{ps:List Str}{F:List D→R D}(y:FnOk P w K mg base (CXR P w) k fa fd ps (spD K F))(h:∀ns:List Int,ns.length≤63→F [scr ns]=.ok (.bl true)):FnOk P w K mg base (CXR P w) k fa fd ps (spLaw K):=by
 have key:∀vs H Q E,spLaw K vs H Q E→spD K F vs H Q E:=by
  rintro vs H Q E ⟨a,ns,rfl,hS,hl,q⟩
  refine⟨fun _=>True,[scr ns],fun _ _=>trivial,RepL.cons ?_ RepL.nil,?_⟩
  ·unfold scr
   simp only[Rep]
   refine⟨a,ns.map V.int,rfl,?_,ints_rep ns⟩
   rcases hS with z|z
   ·exact .inl ⟨z,trivial⟩
   ·exact .inr z
  ·rw[h ns hl]
   intro v H' _ r
   cases r.bl_of
   exact q H'
 exact y.imp key
theorem all_mk{l:PySem.W.OpenLaw}{w:World}{K:PySem.W.Frag}{h:Heap}{mg:Str→Option Value}{fa Pt:Addr}(X:K.In h)(G:h.Ns mainGlobals mg)(hfa:mg "law"=some (.ref fa))
  {f0:Addr} {od0 an0:Option Addr} {sl0:Array (Option Value)} {oc0 kV0 dc0 pm0 cd0 ct0:Value}
  {f1:Addr} {od1 an1:Option Addr} {sl1:Array (Option Value)} {oc1 kV1 dc1 pm1 cd1 ct1:Value}
  {f2:Addr} {od2 an2:Option Addr} {sl2:Array (Option Value)} {oc2 kV2 dc2 pm2 cd2 ct2:Value}
  {f3:Addr} {od3 an3:Option Addr} {sl3:Array (Option Value)} {oc3 kV3 dc3 pm3 cd3 ct3:Value}
  {f4:Addr} {od4 an4:Option Addr} {sl4:Array (Option Value)} {oc4 kV4 dc4 pm4 cd4 ct4:Value}
  {f5:Addr} {od5 an5:Option Addr} {sl5:Array (Option Value)} {oc5 kV5 dc5 pm5 cd5 ct5:Value}
  {f6:Addr} {od6 an6:Option Addr} {sl6:Array (Option Value)} {oc6 kV6 dc6 pm6 cd6 ct6:Value}
  {f7:Addr} {od7 an7:Option Addr} {sl7:Array (Option Value)} {oc7 kV7 dc7 pm7 cd7 ct7:Value}
  {f8:Addr} {od8 an8:Option Addr} {sl8:Array (Option Value)} {oc8 kV8 dc8 pm8 cd8 ct8:Value}
  {f9:Addr} {od9 an9:Option Addr} {sl9:Array (Option Value)} {oc9 kV9 dc9 pm9 cd9 ct9:Value}
  {f10:Addr} {od10 an10:Option Addr} {sl10:Array (Option Value)} {oc10 kV10 dc10 pm10 cd10 ct10:Value}
  {f11:Addr} {od11 an11:Option Addr} {sl11:Array (Option Value)} {oc11 kV11 dc11 pm11 cd11 ct11:Value}
  {f12:Addr} {od12 an12:Option Addr} {sl12:Array (Option Value)} {oc12 kV12 dc12 pm12 cd12 ct12:Value}
  {f13:Addr} {od13 an13:Option Addr} {sl13:Array (Option Value)} {oc13 kV13 dc13 pm13 cd13 ct13:Value}
  {f14:Addr} {od14 an14:Option Addr} {sl14:Array (Option Value)} {oc14 kV14 dc14 pm14 cd14 ct14:Value}
  {f15:Addr} {od15 an15:Option Addr} {sl15:Array (Option Value)} {oc15 kV15 dc15 pm15 cd15 ct15:Value}
  {f16:Addr} {od16 an16:Option Addr} {sl16:Array (Option Value)} {oc16 kV16 dc16 pm16 cd16 ct16:Value}
  {f17:Addr} {od17 an17:Option Addr} {sl17:Array (Option Value)} {oc17 kV17 dc17 pm17 cd17 ct17:Value}
  {f18:Addr} {od18 an18:Option Addr} {sl18:Array (Option Value)} {oc18 kV18 dc18 pm18 cd18 ct18:Value}
  {f19:Addr} {od19 an19:Option Addr} {sl19:Array (Option Value)} {oc19 kV19 dc19 pm19 cd19 ct19:Value}
  {f20:Addr} {od20 an20:Option Addr} {sl20:Array (Option Value)} {oc20 kV20 dc20 pm20 cd20 ct20:Value}
  {f21:Addr} {od21 an21:Option Addr} {sl21:Array (Option Value)} {oc21 kV21 dc21 pm21 cd21 ct21:Value}
  {f22:Addr} {od22 an22:Option Addr} {sl22:Array (Option Value)} {oc22 kV22 dc22 pm22 cd22 ct22:Value}
  {f23:Addr} {od23 an23:Option Addr} {sl23:Array (Option Value)} {oc23 kV23 dc23 pm23 cd23 ct23:Value}
  {f24:Addr} {od24 an24:Option Addr} {sl24:Array (Option Value)} {oc24 kV24 dc24 pm24 cd24 ct24:Value}
  {f25:Addr} {od25 an25:Option Addr} {sl25:Array (Option Value)} {oc25 kV25 dc25 pm25 cd25 ct25:Value}
  {f26:Addr} {od26 an26:Option Addr} {sl26:Array (Option Value)} {oc26 kV26 dc26 pm26 cd26 ct26:Value}
  {f27:Addr} {od27 an27:Option Addr} {sl27:Array (Option Value)} {oc27 kV27 dc27 pm27 cd27 ct27:Value}
  {f28:Addr} {od28 an28:Option Addr} {sl28:Array (Option Value)} {oc28 kV28 dc28 pm28 cd28 ct28:Value}
  {f29:Addr} {od29 an29:Option Addr} {sl29:Array (Option Value)} {oc29 kV29 dc29 pm29 cd29 ct29:Value}
  (a0:PySem.W.nsIn K mainGlobals "_law_cell"=some (some (.ref f0)))
  (l0:K.lookup f0=some ⟨oc0,od0, .func (PySem.W.fnOf "_law_cell" "_law_cell" (defArgs s__law_cell) (defBody s__law_cell) (defScope s__law_cell) .none kV0 dc0 pm0 an0 cd0 ct0),sl0⟩)
  (c0:PySem.W.codeIn K cd0 "_law_cell"=true) (k0:PySem.W.keepIn K (.ref f0)=true)
  (a1:PySem.W.nsIn K mainGlobals "_law_first"=some (some (.ref f1)))
  (l1:K.lookup f1=some ⟨oc1,od1, .func (PySem.W.fnOf "_law_first" "_law_first" (defArgs s__law_first) (defBody s__law_first) (defScope s__law_first) .none kV1 dc1 pm1 an1 cd1 ct1),sl1⟩)
  (c1:PySem.W.codeIn K cd1 "_law_first"=true) (k1:PySem.W.keepIn K (.ref f1)=true)
  (a2:PySem.W.nsIn K mainGlobals "_law_renamed"=some (some (.ref f2)))
  (l2:K.lookup f2=some ⟨oc2,od2, .func (PySem.W.fnOf "_law_renamed" "_law_renamed" (defArgs s__law_renamed) (defBody s__law_renamed) (defScope s__law_renamed) .none kV2 dc2 pm2 an2 cd2 ct2),sl2⟩)
  (c2:PySem.W.codeIn K cd2 "_law_renamed"=true) (k2:PySem.W.keepIn K (.ref f2)=true)
  (a3:PySem.W.nsIn K mainGlobals "_law_mix"=some (some (.ref f3)))
  (l3:K.lookup f3=some ⟨oc3,od3, .func (PySem.W.fnOf "_law_mix" "_law_mix" (defArgs s__law_mix) (defBody s__law_mix) (defScope s__law_mix) .none kV3 dc3 pm3 an3 cd3 ct3),sl3⟩)
  (c3:PySem.W.codeIn K cd3 "_law_mix"=true) (k3:PySem.W.keepIn K (.ref f3)=true)
  (a4:PySem.W.nsIn K mainGlobals "_law_twos"=some (some (.ref f4)))
  (l4:K.lookup f4=some ⟨oc4,od4, .func (PySem.W.fnOf "_law_twos" "_law_twos" (defArgs s__law_twos) (defBody s__law_twos) (defScope s__law_twos) .none kV4 dc4 pm4 an4 cd4 ct4),sl4⟩)
  (c4:PySem.W.codeIn K cd4 "_law_twos"=true) (k4:PySem.W.keepIn K (.ref f4)=true)
  (a5:PySem.W.nsIn K mainGlobals "_law_order"=some (some (.ref f5)))
  (l5:K.lookup f5=some ⟨oc5,od5, .func (PySem.W.fnOf "_law_order" "_law_order" (defArgs s__law_order) (defBody s__law_order) (defScope s__law_order) .none kV5 dc5 pm5 an5 cd5 ct5),sl5⟩)
  (c5:PySem.W.codeIn K cd5 "_law_order"=true) (k5:PySem.W.keepIn K (.ref f5)=true)
  (a6:PySem.W.nsIn K mainGlobals "_law_switched"=some (some (.ref f6)))
  (l6:K.lookup f6=some ⟨oc6,od6, .func (PySem.W.fnOf "_law_switched" "_law_switched" (defArgs s__law_switched) (defBody s__law_switched) (defScope s__law_switched) .none kV6 dc6 pm6 an6 cd6 ct6),sl6⟩)
  (c6:PySem.W.codeIn K cd6 "_law_switched"=true) (k6:PySem.W.keepIn K (.ref f6)=true)
  (a7:PySem.W.nsIn K mainGlobals "_law_sized"=some (some (.ref f7)))
  (l7:K.lookup f7=some ⟨oc7,od7, .func (PySem.W.fnOf "_law_sized" "_law_sized" (defArgs s__law_sized) (defBody s__law_sized) (defScope s__law_sized) .none kV7 dc7 pm7 an7 cd7 ct7),sl7⟩)
  (c7:PySem.W.codeIn K cd7 "_law_sized"=true) (k7:PySem.W.keepIn K (.ref f7)=true)
  (a8:PySem.W.nsIn K mainGlobals "is_number_below"=some (some (.ref f8)))
  (l8:K.lookup f8=some ⟨oc8,od8, .func (PySem.W.fnOf "is_number_below" "is_number_below" (defArgs s_is_number_below) (defBody s_is_number_below) (defScope s_is_number_below) .none kV8 dc8 pm8 an8 cd8 ct8),sl8⟩)
  (c8:PySem.W.codeIn K cd8 "is_number_below"=true) (k8:PySem.W.keepIn K (.ref f8)=true)
  (a9:PySem.W.nsIn K mainGlobals "check_many"=some (some (.ref f9)))
  (l9:K.lookup f9=some ⟨oc9,od9, .func (PySem.W.fnOf "check_many" "check_many" (defArgs s_check_many) (defBody s_check_many) (defScope s_check_many) .none kV9 dc9 pm9 an9 cd9 ct9),sl9⟩)
  (c9:PySem.W.codeIn K cd9 "check_many"=true) (k9:PySem.W.keepIn K (.ref f9)=true)
  (a10:PySem.W.nsIn K mainGlobals "is_part_of_order"=some (some (.ref f10)))
  (l10:K.lookup f10=some ⟨oc10,od10, .func (PySem.W.fnOf "is_part_of_order" "is_part_of_order" (defArgs s_is_part_of_order) (defBody s_is_part_of_order) (defScope s_is_part_of_order) .none kV10 dc10 pm10 an10 cd10 ct10),sl10⟩)
  (c10:PySem.W.codeIn K cd10 "is_part_of_order"=true) (k10:PySem.W.keepIn K (.ref f10)=true)
  (a11:PySem.W.nsIn K mainGlobals "column_of"=some (some (.ref f11)))
  (l11:K.lookup f11=some ⟨oc11,od11, .func (PySem.W.fnOf "column_of" "column_of" (defArgs s_column_of) (defBody s_column_of) (defScope s_column_of) .none kV11 dc11 pm11 an11 cd11 ct11),sl11⟩)
  (c11:PySem.W.codeIn K cd11 "column_of"=true) (k11:PySem.W.keepIn K (.ref f11)=true)
  (a12:PySem.W.nsIn K mainGlobals "columns_of"=some (some (.ref f12)))
  (l12:K.lookup f12=some ⟨oc12,od12, .func (PySem.W.fnOf "columns_of" "columns_of" (defArgs s_columns_of) (defBody s_columns_of) (defScope s_columns_of) .none kV12 dc12 pm12 an12 cd12 ct12),sl12⟩)
  (c12:PySem.W.codeIn K cd12 "columns_of"=true) (k12:PySem.W.keepIn K (.ref f12)=true)
  (a13:PySem.W.nsIn K mainGlobals "is_block"=some (some (.ref f13)))
  (l13:K.lookup f13=some ⟨oc13,od13, .func (PySem.W.fnOf "is_block" "is_block" (defArgs s_is_block) (defBody s_is_block) (defScope s_is_block) .none kV13 dc13 pm13 an13 cd13 ct13),sl13⟩)
  (c13:PySem.W.codeIn K cd13 "is_block"=true) (k13:PySem.W.keepIn K (.ref f13)=true)
  (a14:PySem.W.nsIn K mainGlobals "check_block"=some (some (.ref f14)))
  (l14:K.lookup f14=some ⟨oc14,od14, .func (PySem.W.fnOf "check_block" "check_block" (defArgs s_check_block) (defBody s_check_block) (defScope s_check_block) .none kV14 dc14 pm14 an14 cd14 ct14),sl14⟩)
  (c14:PySem.W.codeIn K cd14 "check_block"=true) (k14:PySem.W.keepIn K (.ref f14)=true)
  (a15:PySem.W.nsIn K mainGlobals "times_in"=some (some (.ref f15)))
  (l15:K.lookup f15=some ⟨oc15,od15, .func (PySem.W.fnOf "times_in" "times_in" (defArgs s_times_in) (defBody s_times_in) (defScope s_times_in) .none kV15 dc15 pm15 an15 cd15 ct15),sl15⟩)
  (c15:PySem.W.codeIn K cd15 "times_in"=true) (k15:PySem.W.keepIn K (.ref f15)=true)
  (a16:PySem.W.nsIn K mainGlobals "least_times"=some (some (.ref f16)))
  (l16:K.lookup f16=some ⟨oc16,od16, .func (PySem.W.fnOf "least_times" "least_times" (defArgs s_least_times) (defBody s_least_times) (defScope s_least_times) .none kV16 dc16 pm16 an16 cd16 ct16),sl16⟩)
  (c16:PySem.W.codeIn K cd16 "least_times"=true) (k16:PySem.W.keepIn K (.ref f16)=true)
  (a17:PySem.W.nsIn K mainGlobals "scarce"=some (some (.ref f17)))
  (l17:K.lookup f17=some ⟨oc17,od17, .func (PySem.W.fnOf "scarce" "scarce" (defArgs s_scarce) (defBody s_scarce) (defScope s_scarce) .none kV17 dc17 pm17 an17 cd17 ct17),sl17⟩)
  (c17:PySem.W.codeIn K cd17 "scarce"=true) (k17:PySem.W.keepIn K (.ref f17)=true)
  (a18:PySem.W.nsIn K mainGlobals "give_letter"=some (some (.ref f18)))
  (l18:K.lookup f18=some ⟨oc18,od18, .func (PySem.W.fnOf "give_letter" "give_letter" (defArgs s_give_letter) (defBody s_give_letter) (defScope s_give_letter) .none kV18 dc18 pm18 an18 cd18 ct18),sl18⟩)
  (c18:PySem.W.codeIn K cd18 "give_letter"=true) (k18:PySem.W.keepIn K (.ref f18)=true)
  (a19:PySem.W.nsIn K mainGlobals "unlike_letters"=some (some (.ref f19)))
  (l19:K.lookup f19=some ⟨oc19,od19, .func (PySem.W.fnOf "unlike_letters" "unlike_letters" (defArgs s_unlike_letters) (defBody s_unlike_letters) (defScope s_unlike_letters) .none kV19 dc19 pm19 an19 cd19 ct19),sl19⟩)
  (c19:PySem.W.codeIn K cd19 "unlike_letters"=true) (k19:PySem.W.keepIn K (.ref f19)=true)
  (a20:PySem.W.nsIn K mainGlobals "letters_not_in"=some (some (.ref f20)))
  (l20:K.lookup f20=some ⟨oc20,od20, .func (PySem.W.fnOf "letters_not_in" "letters_not_in" (defArgs s_letters_not_in) (defBody s_letters_not_in) (defScope s_letters_not_in) .none kV20 dc20 pm20 an20 cd20 ct20),sl20⟩)
  (c20:PySem.W.codeIn K cd20 "letters_not_in"=true) (k20:PySem.W.keepIn K (.ref f20)=true)
  (a21:PySem.W.nsIn K mainGlobals "next_column"=some (some (.ref f21)))
  (l21:K.lookup f21=some ⟨oc21,od21, .func (PySem.W.fnOf "next_column" "next_column" (defArgs s_next_column) (defBody s_next_column) (defScope s_next_column) .none kV21 dc21 pm21 an21 cd21 ct21),sl21⟩)
  (c21:PySem.W.codeIn K cd21 "next_column"=true) (k21:PySem.W.keepIn K (.ref f21)=true)
  (a22:PySem.W.nsIn K mainGlobals "widened"=some (some (.ref f22)))
  (l22:K.lookup f22=some ⟨oc22,od22, .func (PySem.W.fnOf "widened" "widened" (defArgs s_widened) (defBody s_widened) (defScope s_widened) .none kV22 dc22 pm22 an22 cd22 ct22),sl22⟩)
  (c22:PySem.W.codeIn K cd22 "widened"=true) (k22:PySem.W.keepIn K (.ref f22)=true)
  (a23:PySem.W.nsIn K mainGlobals "filled"=some (some (.ref f23)))
  (l23:K.lookup f23=some ⟨oc23,od23, .func (PySem.W.fnOf "filled" "filled" (defArgs s_filled) (defBody s_filled) (defScope s_filled) .none kV23 dc23 pm23 an23 cd23 ct23),sl23⟩)
  (c23:PySem.W.codeIn K cd23 "filled"=true) (k23:PySem.W.keepIn K (.ref f23)=true)
  (a24:PySem.W.nsIn K mainGlobals "_law_block"=some (some (.ref f24)))
  (l24:K.lookup f24=some ⟨oc24,od24, .func (PySem.W.fnOf "_law_block" "_law_block" (defArgs s__law_block) (defBody s__law_block) (defScope s__law_block) .none kV24 dc24 pm24 an24 cd24 ct24),sl24⟩)
  (c24:PySem.W.codeIn K cd24 "_law_block"=true) (k24:PySem.W.keepIn K (.ref f24)=true)
  (a25:PySem.W.nsIn K mainGlobals "is_order"=some (some (.ref f25)))
  (l25:K.lookup f25=some ⟨oc25,od25, .func (PySem.W.fnOf "is_order" "is_order" (defArgs s_is_order) (defBody s_is_order) (defScope s_is_order) .none kV25 dc25 pm25 an25 cd25 ct25),sl25⟩)
  (c25:PySem.W.codeIn K cd25 "is_order"=true) (k25:PySem.W.keepIn K (.ref f25)=true)
  (a26:PySem.W.nsIn K mainGlobals "is_square"=some (some (.ref f26)))
  (l26:K.lookup f26=some ⟨oc26,od26, .func (PySem.W.fnOf "is_square" "is_square" (defArgs s_is_square) (defBody s_is_square) (defScope s_is_square) .none kV26 dc26 pm26 an26 cd26 ct26),sl26⟩)
  (c26:PySem.W.codeIn K cd26 "is_square"=true) (k26:PySem.W.keepIn K (.ref f26)=true)
  (a27:PySem.W.nsIn K mainGlobals "checked"=some (some (.ref f27)))
  (l27:K.lookup f27=some ⟨oc27,od27, .func (PySem.W.fnOf "checked" "checked" (defArgs s_checked) (defBody s_checked) (defScope s_checked) .none kV27 dc27 pm27 an27 cd27 ct27),sl27⟩)
  (c27:PySem.W.codeIn K cd27 "checked"=true) (k27:PySem.W.keepIn K (.ref f27)=true)
  (a28:PySem.W.nsIn K mainGlobals "over"=some (some (.ref f28)))
  (l28:K.lookup f28=some ⟨oc28,od28, .func (PySem.W.fnOf "over" "over" (defArgs s_over) (defBody s_over) (defScope s_over) .none kV28 dc28 pm28 an28 cd28 ct28),sl28⟩)
  (c28:PySem.W.codeIn K cd28 "over"=true) (k28:PySem.W.keepIn K (.ref f28)=true)
  (a29:PySem.W.nsIn K mainGlobals "law"=some (some (.ref f29)))
  (l29:K.lookup f29=some ⟨oc29,od29, .func (PySem.W.fnOf "law" "law" (defArgs s_law) (defBody s_law) (defScope s_law) .none kV29 dc29 pm29 an29 cd29 ct29),sl29⟩)
  (c29:PySem.W.codeIn K cd29 "law"=true) (k29:PySem.W.keepIn K (.ref f29)=true)
  (z0:PySem.W.nsIn K mainGlobals "all"=some none)
  (z1:PySem.W.nsIn K mainGlobals "bool"=some none)
  (z2:PySem.W.nsIn K mainGlobals "int"=some none)
  (z3:PySem.W.nsIn K mainGlobals "isinstance"=some none)
  (z4:PySem.W.nsIn K mainGlobals "len"=some none)
  (z5:PySem.W.nsIn K mainGlobals "list"=some none)
  (z6:PySem.W.nsIn K mainGlobals "range"=some none)
  (z7:PySem.W.nsIn K mainGlobals "set"=some none)
  (z8:PySem.W.nsIn K mainGlobals "sorted"=some none)
  (z9:PySem.W.nsIn K mainGlobals "sum"=some none)
  (z10:PySem.W.nsIn K mainGlobals "tuple"=some none)
  (z11:PySem.W.nsIn K mainGlobals "zip"=some none)
  {t0:Tok} (y0:PySem.W.nsIn K mainGlobals "LARGEST_SIZE"=some (some (.int 9 t0)))
  (q0:clsB K [0,1,4,6]=true)
  (q2:PySem.W.noTabs K=true) (q3:okLam K f19 Pt=true):
  (PySem.W.noTabs K=true∧∃ct,PySem.W.tabIn K "unlike_letters"=some (ct,Pt)∧PySem.W.codeHdIn K ct Pt=true)∧∃fd:FuncData,(∀(s:Shared) (v:Value),BindsTo s fd ⟨[v],[]⟩ [("_law_script",v)])∧∀base:Heap,K.In base→base.Ns mainGlobals mg→BMain mg base→FnOk l.prog w K mg base (CXR l.prog w) 15 fa fd ["_law_script"] (spLaw K):=by
 have e:=hfa.symm.trans (PySem.W.mg_of X G a29)
 cases e
 have T:Txt K mg:=⟨cls_of X G q0,PySem.W.mg_none_of X G z0,PySem.W.mg_none_of X G z1,PySem.W.mg_none_of X G z2,PySem.W.mg_none_of X G z3,PySem.W.mg_none_of X G z4,PySem.W.mg_none_of X G z5,PySem.W.mg_none_of X G z6,PySem.W.mg_none_of X G z7,PySem.W.mg_none_of X G z8,PySem.W.mg_none_of X G z9,PySem.W.mg_none_of X G z10,PySem.W.mg_none_of X G z11,⟨_,PySem.W.mg_of X G y0⟩⟩
 obtain⟨ct,hct,hcd⟩:=lam_tab a19 l19 q3
 have tb:TabOf K Pt:=⟨ct,hct⟩
 refine⟨⟨q2,ct,hct,hcd⟩,⟨PySem.W.fnOf "law" "law" (defArgs s_law) (defBody s_law) (defScope s_law) .none kV29 dc29 pm29 an29 cd29 ct29,fun s v=>.of_eq rfl,fun base _ _ bm=> ?_⟩⟩
 have x__law_cell:=k__law_cell (P:=l.prog) (w:=w) (mg:=mg) (base:=base) T (fun_mk (st:=s__law_cell) l0 c0 k0) (PySem.W.mg_of X G a0)
 have x__law_first:=k__law_first (P:=l.prog) (w:=w) (mg:=mg) (base:=base) T (fun_mk (st:=s__law_first) l1 c1 k1) (PySem.W.mg_of X G a1)
 have x__law_renamed:=k__law_renamed (P:=l.prog) (w:=w) (mg:=mg) (base:=base) T (fun_mk (st:=s__law_renamed) l2 c2 k2) (PySem.W.mg_of X G a2)
 have x__law_mix:=k__law_mix (P:=l.prog) (w:=w) (mg:=mg) (base:=base) T (fun_mk (st:=s__law_mix) l3 c3 k3) (PySem.W.mg_of X G a3)
 have x__law_twos:=k__law_twos (P:=l.prog) (w:=w) (mg:=mg) (base:=base) T (fun_mk (st:=s__law_twos) l4 c4 k4) (PySem.W.mg_of X G a4)
 have x__law_order:=k__law_order (P:=l.prog) (w:=w) (mg:=mg) (base:=base) T x__law_mix (fun_mk (st:=s__law_order) l5 c5 k5) (PySem.W.mg_of X G a5)
 have x__law_switched:=k__law_switched (P:=l.prog) (w:=w) (mg:=mg) (base:=base) T (fun_mk (st:=s__law_switched) l6 c6 k6) (PySem.W.mg_of X G a6)
 have x__law_sized:=k__law_sized (P:=l.prog) (w:=w) (mg:=mg) (base:=base) T x__law_cell x__law_first x__law_renamed x__law_mix x__law_twos x__law_order x__law_switched (fun_mk (st:=s__law_sized) l7 c7 k7) (PySem.W.mg_of X G a7)
 have x_is_number_below:=k_is_number_below (P:=l.prog) (w:=w) (mg:=mg) (base:=base) T (fun_mk (st:=s_is_number_below) l8 c8 k8) (PySem.W.mg_of X G a8)
 have x_check_many:=k_check_many (P:=l.prog) (w:=w) (mg:=mg) (base:=base) T x_is_number_below (fun_mk (st:=s_check_many) l9 c9 k9) (PySem.W.mg_of X G a9)
 have x_is_part_of_order:=k_is_part_of_order (P:=l.prog) (w:=w) (mg:=mg) (base:=base) T x_is_number_below (fun_mk (st:=s_is_part_of_order) l10 c10 k10) (PySem.W.mg_of X G a10)
 have x_column_of:=k_column_of (P:=l.prog) (w:=w) (mg:=mg) (base:=base) T (fun_mk (st:=s_column_of) l11 c11 k11) (PySem.W.mg_of X G a11)
 have x_columns_of:=k_columns_of (P:=l.prog) (w:=w) (mg:=mg) (base:=base) T x_column_of (fun_mk (st:=s_columns_of) l12 c12 k12) (PySem.W.mg_of X G a12)
 have x_is_block:=k_is_block (P:=l.prog) (w:=w) (mg:=mg) (base:=base) T x_is_part_of_order x_columns_of (fun_mk (st:=s_is_block) l13 c13 k13) (PySem.W.mg_of X G a13)
 have x_check_block:=k_check_block (P:=l.prog) (w:=w) (mg:=mg) (base:=base) T x_check_many x_is_block (fun_mk (st:=s_check_block) l14 c14 k14) (PySem.W.mg_of X G a14)
 have x_times_in:=k_times_in (P:=l.prog) (w:=w) (mg:=mg) (base:=base) T (fun_mk (st:=s_times_in) l15 c15 k15) (PySem.W.mg_of X G a15)
 have x_least_times:=k_least_times (P:=l.prog) (w:=w) (mg:=mg) (base:=base) T (fun_mk (st:=s_least_times) l16 c16 k16) (PySem.W.mg_of X G a16)
 have x_scarce:=k_scarce (P:=l.prog) (w:=w) (mg:=mg) (base:=base) T x_check_block x_times_in x_least_times (fun_mk (st:=s_scarce) l17 c17 k17) (PySem.W.mg_of X G a17)
 have x_give_letter:=k_give_letter (P:=l.prog) (w:=w) (mg:=mg) (base:=base) (fun_mk (st:=s_give_letter) l18 c18 k18) (PySem.W.mg_of X G a18) 10
 have x_unlike_letters:=k_unlike_letters (P:=l.prog) (w:=w) (mg:=mg) (base:=base) T x_give_letter bm tb q3 (fun_mk (st:=s_unlike_letters) l19 c19 k19) (PySem.W.mg_of X G a19)
 have x_letters_not_in:=k_letters_not_in (P:=l.prog) (w:=w) (mg:=mg) (base:=base) T (fun_mk (st:=s_letters_not_in) l20 c20 k20) (PySem.W.mg_of X G a20)
 have x_next_column:=k_next_column (P:=l.prog) (w:=w) (mg:=mg) (base:=base) T x_times_in x_least_times x_unlike_letters x_letters_not_in (fun_mk (st:=s_next_column) l21 c21 k21) (PySem.W.mg_of X G a21)
 have x_widened:=k_widened (P:=l.prog) (w:=w) (mg:=mg) (base:=base) T x_next_column (fun_mk (st:=s_widened) l22 c22 k22) (PySem.W.mg_of X G a22)
 have x_filled:=k_filled (P:=l.prog) (w:=w) (mg:=mg) (base:=base) T x_columns_of x_scarce x_widened (fun_mk (st:=s_filled) l23 c23 k23) (PySem.W.mg_of X G a23)
 have x__law_block:=k__law_block (P:=l.prog) (w:=w) (mg:=mg) (base:=base) T x__law_cell x__law_mix x__law_sized (fun_mk (st:=s__law_block) l24 c24 k24) (PySem.W.mg_of X G a24)
 have x_is_order:=k_is_order (P:=l.prog) (w:=w) (mg:=mg) (base:=base) T x_is_part_of_order (fun_mk (st:=s_is_order) l25 c25 k25) (PySem.W.mg_of X G a25)
 have x_is_square:=k_is_square (P:=l.prog) (w:=w) (mg:=mg) (base:=base) T x_columns_of x_is_order (fun_mk (st:=s_is_square) l26 c26 k26) (PySem.W.mg_of X G a26)
 have x_checked:=k_checked (P:=l.prog) (w:=w) (mg:=mg) (base:=base) T x_is_square (fun_mk (st:=s_checked) l27 c27 k27) (PySem.W.mg_of X G a27)
 have x_over:=k_over (P:=l.prog) (w:=w) (mg:=mg) (base:=base) T x_columns_of x_checked (fun_mk (st:=s_over) l28 c28 k28) (PySem.W.mg_of X G a28)
 have hb:= @b_law l.prog w K mg base fa T x__law_cell x__law_sized x_scarce x_filled x__law_block x_checked x_over
 refine law_spec (F:=F_law) ?_ k08_law
 unfold F_law
 refine fun_ok (fun_mk (st:=s_law) l29 c29 k29) sc_law rfl rfl ?_
 assumption
theorem walk{l:PySem.W.OpenLaw}{q:Program}{loose:List Str}{XP:(Str→Option Value)→Heap→Prop}{YP:World→Heap→Prop}{d:DefRec}{Pt:Addr}{K:Params→PySem.W.Frag}(hn:l.most=some 63)(hdf:d.params.defaults=[])(hY:∀(w:World) (h:Heap),YP w h→(K w.params).In h∧h.get? Pt=some (PySem.W.tabObj #[]))
  (F:∀(w:World) (mg:Str→Option Value) (fa:Addr) (h:Heap),(K w.params).In h→h.Ns mainGlobals mg→mg d.name=some (.ref fa)→(PySem.W.noTabs (K w.params)=true∧∃ct,PySem.W.tabIn (K w.params) "unlike_letters"=some (ct,Pt)∧PySem.W.codeHdIn (K w.params) ct Pt=true)∧∃fd:FuncData,(∀(s:Shared) (u:Value),BindsTo s fd ⟨[u],[]⟩ [("_law_script",u)])∧
   ∀base:Heap,(K w.params).In base→base.Ns mainGlobals mg→BMain mg base→FnOk l.prog w (K w.params) mg base (CXR l.prog w) 15 fa fd ["_law_script"] (spLaw (K w.params))):PySem.W.WalkO q loose XP YP l.row.toRowW d [] (fun f vs=>PySem.call f vs):=
 walk_of7 (n:=63) (k:=15) (x:="_law_script") (CX:=fun w=>CXR l.prog w) (sp:=fun w=>spLaw (K w.params)) hn (by decide) hdf ⟨rfl,by decide,by decide⟩ hY F (fun _ _ a ns hl hS=>⟨a,ns,rfl,hS,hl,fun _=>rfl⟩) fun _ _ _ _ _ ⟨_,_,_,_,_,z,_⟩=>z
end L3
open PySem PySem.W PyProof.Rows
set_option maxRecDepth 100000 in
set_option maxHeartbeats 0 in
theorem PySem.Challenge.cw_matesquare_k08_whole_blocks_holds : PySem.Challenge.rw_matesquare_k08_whole_blocks.Holds := by
  w_on; o_law; k_head; (case hw => w_witness2)
  k_fill
  refine L3.walk (l := PySem.Challenge.rw_matesquare_k08_whole_blocks) rfl rfl (fun w h Y => ⟨PySem.W.km_in_of Y, PySem.W.km_tabs_of Y _ (List.Mem.head _)⟩) ?F
  case F =>
    intro w mg fa h KX G hmg
    refine' L3.all_mk KX G hmg ?_ ?_ ?_ ?_ ?_ ?_ ?_ ?_ ?_ ?_ ?_ ?_ ?_ ?_ ?_ ?_ ?_ ?_ ?_ ?_ ?_ ?_ ?_ ?_ ?_ ?_ ?_ ?_ ?_ ?_ ?_ ?_ ?_ ?_ ?_ ?_ ?_ ?_ ?_ ?_ ?_ ?_ ?_ ?_ ?_ ?_ ?_ ?_ ?_ ?_ ?_ ?_ ?_ ?_ ?_ ?_ ?_ ?_ ?_ ?_ ?_ ?_ ?_ ?_ ?_ ?_ ?_ ?_ ?_ ?_ ?_ ?_ ?_ ?_ ?_ ?_ ?_ ?_ ?_ ?_ ?_ ?_ ?_ ?_ ?_ ?_ ?_ ?_ ?_ ?_ ?_ ?_ ?_ ?_ ?_ ?_ ?_ ?_ ?_ ?_ ?_ ?_ ?_ ?_ ?_ ?_ ?_ ?_ ?_ ?_ ?_ ?_ ?_ ?_ ?_ ?_ ?_ ?_ ?_ ?_ ?_ ?_ ?_ ?_ ?_ ?_ ?_ ?_ ?_ ?_ ?_ ?_ ?_ ?_ ?_ ?_
    all_goals try first | k_is | kernel_rfl

