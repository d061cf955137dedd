import PyProof.Rows.All
import Wide.All
import OpenK.AllK
import Wide.FinOn
import Lean
import PyProof.EqAt
import PyProof.EqKinds
import PyProof.TupleCall
import PySem.Challenge.RW_fivecups_k57_whole_and_has_all_marks
set_option Elab.async false
set_option linter.all false
set_option maxRecDepth 100000
namespace L2
open PySem PySem.Spec PyProof.Rows
abbrev Key:=Sum Int Str
def keyIs:Key->Value->Bool
 | .inl k,v=>Value.isInt k v
 | .inr x,v=>Value.isStrOf x v
def keyH(w:World):Key->Int
 | .inl k=>hashInt k
 | .inr x=>hashStr w x
theorem zAZ:∀ {k:Key} {v:Value},keyIs k v=true->(∃ i t,k=Sum.inl i/\v=Value.int i t)\/(∃ x t,k=Sum.inr x/\v=Value.str x t)
 | .inl i,v,h=>by
  obtain⟨t,e⟩:=Value.isInt_shape (k:=i) (v:=v) h
  exact .inl ⟨i,t,rfl,e⟩
 | .inr x,v,h=>by
  obtain⟨t,e⟩:=Value.isStrOf_shape (x:=x) (v:=v) h
  exact .inr ⟨x,t,rfl,e⟩
theorem zIo(i:Int)(t:Tok):keyIs (.inl i) (.int i t)=true:=by simp[keyIs,Value.isInt]
theorem zIt(x:Str)(t:Tok):keyIs (.inr x) (.str x t)=true:=by simp[keyIs,Value.isStrOf]
theorem zN6(a b:Int):decide ((Sum.inl a:Key)=Sum.inl b)=(a == b):=by
 by_cases e:a=b
 ·subst e; simp
 ·have h:¬ (Sum.inl a:Key)=Sum.inl b:=fun q=>e (Sum.inl.inj q)
  rw[decide_eq_false h]
  exact (beq_eq_false_iff_ne.mpr e).symm
theorem zM2(a b:Str):decide ((Sum.inr a:Key)=Sum.inr b)=decide (a=b):=by
 by_cases e:a=b
 ·subst e; simp
 ·have h:¬ (Sum.inr a:Key)=Sum.inr b:=fun q=>e (Sum.inr.inj q)
  rw[decide_eq_false h,decide_eq_false e]
theorem zNF(a:Int)(b:Str):decide ((Sum.inl a:Key)=Sum.inr b)=false:=decide_eq_false (fun q=>nomatch q)
theorem zNY(a:Str)(b:Int):decide ((Sum.inr a:Key)=Sum.inl b)=false:=decide_eq_false (fun q=>nomatch q)
def mixKind(prog:Program)(w:World):PySem.KeyKind prog w Key where
 is:=keyIs
 hash:=keyH w
 inj:=fun v a b ha hb=>by
  rcases zAZ ha with ⟨i,t,rfl,rfl⟩ | ⟨x,t,rfl,rfl⟩
  ·rcases zAZ hb with ⟨j,u,rfl,e⟩ | ⟨y,u,rfl,e⟩
   ·injection e with e1 _; rw[e1]
   ·exact nomatch e
  ·rcases zAZ hb with ⟨j,u,rfl,e⟩ | ⟨y,u,rfl,e⟩
   ·exact nomatch e
   ·injection e with e1 _; rw[e1]
 byValue:=fun k v h=>by
  rcases zAZ h with ⟨i,t,rfl,rfl⟩ | ⟨x,t,rfl,rfl⟩ <;> rfl
 pyHash:=fun hv h=>by
  rcases zAZ hv with ⟨i,t,rfl,rfl⟩ | ⟨x,t,rfl,rfl⟩
  ·exact wpAny_pyHash_int h
  ·exact wpAny_pyHash_str h
 eqBool:=fun hu hv h=>by
  rcases zAZ hu with ⟨i,t,rfl,rfl⟩ | ⟨x,t,rfl,rfl⟩
  ·rcases zAZ hv with ⟨j,u,rfl,rfl⟩ | ⟨y,u,rfl,rfl⟩
   ·rw[zN6]at h; exact wpAny_eqBool_int h
   ·rw[zNF]at h; exact SeqAt.EqAt.int_str i t y u _ _ _ _ h
  ·rcases zAZ hv with ⟨j,u,rfl,rfl⟩ | ⟨y,u,rfl,rfl⟩
   ·rw[zNY]at h; exact SeqAt.EqAt.str_int x t j u _ _ _ _ h
   ·rw[zM2]at h; exact wpAny_eqBool_str h
 «strs»:=fun k x t v h=>by
  rcases zAZ h with ⟨i,u,rfl,e⟩ | ⟨y,u,rfl,e⟩
  ·exact nomatch e
  ·injection e with e1 _
   subst e1
   cases v <;> rfl
theorem zBw(prog:Program)(w:World)(i:Int)(t:Tok):(mixKind prog w).is (.inl i) (.int i t)=true:=zIo i t
theorem zGm(prog:Program)(w:World)(x:Str)(t:Tok):(mixKind prog w).is (.inr x) (.str x t)=true:=zIt x t
inductive V where
 | non | bl (b:Bool) | int (i:Int) | str (x:Str) | byt (b:Array UInt8) | flt (b:UInt64) | ref (a:Addr) | ty (n:String)
 deriving DecidableEq
def RelV:V->Value->Prop
 | .non,u=>u=Value.none
 | .bl b,u=>u=Value.bool b
 | .int i,u=>∃ t,u=Value.int i t
 | .str x,u=>∃ t,u=Value.str x t
 | .byt b,u=>∃ t,u=Value.bytes b t
 | .flt b,u=>∃ t,u=Value.float b t
 | .ref a,u=>u=Value.ref a
 | .ty n,u=>u=Value.type n
abbrev Vals:List V->List Value->Prop:=Paired RelV
theorem Vals.length{xs:List V}{us:List Value}(r:Vals xs us):xs.length=us.length:=Paired.length r
theorem Vals.get:∀ {xs:List V} {us:List Value} {i:Nat} {x:V},Vals xs us->xs[i]?=some x->∃ u,us[i]?=some u/\RelV x u
 | _,_,_,_,.nil,e=>by simp at e
 | _,_,0,_,.cons r _,e=>by simp at e; subst e; exact⟨_,rfl,r⟩
 | _,_,i+1,x,.cons _ t,e=>by
  obtain⟨u,h1,h2⟩:=Vals.get (i:=i) (x:=x) t (by simpa using e)
  exact⟨u,by simpa using h1,h2⟩
theorem Vals.set{x:V}{u:Value}(r:RelV x u):∀ {xs:List V} {us:List Value} (i:Nat),Vals xs us->Vals (xs.set i x) (us.set i u)
 | _,_,_,.nil=>.nil
 | _,_,0,.cons _ t=>.cons r t
 | _,_,i+1,.cons q t=>.cons q (Vals.set r i t)
theorem Vals.append:∀ {xs ys:List V} {us ws:List Value},Vals xs us->Vals ys ws->Vals (xs++ys) (us++ws)
 | _,_,_,_,.nil,s=>s
 | _,_,_,_,.cons r t,s=>.cons r (Vals.append t s)
theorem Vals.take:∀ {xs:List V} {us:List Value} (n:Nat),Vals xs us->Vals (xs.take n) (us.take n)
 | _,_,0,_=>.nil
 | _,_,_+1,.nil=>.nil
 | _,_,n+1,.cons r t=>.cons r (Vals.take n t)
theorem Vals.drop:∀ {xs:List V} {us:List Value} (n:Nat),Vals xs us->Vals (xs.drop n) (us.drop n)
 | _,_,0,r=>r
 | _,_,_+1,.nil=>.nil
 | _,_,n+1,.cons _ t=>Vals.drop n t
def RelO:Option V->Option Value->Prop
 | some v,some u=>RelV v u
 | none,none=>True
 | _,_=>False
def KV{κ:Type}:List (κ×V)->List (κ×Value)->Prop:=Paired fun (p:κ×V) (q:κ×Value)=>p.1=q.1/\RelV p.2 q.2
def kV:Key->V
 | .inl i=>.int i
 | .inr x=>.str x
inductive HO where
 | lst (xs:List V)
 | tup (xs:List V)
 | dK (kvs:List (Key×V)) | dT (kvs:List (List Key×V))
 | set (S:Int->Bool) (n:Nat)
 | ins (C dx:Addr) (fs:List (Str×V))
 | own (x:Addr)
 | xd (fs:List (Str×V))
 | met (f x:Addr)
 | rng (lo hi:Int)
 | frz (o:Obj) (u:HO)
 | tbl (ps:Array Value)
 | tbq (q:Str) | cod (q:Str)
 | ext (φ:Heap->Prop)
abbrev Hp:=Addr->Option HO
def upd(H:Hp)(a:Addr)(o:HO):Hp:=fun b=>if b=a then some o else H b
theorem zAN{H:Hp}{a:Addr}{o:HO}:upd H a o a=some o:=by unfold upd; rw[if_pos rfl]
theorem zAD{H:Hp}{a b:Addr}{o:HO}(h:b≠a):upd H a o b=H b:=by unfold upd; rw[if_neg h]
theorem zOZ{H:Hp}{a b:Addr}{o u:HO}(h:H a=some o)(h':H b=some u)(d:o≠u):a≠b:=by
 intro e; subst e; rw[h]at h'; exact d (Option.some.inj h')
theorem zAI{H:Hp}{a b:Addr}{o:HO}(h:H a=some o)(h':H b=none):a≠b:=by
 intro e; subst e; rw[h]at h'; cases h'
def TupD(h:Heap)(a:Addr)(items:Array Value):Prop:=∃ o,h.get? a=some o/\o.cls=.type "tuple"/\(∃ n,o.data=.seq items n)/\o.dict=none
theorem TupD.tup{h:Heap}{a:Addr}{items:Array Value}(x:TupD h a items):IsTup h a items:=let ⟨o,e,c,d,_⟩:=x; ⟨o,e,c,d⟩
theorem TupD.lt{h:Heap}{a:Addr}{items:Array Value}(x:TupD h a items):a < h.objs.size:=let ⟨_,e,_⟩:=x; Heap.lt_size e
theorem TupD.new(h:Heap)(items:Array Value):TupD (h.push { cls:=.type "tuple",data:=.seq items }) h.objs.size items:=⟨_,Heap.get?_push_size _ rfl,rfl,⟨_,rfl⟩,rfl⟩
section
variable (P:Program)(w:World)
def ObjOk(H:Hp)(h:Heap)(a:Addr):HO->Prop
 | .lst xs=>xs.length<=sizeLine/\∃ (its:List Value) (n:Nat),Vals xs its/\h.get? a=some { cls:=.type "list",data:=.seq its.toArray n }
 | .tup xs=>xs.length<=sizeLine/\∃ its:List Value,Vals xs its/\TupD h a its.toArray
 | .dK kvs=>kvs.length<=sizeLine/\(a == sysModules)=false/\∃ vs,KV kvs vs/\h.DictOf (mixKind P w) a vs
 | .dT kvs=>kvs.length<=sizeLine/\(a == sysModules)=false/\∃ xs:List (List Key×Addr×Value),
   Paired (fun (p:List Key×V) (q:List Key×Addr×Value)=>p.1=q.1/\H q.2.1=some (.tup (p.1.map kV))/\RelV p.2 q.2.2) kvs xs /\
   ∃ o es ep,h.get? a=some o/\o.ExactDict/\o.data=.dict es ep/\es.toList=xs.map (entryOfKey (tupleKind (mixKind P w)))/\(xs.map (·.1)).Nodup
 | .set S n=>h.SetOf (intKind P w) a S n
 | .ins C dx fs=>H dx=some (.own a)/\fs.length<=1000/\dx≠a/\h.get? a=some (PySem.W.instObj C dx) /\
   ∃ mA,h.Ns1 dx mA/\(∀ f,RelO (fs.lookup f) (mA f))/\PySem.Within mA (fs.map (·.1))
 | .own _=>∃ o,h.get? a=some o
 | .xd fs=>∃ mA,h.Ns1 a mA/\∀ f,RelO (fs.lookup f) (mA f)
 | .rng lo hi=>∃ t u v,h.get? a=some { cls:=.type "range",data:=.fields #[.int lo t,.int hi u,.int 1 v] }
 | .frz o u=>h.get? a=some o/\ObjOk H h a u
 | .tbl ps=>h.get? a=some { cls:=.none,data:=.fields ps }
 | .tbq q=>∃ ps:Array Value,h.get? a=some { cls:=.none,data:=.fields ps }/\TriplesOk ps.toList/\∀ pos cv,codeAmong pos ps.toList=some cv->∃ c,cv=.ref c/\H c=some (.cod q)
 | .cod q=>∃ o vs t,h.get? a=some o/\o.data=.fields vs/\vs[1]?=some (.str q t)
 | .met f x=>h.get? a=some (PySem.W.methodObj (.ref f) (.ref x))
 | .ext φ=>φ h/\(∃ o,h.get? a=some o)/\∀ h1 h2:Heap,φ h1->(∀ o,h1.get? a=some o->h2.get? a=some o)->φ h2
def HOk(H:Hp)(h:Heap):Prop:=∀ a o,H a=some o->ObjOk P w H h a o
end
section
variable {P:Program}{w:World}{H H':Hp}{h h':Heap}{a:Addr}{o:HO}
theorem ObjOk.lt(x:ObjOk P w H h a o):a < h.objs.size:=by
 cases o with
 | lst xs=>obtain⟨_,_,_,_,e⟩:=x; exact Heap.lt_size e
 | tup xs=>obtain⟨_,_,_,p⟩:=x; exact p.lt
 | dK kvs=>obtain⟨_,_,_,_,o,_,_,e,_⟩:=x; exact Heap.lt_size e
 | dT kvs=>obtain⟨_,_,_,_,o,_,_,e,_⟩:=x; exact Heap.lt_size e
 | set S n=>obtain⟨o,_,_,_,e,_⟩:=x; exact Heap.lt_size e
 | ins C dx fs=>obtain⟨_,_,_,e,_⟩:=x; exact Heap.lt_size e
 | own y=>obtain⟨_,e⟩:=x; exact Heap.lt_size e
 | xd fs=>obtain⟨_,⟨_,_,_,e,_⟩,_⟩:=x; exact Heap.lt_size e
 | rng lo hi=>obtain⟨_,_,_,e⟩:=x; exact Heap.lt_size e
 | frz ob u=>obtain⟨e,_⟩:=x; exact Heap.lt_size e
 | tbl ps=>exact Heap.lt_size (show h.get? a=some _ from x)
 | tbq q=>obtain⟨_,e,_⟩:=x; exact Heap.lt_size e
 | cod q=>obtain⟨_,_,_,e,_⟩:=x; exact Heap.lt_size e
 | met f y=>exact Heap.lt_size (show h.get? a=some _ from x)
 | ext φ=>obtain⟨_,⟨_,e⟩,_⟩:=x; exact Heap.lt_size e
theorem Paired.mapP{α β:Type}{F G:α->β->Prop}:∀ {l₁:List α} {l₂:List β},Paired F l₁ l₂->(∀ a b,F a b->G a b)->Paired G l₁ l₂
 | _,_,.nil,_=>.nil
 | _,_,.cons r t,f=>.cons (f _ _ r) (Paired.mapP t f)
inductive ImO where
 | t (xs:List V) | c (q:Str)
def ImO.ho:ImO->HO
 | .t xs=>.tup xs
 | .c q=>.cod q
theorem ObjOk.stay(x:ObjOk P w H h a o)(k:∀ b u,(b=a\/H b=some (.own a))->h.get? b=some u->h'.get? b=some u)
  (ho:∀ b,H b=some (.own a)->H' b=some (.own a)) (ht:∀ b (xs:ImO),H b=some xs.ho->H' b=some xs.ho):ObjOk P w H' h' a o:=by
 induction o with
 | lst xs=>obtain⟨z,its,n,r,e⟩:=x; exact⟨z,its,n,r,k _ _ (.inl rfl) e⟩
 | tup xs=>obtain⟨z,its,r,ob,e,c⟩:=x; exact⟨z,its,r,ob,k _ _ (.inl rfl) e,c⟩
 | dK kvs=>obtain⟨z,y,vs,r,ob,es,ep,e,c⟩:=x; exact⟨z,y,vs,r,ob,es,ep,k _ _ (.inl rfl) e,c⟩
 | dT kvs =>
  obtain⟨z,y,xs,r,ob,es,ep,e,c⟩:=x
  exact⟨z,y,xs,Paired.mapP r fun p q z=>⟨z.1,ht _ (.t _) z.2.1,z.2.2⟩,ob,es,ep,k _ _ (.inl rfl) e,c⟩
 | set S n=>obtain⟨ob,es,ep,t,e,c⟩:=x; exact⟨ob,es,ep,t,k _ _ (.inl rfl) e,c⟩
 | ins C dx fs =>
  obtain⟨d,z,ne,e,mA,⟨od,es,ep,e2,c⟩,r⟩:=x
  exact⟨ho _ d,z,ne,k _ _ (.inl rfl) e,mA,⟨od,es,ep,k _ _ (.inr d) e2,c⟩,r⟩
 | own y=>obtain⟨ob,e⟩:=x; exact⟨ob,k _ _ (.inl rfl) e⟩
 | xd fs=>obtain⟨mA,⟨od,es,ep,e,c⟩,r⟩:=x; exact⟨mA,⟨od,es,ep,k _ _ (.inl rfl) e,c⟩,r⟩
 | rng lo hi=>obtain⟨t,u,v,e⟩:=x; exact⟨t,u,v,k _ _ (.inl rfl) e⟩
 | frz ob u ih=>obtain⟨e,q⟩:=x; exact⟨k _ _ (.inl rfl) e,ih q⟩
 | tbq q =>
  obtain⟨ps,e,t,c⟩:=x
  exact⟨ps,k a _ (.inl rfl) e,t,fun pos cv z=>by obtain⟨c',z1,z2⟩:=c pos cv z; exact⟨c',z1,ht _ (.c q) z2⟩⟩
 | cod q=>obtain⟨o,vs,t,e,r⟩:=x; exact⟨o,vs,t,k a _ (.inl rfl) e,r⟩
 | tbl ps =>
  have e:h.get? a=some { cls:=.none,data:=.fields ps }:=x
  show h'.get? a=some { cls:=.none,data:=.fields ps }
  exact k a _ (.inl rfl) e
 | met f y =>
  have e:h.get? a=some (PySem.W.methodObj (.ref f) (.ref y)):=x
  show h'.get? a=some (PySem.W.methodObj (.ref f) (.ref y))
  exact k a _ (.inl rfl) e
 | ext φ=>obtain⟨p,⟨o,e⟩,st⟩:=x; exact⟨st _ _ p fun o q=>k _ _ (.inl rfl) q,⟨o,k _ _ (.inl rfl) e⟩,st⟩
theorem HOk.lt(x:HOk P w H h)(e:H a=some o):a < h.objs.size:=(x a o e).lt
theorem HOk.fresh(x:HOk P w H h)(e:h.objs.size<=a):H a=none:=by
 cases q:H a with
 | none=>rfl
 | some u=>exact absurd (Nat.lt_of_lt_of_le (x.lt q) e) (Nat.lt_irrefl _)
theorem HOk.kept(x:HOk P w H h)(k:∀ b u,h.get? b=some u->h'.get? b=some u):HOk P w H h':=fun a o e =>
 (x a o e).stay (fun b u _ q=>k b u q) (fun _ q=>q) fun _ _ q=>q
theorem HOk.laid(x:HOk P w H h)(k:∀ b u,h.get? b=some u->h'.get? b=some u)(hp:h.objs.size<=a)(new:ObjOk P w (upd H a o) h' a o):HOk P w (upd H a o) h':=fun b u e=>by
 have hn:=x.fresh hp
 by_cases hb:b=a
 ·subst hb; rw[zAN]at e; cases e; exact new
 ·rw[zAD hb]at e
  exact (x b u e).stay (fun c v _ q=>k c v q) (fun c q=>by rw[zAD (zAI q hn)]; exact q) fun c xs q=>by rw[zAD (zAI q hn)]; exact q
end
def Rd(H:Hp)(a:Addr)(u:HO):Prop:=H a=some u\/∃ o,H a=some (.frz o u)
theorem Rd.ok{P:Program}{w:World}{H:Hp}{h:Heap}{a:Addr}{u:HO}(r:Rd H a u)(x:HOk P w H h):ObjOk P w H h a u:=by
 rcases r with r | ⟨o,r⟩
 ·exact x a u r
 ·obtain⟨_,q⟩:=x a _ r
  exact q
def Mut:Option HO->Prop
 | some (.lst _)=>True
 | some (.dK _)=>True
 | some (.dT _)=>True
 | some (.set _ _)=>True
 | some (.ins _ _ _)=>True
 | some (.ext _)=>True
 | _=>False
section
variable {P:Program}{w:World}{H:Hp}{h h':Heap}{x e:Addr}{o':HO}
theorem HOk.write(ok:HOk P w H h)(mu:Mut (H x))(he:e=x\/H e=some (.own x))(k:∀ b u,b≠e->h.get? b=some u->h'.get? b=some u)(heo:∃ u,h'.get? e=some u)
  (new:ObjOk P w (upd H x o') h' x o'):HOk P w (upd H x o') h':=fun b u q=>by
 have nown:∀ c y,H c=some (.own y)->c≠x:=fun c y r z=>by subst z; rw[r]at mu; exact mu
 have ntup:∀ c (xs:ImO),H c=some xs.ho->c≠x:=fun c xs r z=>by subst z; rw[r]at mu; cases xs <;> exact mu
 by_cases hb:b=x
 ·subst hb; rw[zAN]at q; cases q; exact new
 ·rw[zAD hb]at q
  by_cases hbe:b=e
  ·have q':H b=some (.own x):=by
    rcases he with z | z
    ·exact absurd (hbe.trans z) hb
    ·rw[hbe]; exact z
   rw[q]at q'; cases q'
   obtain⟨v,hv⟩:=heo
   exact⟨v,by rw[hbe]; exact hv⟩
  ·refine (ok b u q).stay (fun c v hc r=>k c v ?_ r) (fun c r=>by rw[zAD (nown c b r)]; exact r) fun c xs r=>by rw[zAD (ntup c xs r)]; exact r
   rcases hc with rfl | hc
   ·exact hbe
   ·rintro rfl
    rcases he with z | z
    ·exact nown c b hc z
    ·rw[hc]at z; cases z; exact hb rfl
end
structure Un(fs ex:List Addr)(H H':Hp)(h h':Heap):Prop where
 keep:∀ b o,h.get? b=some o->H b=none->b∉fs->b∉ex->h'.get? b=some o
 slot:∀ b o,h.get? b=some o->H b=none->b∈fs->b∉ex->∃ sl,h'.get? b=some { o with slots:=sl }
 free:∀ b o,h.get? b=some o->H b=none->b∉ex->H' b=none
 there:∀ b o,h.get? b=some o->b∉ex->∃ o',h'.get? b=some o'
 tups:∀ b xs,H b=some (.tup xs)->H' b=some (.tup xs)
 frzs:∀ b o u,H b=some (.frz o u)->H' b=some (.frz o u)
 tbls:∀ b ps,H b=some (.tbl ps)->∃ more,H' b=some (.tbl (ps++more))
section
variable {fs fs' ex ex':List Addr}{H H1 H2:Hp}{h h1 h2 h':Heap}{a x e:Addr}{o:HO}
theorem Un.any(u:Un fs ex H H1 h h1){b:Addr}{ob:Obj}(q:h.get? b=some ob)(n:H b=none)(hx:b∉ex):∃ sl,h1.get? b=some { ob with slots:=sl }:=by
 by_cases hb:b∈fs
 ·exact u.slot b ob q n hb hx
 ·exact⟨ob.slots,u.keep b ob q n hb hx⟩
theorem Un.kept(k:∀ b u,h.get? b=some u->h'.get? b=some u):Un fs ex H H h h' :=
 ⟨fun b ob q _ _ _=>k b ob q,fun b ob q _ _ _=>⟨ob.slots,k b ob q⟩,fun _ _ _ n _=>n,fun b ob q _=>⟨ob,k b ob q⟩,fun _ _ q=>q,fun _ _ _ q=>q,fun _ ps q=>⟨#[],by rw[q]; simp⟩⟩
theorem Un.refl:Un fs ex H H h h:=Un.kept fun _ _ q=>q
theorem Un.laid(k:∀ b u,h.get? b=some u->h'.get? b=some u)(hp:h.objs.size<=a)(hn:H a=none):Un fs ex H (upd H a o) h h' where
 keep:=fun b u q _ _ _=>k b u q
 slot:=fun b u q _ _ _=>⟨u.slots,k b u q⟩
 free:=fun b u q n _=>by rw[zAD (Nat.ne_of_lt (Nat.lt_of_lt_of_le (Heap.lt_size q) hp))]; exact n
 there:=fun b u q _=>⟨u,k b u q⟩
 tups:=fun b xs q=>by rw[zAD (zAI q hn)]; exact q
 frzs:=fun b u xs q=>by rw[zAD (zAI q hn)]; exact q
 tbls:=fun b ps q=>⟨#[],by rw[zAD (zAI q hn),q]; simp⟩
theorem Un.write(mu:Mut (H x))(he:e=x\/H e=some (.own x))(k:∀ b u,b≠e->h.get? b=some u->h'.get? b=some u)(heo:∃ u,h'.get? e=some u):Un fs ex H (upd H x o) h h':=by
 have hx:∀ b,H b=none->b≠x:=fun b n z=>by subst z; rw[n]at mu; exact mu
 have hb:∀ b,H b=none->b≠e:=fun b n z=>by
  subst z
  rcases he with r | r
  ·exact hx b n r
  ·rw[n]at r; cases r
 have hm:∀ b u,H b=some u->¬ Mut (some u)->b≠x:=fun b u q nm z=>by subst z; rw[q]at mu; exact nm mu
 refine⟨fun b u q n _ _=>k b u (hb b n) q,fun b u q n _ _=>⟨u.slots,k b u (hb b n) q⟩,fun b u q n _=>by rw[zAD (hx b n)]; exact n,fun b u q _=>?_,
  fun b xs q=>by rw[zAD (hm b _ q fun z=>z)]; exact q,fun b u xs q=>by rw[zAD (hm b _ q fun z=>z)]; exact q,fun b ps q=>⟨#[],by rw[zAD (hm b _ q fun z=>z),q]; simp⟩⟩
 by_cases hbe:b=e
 ·subst hbe; exact heo
 ·exact⟨u,k b u hbe q⟩
end
def trk(h:Heap)(H:Hp):List Addr:=(List.range h.objs.size).filter fun a=>(H a).isSome
def hidT(h:Heap)(H:Hp):Heap:=PySem.W.hideAll h (trk h H)
theorem zJM(h:Heap)(H:Hp):(hidT h H).objs.size=h.objs.size:=PySem.W.hideAll_size _ _
theorem zKl{h:Heap}{H:Hp}{b:Addr}{o:Obj}(e:h.get? b=some o)(n:H b=none):(hidT h H).get? b=some o :=
 PySem.W.hideAll_get _ e fun hm=>by
  have q:(H b).isSome=true:=(List.mem_filter.mp hm).2
  rw[n]at q; simp at q
theorem zLg{h:Heap}{H:Hp}{b:Addr}{o:Obj}(e:(hidT h H).get? b=some o):h.get? b=some o/\H b=none:=by
 have e':h.get? b=some o:=PySem.W.of_hideAll (trk h H) e
 refine⟨e',?_⟩
 cases q:H b with
 | none=>rfl
 | some x =>
  have hm:b∈trk h H:=List.mem_filter.mpr ⟨List.mem_range.mpr (Heap.lt_size e'),by simp[q]⟩
  have z:(hidT h H).get? b=none:=PySem.W.hideAll_none (trk h H) hm
  rw[z]at e; cases e
def allNews(g h:Heap)(L:Addr):List (Addr×Obj):=(List.range h.objs.size).filterMap fun a=>if a=L\/(g.get? a).isSome=true then none else (h.get? a).map fun o=>(a,o)
def rest(g h:Heap)(L d:Addr):List (Addr×Obj):=(allNews g h L).filter fun p=>decide (p.1≠d)
structure Mod(K:PySem.W.Frag)(mg:Str->Option Value)(base:Heap):Prop where
 kin:K.In base
 glob:base.Ns mainGlobals mg
 blt:∃ mb,base.Ns builtinsNs mb/\∀ x:Str,x≠"__name__"->mb x=bootBuiltins x
 nolimit:base.NoLimit
 bmod:∃ bm ob,mg "__builtins__"=some (.ref bm)/\bm≠builtinsNs/\base.get? bm=some ob/\ob.cls=.type "module"/\ob.dict=some builtinsNs/\ob.data=.plain
structure Cx where
 prog:Program
 w:World
 K:PySem.W.Frag
 mg:Str->Option Value
 base:Heap
 A:Around
 N:List Str
 s₀:Shared
 H₀:Hp
 env:Env
 outer:List Env
 stack:List Env
 ex:List Addr
 fn:Str->Bool
 calm:Bool
 pn:List (Addr×Obj)
 xe:Value->Shared->Prop
def frs(l:List Env):List Addr:=l.filterMap (·.frame)
abbrev Cx.fs(X:Cx):List Addr:=frs X.outer
def Vis(sc:Scope)(x:Str):Prop:=sc.names.lookup x=some .local\/sc.names.lookup x=some .cell\/sc.names.lookup x=some .free
def Loc(sc:Scope)(x:Str):Prop:=sc.names.lookup x=some .local\/sc.names.lookup x=some .cell
def Look(env:Env)(h:Heap)(m:Str->Option Value)(x:Str)(u:Value):Prop :=
 (env.kindOf x=some .local/\m x=some u)\/((env.kindOf x=some .cell\/env.kindOf x=some .free)/\∃ c,env.cells.lookup x=some c/\h.IsCell c (some u))
structure Cx.Ok(X:Cx):Prop where
 mod:Mod X.K X.mg X.base
 kind:X.env.scope.kind=.function
 glob:X.env.globals=mainGlobals
 blt:X.env.builtins=builtinsNs
 above:X.s₀.heap.objs.size<=X.env.locals
 inj:∀ x y c,X.env.cells.lookup x=some c->X.env.cells.lookup y=some c->x=y
 has:∀ x,(X.env.kindOf x=some .cell\/X.env.kindOf x=some .free)->∃ c,X.env.cells.lookup x=some c
 cab:∀ x c,X.fn x=true->X.env.cells.lookup x=some c->X.s₀.heap.objs.size<=c
 hd:X.calm=true->X.A.handled=none
 frames:X.A.frames=some X.stack
 stk:X.stack=X.outer\/(X.stack=X.env::X.outer/\X.env.frame=some X.env.locals)
 exf:∀ b∈X.ex,b≠X.env.locals/\∀ x c,X.env.cells.lookup x=some c->c≠b
 bs:∀ b o,X.base.get? b=some o->X.s₀.heap.get? b=some o/\X.H₀ b=none
 bsz:X.base.objs.size<=X.s₀.heap.objs.size
 noex:∀ b o,X.base.get? b=some o->b∉X.ex
 exfs:∀ b∈X.ex,b∉X.fs
 funs:X.s₀.heap.FunFrames X.base X.outer
 frf:∀ b∈X.fs,X.H₀ b=none
structure Inv(X:Cx)(pins:List (Addr×Obj))(σ:List (Option V))(H:Hp)(s:Shared):Prop where
 ok:X.Ok
 os:s.os=X.s₀.os
 bare:AllBare s.gens
 base:Un X.fs X.ex X.H₀ H X.s₀.heap s.heap
 loc:∃ m,s.heap.Ns X.env.locals m/\∀ (i:Nat) (x:Str) (v:V),X.N[i]?=some x->σ[i]?=some (some v)->Vis X.env.scope x->∃ u,RelV v u/\Look X.env s.heap m x u
 cell:∀ x c,X.env.cells.lookup x=some c->∃ v,s.heap.IsCell c v
 free:H X.env.locals=none
 freeC:∀ x c,X.env.cells.lookup x=some c->H c=none
 pin:∀ p∈X.pn++pins,s.heap.get? p.1=some p.2/\H p.1=none/\p.1≠X.env.locals/\p.1∉X.fs/\∀ v,p.2.data≠.cell v
 hok:HOk X.prog X.w H s.heap
 len:σ.length=X.N.length
section
variable {X:Cx}{pins:List (Addr×Obj)}{σ:List (Option V)}{H H':Hp}{s:Shared}{h':Heap}
theorem Cx.Ok.nofr(ok:X.Ok){b:Addr}{o:Obj}(e:X.base.get? b=some o):b∉X.fs:=fun hb=>by
 have:=(ok.funs.mem hb).1
 rw[e]at this; cases this
theorem Inv.bs(I:Inv X pins σ H s):∀ b o,X.base.get? b=some o->s.heap.get? b=some o/\H b=none:=fun b o e =>
 ⟨I.base.keep b o (I.ok.bs b o e).1 (I.ok.bs b o e).2 (I.ok.nofr e) (I.ok.noex b o e),I.base.free b o (I.ok.bs b o e).1 (I.ok.bs b o e).2 (I.ok.noex b o e)⟩
theorem Inv.bk(I:Inv X pins σ H s):∀ b o,X.base.get? b=some o->s.heap.get? b=some o:=fun b o e=>(I.bs b o e).1
theorem Inv.mod(I:Inv X pins σ H s):Mod X.K X.mg X.base:=I.ok.mod
theorem Inv.kIn(I:Inv X pins σ H s):X.K.In s.heap:=I.ok.mod.kin.keeps I.bk
theorem Inv.lt(I:Inv X pins σ H s):X.env.locals < s.heap.objs.size:=let ⟨_,hn,_⟩:=I.loc; hn.lt
theorem Inv.sz(I:Inv X pins σ H s):X.s₀.heap.objs.size<=s.heap.objs.size:=Nat.le_trans I.ok.above (Nat.le_of_lt I.lt)
theorem Inv.nofs(I:Inv X pins σ H s){a:Addr}(h:s.heap.objs.size<=a):a∉X.fs:=fun hb=>by
 obtain⟨_,o,ho,_⟩:=I.ok.funs.mem hb
 exact absurd (Nat.lt_of_lt_of_le (Heap.lt_size ho) (Nat.le_trans I.sz h)) (Nat.lt_irrefl _)
theorem Inv.cne(I:Inv X pins σ H s):∀ x c,X.env.cells.lookup x=some c->c≠X.env.locals:=fun x c e z=>by
 obtain⟨v,o,ho,hd⟩:=I.cell x c e
 obtain⟨m,⟨o',es,ep,ho',hd',_⟩,_⟩:=I.loc
 rw[z,ho']at ho; cases ho; rw[hd']at hd; cases hd
theorem Inv.funs(I:Inv X pins σ H s):s.heap.FunFrames X.base X.outer:=by
 have all:∀ (l:List Env),(∀ b∈frs l,b∈X.fs)->X.s₀.heap.FunFrames X.base l->s.heap.FunFrames X.base l:=by
  intro l
  induction l with
  | nil=>intro _ _; trivial
  | cons env r ih =>
   intro hs hl
   obtain⟨hk,⟨L,o,hf,hn,ho,hd⟩,hr⟩:=hl
   have hL:L∈X.fs:=hs L (by unfold frs; rw[List.filterMap_cons,hf]; exact List.mem_cons_self)
   obtain⟨sl,e⟩:=I.base.slot L o ho (I.ok.frf L hL) hL fun z=>I.ok.exfs L z hL
   exact⟨hk,⟨L,_,hf,hn,e,hd⟩,ih (fun b hb=>hs b (by unfold frs; rw[List.filterMap_cons,hf]; exact List.mem_cons_of_mem _ hb)) hr⟩
 exact all X.outer (fun _ hb=>hb) I.ok.funs
theorem Inv.stack(I:Inv X pins σ H s):s.heap.FunFrames X.base X.stack:=by
 rcases I.ok.stk with e | ⟨e,hf⟩
 ·rw[e]; exact I.funs
 ·rw[e]
  obtain⟨m,hn,_⟩:=I.loc
  refine .cons (by rw[I.ok.kind]; decide) hf hn ?_ I.funs
  exact Heap.get?_none_of_le (Nat.le_trans I.ok.bsz I.ok.above)
theorem Inv.stkSub(I:Inv X pins σ H s):∀ b∈frs X.stack,b∈X.env.locals::X.fs:=fun b hb=>by
 rcases I.ok.stk with e | ⟨e,hf⟩
 ·rw[e]at hb; exact List.mem_cons_of_mem _ hb
 ·rw[e]at hb
  unfold frs at hb
  rw[List.filterMap_cons,hf]at hb
  exact hb
theorem Inv.stkFree(I:Inv X pins σ H s):∀ b∈frs X.stack,H b=none:=fun b hb=>by
 rcases List.mem_cons.mp (I.stkSub b hb) with e | hb
 ·rw[e]; exact I.free
 ·obtain⟨_,o,ho,_⟩:=I.ok.funs.mem hb
  exact I.base.free b o ho (I.ok.frf b hb) fun z=>I.ok.exfs b z hb
theorem Inv.step{g':Array GenState}{t':Nat}{d':Drawn}{ch:List Addr}(I:Inv X pins σ H s)
  (hch:∀ b∈ch,(b∈X.ex\/X.s₀.heap.objs.size<=b)/\b≠X.env.locals/\(∀ x c,X.env.cells.lookup x=some c->c≠b)/\∀ p∈X.pn++pins,p.1≠b)
  (keep:∀ b o,b≠X.env.locals->b∉X.fs->b∉ch->s.heap.get? b=some o->H b=none->h'.get? b=some o)
  (slot:∀ b o,b≠X.env.locals->b∈X.fs->b∉ch->s.heap.get? b=some o->H b=none->∃ sl,h'.get? b=some { o with slots:=sl }) (free:∀ b o,b∉ch->s.heap.get? b=some o->H b=none->H' b=none)
  (there:∀ b o,b∉ch->s.heap.get? b=some o->∃ o',h'.get? b=some o')
  (tups:∀ b xs,H b=some (.tup xs)->H' b=some (.tup xs)) (frzs:∀ b o u,H b=some (.frz o u)->H' b=some (.frz o u)) (tbls:∀ b ps,H b=some (.tbl ps)->∃ more,H' b=some (.tbl (ps++more)))
  (ns:∀ m,s.heap.Ns X.env.locals m->h'.Ns X.env.locals m) (hok:HOk X.prog X.w H' h') (hg:AllBare g') :
  Inv X pins σ H' { s with heap:=h',gens:=g',drawn:=d',toks:=t' }:=by
 have neL:∀ b o,X.s₀.heap.get? b=some o->b≠X.env.locals:=fun b o e=>Nat.ne_of_lt (Nat.lt_of_lt_of_le (Heap.lt_size e) I.ok.above)
 have neC:∀ b o,X.s₀.heap.get? b=some o->b∉X.ex->b∉ch:=fun b o e hx hb=>by
  rcases (hch b hb).1 with z | z
  ·exact hx z
  ·exact absurd (Nat.lt_of_lt_of_le (Heap.lt_size e) z) (Nat.lt_irrefl _)
 have cellK:∀ x c,X.env.cells.lookup x=some c->∀ v,s.heap.IsCell c v->h'.IsCell c v:=fun x c e v ⟨o,ho,hd⟩=>by
  have nch:c∉ch:=fun z=>(hch c z).2.2.1 x c e rfl
  by_cases hc:c∈X.fs
  ·obtain⟨sl,q⟩:=slot c o (I.cne x c e) hc nch ho (I.freeC x c e)
   exact⟨_,q,hd⟩
  ·exact⟨o,keep c o (I.cne x c e) hc nch ho (I.freeC x c e),hd⟩
 refine⟨I.ok,I.os,hg,⟨fun b o e n hb hx=>?_,fun b o e n hb hx=>?_,fun b o e n hx=>?_,fun b o e hx=>?_,fun b xs e=>tups b xs (I.base.tups b xs e),fun b o xs e=>frzs b o xs (I.base.frzs b o xs e),fun b ps e=>?_⟩,?_,fun x c e=>?_,?_,fun x c e=>?_,fun p hp=>?_,hok,I.len⟩
 ·exact keep b o (neL b o e) hb (neC b o e hx) (I.base.keep b o e n hb hx) (I.base.free b o e n hx)
 ·obtain⟨sl,e1⟩:=I.base.slot b o e n hb hx
  obtain⟨sl',e2⟩:=slot b _ (neL b o e) hb (neC b o e hx) e1 (I.base.free b o e n hx)
  exact⟨sl',e2⟩
 ·obtain⟨o',e1⟩:=I.base.there b o e hx
  exact free b o' (neC b o e hx) e1 (I.base.free b o e n hx)
 ·obtain⟨o',e1⟩:=I.base.there b o e hx
  exact there b o' (neC b o e hx) e1
 ·obtain⟨m1,e1⟩:=I.base.tbls b ps e
  obtain⟨m2,e2⟩:=tbls b _ e1
  exact⟨m1++m2,by rw[e2,Array.append_assoc]⟩
 ·obtain⟨m,hn,hl⟩:=I.loc
  refine⟨m,ns m hn,fun i x v e1 e2 e3=>?_⟩
  obtain⟨u,r,l⟩:=hl i x v e1 e2 e3
  refine⟨u,r,?_⟩
  rcases l with l | ⟨k,c,e,z⟩
  ·exact .inl l
  ·exact .inr ⟨k,c,e,cellK x c e _ z⟩
 ·obtain⟨v,z⟩:=I.cell x c e
  exact⟨v,cellK x c e v z⟩
 ·obtain⟨m,⟨o,_,_,ho,_⟩,_⟩:=I.loc
  exact free _ o (fun z=>(hch _ z).2.1 rfl) ho I.free
 ·obtain⟨v,o,ho,hd⟩:=I.cell x c e
  exact free c o (fun z=>(hch c z).2.2.1 x c e rfl) ho (I.freeC x c e)
 ·obtain⟨e,n,ne,nf,d⟩:=I.pin p hp
  have nch:p.1∉ch:=fun z=>(hch p.1 z).2.2.2 p hp rfl
  exact⟨keep p.1 p.2 ne nf nch e n,free p.1 p.2 nch e n,ne,nf,d⟩
theorem Inv.un{t':Nat}(I:Inv X pins σ H s)(u:Un X.fs [] H H' s.heap h')(hok:HOk X.prog X.w H' h'):Inv X pins σ H' { s with heap:=h',toks:=t' }:=by
 obtain⟨m,⟨o,es,ep,ho,r⟩,_⟩:=id I.loc
 obtain⟨sl,hL⟩:=u.any ho I.free (by simp)
 exact I.step (g':=s.gens) (d':=s.drawn) (ch:=[]) (fun _ z=>nomatch z) (fun b o _ hb _ e n=>u.keep b o e n hb (by simp)) (fun b o _ hb _ e n=>u.slot b o e n hb (by simp)) (fun b o _ e n=>u.free b o e n (by simp)) (fun b o _ e=>u.there b o e (by simp)) u.tups u.frzs u.tbls (fun m' hm=>by
  obtain⟨o',es',ep',ho',r'⟩:=hm
  rw[ho]at ho'; cases ho'
  exact⟨_,es',ep',hL,r'⟩) hok I.bare
theorem Inv.call{g':Array GenState}{t':Nat}{d':Drawn}{ch:List Addr}(I:Inv X pins σ H s)(u:Un (frs X.stack) ch H H' s.heap h')(hok:HOk X.prog X.w H' h')(hg:AllBare g')
  (hch:∀ b∈ch,(b∈X.ex\/X.s₀.heap.objs.size<=b)/\b≠X.env.locals/\(∀ x c,X.env.cells.lookup x=some c->c≠b)/\∀ p∈X.pn++pins,p.1≠b) :
  Inv X pins σ H' { s with heap:=h',gens:=g',drawn:=d',toks:=t' }:=by
 obtain⟨m,⟨o,es,ep,ho,r⟩,_⟩:=id I.loc
 obtain⟨sl,hL⟩:=u.any ho I.free fun z=>(hch _ z).2.1 rfl
 exact I.step (ch:=ch) hch (fun b o hL hb hc e n=>u.keep b o e n (fun z=>(List.mem_cons.mp (I.stkSub b z)).elim hL hb) hc) (fun b o _ _ hc e n=>u.any e n hc) (fun b o hc e n=>u.free b o e n hc) (fun b o hc e=>u.there b o e hc) u.tups u.frzs u.tbls (fun m' hm=>by
  obtain⟨o',es',ep',ho',r'⟩:=hm
  rw[ho]at ho'; cases ho'
  exact⟨_,es',ep',hL,r'⟩) hok hg
theorem Inv.turned{t':Nat}{it:Addr}(I:Inv X pins σ H s)(k:∀ b o,b≠it->s.heap.get? b=some o->h'.get? b=some o)(hn:H it=none)(hL:it≠X.env.locals)
  (h1:it∈X.ex\/X.s₀.heap.objs.size<=it) (h2:∀ x c,X.env.cells.lookup x=some c->c≠it) (h3:∀ p∈X.pn++pins,p.1≠it):Inv X pins σ H { s with heap:=h',toks:=t' }:=by
 have nit:∀ b u,H b=some u->b≠it:=fun b u e z=>by rw[z,hn]at e; cases e
 refine I.step (g':=s.gens) (d':=s.drawn) (ch:=[it]) (fun b hb=>?_) (fun b o _ _ hc e _=>k b o (fun z=>hc (by simp[z])) e) (fun b o _ _ hc e _=>⟨o.slots,k b o (fun z=>hc (by simp[z])) e⟩) (fun _ _ _ _ n=>n)
  (fun b o hc e=>⟨o,k b o (fun z=>hc (by simp[z])) e⟩) (fun _ _ e=>e) (fun _ _ _ e=>e) (fun b ps e=>⟨#[],by rw[e]; simp⟩) (fun m hm=>?_) (fun b u e=>?_) I.bare
 ·have e:b=it:=by simpa using hb
  subst e
  exact⟨h1,hL,h2,h3⟩
 ·obtain⟨o,es,ep,ho,r⟩:=hm
  exact⟨o,es,ep,k _ o (Ne.symm hL) ho,r⟩
 ·refine (I.hok b u e).stay (fun c v hc q=>k c v ?_ q) (fun _ q=>q) fun _ _ q=>q
  rcases hc with z | z
  ·rw[z]; exact nit b u e
  ·exact nit c _ z
theorem Inv.tok(I:Inv X pins σ H s)(t:Nat):Inv X pins σ H { s with toks:=t }:=I.un (h':=s.heap) (t':=t) Un.refl I.hok
theorem Inv.kept{t':Nat}(I:Inv X pins σ H s)(k:∀ b u,s.heap.get? b=some u->h'.get? b=some u):Inv X pins σ H { s with heap:=h',toks:=t' }:=I.un (Un.kept k) (I.hok.kept k)
theorem Inv.laid{a:Addr}{o:HO}{t':Nat}(I:Inv X pins σ H s)(k:∀ b u,s.heap.get? b=some u->h'.get? b=some u)(hp:s.heap.objs.size<=a)(new:ObjOk X.prog X.w (upd H a o) h' a o) :
  Inv X pins σ (upd H a o) { s with heap:=h',toks:=t' }:=I.un (Un.laid k hp (I.hok.fresh hp)) (I.hok.laid k hp new)
theorem Inv.write{x e:Addr}{o:HO}{t':Nat}(I:Inv X pins σ H s)(mu:Mut (H x))(he:e=x\/H e=some (.own x))(k:∀ b u,b≠e->s.heap.get? b=some u->h'.get? b=some u)(heo:∃ u,h'.get? e=some u)
  (new:ObjOk X.prog X.w (upd H x o) h' x o):Inv X pins σ (upd H x o) { s with heap:=h',toks:=t' }:=I.un (Un.write mu he k heo) (I.hok.write mu he k heo new)
theorem Inv.pins_of{pins':List (Addr×Obj)}(I:Inv X pins σ H s)(h:∀ p∈pins',s.heap.get? p.1=some p.2/\H p.1=none/\p.1≠X.env.locals/\p.1∉X.fs/\∀ v,p.2.data≠.cell v):Inv X pins' σ H s :=
 ⟨I.ok,I.os,I.bare,I.base,I.loc,I.cell,I.free,I.freeC,fun p hp=>(List.mem_append.mp hp).elim (fun z=>I.pin p (List.mem_append_left _ z)) (h p),I.hok,I.len⟩
theorem zFM{N:List Str}(hN:N.Nodup){i j:Nat}{x:Str}(a:N[i]?=some x)(b:N[j]?=some x):i=j:=by
 obtain⟨h1,e1⟩:=List.getElem?_eq_some_iff.mp a
 obtain⟨h2,e2⟩:=List.getElem?_eq_some_iff.mp b
 exact (List.getElem_inj hN).mp (e1.trans e2.symm)
theorem zIk{M:Model}{A:Around}{E:Value->Shared->Prop}{i:Nat}{x:Str}{v:V}{u:Value}{Q:Unit->Shared->Prop}(I:Inv X pins σ H s)(hN:X.N.Nodup)(hi:X.N[i]?=some x)(hx:Loc X.env.scope x)(r:RelV v u)
  (h:∀ s',Inv X pins (σ.set i (some v)) H s'->(∃ a,Heap.SameBut a s.heap s'.heap/\(a=X.env.locals\/X.env.cells.lookup x=some a))->Q () s') (hf:X.fn x=true\/X.env.scope.names.lookup x=some .local:=by first | exact .inl rfl | exact .inr rfl | assumption):wpAny M A (storeName X.env x u) Q E s:=by
 obtain⟨m,hn,hl⟩:=id I.loc
 have hcls:(X.env.scope.kind == .class || (X.env.scope.kind == .module && X.env.locals != X.env.globals))=false:=by rw[I.ok.kind]; rfl
 have hiσ:i < σ.length:=by rw[I.len]; exact (List.getElem?_eq_some_iff.mp hi).1
 have cne:=I.cne
 have tracked:∀ {a:Addr} {h':Heap},(∃ o,s.heap.get? a=some o/\H a=none)->Heap.SameBut a s.heap h'->HOk X.prog X.w H h':=fun {a h'} ha hs b ob e=>by
  obtain⟨_,_,hfree⟩:=ha
  refine (I.hok b ob e).stay (fun c w' hc q=>(hs.2 c ?_).trans q) (fun _ q=>q) fun _ _ q=>q
  rintro rfl
  rcases hc with rfl | hc
  ·rw[hfree]at e; cases e
  ·rw[hfree]at hc; cases hc
 rcases hx with hk | hk
 ·refine wpAny_storeName_local hk hn (fun h' hn' hs=>?_) hcls
  obtain⟨oL,_,_,hoL,_⟩:=id hn
  refine h _ ⟨I.ok,I.os,I.bare,⟨fun b o e n hb hx=>?_,fun b o e n hb hx=>?_,I.base.free,fun b o e hx=>?_,I.base.tups,I.base.frzs,I.base.tbls⟩,⟨_,hn',fun j y v' e1 e2 e3=>?_⟩,fun y c e=>?_,I.free,I.freeC,fun p hp=>?_,tracked ⟨oL,hoL,I.free⟩ hs,by simpa using I.len⟩ ⟨_,hs,.inl rfl⟩
  ·exact (hs.2 b (Nat.ne_of_lt (Nat.lt_of_lt_of_le (Heap.lt_size e) I.ok.above))).trans (I.base.keep b o e n hb hx)
  ·obtain⟨sl,e1⟩:=I.base.slot b o e n hb hx
   exact⟨sl,(hs.2 b (Nat.ne_of_lt (Nat.lt_of_lt_of_le (Heap.lt_size e) I.ok.above))).trans e1⟩
  ·obtain⟨o',e1⟩:=I.base.there b o e hx
   exact⟨o',(hs.2 b (Nat.ne_of_lt (Nat.lt_of_lt_of_le (Heap.lt_size e) I.ok.above))).trans e1⟩
  ·by_cases hj:j=i
   ·subst hj
    rw[hi]at e1; cases e1
    rw[List.getElem?_set_self hiσ]at e2
    cases e2
    exact⟨u,r,.inl ⟨hk,by simp⟩⟩
   ·rw[List.getElem?_set_ne (Ne.symm hj)]at e2
    obtain⟨u',r',q⟩:=hl j y v' e1 e2 e3
    refine⟨u',r',?_⟩
    rcases q with ⟨k,e⟩ | ⟨k,c,e,z⟩
    ·refine .inl ⟨k,?_⟩
     have:y≠x:=fun e=>hj (zFM hN e1 (e ▸ hi))
     simp[this,e]
    ·exact .inr ⟨k,c,e,z.sameBut hs (cne y c e)⟩
  ·obtain⟨w',z⟩:=I.cell y c e
   exact⟨w',z.sameBut hs (cne y c e)⟩
  ·obtain⟨e,n,ne,nf,d⟩:=I.pin p hp
   exact⟨(hs.2 p.1 ne).trans e,n,ne,nf,d⟩
 ·have hfn:X.fn x=true:=by
   rcases hf with z | z
   ·exact z
   ·rw[z]at hk; cases hk
  obtain⟨c,hc⟩:=I.ok.has x (.inl hk)
  obtain⟨w',z⟩:=I.cell x c hc
  refine wpAny_storeName_cell I.ok.kind hk hc z (fun h' hc' hs=>?_)
  obtain⟨oc,hoc,hocd⟩:=id z
  refine h { s with heap:=h' } ⟨I.ok,I.os,I.bare,⟨fun b o e n hb hx=>?_,fun b o e n hb hx=>?_,I.base.free,fun b o e hx=>?_,I.base.tups,I.base.frzs,I.base.tbls⟩,⟨m,hn.sameBut hs (Ne.symm (cne x c hc)),fun j y v' e1 e2 e3=>?_⟩,fun y c' e=>?_,I.free,I.freeC,fun p hp=>?_,tracked ⟨oc,hoc,I.freeC x c hc⟩ hs,by simpa using I.len⟩ ⟨c,hs,.inr hc⟩
  ·exact (hs.2 b (Nat.ne_of_lt (Nat.lt_of_lt_of_le (Heap.lt_size e) (I.ok.cab x c hfn hc)))).trans (I.base.keep b o e n hb hx)
  ·obtain⟨sl,e1⟩:=I.base.slot b o e n hb hx
   exact⟨sl,(hs.2 b (Nat.ne_of_lt (Nat.lt_of_lt_of_le (Heap.lt_size e) (I.ok.cab x c hfn hc)))).trans e1⟩
  ·obtain⟨o',e1⟩:=I.base.there b o e hx
   exact⟨o',(hs.2 b (Nat.ne_of_lt (Nat.lt_of_lt_of_le (Heap.lt_size e) (I.ok.cab x c hfn hc)))).trans e1⟩
  ·by_cases hj:j=i
   ·subst hj
    rw[hi]at e1; cases e1
    rw[List.getElem?_set_self hiσ]at e2
    cases e2
    exact⟨u,r,.inr ⟨.inl hk,c,hc,hc'⟩⟩
   ·rw[List.getElem?_set_ne (Ne.symm hj)]at e2
    obtain⟨u',r',q⟩:=hl j y v' e1 e2 e3
    refine⟨u',r',?_⟩
    rcases q with q | ⟨k,c',e,z'⟩
    ·exact .inl q
    ·refine .inr ⟨k,c',e,z'.sameBut hs ?_⟩
     rintro rfl
     exact hj (zFM hN e1 (I.ok.inj _ _ _ e hc ▸ hi))
  ·by_cases hcc:c'=c
   ·subst hcc; exact⟨_,hc'⟩
   ·obtain⟨w2,z2⟩:=I.cell y c' e
    exact⟨w2,z2.sameBut hs hcc⟩
  ·obtain⟨e,n,ne,nf,d⟩:=I.pin p hp
   refine⟨(hs.2 p.1 ?_).trans e,n,ne,nf,d⟩
   intro q
   rw[q,hoc]at e
   have q':oc=p.2:=Option.some.inj e
   exact d w' (by rw[← q']; exact hocd)
theorem zFP{M:Model}{A:Around}{E:Value->Shared->Prop}{i:Nat}{x:Str}{v:V}{u:Value}{Q:Unit->Shared->Prop}(I:Inv X pins σ H s)(hN:X.N.Nodup)(hi:X.N[i]?=some x)(hx:Loc X.env.scope x)(r:RelV v u)
  (h:∀ s',Inv X pins (σ.set i (some v)) H s'->Q () s') (hf:X.fn x=true\/X.env.scope.names.lookup x=some .local:=by first | exact .inl rfl | exact .inr rfl | assumption):wpAny M A (storeName X.env x u) Q E s :=
 zIk I hN hi hx r (fun s' I' _=>h s' I') hf
theorem Inv.call'{s':Shared}{ch:List Addr}(I:Inv X pins σ H s)(ho:s'.os=s.os)(u:Un (frs X.stack) ch H H' s.heap s'.heap)(hok:HOk X.prog X.w H' s'.heap)(hg:AllBare s'.gens)
  (hch:∀ b∈ch,(b∈X.ex\/X.s₀.heap.objs.size<=b)/\b≠X.env.locals/\(∀ x c,X.env.cells.lookup x=some c->c≠b)/\∀ p∈X.pn++pins,p.1≠b):Inv X pins σ H' s':=by
 obtain⟨h',g',d',t',o'⟩:=s'
 have e:o'=s.os:=ho
 subst e
 exact I.call (g':=g') (t':=t') (d':=d') u hok hg hch
end
abbrev XK:=Value->Option Addr->Hp->Prop
abbrev St:=List (Option V)
abbrev VK:=V->Hp->Prop
abbrev TE:=St->Hp->VK->Prop
abbrev TT:=St->Hp->(Bool->Hp->Prop)->Prop
abbrev TA:=St->Hp->(List V->Hp->Prop)->Prop
structure Ends where
 nx:St->Hp->Prop
 rt:VK
 bk:St->Hp->Prop:=fun _ _=>False
 ct:St->Hp->Prop:=fun _ _=>False
abbrev TS:=Ends->St->Hp->Prop
def EP(X:Cx)(pins:List (Addr×Obj))(σ:St)(Q:VK)(u:Value)(s':Shared):Prop:=∃ v H',Inv X pins σ H' s'/\RelV v u/\Q v H'
def TP(X:Cx)(pins:List (Addr×Obj))(σ:St)(Q:Bool->Hp->Prop)(b:Bool)(s':Shared):Prop:=∃ H',Inv X pins σ H' s'/\Q b H'
def AP(X:Cx)(pins:List (Addr×Obj))(σ:St)(Q:List V->Hp->Prop)(us:List Value)(s':Shared):Prop:=∃ vs H',Inv X pins σ H' s'/\Vals vs us/\Q vs H'
def SP(X:Cx)(pins:List (Addr×Obj))(D:Ends)(f:Flow)(s':Shared):Prop :=
 match f with
 | .next=>∃ σ' H',Inv X pins σ' H' s'/\D.nx σ' H'
 | .brk=>∃ σ' H',Inv X pins σ' H' s'/\D.bk σ' H'
 | .cont=>∃ σ' H',Inv X pins σ' H' s'/\D.ct σ' H'
 | .ret u=>∃ v σ' H',Inv X pins σ' H' s'/\RelV v u/\D.rt v H'
def PE(X:Cx)(e:Expr)(t:TE):Prop :=
 ∀ (pins:List (Addr×Obj)) (s:Shared) (σ:St) (H:Hp) (Q:VK),Inv X pins σ H s->t σ H Q->wpAny (model X.prog X.w) X.A (eval e X.env) (EP X pins σ Q) X.xe s
def PT(X:Cx)(e:Expr)(t:TT):Prop :=
 ∀ (pins:List (Addr×Obj)) (s:Shared) (σ:St) (H:Hp) (Q:Bool->Hp->Prop),Inv X pins σ H s->t σ H Q->wpAny (model X.prog X.w) X.A (isTrue e X.env (eval e X.env)) (TP X pins σ Q) X.xe s
def PW(X:Cx)(e:Expr)(t:TT):Prop :=
 ∀ (whole:Sem Value) (pins:List (Addr×Obj)) (s:Shared) (σ:St) (H:Hp) (Q:Bool->Hp->Prop),Inv X pins σ H s->t σ H Q->wpAny (model X.prog X.w) X.A (isTrue e X.env whole) (TP X pins σ Q) X.xe s
theorem PW.pt{X:Cx}{e:Expr}{t:TT}(h:PW X e t):PT X e t:=h _
def PA(X:Cx)(es:List Expr)(t:TA):Prop :=
 ∀ (pos:Pos) (pins:List (Addr×Obj)) (s:Shared) (σ:St) (H:Hp) (Q:List V->Hp->Prop),Inv X pins σ H s->t σ H Q->wpAny (model X.prog X.w) X.A (spliced (backTo pos (starEach es X.env))) (AP X pins σ Q) X.xe s
def PS(X:Cx)(st:Stmt)(t:TS):Prop :=
 ∀ (pins:List (Addr×Obj)) (s:Shared) (σ:St) (H:Hp) (D:Ends),Inv X pins σ H s->t D σ H->wpAny (model X.prog X.w) X.A (exec st X.env) (SP X pins D) X.xe s
def PSs(X:Cx)(st:List Stmt)(t:TS):Prop :=
 ∀ (pins:List (Addr×Obj)) (s:Shared) (σ:St) (H:Hp) (D:Ends),Inv X pins σ H s->t D σ H->wpAny (model X.prog X.w) X.A (execs st X.env) (SP X pins D) X.xe s
theorem thn{α:Type}{t:Sem α}{Q Q':α->Shared->Prop}{M:Model}{A:Around}{E:Value->Shared->Prop}{s:Shared}(h:wpAny M A t Q E s)(hQ:∀ a s,Q a s->Q' a s):wpAny M A t Q' E s:=wpAny_mono h hQ fun _ _ x=>x
section
variable {X:Cx}
theorem bin{a b:Expr}{ta tb:TE}(ha:PE X a ta)(hb:PE X b tb){pins:List (Addr×Obj)}{s:Shared}{σ:St}{H:Hp}{R:V->V->Hp->Prop}(I:Inv X pins σ H s)(h:ta σ H fun x H1=>tb σ H1 fun y H2=>R x y H2)
  {α:Type} {Q:α->Shared->Prop} {f:Value->Value->Sem α}
  (hf:∀ v u s2 x y H2,Inv X pins σ H2 s2->RelV x v->RelV y u->R x y H2->wpAny (model X.prog X.w) X.A (f v u) Q X.xe s2) :
  wpAny (model X.prog X.w) X.A (eval a X.env) (fun v s₁=>wpAny (model X.prog X.w) X.A (eval b X.env) (fun u s₂=>wpAny (model X.prog X.w) X.A (f v u) Q X.xe s₂) X.xe s₁) X.xe s:=by
 refine thn (ha pins s σ H _ I h) fun v s1 ⟨x,H1,I1,r1,q1⟩=>?_
 refine thn (hb pins s1 σ H1 _ I1 q1) fun u s2 ⟨y,H2,I2,r2,q2⟩=>?_
 exact hf v u s2 x y H2 I2 r1 r2 q2
def tVar(i:Nat):TE:=fun σ H Q=>∃ v,σ[i]?=some (some v)/\Q v H
def tC(v:V):TE:=fun _ H Q=>Q v H
theorem zCm{i:Nat}{x:Str}{pos:Pos}(hN:X.N[i]?=some x)(hv:Vis X.env.scope x)(hd:(x == ("__debug__":Str))=false:=by decide)(hcd:(x == ("__classdict__":Str))=false:=by decide):PE X (.Name x pos) (tVar i):=by
 intro pins s σ H Q I h
 obtain⟨v,e,h⟩:=h
 obtain⟨m,hn,hl⟩:=I.loc
 obtain⟨u,r,l⟩:=hl i x v hN e hv
 have fin:EP X pins σ Q u s:=⟨v,H,I,r,h⟩
 rcases l with ⟨hk,hm⟩ | ⟨hk,c,hc,hcell⟩
 ·exact wpAny_Name (wpAny_loadName_local I.ok.kind hk hn hm fin) hd
 ·rcases hk with hk | hk
  ·exact wpAny_Name (wpAny_loadName_cell I.ok.kind hk hc hcell fin) hd
  ·exact wpAny_Name (wpAny_loadName_free I.ok.kind hk hc hcell fin hcd) hd
theorem zNP{i j pos}:PE X (.Constant (.int i) j pos) (tC (.int i)):=fun _ _ _ H _ I h=>wpAny_Constant_int ⟨.int i,H,I.tok _,⟨_,rfl⟩,h⟩
theorem zOp{b j pos}:PE X (.Constant (.bool b) j pos) (tC (.bl b)):=fun _ _ _ H _ I h=>Constant_bool ⟨.bl b,H,I,rfl,h⟩
theorem zNt{x j pos}:PE X (.Constant (.str x) j pos) (tC (.str x)):=fun _ _ _ H _ I h=>Calls.Constant_str ⟨.str x,H,I.tok _,⟨_,rfl⟩,h⟩
def Gl(X:Cx)(x:Str):Prop:=X.env.kindOf x=some .globalImplicit
theorem zD8{E:Value->Shared->Prop}{pins:List (Addr×Obj)}{s:Shared}{σ:St}{H:Hp}{x:Str}{u:Value}{pos:Pos}{Q:Value->Shared->Prop}(I:Inv X pins σ H s)(hg:Gl X x)(hm:X.mg x=some u)(h:Q u s)
  (hd:(x == ("__debug__":Str))=false:=by decide):wpAny (model X.prog X.w) X.A (eval (.Name x pos) X.env) Q E s :=
 Calls.Name_function_global I.ok.kind hg (Calls.loadGlobal_global (by rw[I.ok.glob]; exact I.mod.glob.keeps I.bk) hm h) hd
theorem zA4{E:Value->Shared->Prop}{pins:List (Addr×Obj)}{s:Shared}{σ:St}{H:Hp}{x:Str}{u:Value}{pos:Pos}{Q:Value->Shared->Prop}(I:Inv X pins σ H s)(hg:Gl X x)(hm:X.mg x=none)(hv:bootBuiltins x=some u)(h:Q u s)
  (hn:x≠"__name__":=by decide) (hd:(x == ("__debug__":Str))=false:=by decide):wpAny (model X.prog X.w) X.A (eval (.Name x pos) X.env) Q E s:=by
 obtain⟨mb,h1,h2⟩:=I.mod.blt
 exact Calls.Name_function_global I.ok.kind hg (Calls.loadGlobal_builtin (by rw[I.ok.glob]; exact I.mod.glob.keeps I.bk) hm (by rw[I.ok.blt]; exact h1.keeps I.bk) ((h2 x hn).trans hv) h) hd
theorem zEI{x:Str}{v:V}{u:Value}{pos:Pos}(hg:Gl X x)(hm:X.mg x=some u)(r:RelV v u)(hd:(x == ("__debug__":Str))=false:=by decide):PE X (.Name x pos) (tC v) :=
 fun _ _ _ H _ I h=>zD8 I hg hm ⟨v,H,I,r,h⟩ hd
theorem zMd{x:Str}{v:V}{u:Value}{pos:Pos}(hg:Gl X x)(hm:X.mg x=none)(hv:bootBuiltins x=some u)(r:RelV v u)(hn:x≠"__name__":=by decide)(hd:(x == ("__debug__":Str))=false:=by decide):PE X (.Name x pos) (tC v) :=
 fun _ _ _ H _ I h=>zA4 I hg hm hv ⟨v,H,I,r,h⟩ hn hd
variable {a b:Expr}{ta tb:TE}{pos:Pos}
variable {tA tB':TT}{rest:List Expr}
def tOr(t u:TT):TT:=fun σ H Q=>t σ H fun c H1=>if c=true then Q true H1 else u σ H1 Q
def tNot(t:TT):TT:=fun σ H Q=>t σ H fun c H1=>Q (!c) H1
theorem zNi(ha:PT X a tA):PW X (.BoolOp .Or [a] pos) tA:=by
 intro wh pins s σ H Q I h
 refine isTrue_or (thn (ha pins s σ H Q I h) fun c s1 e=>?_)
 cases c with
 | false=>exact isTrue_or_nil e
 | true=>exact e
theorem zOX(ha:PT X a tA)(hb:PW X (.BoolOp .Or (b::rest) pos) tB'):PW X (.BoolOp .Or (a::b::rest) pos) (tOr tA tB'):=by
 intro wh pins s σ H Q I h
 refine isTrue_or (thn (ha pins s σ H _ I h) fun c s1 ⟨H1,I1,q1⟩=>?_)
 cases c with
 | true=>exact⟨H1,I1,q1⟩
 | false=>exact hb wh pins s1 σ H1 Q I1 q1
theorem zNj(ha:PT X a tA):PT X (.UnaryOp .Not a pos) (tNot tA):=by
 intro pins s σ H Q I h
 exact isTrue_not (ha pins s σ H (fun c H1=>Q (!c) H1) I h)
def tAndV(ta tb:TE):TE:=fun σ H Q=>ta σ H fun x H1=>∃ c,x=.bl c/\if c=true then tb σ H1 Q else Q (.bl false) H1
def tOrV(ta tb:TE):TE:=fun σ H Q=>ta σ H fun x H1=>∃ c,x=.bl c/\if c=true then Q (.bl true) H1 else tb σ H1 Q
def tNotV(ta:TE):TE:=fun σ H Q=>ta σ H fun x H1=>∃ c,x=.bl c/\Q (.bl (!c)) H1
theorem zNL{op}{t:TE}(h:PE X a t):PE X (.BoolOp op [a] pos) t:=fun pins s σ H Q I hw=>BoolOp_one (h pins s σ H Q I hw)
theorem zNH(ha:PE X a ta)(hb:PE X (.BoolOp .And (b::rest) pos) tb):PE X (.BoolOp .And (a::b::rest) pos) (tAndV ta tb):=by
 intro pins s σ H Q I h
 refine BoolOp_and (thn (ha pins s σ H _ I h) fun v s1 ⟨x,H1,I1,r1,q1⟩=>?_)
 obtain⟨c,rfl,q1⟩:=q1
 cases r1
 refine wpAny_truthy_bool ?_
 cases c with
 | true=>exact hb pins s1 σ H1 Q I1 q1
 | false=>exact⟨.bl false,H1,I1,rfl,q1⟩
theorem zPC(ha:PE X a ta)(hb:PE X (.BoolOp .Or (b::rest) pos) tb):PE X (.BoolOp .Or (a::b::rest) pos) (tOrV ta tb):=by
 intro pins s σ H Q I h
 refine BoolOp_or (thn (ha pins s σ H _ I h) fun v s1 ⟨x,H1,I1,r1,q1⟩=>?_)
 obtain⟨c,rfl,q1⟩:=q1
 cases r1
 refine wpAny_truthy_bool ?_
 cases c with
 | false=>exact hb pins s1 σ H1 Q I1 q1
 | true=>exact⟨.bl true,H1,I1,rfl,q1⟩
theorem zN7(ha:PE X a ta):PE X (.UnaryOp .Not a pos) (tNotV ta):=by
 intro pins s σ H Q I h
 refine UnaryOp_ (thn (ha pins s σ H _ I h) fun v s1 ⟨x,H1,I1,r1,q1⟩=>?_)
 obtain⟨c,rfl,q1⟩:=q1
 cases r1
 exact not_of (wpAny_truthy_bool ⟨.bl (!c),H1,I1,rfl,q1⟩)
def tIf(t:TT)(ta tb:TE):TE:=fun σ H Q=>t σ H fun c H1=>if c=true then ta σ H1 Q else tb σ H1 Q
theorem zKt{c:Expr}(hc:PT X c tA)(ha:PE X a ta)(hb:PE X b tb):PE X (.IfExp c a b pos) (tIf tA ta tb):=by
 intro pins s σ H Q I h
 refine wpAny_IfExp (thn (hc pins s σ H _ I h) fun d s1 ⟨H1,I1,q1⟩=>?_)
 cases d with
 | true=>exact ha pins s1 σ H1 Q I1 q1
 | false=>exact hb pins s1 σ H1 Q I1 q1
end
def SqL(K:PySem.W.Frag)(H:Hp)(a:Addr)(xs:List V):Prop :=
 Rd H a (.lst xs) \/
  ∃ (o:Obj) (its:Array Value) (n:Nat),K.lookup a=some o/\o.cls=.type "list"/\o.dict=none/\o.data=.seq its n/\its.size<=sizeLine/\Vals xs its.toList
def SqT(K:PySem.W.Frag)(H:Hp)(a:Addr)(xs:List V):Prop :=
 Rd H a (.tup xs) \/
  ∃ (o:Obj) (its:Array Value) (n:Nat),K.lookup a=some o/\o.cls=.type "tuple"/\o.data=.seq its n/\its.size<=sizeLine/\Vals xs its.toList
def absV:Value->Option V
 | .none=>some .non
 | .bool b=>some (.bl b)
 | .int i _=>some (.int i)
 | .str x _=>some (.str x)
 | .bytes b _=>some (.byt b)
 | .float b _=>some (.flt b)
 | .ref a=>some (.ref a)
 | .type n=>some (.ty n)
 | _=>none
theorem RelV.abs{x:V}{u:Value}(r:RelV x u):absV u=some x:=by
 cases x with
 | non=>cases r; rfl
 | bl _=>cases r; rfl
 | int _=>obtain⟨t,rfl⟩:=r; rfl
 | str _=>obtain⟨t,rfl⟩:=r; rfl
 | byt _=>obtain⟨t,rfl⟩:=r; rfl
 | flt _=>obtain⟨t,rfl⟩:=r; rfl
 | ref _=>cases r; rfl
 | ty _=>cases r; rfl
theorem RelV.inj{x y:V}{u:Value}(r:RelV x u)(q:RelV y u):x=y:=Option.some.inj (r.abs.symm.trans q.abs)
theorem Vals.inj:∀ {xs ys:List V} {us:List Value},Vals xs us->Vals ys us->xs=ys
 | _,_,_,.nil,.nil=>rfl
 | _,_,_,.cons r t,.cons r' t'=>by rw[r.inj r',Vals.inj t t']
section
variable {X:Cx}{pins:List (Addr×Obj)}{σ:St}{H:Hp}{s:Shared}{a:Addr}{xs ys:List V}
theorem SqL.of{K:PySem.W.Frag}(h:H a=some (.lst xs)):SqL K H a xs:=.inl (.inl h)
theorem SqT.of{K:PySem.W.Frag}(h:H a=some (.tup xs)):SqT K H a xs:=.inl (.inl h)
theorem Inv.list(I:Inv X pins σ H s)(h:SqL X.K H a xs):∃ its:List Value,Vals xs its/\PlainL s.heap a its.toArray/\xs.length<=sizeLine:=by
 rcases h with h | ⟨o,its,n,hk,hc,hd,hs,hz,r⟩
 ·obtain⟨z,its,n,r,e⟩:=h.ok I.hok
  exact⟨its,r,⟨_,n,e,rfl,rfl,rfl⟩,z⟩
 ·refine⟨its.toList,r,⟨o,n,I.kIn a o hk,hc,hd,by simpa using hs⟩,?_⟩
  have e:=r.length
  simp only[Array.length_toList]at e
  omega
theorem Inv.tuple(I:Inv X pins σ H s)(h:SqT X.K H a xs):∃ its:List Value,Vals xs its/\IsTup s.heap a its.toArray/\xs.length<=sizeLine:=by
 rcases h with h | ⟨o,its,n,hk,hc,hs,hz,r⟩
 ·obtain⟨z,its,r,p⟩:=h.ok I.hok
  exact⟨its,r,p.tup,z⟩
 ·refine⟨its.toList,r,⟨o,I.kIn a o hk,hc,n,by simpa using hs⟩,?_⟩
  have e:=r.length
  simp only[Array.length_toList]at e
  omega
theorem Inv.list_inj(I:Inv X pins σ H s)(h:SqL X.K H a xs)(h':SqL X.K H a ys):xs=ys:=by
 obtain⟨its,r,⟨o,n,e,_,_,d⟩,_⟩:=I.list h
 obtain⟨its',r',⟨o',n',e',_,_,d'⟩,_⟩:=I.list h'
 rw[e]at e'; cases e'
 rw[d]at d'
 injection d' with d1 _
 have:its=its':=by simpa using congrArg Array.toList d1
 subst this
 exact r.inj r'
theorem Inv.tuple_inj(I:Inv X pins σ H s)(h:SqT X.K H a xs)(h':SqT X.K H a ys):xs=ys:=by
 obtain⟨its,r,⟨o,e,_,n,d⟩,_⟩:=I.tuple h
 obtain⟨its',r',⟨o',e',_,n',d'⟩,_⟩:=I.tuple h'
 rw[e]at e'; cases e'
 rw[d]at d'
 injection d' with d1 _
 have:its=its':=by simpa using congrArg Array.toList d1
 subst this
 exact r.inj r'
end
abbrev Cx.wish(X:Cx)(E:Value->Shared->Prop):Cx:={ X with xe:=E }
abbrev Cx.nox(X:Cx):Cx:=X.wish fun _ _=>False
theorem Cx.Ok.wish{X:Cx}(ok:X.Ok)(E:Value->Shared->Prop):(X.wish E).Ok :=
 ⟨ok.mod,ok.kind,ok.glob,ok.blt,ok.above,ok.inj,ok.has,ok.cab,ok.hd,ok.frames,ok.stk,ok.exf,ok.bs,ok.bsz,ok.noex,ok.exfs,ok.funs,ok.frf⟩
theorem Cx.Ok.unwish{X:Cx}{E:Value->Shared->Prop}(ok:(X.wish E).Ok):X.Ok :=
 ⟨ok.mod,ok.kind,ok.glob,ok.blt,ok.above,ok.inj,ok.has,ok.cab,ok.hd,ok.frames,ok.stk,ok.exf,ok.bs,ok.bsz,ok.noex,ok.exfs,ok.funs,ok.frf⟩
section
variable {X:Cx}{pins:List (Addr×Obj)}{σ:St}{H:Hp}{s:Shared}{E:Value->Shared->Prop}
theorem Inv.wish(I:Inv X pins σ H s)(E:Value->Shared->Prop):Inv (X.wish E) pins σ H s:=⟨I.ok.wish E,I.os,I.bare,I.base,I.loc,I.cell,I.free,I.freeC,I.pin,I.hok,I.len⟩
theorem Inv.unwish(I:Inv (X.wish E) pins σ H s):Inv X pins σ H s:=⟨I.ok.unwish,I.os,I.bare,I.base,I.loc,I.cell,I.free,I.freeC,I.pin,I.hok,I.len⟩
theorem SP.unwish{D:Ends}{f:Flow}{s':Shared}(h:SP (X.wish E) pins D f s'):SP X pins D f s':=by
 cases f with
 | next=>obtain⟨σ',H',I,q⟩:=h; exact⟨σ',H',I.unwish,q⟩
 | brk=>obtain⟨σ',H',I,q⟩:=h; exact⟨σ',H',I.unwish,q⟩
 | cont=>obtain⟨σ',H',I,q⟩:=h; exact⟨σ',H',I.unwish,q⟩
 | ret u=>obtain⟨v,σ',H',I,r,q⟩:=h; exact⟨v,σ',H',I.unwish,r,q⟩
theorem PSs.nox{st:List Stmt}{t:TS}(h:PSs X.nox st t):PSs X st t:=fun pins s σ H D I hw =>
 wpAny_mono (h pins s σ H D (I.wish _) hw) (fun _ _ q=>q.unwish) fun _ _ z=>False.elim z
end
section
variable {X:Cx}{st:Stmt}{rest:List Stmt}{t u:TS}{e:Expr}{te:TE}{pos:Pos}
def tNext:TS:=fun D σ H=>D.nx σ H
def tSeq(t u:TS):TS:=fun D σ H=>t { D with nx:=u D } σ H
theorem zLc:PSs X [] tNext:=fun _ _ σ H _ I h=>wpAny_execs_nil ⟨σ,H,I,h⟩
theorem zLJ(h1:PS X st t)(h2:PSs X rest u):PSs X (st::rest) (tSeq t u):=by
 intro pins s σ H D I h
 refine wpAny_execs_cons (thn (h1 pins s σ H { D with nx:=u D } I h) fun f s1 q=>?_)
 cases f with
 | next =>
  obtain⟨σ',H',I',q⟩:=q
  exact h2 pins s1 σ' H' D I' q
 | ret v=>exact q
 | brk=>exact q
 | cont=>exact q
theorem zMA(h1:PS X st t):PSs X [st] t:=by
 intro pins s σ H D I h
 refine wpAny_execs_cons (thn (h1 pins s σ H D I h) fun f s1 q=>?_)
 cases f with
 | next=>exact wpAny_execs_nil q
 | ret v=>exact q
 | brk=>exact q
 | cont=>exact q
theorem Inv.quiet{pins:List (Addr×Obj)}{σ:St}{H:Hp}{s:Shared}(I:Inv X pins σ H s):interactive X.env=false:=by simp[interactive,I.ok.kind]
def tDrop(te:TE):TS:=fun D σ H=>te σ H fun _ H1=>D.nx σ H1
theorem zMP(he:PE X e te)(hs:swapsWith e none pos.line X.env=pure false:=by rfl):PS X (.Expr e pos) (tDrop te):=by
 intro pins s σ H D I h
 exact wpAny_Expr_any (thn (he pins s σ H _ I h) fun v s1 ⟨x,H1,I1,r1,q1⟩=>⟨σ,H1,I1,q1⟩) I.quiet hs
def tRet(te:TE):TS:=fun D σ H=>te σ H D.rt
theorem zNf(he:PE X e te):PS X (.Return (some e) pos) (tRet te):=by
 intro pins s σ H D I h
 exact wpAny_Return_some (thn (he pins s σ H _ I h) fun v s1 ⟨x,H1,I1,r1,q1⟩=>⟨x,σ,H1,I1,r1,q1⟩)
def tIfS(c:TT)(t u:TS):TS:=fun D σ H=>c σ H fun b H1=>if b=true then t D σ H1 else u D σ H1
theorem zPA{c:Expr}{a b:List Stmt}{tc:TT}(hc:PT X c tc)(ha:PSs X a t)(hb:PSs X b u):PS X (.If c a b pos) (tIfS tc t u):=by
 intro pins s σ H D I h
 refine wpAny_If (thn (hc pins s σ H _ I h) fun d s1 ⟨H1,I1,q1⟩=>?_)
 cases d with
 | true=>exact ha pins s1 σ H1 D I1 q1
 | false=>exact hb pins s1 σ H1 D I1 q1
end
abbrev TG:=V->St->Hp->(St->Hp->Prop)->Prop
abbrev TGs:=List V->St->Hp->(St->Hp->Prop)->Prop
def PG(X:Cx)(target:Expr)(t:TG):Prop :=
 ∀ (pins:List (Addr×Obj)) (s:Shared) (σ:St) (H:Hp) (v:V) (u:Value) (Q:St->Hp->Prop),Inv X pins σ H s->RelV v u->t v σ H Q ->
  wpAny (model X.prog X.w) X.A (assign target X.env u) (fun _ s'=>∃ σ' H',Inv X pins σ' H' s'/\Q σ' H') X.xe s
def PGs(X:Cx)(ts:List Expr)(t:TGs):Prop :=
 ∀ (pins:List (Addr×Obj)) (s:Shared) (σ:St) (H:Hp) (vs:List V) (us:List Value) (Q:St->Hp->Prop),Inv X pins σ H s->Vals vs us->t vs σ H Q ->
  wpAny (model X.prog X.w) X.A (assignInOrder ((assignEach ts X.env).map (·.2)) us) (fun _ s'=>∃ σ' H',Inv X pins σ' H' s'/\Q σ' H') X.xe s
abbrev TSet:=V->V->V->Hp->(Hp->Prop)->Prop
def PSet(X:Cx)(t:TSet):Prop :=
 ∀ (pins:List (Addr×Obj)) (s:Shared) (σ:St) (H:Hp) (o i v:V) (ov iv u:Value) (Q:Hp->Prop),Inv X pins σ H s->RelV o ov->RelV i iv->RelV v u->t o i v H Q ->
  wpAny (model X.prog X.w) X.A (setItem ov iv u) (fun _ s'=>∃ H',Inv X pins σ H' s'/\Q H') X.xe s
section
variable {X:Cx}{pos:Pos}
def gName(i:Nat):TG:=fun v σ H Q=>Q (σ.set i (some v)) H
theorem zGo{i:Nat}{x:Str}(hN:X.N.Nodup)(hi:X.N[i]?=some x)(hx:Loc X.env.scope x)(hf:X.fn x=true\/X.env.scope.names.lookup x=some .local:=by first | exact .inl rfl | exact .inr rfl | assumption):PG X (.Name x pos) (gName i):=by
 intro pins s σ H v u Q I r h
 exact wpAny_assign_Name (zFP I hN hi hx r (fun s' I'=>⟨_,H,I',h⟩) hf)
def gNil:TGs:=fun vs σ H Q=>vs=[]/\Q σ H
def gCons(t:TG)(u:TGs):TGs:=fun vs σ H Q=>∃ v r,vs=v::r/\t v σ H fun σ' H'=>u r σ' H' Q
theorem zMW:PGs X [] gNil:=by
 intro pins s σ H vs us Q I r h
 obtain⟨e,h⟩:=h
 subst e
 cases r
 exact assignInOrder_nil ⟨σ,H,I,h⟩
theorem zKg{e:Expr}{es:List Expr}{t:TG}{u:TGs}(h1:PG X e t)(h2:PGs X es u)
  (hs:(assignEach (e::es) X.env).map (·.2)=assign e X.env::(assignEach es X.env).map (·.2):=by rfl):PGs X (e::es) (gCons t u):=by
 intro pins s σ H vs us Q I r h
 obtain⟨v,vr,e1,h⟩:=h
 subst e1
 cases r with
 | cons r rr =>
  rw[hs]
  refine assignInOrder_cons (thn (h1 pins s σ H _ _ _ I r h) fun _ s1 ⟨σ1,H1,I1,q1⟩=>?_)
  exact h2 pins s1 σ1 H1 _ _ Q I1 rr q1
def gTup(K:PySem.W.Frag)(n:Nat)(t:TGs):TG:=fun v σ H Q=>∃ a xs,v=.ref a/\SqT K H a xs/\xs.length=n/\t xs σ H Q
theorem zND{es:List Expr}{k:Nat}{t:TGs}{n:Nat}(hc:X.calm=true)(h:PGs X es t)
  (hn:(assignEach es X.env).length=n:=by rfl) (hst:(assignEach es X.env).findIdx? (·.1)=none:=by rfl):PG X (.Tuple es k pos) (gTup X.K n t):=by
 intro pins s σ H v u Q I r hw
 obtain⟨a,xs,e1,hq,hl,hw⟩:=hw
 subst e1
 cases r
 obtain⟨its,rv,ht,hz⟩:=I.tuple hq
 refine assign_Tuple_tuple (I.ok.hd hc) ht (by simp[hn,← hl,rv.length]) hst fun h' hx=>?_
 have I1:Inv X pins σ H { s with heap:=h' }:=I.kept (t':=s.toks) fun b o e=>hx b o (Nat.ne_of_lt (Heap.lt_size e)) e
 exact h pins _ σ H xs _ Q I1 (by simpa using rv) hw
def gSub(to ti:TE)(t:TSet):TG:=fun v σ H Q=>to σ H fun o H1=>ti σ H1 fun i H2=>t o i v H2 fun H3=>Q σ H3
theorem zNQ{o i:Expr}{to ti:TE}{t:TSet}(ho:PE X o to)(hi:PE X i ti)(hs:PSet X t)
  (ha:∀ v,assign (.Subscript o i pos) X.env v=(do
   let ov ← holding [v] (eval o X.env)
   let iv ← holding [v,ov] (eval i X.env)
   standAt pos
   holding [v,ov,iv] (setItem ov iv v)
   release [v,ov,iv] []):=by intro _; rfl):PG X (.Subscript o i pos) (gSub to ti t):=by
 intro pins s σ H v u Q I r h
 rw[ha]
 refine wpAny_bind (wpAny_holding (thn (ho pins s σ H _ I h) fun ov s1 ⟨x,H1,I1,r1,q1⟩=>?_))
 refine wpAny_bind (wpAny_holding (thn (hi pins s1 σ H1 _ I1 q1) fun iv s2 ⟨y,H2,I2,r2,q2⟩=>?_))
 refine wpAny_bind (wpAny_standAt (wpAny_bind (wpAny_holding (thn (hs pins s2 σ H2 x y v ov iv u _ I2 r1 r2 r q2) fun _ s3 ⟨H3,I3,q3⟩=>?_))))
 exact wpAny_release ⟨σ,H3,I3,q3⟩
def tAsg(te:TE)(g:TG):TS:=fun D σ H=>te σ H fun x H1=>g x σ H1 D.nx
theorem zOB{tg e:Expr}{te:TE}{g:TG}(he:PE X e te)(hg:PG X tg g)(hs:swapsWithSole [tg] e pos.line X.env=pure false:=by rfl)(hw:swappedStores [tg] e X.env=pure none:=by rfl)
  (h1:(assignEach [tg] X.env).map (·.2)=[assign tg X.env]:=by rfl):PS X (.Assign [tg] e pos) (tAsg te g):=by
 intro pins s σ H D I h
 refine wpAny_Assign_stores (thn (he pins s σ H _ I h) fun v s1 ⟨x,H1,I1,r1,q1⟩=>?_) hs hw
 rw[h1]
 exact thn (hg pins s1 σ H1 x v _ I1 r1 q1) fun _ s2 q=>q
theorem zJn{i:Nat}{x:Str}{e:Expr}{te:TE}{pos':Pos}(hN:X.N.Nodup)(hi:X.N[i]?=some x)(hx:Loc X.env.scope x)(he:PE X e te)(hs:swapsWith e (some (.Name x pos')) pos.line X.env=pure false:=by rfl)(hf:X.fn x=true\/X.env.scope.names.lookup x=some .local:=by first | exact .inl rfl | exact .inr rfl | assumption) :
  PS X (.Assign [.Name x pos'] e pos) (tAsg te (gName i)):=by
 intro pins s σ H D I h
 refine wpAny_Assign_Name (thn (he pins s σ H _ I h) fun v s1 ⟨y,H1,I1,r1,q1⟩=>?_) hs
 exact zFP I1 hN hi hx r1 (fun s2 I2=>⟨_,H1,I2,q1⟩) hf
def tPar(i j:Nat)(ta:TA):TS:=fun D σ H=>ta σ H fun vs H1=>∃ v w,vs=[v,w]/\D.nx ((σ.set i (some v)).set j (some w)) H1
end
section
variable {X:Cx}{pos:Pos}
def tWhile(c:TT)(tb:TS):TS:=fun D σ H=>∃ W:Nat->St->Hp->Prop,(∃ m,W m σ H)/\∀ m σ H,W m σ H ->
 c σ H fun b H1=>if b=true then ∃ N:St->Hp->Prop,(∀ σ' H',N σ' H'->∃ m',m' < m/\W m' σ' H')/\tb { D with nx:=N,ct:=N,bk:=D.nx } σ H1 else D.nx σ H1
theorem zKh{c:Expr}{body:List Stmt}{tc:TT}{tb:TS}(hp:PassesOwn (model X.prog X.w) X.A X.env X.xe)(hc:PT X c tc)(hb:PSs X body tb):PS X (.While c body [] pos) (tWhile tc tb):=by
 intro pins s σ H D I h
 obtain⟨W,⟨m0,w0⟩,turn⟩:=h
 refine wpAny_While (codeAny_whileLoop (fun n s'=>∃ σ' H',Inv X pins σ' H' s'/\W n σ' H') ?_ m0 ⟨σ,H,I,w0⟩)
 rintro n s1 ⟨σ1,H1,I1,w1⟩
 refine wpAny_passesOwn hp (thn (hc pins s1 σ1 H1 _ I1 (turn n σ1 H1 w1)) fun b s2 ⟨H2,I2,q2⟩=>?_)
 cases b with
 | true =>
  obtain⟨N,hN,q2⟩:=q2
  rw[if_pos rfl]
  refine wpAny_passesOwn hp (thn (hb pins s2 σ1 H2 _ I2 q2) fun f s3 q3=>?_)
  cases f with
  | next =>
   obtain⟨σ3,H3,I3,n3⟩:=q3
   obtain⟨m',hm,w3⟩:=hN σ3 H3 n3
   exact⟨m',hm,σ3,H3,I3,w3⟩
  | cont =>
   obtain⟨σ3,H3,I3,n3⟩:=q3
   obtain⟨m',hm,w3⟩:=hN σ3 H3 n3
   exact⟨m',hm,σ3,H3,I3,w3⟩
  | brk=>exact q3
  | ret v=>exact q3
 | false =>
  rw[if_neg Bool.false_ne_true]
  exact wpAny_execs_nil ⟨σ1,H2,I2,q2⟩
end
structure It where
 go:Nat->Hp->Prop
 yld:Nat->Hp->V->Hp->Prop
 stop:Nat->Hp->Prop
def FpOk(X:Cx)(pins:List (Addr×Obj))(H:Hp)(b:Addr):Prop :=
 H b=none/\b≠X.env.locals/\b∉X.fs/\(b∈X.ex\/X.s₀.heap.objs.size<=b)/\(∀ x c,X.env.cells.lookup x=some c->c≠b)/\∀ p∈X.pn++pins,p.1≠b
theorem Inv.fpOk{X:Cx}{pins:List (Addr×Obj)}{σ:St}{H H':Hp}{s:Shared}{b:Addr}(I:Inv X pins σ H s)(hb:s.heap.objs.size<=b)(hn:H' b=none):FpOk X pins H' b:=by
 refine⟨hn,Nat.ne_of_gt (Nat.lt_of_lt_of_le I.lt hb),I.nofs hb,.inr (Nat.le_trans I.sz hb),fun x c e z=>?_,fun p hp z=>?_⟩
 ·obtain⟨v,q⟩:=I.cell x c e
  exact absurd (Nat.lt_of_lt_of_le q.lt (by rw[z]; exact hb)) (Nat.lt_irrefl _)
 ·exact absurd (Nat.lt_of_lt_of_le (Heap.lt_size (I.pin p hp).1) (by rw[z]; exact hb)) (Nat.lt_irrefl _)
structure Turn(P:Program)(w:World)(K:PySem.W.Frag)(tg:Expr)(J:It)(fp:List Addr)(it:Addr)(tn:Nat->Heap->Prop):Prop where
 mem:it∈fp
 obj:∀ i h,tn i h->∀ b∈fp,∃ o,h.get? b=some o/\∀ v,o.data≠.cell v
 keep:∀ i h h',tn i h->(∀ b∈fp,∀ o,h.get? b=some o->h'.get? b=some o)->tn i h'
 item:∀ (X:Cx),X.prog=P->X.w=w->X.K=K->X.calm=true->∀ (i:Nat) (pins:List (Addr×Obj)) (s:Shared) (σ:St) (H:Hp) (E:Value->Shared->Prop),Inv X pins σ H s->(∀ b∈fp,FpOk X pins H b)->tn i s.heap->J.go i H ->
  wpAny (model P w) X.A (pyNext (.ref it)) (fun r s1=>∃ u,r=some u /\
   wpAny (model P w) X.A (letOwnedTupleGo tg (.ref it) u) (fun _ s2=>∃ x H',Inv X pins σ H' s2/\RelV x u/\J.yld i H x H'/\tn (i+1) s2.heap/\∀ b∈fp,H' b=none) E s1) E s
 done:∀ (X:Cx),X.prog=P->X.w=w->X.K=K->X.calm=true->∀ (i:Nat) (pins:List (Addr×Obj)) (s:Shared) (σ:St) (H:Hp) (E:Value->Shared->Prop),Inv X pins σ H s->(∀ b∈fp,FpOk X pins H b)->tn i s.heap->J.stop i H ->
  wpAny (model P w) X.A (pyNext (.ref it)) (fun r s1=>r=none/\Inv X pins σ H s1) E s
 self:∀ (A:Around) (i:Nat) (s:Shared) (Q:Value->Shared->Prop) (E:Value->Shared->Prop),tn i s.heap->Q (.ref it) s->wpAny (model P w) A (pyIter (.ref it)) Q E s
abbrev TI:=St->Hp->(It->Hp->Prop)->Prop
def PIE(X:Cx)(pins:List (Addr×Obj))(σ:St)(tg:Expr)(R:It->Hp->Prop)(itv:Value)(s2:Shared):Prop :=
 ∃ (it:Addr) (fp:List Addr) (tn:Nat->Heap->Prop) (J:It) (H':Hp),itv=.ref it/\Inv X pins σ H' s2/\Turn X.prog X.w X.K tg J fp it tn/\tn 0 s2.heap/\(∀ b∈fp,FpOk X pins H' b)/\R J H'
def PI(X:Cx)(tg iter:Expr)(wi:TI):Prop :=
 ∀ (pins:List (Addr×Obj)) (s:Shared) (σ:St) (H:Hp) (R:It->Hp->Prop),Inv X pins σ H s->wi σ H R ->
  wpAny (model X.prog X.w) X.A (eval iter X.env) (fun v s1=>wpAny (model X.prog X.w) X.A (pyIter v) (PIE X pins σ tg R) X.xe s1) X.xe s
theorem zFI{M:Model}{A:Around}{E:Value->Shared->Prop}{s:Shared}{tg:Expr}{it:Addr}{u:Value}{o:Obj}{n:String}{vs:Array Value}{Q:Unit->Shared->Prop}(ho:s.heap.get? it=some o)(hc:o.cls=.type n)(hd:o.data=.fields vs)
  (hn:["enumerate","zip","dict_itemiterator","dict_reverseitemiterator","odict_iterator","itertools.zip_longest","itertools.pairwise"].contains n=false) (hQ:Q () s):wpAny M A (letOwnedTupleGo tg (.ref it) u) Q E s:=by
 unfold letOwnedTupleGo
 cases tg <;> first
  | exact wpAny_pure hQ
  | (cases u <;> first
    | exact wpAny_pure hQ
    | (
      refine wpAny_bind (wpAny_load ho ?_)
      rw[hc,hd]
      show wpAny M A (if (["enumerate","zip","dict_itemiterator","dict_reverseitemiterator","odict_iterator","itertools.zip_longest","itertools.pairwise"].contains n && vs[0]? == some (rawInt _))=true then _ else _) Q E s
      rw[if_neg (by intro h; rw[hn,Bool.false_and]at h; cases h)]
      exact wpAny_pure hQ))
def Itl(K:PySem.W.Frag)(a:Addr):It :=
 ⟨fun i H=>∃ xs x,SqL K H a xs/\xs[i]?=some x,fun i H x H'=>H'=H/\∀ xs,SqL K H a xs->xs[i]?=some x,fun i H=>∃ xs,SqL K H a xs/\xs.length<=i⟩
def Itt(K:PySem.W.Frag)(a:Addr):It :=
 ⟨fun i H=>∃ xs x,SqT K H a xs/\xs[i]?=some x,fun i H x H'=>H'=H/\∀ xs,SqT K H a xs->xs[i]?=some x,fun i H=>∃ xs,SqT K H a xs/\xs.length<=i⟩
def Itr(lo:Int)(n:Nat):It:=⟨fun i _=>i < n,fun i H x H'=>H'=H/\x=.int (lo+i),fun i _=>n<=i⟩
theorem zI4{P:Program}{w:World}{K:PySem.W.Frag}{tg:Expr}(a it:Addr):Turn P w K tg (Itl K a) [it] it (fun i h=>h.IsListIter it a i) where
 mem:=by simp
 obj:=fun i h st b hb=>by
  have e:b=it:=by simpa using hb
  subst e
  obtain⟨o,e,c,d⟩:=st
  exact⟨o,e,fun v z=>by rw[d]at z; cases z⟩
 keep:=fun i h h' st k=>st.at fun o e=>k it (by simp) o e
 item:=by
  intro X hP hw hK hc i pins s σ H E I hf st hg
  subst hP hw hK
  obtain⟨xs,x,hq,hx⟩:=hg
  obtain⟨its,rv,p,hz⟩:=I.list hq
  obtain⟨u,hu,ru⟩:=rv.get hx
  obtain⟨f0,f1,f2,f3,f4,f5⟩:=hf it (by simp)
  refine wpAny_pyNext_list_item st p.isList (x:=u) (by simpa using hu) fun h' st' sb=>?_
  have I1:Inv X pins σ H { s with heap:=h' }:=I.turned (t':=s.toks) (fun b o hb e=>(sb.2 b hb).trans e) f0 f1 f3 f4 f5
  obtain⟨o,e,c,d⟩:=id st'
  exact⟨u,rfl,zFI (s:={ s with heap:=h' }) e c d (by decide) ⟨x,H,I1,ru,⟨rfl,fun ys hy=>by rw[I.list_inj hy hq]; exact hx⟩,st',fun b hb=>(hf b hb).1⟩⟩
 done:=by
  intro X hP hw hK hc i pins s σ H E I hf st hg
  subst hP hw hK
  obtain⟨xs,hq,hx⟩:=hg
  obtain⟨its,rv,p,hz⟩:=I.list hq
  obtain⟨f0,f1,f2,f3,f4,f5⟩:=hf it (by simp)
  have hl:=rv.length
  exact wpAny_pyNext_list_end (I.ok.hd hc) st p.isList (by simp; omega) fun h' eb=>⟨rfl,I.turned (t':=s.toks) (fun b o hb e=>eb b o hb e) f0 f1 f3 f4 f5⟩
 self:=fun _ _ _ _ _ st h=>wpAny_pyIter_listiter st h
theorem zHk{P:Program}{w:World}{K:PySem.W.Frag}{tg:Expr}(a it:Addr):Turn P w K tg (Itt K a) [it] it (fun i h=>h.IsTupleIter it a i) where
 mem:=by simp
 obj:=fun i h st b hb=>by
  have e:b=it:=by simpa using hb
  subst e
  obtain⟨o,e,c,d⟩:=st
  exact⟨o,e,fun v z=>by rw[d]at z; cases z⟩
 keep:=fun i h h' st k=>st.at fun o e=>k it (by simp) o e
 item:=by
  intro X hP hw hK hc i pins s σ H E I hf st hg
  subst hP hw hK
  obtain⟨xs,x,hq,hx⟩:=hg
  obtain⟨its,rv,p,hz⟩:=I.tuple hq
  obtain⟨u,hu,ru⟩:=rv.get hx
  obtain⟨f0,f1,f2,f3,f4,f5⟩:=hf it (by simp)
  refine wpAny_pyNext_tuple_item st (show s.heap.IsTuple a its.toArray from p) (x:=u) (by simpa using hu) fun h' st' sb=>?_
  have I1:Inv X pins σ H { s with heap:=h' }:=I.turned (t':=s.toks) (fun b o hb e=>(sb.2 b hb).trans e) f0 f1 f3 f4 f5
  obtain⟨o,e,c,d⟩:=id st'
  exact⟨u,rfl,zFI (s:={ s with heap:=h' }) e c d (by decide) ⟨x,H,I1,ru,⟨rfl,fun ys hy=>by rw[I.tuple_inj hy hq]; exact hx⟩,st',fun b hb=>(hf b hb).1⟩⟩
 done:=by
  intro X hP hw hK hc i pins s σ H E I hf st hg
  subst hP hw hK
  obtain⟨xs,hq,hx⟩:=hg
  obtain⟨its,rv,p,hz⟩:=I.tuple hq
  obtain⟨f0,f1,f2,f3,f4,f5⟩:=hf it (by simp)
  have hl:=rv.length
  exact wpAny_pyNext_tuple_end (I.ok.hd hc) st (show s.heap.IsTuple a its.toArray from p) (by simp; omega) fun h' eb=>⟨rfl,I.turned (t':=s.toks) (fun b o hb e=>eb b o hb e) f0 f1 f3 f4 f5⟩
 self:=fun _ _ _ _ _ st h=>wpAny_pyIter_tupleiter st h
theorem zH9{P:Program}{w:World}{K:PySem.W.Frag}{tg:Expr}(it:Addr)(lo:Int)(n:Nat):Turn P w K tg (Itr lo n) [it] it (fun i h=>IsRangeIter h it (lo+(i:Nat) * 1) ((n:Int) - (i:Nat)) 1) where
 mem:=by simp
 obj:=fun i h st b hb=>by
  have e:b=it:=by simpa using hb
  subst e
  exact⟨_,st,fun v z=>by
   have z':Data.fields _=Data.cell v:=z
   cases z'⟩
 keep:=fun i h h' st k=>k it (by simp) _ st
 item:=by
  intro X hP hw hK hc i pins s σ H E I hf st hg
  subst hP hw hK
  obtain⟨f0,f1,f2,f3,f4,f5⟩:=hf it (by simp)
  have W:=Walks.range (prog:=X.prog) (w:=X.w) (I.ok.hd hc) it lo 1 n
  refine W.item i s _ _ hg st fun v h' tk hv st' kk=>?_
  obtain⟨t,rfl⟩:=hv
  have I1:Inv X pins σ H { s with heap:=h',toks:=tk }:=I.turned (fun b o hb e=>kk b o (by simpa using hb) e) f0 f1 f3 f4 f5
  refine⟨_,rfl,zFI (s:={ s with heap:=h',toks:=tk }) (n:="range_iterator") st' rfl rfl (by decide) ⟨.int (lo+i),H,I1,⟨t,?_⟩,⟨rfl,rfl⟩,st',fun b hb=>(hf b hb).1⟩⟩
  rw[Int.mul_one]
 done:=by
  intro X hP hw hK hc i pins s σ H E I hf st hg
  subst hP hw hK
  obtain⟨f0,f1,f2,f3,f4,f5⟩:=hf it (by simp)
  exact wpAny_pyNext_range_end (I.ok.hd hc) st (by have:n<=i:=hg; omega) fun h' eb=>⟨rfl,I.turned (t':=s.toks) (fun b o hb e=>eb b o hb e) f0 f1 f3 f4 f5⟩
 self:=fun _ _ _ _ _ st h=>wpAny_pyIter_rangeiter st h
section
variable {X:Cx}{tg:Expr}
theorem zKY{pins:List (Addr×Obj)}{σ:St}{H:Hp}{s:Shared}{R:It->Hp->Prop}{E:Value->Shared->Prop}{lo hi:Int}{t u v:Tok}{tk:Nat}(I:Inv X pins σ H s)(h1:-(2 ^ 62)<=lo)(h2:lo < 2 ^ 62)(h3:-(2 ^ 62)<=hi)(h4:hi < 2 ^ 62)
  (q:R (Itr lo (hi - lo).toNat) H):wpAny (model X.prog X.w) X.A (pyIter (.ref s.heap.objs.size)) (PIE X pins σ tg R) E { s with heap:=s.heap.push { cls:=.type "range",data:=.fields #[.int lo t,.int hi u,.int 1 v] },toks:=tk }:=by
 refine wpAny_pyIter_range (IsRange.new ..) (small_one h1 h2 h3 h4) ?_
 have I1:Inv X pins σ H { s with heap:=s.heap.push { cls:=.type "range",data:=.fields #[.int lo t,.int hi u,.int 1 v] },toks:=tk }:=I.kept fun b o e=>Heap.get?_push_of_some _ e
 refine⟨(s.heap.push { cls:=.type "range",data:=.fields #[.int lo t,.int hi u,.int 1 v] }).objs.size,[(s.heap.push { cls:=.type "range",data:=.fields #[.int lo t,.int hi u,.int 1 v] }).objs.size],_,_,H,rfl,
  I1.kept (t':=tk) fun b o e=>Heap.get?_push_of_some _ e,zH9 _ lo (hi - lo).toNat,?_,fun b hb=>?_,q⟩
 ·have e1:lo+((0:Nat):Int) * 1=lo:=by simp
  have e2:(((hi - lo).toNat:Nat):Int) - ((0:Nat):Int)=Builtin.Range.rangeSize lo hi 1:=by rw[rangeSize_one]; split <;> omega
  show IsRangeIter _ _ (lo+((0:Nat):Int) * 1) ((((hi - lo).toNat:Nat):Int) - ((0:Nat):Int)) 1
  rw[e1,e2]
  exact Heap.get?_push_size _ rfl
 ·have e:b=(s.heap.push { cls:=.type "range",data:=.fields #[.int lo t,.int hi u,.int 1 v] }).objs.size:=by simpa using hb
  subst e
  exact I1.fpOk (Nat.le_refl _) (I1.hok.fresh (Nat.le_refl _))
def iRng1(ta:TA):TI:=fun σ H R=>ta σ H fun vs H1=>∃ j:Int,vs=[.int j]/\-(2 ^ 62)<=j/\j < 2 ^ 62/\R (Itr 0 j.toNat) H1
theorem zIi{a:Expr}{ta:TA}{p pos:Pos}(hg:Gl X "range")(hm:X.mg "range"=none)(ha:PA X [a] ta)(hs:starEach [a] X.env=[(false,eval a X.env)]:=by rfl):PI X tg (.Call (.Name "range" p) [a] [] pos) (iRng1 ta):=by
 intro pins s σ H R I h
 refine Call_ (zA4 I hg hm boot_range (PyProof.Rows.callWith_type1 (thn (ha pos pins s σ H _ I h) fun us s1 ⟨vs,H1,I1,r1,q1⟩=>?_) hs rfl))
 obtain⟨j,e,q1,q2,q⟩:=q1
 subst e
 cases r1 with
 | cons r rr =>
  cases rr
  obtain⟨t,rfl⟩:=r
  exact call_range_1 (zKY I1 (by omega) (by omega) q1 q2 (by simpa using q))
def tFor(wi:TI)(g:TG)(tb:TS):TS:=fun D σ H=>wi σ H fun J H1=>∃ W:Nat->Nat->St->Hp->Prop,(∃ m,W 0 m σ H1)/\∀ i m σ H,W i m σ H ->
 (J.stop i H/\D.nx σ H)\/(J.go i H/\∃ N:St->Hp->Prop,(∀ σ' H',N σ' H'->∃ m',m' < m/\W (i+1) m' σ' H')/\∀ x H',J.yld i H x H'->g x σ H' fun σ2 H2=>tb { D with nx:=N,ct:=N,bk:=D.nx } σ2 H2)
def pinsAt(fp:List Addr)(h:Heap):List (Addr×Obj):=fp.filterMap fun b=>(h.get? b).map fun o=>(b,o)
theorem zCG{fp:List Addr}{h:Heap}{b:Addr}{o:Obj}(hb:b∈fp)(e:h.get? b=some o):(b,o)∈pinsAt fp h:=List.mem_filterMap.mpr ⟨b,hb,by rw[e]; rfl⟩
theorem zIz{fp:List Addr}{h:Heap}{p:Addr×Obj}(hp:p∈pinsAt fp h):p.1∈fp/\h.get? p.1=some p.2:=by
 obtain⟨b,hb,e⟩:=List.mem_filterMap.mp hp
 cases q:h.get? b with
 | none=>rw[q]at e; cases e
 | some o =>
  rw[q]at e
  have e':(b,o)=p:=Option.some.inj e
  subst e'
  exact⟨hb,q⟩
theorem Inv.pinned{pins:List (Addr×Obj)}{σ:St}{H:Hp}{s:Shared}{fp:List Addr}(I:Inv X pins σ H s)(hf:∀ b∈fp,FpOk X pins H b)(ho:∀ b∈fp,∃ o,s.heap.get? b=some o/\∀ v,o.data≠.cell v):Inv X (pins++pinsAt fp s.heap) σ H s :=
 I.pins_of fun p hp=>(List.mem_append.mp hp).elim (fun z=>I.pin p (List.mem_append_right _ z)) fun z=>by
  obtain⟨hb,e⟩:=zIz z
  obtain⟨f0,f1,f2,_⟩:=hf p.1 hb
  obtain⟨o,e',d⟩:=ho p.1 hb
  rw[e]at e'; cases e'
  exact⟨e,f0,f1,f2,d⟩
theorem Inv.unpinned{pins pl:List (Addr×Obj)}{σ:St}{H:Hp}{s:Shared}(I:Inv X (pins++pl) σ H s):Inv X pins σ H s:=I.pins_of fun p hp=>I.pin p (List.mem_append_right _ (List.mem_append_left _ hp))
theorem zNg{iter:Expr}{body:List Stmt}{wi:TI}{g:TG}{tb:TS}{pos:Pos}(hp:PassesOwn (model X.prog X.w) X.A X.env X.xe)(hc:X.calm=true)(hi:PI X tg iter wi)(hg:PG X tg g)(hb:PSs X body tb)
  (hs:∀ x,foldedSetIterable iter X.env x=pure x:=by intro _; rfl):PS X (.For tg iter body [] pos) (tFor wi g tb):=by
 intro pins s σ H D I h
 refine wpAny_For (thn (hi pins s σ H _ I h) fun v s1 h1=>thn h1 fun itv s2 h2=>?_) hs
 obtain⟨it,fp,tn,J,H2,e,I2,T,st2,f2,W,⟨m0,w0⟩,turn⟩:=h2
 subst e
 have stat:∀ {H':Hp},(∀ b∈fp,H' b=none)->∀ b∈fp,FpOk X pins H' b:=fun hn b hb=>⟨hn b hb,(f2 b hb).2⟩
 refine codeAny_forLoop_any (fun n s'=>∃ i σ' H',Inv X pins σ' H' s'/\tn i s'.heap/\(∀ b∈fp,H' b=none)/\W i n σ' H') ?_ m0 ⟨0,σ,H2,I2,st2,fun b hb=>(f2 b hb).1,w0⟩
 rintro n s3 ⟨i,σ3,H3,I3,st3,fr3,w3⟩
 rcases turn i n σ3 H3 w3 with ⟨stop,qn⟩ | ⟨go,N,hN,step⟩
 ·refine wpAny_passesOwn hp (thn (T.done X rfl rfl rfl hc i pins s3 σ3 H3 X.xe I3 (stat fr3) st3 stop) fun r s4 ⟨hr,I4⟩=>?_)
  subst hr
  exact wpAny_execs_nil ⟨σ3,H3,I4,qn⟩
 ·refine wpAny_passesOwn hp (thn (T.item X rfl rfl rfl hc i pins s3 σ3 H3 X.xe I3 (stat fr3) st3 go) fun r s4 ⟨u,hr,h4⟩=>?_)
  subst hr
  refine wpAny_passesOwn hp (thn h4 fun _ s5 ⟨x,H5,I5,r5,y5,st5,fr5⟩=>?_)
  have I5':=I5.pinned (stat fr5) (T.obj _ _ st5)
  refine wpAny_passesOwn hp (thn (hg _ s5 σ3 H5 x u _ I5' r5 (step x H5 y5)) fun _ s6 ⟨σ6,H6,I6,q6⟩=>?_)
  refine wpAny_passesOwn hp (thn (hb _ s6 σ6 H6 _ I6 q6) fun f s7 q7=>?_)
  have again:∀ {σ7:St} {H7:Hp},Inv X (pins++pinsAt fp s5.heap) σ7 H7 s7->N σ7 H7->∃ m,m < n/\∃ i σ' H',Inv X pins σ' H' s7/\tn i s7.heap/\(∀ b∈fp,H' b=none)/\W i m σ' H':=fun {σ7 H7} I7 n7=>by
   obtain⟨m',hm,w7⟩:=hN σ7 H7 n7
   refine⟨m',hm,i+1,σ7,H7,I7.unpinned,T.keep _ _ _ st5 fun b hb o e=>(I7.pin (b,o) (List.mem_append_right _ (List.mem_append_right _ (zCG hb e)))).1,fun b hb=>?_,w7⟩
   obtain⟨o,e,d⟩:=T.obj _ _ st5 b hb
   exact (I7.pin (b,o) (List.mem_append_right _ (List.mem_append_right _ (zCG hb e)))).2.1
  cases f with
  | next=>obtain⟨σ7,H7,I7,n7⟩:=q7; exact again I7 n7
  | cont=>obtain⟨σ7,H7,I7,n7⟩:=q7; exact again I7 n7
  | brk=>obtain⟨σ7,H7,I7,q7⟩:=q7; exact⟨σ7,H7,I7.unpinned,q7⟩
  | ret v=>obtain⟨x7,σ7,H7,I7,r7,q7⟩:=q7; exact⟨x7,σ7,H7,I7.unpinned,r7,q7⟩
end
abbrev R2:=V->V->Hp->VK->Prop
def OpR(X:Cx)(f:Value->Value->Sem Value)(r:R2):Prop :=
 ∀ (pins:List (Addr×Obj)) (s:Shared) (σ:St) (H:Hp) (x y:V) (v u:Value) (Q:VK),Inv X pins σ H s->RelV x v->RelV y u->r x y H Q ->
  wpAny (model X.prog X.w) X.A (f v u) (EP X pins σ Q) X.xe s
def CallR(X:Cx)(f:Value)(r:List V->Hp->VK->Prop):Prop :=
 ∀ (pins:List (Addr×Obj)) (s:Shared) (σ:St) (H:Hp) (xs:List V) (us:List Value) (Q:VK),Inv X pins σ H s->Vals xs us->r xs H Q ->
  wpAny (model X.prog X.w) X.A (call f us) (EP X pins σ Q) X.xe s
def TruR(X:Cx)(r:V->Hp->(Bool->Hp->Prop)->Prop):Prop :=
 ∀ (pins:List (Addr×Obj)) (s:Shared) (σ:St) (H:Hp) (x:V) (v:Value) (Q:Bool->Hp->Prop),Inv X pins σ H s->RelV x v->r x H Q ->
  wpAny (model X.prog X.w) X.A (truthy v) (TP X pins σ Q) X.xe s
def tOp(r:R2)(ta tb:TE):TE:=fun σ H Q=>ta σ H fun x H1=>tb σ H1 fun y H2=>r x y H2 Q
def rI(C:Int->Int->Prop)(g:Int->Int->V):R2:=fun x y H Q=>∃ i j,x=.int i/\y=.int j/\C i j/\Q (g i j) H
def rI0(g:Int->Int->V):R2:=fun x y H Q=>∃ i j,x=.int i/\y=.int j/\Q (g i j) H
section
variable {X:Cx}{a b c:Expr}{ta tb tc:TE}{pos:Pos}
theorem binT(ha:PE X a ta)(hb:PE X b tb){pins:List (Addr×Obj)}{s:Shared}{σ:St}{H:Hp}{R:V->V->Hp->Prop}(I:Inv X pins σ H s)
  (h:ta σ H fun x H1=>tb σ H1 fun y H2=>R x y H2) {Q:Value->Shared->Prop} {f:Value->Value->Sem Value}
  (hf:∀ v u s2 x y H2,Inv X pins σ H2 s2->RelV x v->RelV y u->R x y H2->wpAny (model X.prog X.w) X.A (f v u) Q X.xe s2) :
  wpAny (model X.prog X.w) X.A (eval a X.env) (fun v s₁=>wpAny (model X.prog X.w) X.A (eval b X.env) (fun u s₂=>wpAny (model X.prog X.w) X.A (f v u) Q X.xe s₂) X.xe s₁) X.xe s:=by
 refine thn (ha pins s σ H _ I h) fun v s1 ⟨x,H1,I1,r1,q1⟩=>?_
 refine thn (hb pins s1 σ H1 _ I1 q1) fun u s2 ⟨y,H2,I2,r2,q2⟩=>?_
 exact hf v u s2 x y H2 I2 r1 r2 q2
theorem zOw{op:Operator}{r:R2}(ho:OpR X (binaryOp op) r)(ha:PE X a ta)(hb:PE X b tb):PE X (.BinOp a op b pos) (tOp r ta tb):=by
 intro pins s σ H Q I h
 exact wpAny_BinOp (binT ha hb I h fun v u s2 x y H2 I2 rx ry q=>ho pins s2 σ H2 x y v u Q I2 rx ry q)
theorem opI{f:Value->Value->Sem Value}{C:Int->Int->Prop}{g:Int->Int->Int}
  (rule:∀ (i j:Int) (t u:Tok) (s:Shared) (Q:Value->Shared->Prop) (E:Value->Shared->Prop),C i j->Q (.int (g i j) s.toks) { s with toks:=s.toks+1 }->wpAny (model X.prog X.w) X.A (f (.int i t) (.int j u)) Q E s) :
  OpR X f (rI C fun i j=>.int (g i j)):=by
 intro pins s σ H x y v u Q I rx ry h
 obtain⟨i,j,rfl,rfl,hc,q⟩:=h
 obtain⟨t,rfl⟩:=rx
 obtain⟨t',rfl⟩:=ry
 exact rule i j t t' s _ _ hc ⟨.int (g i j),H,I.tok _,⟨_,rfl⟩,q⟩
theorem opI0{f:Value->Value->Sem Value}{g:Int->Int->Int}
  (rule:∀ (i j:Int) (t u:Tok) (s:Shared) (Q:Value->Shared->Prop) (E:Value->Shared->Prop),Q (.int (g i j) s.toks) { s with toks:=s.toks+1 }->wpAny (model X.prog X.w) X.A (f (.int i t) (.int j u)) Q E s) :
  OpR X f (rI0 fun i j=>.int (g i j)):=by
 intro pins s σ H x y v u Q I rx ry h
 obtain⟨i,j,rfl,rfl,q⟩:=h
 obtain⟨t,rfl⟩:=rx
 obtain⟨t',rfl⟩:=ry
 exact rule i j t t' s _ _ ⟨.int (g i j),H,I.tok _,⟨_,rfl⟩,q⟩
theorem opB0{f:Value->Value->Sem Value}{g:Int->Int->Bool}
  (rule:∀ (i j:Int) (t u:Tok) (s:Shared) (Q:Value->Shared->Prop) (E:Value->Shared->Prop),Q (.bool (g i j)) s->wpAny (model X.prog X.w) X.A (f (.int i t) (.int j u)) Q E s) :
  OpR X f (rI0 fun i j=>.bl (g i j)):=by
 intro pins s σ H x y v u Q I rx ry h
 obtain⟨i,j,rfl,rfl,q⟩:=h
 obtain⟨t,rfl⟩:=rx
 obtain⟨t',rfl⟩:=ry
 exact rule i j t t' s _ _ ⟨.bl (g i j),H,I,rfl,q⟩
def CDiv(i j:Int):Prop:=0 < j/\j < 1073741824
def CPow(i j:Int):Prop:=0<=j/\j<=1000000/\i.natAbs < 2 ^ 64
def CMul(i j:Int):Prop:=(-(2 ^ 64) < i/\i < 2 ^ 64)\/(-(2 ^ 64) < j/\j < 2 ^ 64)
theorem CMul.ok{i j:Int}(h:CMul i j):IntMulOk i j:=by
 rcases h with ⟨h1,h2⟩ | ⟨h1,h2⟩
 ·exact .of_left (intBits_le_64 h1 h2)
 ·exact .of_right (intBits_le_64 h1 h2)
theorem zM1:OpR X (binaryOp .Add) (rI0 fun i j=>.int (i+j)):=opI0 fun _ _ _ _ _ _ _ q=>add_int q
theorem zN8:OpR X (binaryOp .Sub) (rI0 fun i j=>.int (i - j)):=opI0 fun _ _ _ _ _ _ _ q=>sub_int q
theorem zNO:OpR X (binaryOp .Mult) (rI CMul fun i j=>.int (i * j)):=opI fun _ _ _ _ _ _ _ hc q=>mul_int q hc.ok
theorem zMq:OpR X (binaryOp .FloorDiv) (rI CDiv fun i j=>.int (i / j)):=opI fun i j _ _ _ _ _ hc q=>by
 have h1:(0:Int) < j:=hc.1
 have h2:j < 1073741824:=hc.2
 exact floordiv_int (by omega) (by rw[Int.fdiv_eq_ediv_of_nonneg i (by omega)]; exact q) (.inl (PyProof.noPylong_small (by omega)))
theorem zNo:OpR X (binaryOp .Mod) (rI (fun _ j=>0 < j) fun i j=>.int (i % j)):=opI fun i j _ _ _ _ _ hc q=>by
 have h1:(0:Int) < j:=hc
 exact mod_int' (by omega) (by rw[Int.fmod_eq_emod_of_nonneg i (by omega)]; exact q)
theorem zN4:OpR X (binaryOp .Pow) (rI CPow fun i j=>.int (i ^ j.toNat)):=opI fun _ _ _ _ _ _ _ hc q=>pow_int_small hc.1 hc.2.1 hc.2.2 q
theorem zNT:OpR X (binaryOp .LShift) (rI CPow fun i j=>.int (i * 2 ^ j.toNat)):=opI fun _ _ _ _ _ _ _ hc q=>lshift_int_small hc.1 hc.2.1 hc.2.2 q
end
def scal:V->V->Bool
 | .non,.non=>true | .non,.int _=>true | .int _,.non=>true | .non,.bl _=>true | .bl _,.non=>true | .non,.str _=>true | .str _,.non=>true
 | .int _,.int _=>true | .bl _,.bl _=>true | .str _,.str _=>true | .byt _,.byt _=>true
 | .int _,.str _=>true | .str _,.int _=>true | .bl _,.str _=>true | .str _,.bl _=>true
 | _,_=>false
def rEq:R2:=fun x y H Q=>scal x y=true/\Q (.bl (decide (x=y))) H
def rNe:R2:=fun x y H Q=>scal x y=true/\Q (.bl (!decide (x=y))) H
theorem zHV{i j:Int}:decide (V.int i=V.int j)=(i == j):=by
 rw[Bool.eq_iff_iff]
 simp
theorem zJj{i j:Bool}:decide (V.bl i=V.bl j)=(i == j):=by
 rw[Bool.eq_iff_iff]
 simp
theorem zGu{i j:Str}:decide (V.str i=V.str j)=(i == j):=by
 rw[Bool.eq_iff_iff]
 simp
theorem zHQ{i j:Array UInt8}:decide (V.byt i=V.byt j)=(i.toList == j.toList):=by
 rw[Bool.eq_iff_iff]
 cases i
 cases j
 simp
section
variable {X:Cx}{a b c:Expr}{ta tb tc:TE}{pos:Pos}
theorem zAM{pins:List (Addr×Obj)}{σ:St}{H:Hp}{s:Shared}{Q:VK}{k k':Bool}(I:Inv X pins σ H s)(q:Q (.bl k) H)(e:k=k'):EP X pins σ Q (.bool k') s:=by
 subst e
 exact⟨.bl k,H,I,rfl,q⟩
theorem zO4:OpR X (compareOp .Eq) rEq:=by
 intro pins s σ H x y v u Q I rx ry h
 obtain⟨hs,q⟩:=h
 cases x with
 | non =>
  cases rx
  cases y with
  | non=>cases ry; exact PySem.EqNone.eq_none_none (zAM I q (by simp))
  | bl j=>cases ry; exact PySem.EqNone.eq_none_bool (zAM I q (by simp))
  | int j=>obtain⟨t',rfl⟩:=ry; exact PySem.EqNone.eq_none_int (zAM I q (by simp))
  | str j=>obtain⟨t',rfl⟩:=ry; exact PySem.EqNone.eq_none_str (zAM I q (by simp))
  | _=>exact absurd (show false=true from hs) Bool.false_ne_true
 | bl i =>
  cases rx
  cases y with
  | non=>cases ry; exact PySem.EqNone.eq_bool_none (zAM I q (by simp))
  | bl j=>cases ry; exact eq_bool (zAM I q zJj)
  | str j=>obtain⟨t',rfl⟩:=ry; exact PySem.EqMixed.eq_bool_str (zAM I q (by simp))
  | _=>exact absurd (show false=true from hs) Bool.false_ne_true
 | int i =>
  obtain⟨t,rfl⟩:=rx
  cases y with
  | non=>cases ry; exact PySem.EqNone.eq_int_none (zAM I q (by simp))
  | int j=>obtain⟨t',rfl⟩:=ry; exact eq_int (zAM I q zHV)
  | str j=>obtain⟨t',rfl⟩:=ry; exact PySem.EqMixed.eq_int_str (zAM I q (by simp))
  | _=>exact absurd (show false=true from hs) Bool.false_ne_true
 | str i =>
  obtain⟨t,rfl⟩:=rx
  cases y with
  | non=>cases ry; exact PySem.EqNone.eq_str_none (zAM I q (by simp))
  | bl j=>cases ry; exact PySem.EqMixed.eq_str_bool (zAM I q (by simp))
  | int j=>obtain⟨t',rfl⟩:=ry; exact PySem.EqMixed.eq_str_int (zAM I q (by simp))
  | str j=>obtain⟨t',rfl⟩:=ry; exact eq_str (zAM I q zGu)
  | _=>exact absurd (show false=true from hs) Bool.false_ne_true
 | byt i =>
  obtain⟨t,rfl⟩:=rx
  cases y with
  | byt j=>obtain⟨t',rfl⟩:=ry; exact PySem.W.eq_bytes (zAM I q zHQ)
  | _=>exact absurd (show false=true from hs) Bool.false_ne_true
 | _=>cases y <;> exact absurd (show false=true from hs) Bool.false_ne_true
theorem zO2:OpR X (compareOp .NotEq) rNe:=by
 intro pins s σ H x y v u Q I rx ry h
 obtain⟨hs,q⟩:=h
 cases x with
 | non =>
  cases rx
  cases y with
  | non=>cases ry; exact PySem.EqNone.ne_none_none (zAM I q (by simp))
  | bl j=>cases ry; exact PySem.EqNone.ne_none_bool (zAM I q (by simp))
  | int j=>obtain⟨t',rfl⟩:=ry; exact PySem.EqNone.ne_none_int (zAM I q (by simp))
  | str j=>obtain⟨t',rfl⟩:=ry; exact PySem.EqNone.ne_none_str (zAM I q (by simp))
  | _=>exact absurd (show false=true from hs) Bool.false_ne_true
 | bl i =>
  cases rx
  cases y with
  | non=>cases ry; exact PySem.EqNone.ne_bool_none (zAM I q (by simp))
  | bl j=>cases ry; exact ne_bool (zAM I q (congrArg not zJj))
  | str j=>obtain⟨t',rfl⟩:=ry; exact PySem.EqMixed.ne_bool_str (zAM I q (by simp))
  | _=>exact absurd (show false=true from hs) Bool.false_ne_true
 | int i =>
  obtain⟨t,rfl⟩:=rx
  cases y with
  | non=>cases ry; exact PySem.EqNone.ne_int_none (zAM I q (by simp))
  | int j=>obtain⟨t',rfl⟩:=ry; exact ne_int (zAM I q (congrArg not zHV))
  | str j=>obtain⟨t',rfl⟩:=ry; exact PySem.EqMixed.ne_int_str (zAM I q (by simp))
  | _=>exact absurd (show false=true from hs) Bool.false_ne_true
 | str i =>
  obtain⟨t,rfl⟩:=rx
  cases y with
  | non=>cases ry; exact PySem.EqNone.ne_str_none (zAM I q (by simp))
  | bl j=>cases ry; exact PySem.EqMixed.ne_str_bool (zAM I q (by simp))
  | int j=>obtain⟨t',rfl⟩:=ry; exact PySem.EqMixed.ne_str_int (zAM I q (by simp))
  | str j=>obtain⟨t',rfl⟩:=ry; exact ne_str (zAM I q (congrArg not zGu))
  | _=>exact absurd (show false=true from hs) Bool.false_ne_true
 | byt i =>
  obtain⟨t,rfl⟩:=rx
  cases y with
  | byt j=>obtain⟨t',rfl⟩:=ry; exact PySem.W.ne_bytes (zAM I q (congrArg not zHQ))
  | _=>exact absurd (show false=true from hs) Bool.false_ne_true
 | _=>cases y <;> exact absurd (show false=true from hs) Bool.false_ne_true
theorem zOY:OpR X (compareOp .Lt) (rI0 fun i j=>.bl (decide (i < j))):=opB0 fun _ _ _ _ _ _ _ q=>lt_int q
theorem zOf:OpR X (compareOp .Gt) (rI0 fun i j=>.bl (decide (j < i))):=opB0 fun _ _ _ _ _ _ _ q=>gt_int q
theorem zOd:OpR X (compareOp .GtE) (rI0 fun i j=>.bl (decide (j<=i))):=opB0 fun _ _ _ _ _ _ _ q=>ge_int q
theorem OpR.or{f:Value->Value->Sem Value}{r r':R2}(h:OpR X f r)(h':OpR X f r'):OpR X f (fun x y H Q=>r x y H Q\/r' x y H Q):=by
 intro pins s σ H x y v u Q I rx ry q
 rcases q with q | q
 ·exact h pins s σ H x y v u Q I rx ry q
 ·exact h' pins s σ H x y v u Q I rx ry q
theorem nomark(b:Expr){op:CmpOp}(h:op≠.In:=by decide)(h2:op≠.NotIn:=by decide):behindInMarks op b=false:=by
 have e1:(op == CmpOp.In)=false:=by cases op <;> first | rfl | exact absurd rfl h
 have e2:(op == CmpOp.NotIn)=false:=by cases op <;> first | rfl | exact absurd rfl h2
 cases b <;> simp[behindInMarks,e1,e2]
theorem zLY{op:CmpOp}{r:R2}(ho:OpR X (compareOp op) r)(ha:PE X a ta)(hb:PE X b tb)(hm:behindInMarks op b=false):PE X (.Compare a [op] [b] pos) (tOp r ta tb):=by
 intro pins s σ H Q I h
 exact wpAny_Compare1 (binT ha hb I h fun v u s2 x y H2 I2 rx ry q=>ho pins s2 σ H2 x y v u Q I2 rx ry q) hm
def tTest(t:TE):TT:=fun σ H Q=>t σ H fun x H'=>∃ k,x=.bl k/\Q k H'
theorem zLa{op:CmpOp}{r:R2}(ho:OpR X (compareOp op) r)(ha:PE X a ta)(hb:PE X b tb)(hm:behindInMarks op b=false):PT X (.Compare a [op] [b] pos) (tTest (tOp r ta tb)):=by
 intro pins s σ H Q I h
 refine wpAny_isTrue_Compare1 (thn (ha pins s σ H _ I h) fun v s1 ⟨x,H1,I1,r1,q1⟩=>thn (hb pins s1 σ H1 _ I1 q1) fun u s2 ⟨y,H2,I2,r2,q2⟩ =>
  thn (ho pins s2 σ H2 x y v u _ I2 r1 r2 q2) fun c s3 ⟨z,H3,I3,r3,k,e,q3⟩=>?_) hm
 subst e
 cases r3
 exact wpAny_truthy_bool ⟨H3,I3,q3⟩
def TruV(K:PySem.W.Frag)(x:V)(H:Hp)(k:Bool):Prop :=
 match x with
 | .non=>k=false
 | .bl b=>k=b
 | .int i=>k=(i != 0)
 | .str y=>y.length<=sizeLine/\k=((y.length:Int) != 0)
 | .byt y=>y.size<=sizeLine/\k=((y.size:Int) != 0)
 | .ref p=>(∃ xs,SqL K H p xs/\k=!xs.isEmpty)\/(∃ xs,SqT K H p xs/\k=!xs.isEmpty)\/∃ kvs,H p=some (.dK kvs)/\k=!kvs.isEmpty
 | _=>False
theorem zII{κ:Type}{kvs:List (κ×V)}{vs:List (κ×Value)}(r:KV kvs vs):(!vs.isEmpty)=!kvs.isEmpty:=by
 cases r <;> rfl
theorem zD3{xs:List V}{its:List Value}(r:Vals xs its):(!its.toArray.isEmpty)=!xs.isEmpty:=by
 cases r <;> simp
theorem line63:(sizeLine:Nat) < 2 ^ 63:=by rw[sizeLine_eq]; decide
theorem zNz:TruR X (fun x H Q=>∃ k,TruV X.K x H k/\Q k H):=by
 intro pins s σ H x v Q I rx h
 obtain⟨k,e,q⟩:=h
 have hl:=line63
 have hs:sizeLine=16777216:=sizeLine_eq
 cases x with
 | non =>
  cases rx
  have e':k=false:=e
  subst e'
  exact truthy_none ⟨H,I,q⟩
 | bl b =>
  cases rx
  have e':k=b:=e
  subst e'
  exact wpAny_truthy_bool ⟨H,I,q⟩
 | int i =>
  obtain⟨t,rfl⟩:=rx
  have e':k=(i != 0):=e
  subst e'
  exact PySem.P.truthy_int ⟨H,I,q⟩
 | str y =>
  obtain⟨t,rfl⟩:=rx
  obtain⟨hy,e'⟩:y.length<=sizeLine/\k=((y.length:Int) != 0):=e
  subst e'
  exact PySem.P.truthy_str (by omega) ⟨H,I.tok _,q⟩
 | byt y =>
  obtain⟨t,rfl⟩:=rx
  obtain⟨hy,e'⟩:y.size<=sizeLine/\k=((y.size:Int) != 0):=e
  subst e'
  exact PySem.W.truthy_bytes (by omega) ⟨H,I.tok _,q⟩
 | ref p =>
  cases rx
  have e':(∃ xs,SqL X.K H p xs/\k=!xs.isEmpty)\/(∃ xs,SqT X.K H p xs/\k=!xs.isEmpty)\/∃ kvs,H p=some (.dK kvs)/\k=!kvs.isEmpty:=e
  rcases e' with ⟨xs,hx,e'⟩ | ⟨xs,hx,e'⟩ | ⟨kvs,hx,e'⟩
  ·subst e'
   obtain⟨its,r,pl,hz⟩:=I.list hx
   have hlen:=r.length
   exact wpAny_truthy_list pl.isList (by simp only[List.size_toArray]; omega) ⟨H,I.tok _,by rw[zD3 r]; exact q⟩
  ·subst e'
   obtain⟨its,r,pl,hz⟩:=I.tuple hx
   have hlen:=r.length
   exact truthy_tuple pl (by simp only[List.size_toArray]; omega) ⟨H,I.tok _,by rw[zD3 r]; exact q⟩
  ·subst e'
   obtain⟨hz,hS,vs,r,m⟩:kvs.length<=sizeLine/\(p == sysModules)=false/\∃ vs,KV kvs vs/\s.heap.DictOf (mixKind X.prog X.w) p vs:=I.hok p _ hx
   have hlen:kvs.length=vs.length:=Paired.length r
   exact wpAny_truthy_dict hS m (by omega) ⟨H,I.tok _,by rw[zII r]; exact q⟩
 | _=>exact (show False from e).elim
theorem zLN(ha:PE X a ta)(he:∀ whole,isTrue a X.env whole=(do let v ← whole; standAt a.pos; holding [v] (truthy v))) :
  PT X a (fun σ H Q=>ta σ H fun x H'=>∃ k,TruV X.K x H' k/\Q k H'):=by
 intro pins s σ H Q I h
 exact isTrue_plain (thn (ha pins s σ H _ I h) fun v s1 ⟨x,H1,I1,r1,q1⟩=>zNz pins s1 σ H1 x v Q I1 r1 q1) (he _)
theorem zH2:OpR X (binaryOp .Add) (fun x y H Q=>∃ i j,x=.str i/\y=.str j/\i.length+j.length<=sizeLine/\Q (.str (i++j)) H):=by
 intro pins s σ H x y v u Q I rx ry h
 obtain⟨i,j,rfl,rfl,hz,q⟩:=h
 obtain⟨t,rfl⟩:=rx
 obtain⟨t',rfl⟩:=ry
 exact add_str (fun t' tk=>⟨.str (i++j),H,I.tok _,⟨_,rfl⟩,q⟩) hz
theorem vals1{x:V}{us:List Value}(r:Vals [x] us):∃ u,us=[u]/\RelV x u:=by
 cases r with
 | cons r1 r2=>cases r2; exact⟨_,rfl,r1⟩
theorem vals2{x y:V}{us:List Value}(r:Vals [x,y] us):∃ u w',us=[u,w']/\RelV x u/\RelV y w':=by
 cases r with
 | cons r1 r2 =>
  cases r2 with
  | cons r3 r4=>cases r4; exact⟨_,_,rfl,r1,r3⟩
theorem zJH(hc:X.calm=true):CallR X (.builtin "max") (fun xs H Q=>∃ i j,xs=[.int i,.int j]/\Q (.int (if j > i then j else i)) H):=by
 intro pins s σ H xs us Q I r h
 obtain⟨i,j,rfl,q⟩:=h
 obtain⟨u,w',rfl,⟨t,rfl⟩,⟨t',rfl⟩⟩:=vals2 r
 refine max_two_ints (I.ok.hd hc) fun h' tk k=>⟨_,H,I.kept k,?_,q⟩
 by_cases hj:j > i
 ·rw[if_pos hj,if_pos hj]; exact⟨_,rfl⟩
 ·rw[if_neg hj,if_neg hj]; exact⟨_,rfl⟩
theorem zJW:CallR X (.type "int") (fun xs H Q=>(∃ i,xs=[.int i]/\Q (.int i) H)\/∃ k,xs=[.bl k]/\Q (.int (if k then 1 else 0)) H):=by
 intro pins s σ H xs us Q I r h
 rcases h with ⟨i,rfl,q⟩ | ⟨k,rfl,q⟩
 ·obtain⟨u,rfl,t,rfl⟩:=vals1 r
  exact call_int_int ⟨.int i,H,I,⟨_,rfl⟩,q⟩
 ·obtain⟨u,rfl,r1⟩:=vals1 r
  cases r1
  exact call_int_bool ⟨.int (if k then 1 else 0),H,I.tok _,⟨_,rfl⟩,q⟩
end
theorem RelO.some_of{v:V}{o:Option Value}(r:RelO (some v) o):∃ u,o=some u/\RelV v u:=by
 cases o with
 | none=>exact (show False from r).elim
 | some u=>exact⟨u,rfl,r⟩
structure Room(k:Nat)(A:Around):Prop where
 hd:A.handled=none
 dp:A.depth+3 * k+5 < recursionLimit
 un:A.units+16 * k+200 < cLine
 gd:A.guards=some []
theorem Room.mono{j k:Nat}{A:Around}(r:Room k A)(h:j<=k):Room j A:=⟨r.hd,by have:=r.dp; omega,by have:=r.un; omega,r.gd⟩
theorem Room.deeper{k:Nat}{A:Around}(r:Room (k+1) A)(env:Env):Room k (A.deeper env) :=
 ⟨r.hd,by have:=r.dp; show A.depth+1+3 * k+5 < _; omega,by have:=r.un; show A.units+3+16 * k+200 < _; omega,r.gd⟩
theorem Room.depth{k:Nat}{A:Around}(r:Room k A):A.depth < recursionLimit:=by have:=r.dp; omega
def tNil:TA:=fun _ H Q=>Q [] H
def tCons(ta:TE)(tr:TA):TA:=fun σ H Q=>ta σ H fun x H1=>tr σ H1 fun xs H2=>Q (x::xs) H2
section
variable {X:Cx}{e:Expr}{es:List Expr}{te:TE}{t:TA}{pos:Pos}
theorem zDx:PA X [] tNil:=fun _ _ _ _ H Q I h=>Calls.spliced_nil ⟨[],H,I,.nil,h⟩
theorem zB3(ha:PE X e te)(hr:PA X es t)(hs:starEach (e::es) X.env=(false,eval e X.env)::starEach es X.env:=by rfl):PA X (e::es) (tCons te t):=by
 intro pos pins s σ H Q I h
 rw[hs]
 show wpAny _ _ (spliced ((false,eval e X.env)::backTo pos (starEach es X.env))) _ _ s
 refine Calls.spliced_cons (thn (ha pins s σ H _ I h) fun u s1 ⟨x,H1,I1,r1,q1⟩=>?_)
 exact thn (hr pos pins s1 σ H1 _ I1 q1) fun us s2 ⟨xs,H2,I2,r2,q2⟩=>⟨x::xs,H2,I2,.cons r1 r2,q2⟩
def tTup(t:TA):TE:=fun σ H Q=>t σ H fun xs H1=>xs.length<=sizeLine/\∀ p,H1 p=none->Q (.ref p) (upd H1 p (.tup xs))
def tLst(t:TA):TE:=fun σ H Q=>t σ H fun xs H1=>xs.length<=sizeLine/\∀ p,H1 p=none->Q (.ref p) (upd H1 p (.lst xs))
theorem zM3{x1}(h:PA X es t):PE X (.Tuple es x1 pos) (tTup t):=by
 intro pins s σ H Q I hq
 refine wpAny_Tuple_spliced (thn (h pos pins s σ H _ I hq) fun us s1 ⟨xs,H1,I1,r,z,q⟩=>⟨by rw[← r.length]; exact z,?_⟩)
 have hf:H1 s1.heap.objs.size=none:=I1.hok.fresh (Nat.le_refl _)
 refine⟨.ref s1.heap.objs.size,upd H1 s1.heap.objs.size (.tup xs),I1.laid (t':=s1.toks) (fun b u e=>Heap.get?_push_of_some _ e) (Nat.le_refl _) ?_,rfl,q _ hf⟩
 exact⟨z,us,r,⟨_,Heap.get?_push_size _ rfl,rfl,⟨_,rfl⟩,rfl⟩⟩
theorem zNh(h:PA X es t):PE X (.List es pos) (tLst t):=by
 intro pins s σ H Q I hq
 refine wpAny_List_spliced (thn (h pos pins s σ H _ I hq) fun us s1 ⟨xs,H1,I1,r,z,q⟩=>⟨by rw[← r.length]; exact z,?_⟩)
 have hf:H1 s1.heap.objs.size=none:=I1.hok.fresh (Nat.le_refl _)
 refine⟨.ref s1.heap.objs.size,upd H1 s1.heap.objs.size (.lst xs),I1.laid (t':=s1.toks) (fun b u e=>Heap.get?_push_of_some _ e) (Nat.le_refl _) ?_,rfl,q _ hf⟩
 exact⟨z,us,0,r,Heap.get?_push_size _ rfl⟩
end
abbrev Sp:=List V->Hp->VK->XK->Prop
abbrev CXT:=List Env->Hp->Shared->XK->Value->Shared->Prop
structure Env0(P:Program)(w:World)(K:PySem.W.Frag)(mg:Str->Option Value)(base:Heap)(A:Around)(outer:List Env)(s:Shared)(H:Hp):Prop where
 frames:A.frames=some outer
 mod:Mod K mg base
 bs:∀ b o,base.get? b=some o->s.heap.get? b=some o/\H b=none
 bsz:base.objs.size<=s.heap.objs.size
 funs:s.heap.FunFrames base outer
 frf:∀ b∈frs outer,H b=none
 hok:HOk P w H s.heap
 bare:AllBare s.gens
def CE(outer:List Env)(P:Program)(w:World)(H:Hp)(s:Shared)(Q:VK)(u:Value)(s':Shared):Prop :=
 ∃ v H',s'.os=s.os/\AllBare s'.gens/\Un (frs outer) [] H H' s.heap s'.heap/\HOk P w H' s'.heap/\RelV v u/\Q v H'
def CR(CX:CXT)(outer:List Env)(P:Program)(w:World)(H:Hp)(s:Shared)(Q:VK)(E:XK)(r:Result)(s':Shared):Prop :=
 match r with
 | .ok (.ret u)=>CE outer P w H s Q u s'
 | .ok _=>False
 | .error e=>CX outer H s E e s'
structure FnOk(P:Program)(w:World)(K:PySem.W.Frag)(mg:Str->Option Value)(base:Heap)(CX:CXT)(k:Nat)(f:Addr)(fd:FuncData)(ps:List Str)(sp:Sp):Prop where
 len:∀ vs H Q E,sp vs H Q E->vs.length=ps.length
 run:∀ (A:Around) (outer:List Env) (s:Shared) (H:Hp) (args:Args) (us:List Value) (vs:List V) (Q:VK) (E:XK),Room k A->Env0 P w K mg base A outer s H->BindsTo s fd args (ps.zip us)->Vals vs us->sp vs H Q E ->
  codeAny (model P w) A (.call (.ref f) args) (CR CX outer P w H s Q E) s
theorem FnOk.mono{P:Program}{w:World}{K:PySem.W.Frag}{mg:Str->Option Value}{base:Heap}{CX:CXT}{j k:Nat}{f:Addr}{fd:FuncData}{ps:List Str}{sp:Sp}(F:FnOk P w K mg base CX j f fd ps sp)(h:j<=k) :
  FnOk P w K mg base CX k f fd ps sp:=⟨F.len,fun A outer s H args us vs Q E hr=>F.run A outer s H args us vs Q E (hr.mono h)⟩
section
variable {X:Cx}{pins:List (Addr×Obj)}{σ:St}{H:Hp}{s s':Shared}
theorem Inv.env0(I:Inv X pins σ H s):Env0 X.prog X.w X.K X.mg X.base X.A X.stack s H :=
 ⟨I.ok.frames,I.ok.mod,I.bs,Nat.le_trans I.ok.bsz I.sz,I.stack,I.stkFree,I.hok,I.bare⟩
theorem Inv.after{Q:VK}{u:Value}(I:Inv X pins σ H s)(h:CE X.stack X.prog X.w H s Q u s'):EP X pins σ Q u s':=by
 obtain⟨v,H',os,bare,un,hok,r,q⟩:=h
 obtain⟨hh,g,d,t,os'⟩:=s'
 obtain rfl:os'=s.os:=os
 exact⟨v,H',I.call (h':=hh) (g':=g) (d':=d) (t':=t) (ch:=[]) un hok bare (fun b z=>absurd z (by simp)),r,q⟩
end
def tCall(sp:Sp)(dvs:List V)(E:XK)(t:TA):TE:=fun σ H Q=>t σ H fun vs H1=>sp (vs++dvs) H1 Q E
def Binds(K:PySem.W.Frag)(fd:FuncData)(ps:List Str)(ds:List Value):Prop :=
 ∀ (s:Shared) (us:List Value),K.In s.heap->(us++ds).length=ps.length->BindsTo s fd ⟨us,[]⟩ (ps.zip (us++ds))
theorem Binds.all{K:PySem.W.Frag}{fd:FuncData}{ps:List Str}(h:∀ us:List Value,us.length=ps.length->bindArgs fd ⟨us,[]⟩=pure (ps.zip us)):Binds K fd ps []:=fun s us _ hl=>by
 rw[List.append_nil]at hl ⊢
 exact .of_eq (h us hl)
def Passes(CX:CXT)(X:Cx)(E:XK):Prop:=∀ (pins:List (Addr×Obj)) (σ:St) (H:Hp) (s:Shared) (e:Value) (s':Shared),Inv X pins σ H s->CX X.stack H s E e s'->X.xe e s'
section
variable {X:Cx}{CX:CXT}{k:Nat}{f C:Addr}{fd:FuncData}{ps:List Str}{sp:Sp}{dvs:List V}{ds:List Value}{E:XK}{x m:Str}{p pos apos:Pos}{e o:Expr}{es:List Expr}{ta:TE}{t:TA}
theorem zIy{pins:List (Addr×Obj)}{σ:St}{H:Hp}{s:Shared}{Q:VK}{us:List Value}{vs:List V}(F:FnOk X.prog X.w X.K X.mg X.base CX k f fd ps sp)(hr:Room k X.A)(hb:Binds X.K fd ps ds)(hd:Vals dvs ds)(hx:Passes CX X E)
  (I:Inv X pins σ H s) (r:Vals vs us) (h:sp (vs++dvs) H Q E):wpAny (model X.prog X.w) X.A (call (.ref f) us) (EP X pins σ Q) X.xe s:=by
 have r2:Vals (vs++dvs) (us++ds):=r.append hd
 have hl:(us++ds).length=ps.length:=by rw[← r2.length]; exact F.len _ _ _ _ h
 refine wpAny_call (codeAny_mono (F.run X.A X.stack s H ⟨us,[]⟩ (us++ds) (vs++dvs) Q E hr I.env0 (hb s us I.kIn hl) r2 h) fun r s' hq=>?_)
 cases r with
 | error e=>exact hx pins σ H s e s' I hq
 | ok fl =>
  cases fl with
  | ret u=>exact I.after hq
  | next=>exact False.elim hq
  | brk=>exact False.elim hq
  | cont=>exact False.elim hq
theorem zLq(F:FnOk X.prog X.w X.K X.mg X.base CX k f fd ps sp)(hr:Room k X.A)(hg:Gl X x)(hm:X.mg x=some (.ref f))(hk:PySem.W.keepIn X.K (.ref f)=true)(hb:Binds X.K fd ps ds)(hd:Vals dvs ds)(hx:Passes CX X E)
  (ha:PA X (e::es) t) (hdb:(x == ("__debug__":Str))=false:=by decide) (he:starEach (e::es) X.env=(false,eval e X.env)::starEach es X.env:=by rfl) (hpl:(backTo pos (starEach es X.env)).any (·.1)=false:=by rfl) :
  PE X (.Call (.Name x p) (e::es) [] pos) (tCall sp dvs E t):=by
 intro pins s σ H Q I h
 refine wpAny_Call_Name_kw (zD8 I hg hm ?_ hdb)
 refine PySem.W.callWith_K (h₀:=X.base) I.ok.mod.kin hk (thn (ha pos pins s σ H _ I h) fun us s1 ⟨vs,H1,I1,r,q⟩=>⟨I1.kIn,?_⟩) he hpl
 exact zIy F hr hb hd hx I1 r q
structure Mk(K:PySem.W.Frag)(C f:Addr):Prop where
 makes:PySem.W.makesIn K C=true
 init:PySem.W.findIn K (.ref C) "__init__"=some (some (.ref f))
 fn:PySem.W.isFn K (.ref f)=true
 kp:PySem.W.keepIn K (.ref C)=true
end
structure FnScope(N P:List Str)(sc:Scope):Prop where
 kind:sc.kind=.function
 co:sc.isCoroutine=false
 gen:sc.isGenerator=false
 nd:N.Nodup
 pre:N.take P.length=P
 par:∀ x∈P,sc.names.lookup x=some .local\/sc.names.lookup x=some .cell
 nofree:∀ y∈sc.names,y.2≠.free
theorem zEr{kindOf:Str->Option NameKind}{x:Str}:∀ {binds:List (Str×Value)} {m:Str->Option Value},(∀ v,(x,v)∉binds)->bindL kindOf binds m x=m x
 | [],_,_=>rfl
 | (n,v)::r,m,h=>by
  unfold bindL
  rw[zEr fun w hw=>h w (List.mem_cons_of_mem _ hw)]
  split
  ·have:x≠n:=by rintro rfl; exact h v List.mem_cons_self
   simp[this]
  ·rfl
theorem zEi{kindOf:Str->Option NameKind}{x:Str}:∀ {binds:List (Str×Value)} {m:Str->Option Value},(∀ v,(x,v)∉binds)->bindC kindOf binds m x=m x
 | [],_,_=>rfl
 | (n,v)::r,m,h=>by
  unfold bindC
  rw[zEi fun w hw=>h w (List.mem_cons_of_mem _ hw)]
  split
  ·rfl
  ·have:x≠n:=by rintro rfl; exact h v List.mem_cons_self
   simp[this]
theorem zEh{kindOf:Str->Option NameKind}{x:Str}{v:Value}:∀ {P:List Str} {vs:List Value} {i:Nat} {m:Str->Option Value},P.Nodup->P[i]?=some x->vs[i]?=some v->kindOf x=some .local ->
  bindL kindOf (P.zip vs) m x=some v
 | [],_,_,_,_,h,_,_=>by simp at h
 | _::_,[],_,_,_,_,h,_=>by simp at h
 | p::P,w::vs,0,m,nd,h1,h2,hk=>by
  simp at h1 h2; subst h1; subst h2
  show bindL kindOf ((p,w)::P.zip vs) m p=_
  unfold bindL
  rw[zEr fun v hv=>(List.nodup_cons.mp nd).1 (List.of_mem_zip hv).1,if_pos hk]
  simp
 | p::P,w::vs,i+1,m,nd,h1,h2,hk=>by
  show bindL kindOf ((p,w)::P.zip vs) m x=_
  unfold bindL
  exact zEh (i:=i) (List.nodup_cons.mp nd).2 (by simpa using h1) (by simpa using h2) hk
theorem zEa{kindOf:Str->Option NameKind}{x:Str}{v:Value}:∀ {P:List Str} {vs:List Value} {i:Nat} {m:Str->Option Value},P.Nodup->P[i]?=some x->vs[i]?=some v->kindOf x≠some .local ->
  bindC kindOf (P.zip vs) m x=some v
 | [],_,_,_,_,h,_,_=>by simp at h
 | _::_,[],_,_,_,_,h,_=>by simp at h
 | p::P,w::vs,0,m,nd,h1,h2,hk=>by
  simp at h1 h2; subst h1; subst h2
  show bindC kindOf ((p,w)::P.zip vs) m p=_
  unfold bindC
  rw[zEi fun v hv=>(List.nodup_cons.mp nd).1 (List.of_mem_zip hv).1,if_neg hk]
  simp
 | p::P,w::vs,i+1,m,nd,h1,h2,hk=>by
  show bindC kindOf ((p,w)::P.zip vs) m x=_
  unfold bindC
  exact zEa (i:=i) (List.nodup_cons.mp nd).2 (by simpa using h1) (by simpa using h2) hk
def start(N:List Str)(vs:List V):St:=vs.map some++List.replicate (N.length - vs.length) none
def cxOf(CX:CXT)(P:Program)(w:World)(K:PySem.W.Frag)(mg:Str->Option Value)(base:Heap)(N:List Str)(qual:Str)(scope:Scope)(f:Addr)(cd:Value)(A:Around)(outer:List Env)(s:Shared)(H:Hp)(E:XK):Cx where
 prog:=P
 w:=w
 K:=K
 mg:=mg
 base:=base
 A:=A.deeper (envOfC qual scope s.heap.objs.size f cd)
 N:=N
 s₀:=s
 H₀:=H
 env:=envOfC qual scope s.heap.objs.size f cd
 outer:=outer
 stack:=envOfC qual scope s.heap.objs.size f cd::outer
 ex:=[]
 calm:=true
 fn:=fun _=>true
 pn:=[]
 xe:=fun e s'=>wpAny (model P w) (A.deeper (envOfC qual scope s.heap.objs.size f cd)) (leaving (envOfC qual scope s.heap.objs.size f cd) e) (fun _ s''=>CX outer H s E e s'') (fun e' s''=>CX outer H s E e' s'') s'
theorem zFn{sc:Scope}{n:Nat}{x:Str}(h:sc.names.lookup x=some .cell):∃ c,(cellsFrom n sc.names []).lookup x=some c:=by
 have q:=PySem.W.cellsFrom_some sc.names n [] (.inl h)
 exact Option.isSome_iff_exists.mp q
theorem zIX{CX:CXT}{P:Program}{w:World}{K:PySem.W.Frag}{mg:Str->Option Value}{base:Heap}{N ps:List Str}{qual:Str}{scope:Scope}{f:Addr}{cd:Value}{A:Around}{outer:List Env}{s s1:Shared}{H:Hp}{E:XK}{us:List Value}{vs:List V}
  (S:FnScope N ps scope) (hd:A.handled=none) (e0:Env0 P w K mg base A outer s H) (hl:vs.length=ps.length) (r:Vals vs us)
  (x:InCallC s s.heap.objs.size (bindL (envOfC qual scope s.heap.objs.size f cd).kindOf (ps.zip us) fun _=>none) (cellsFrom (s.heap.objs.size+1) scope.names []) (bindC (envOfC qual scope s.heap.objs.size f cd).kindOf (ps.zip us) fun _=>none) s1) :
  Inv (cxOf CX P w K mg base N qual scope f cd A outer s H E) [] (start N vs) H s1:=by
 have hpl:ps.length<=N.length:=by have:=congrArg List.length S.pre; rw[List.length_take]at this; omega
 obtain⟨h1,tk,rfl,hk⟩:=x.done
 have noA:∀ b:Addr,b∉(cxOf CX P w K mg base N qual scope f cd A outer s H E).ex:=fun b z=>absurd (show b∈([]:List Addr) from z) (by simp)
 refine⟨⟨e0.mod,S.kind,rfl,rfl,Nat.le_refl _,fun y z c h1 h2=>?_,fun y hy=>?_,fun y c _ h=>?_,fun _=>hd,Around.frames_deeper e0.frames,.inr ⟨rfl,rfl⟩,fun b z=>absurd z (noA b),e0.bs,e0.bsz,fun b _ _=>noA b,fun b z=>absurd z (noA b),e0.funs,e0.frf⟩,
  rfl,e0.bare,Un.kept hk,⟨_,x.toInCall.ns,fun i y v h1 h2 h3=>?_⟩,fun y c h=>⟨_,x.cell y c h⟩,e0.hok.fresh (Nat.le_refl _),fun y c h=>?_,fun p hp=>absurd (show p∈([]:List (Addr×Obj)) from hp) (by simp),e0.hok.kept hk,?_⟩
 ·exact name_of_addr x.apart (PySem.mem_of_lookup h1) (PySem.mem_of_lookup h2)
 ·have hy:scope.names.lookup y=some .cell\/scope.names.lookup y=some .free:=hy
  rcases hy with hy | hy
  ·exact zFn hy
  ·exact absurd rfl (S.nofree _ (PySem.mem_of_lookup hy))
 ·exact Nat.le_of_lt (x.above y c (PySem.mem_of_lookup h))
 ·have hi:i < vs.length:=by
   unfold start at h2
   by_cases hi:i < vs.length
   ·exact hi
   ·rw[List.getElem?_append_right (by simpa using hi)]at h2
    rw[List.getElem?_replicate]at h2
    split at h2 <;> cases h2
  have ha:vs[i]?=some v:=by
   unfold start at h2
   rw[List.getElem?_append_left (by simpa using hi),List.getElem?_map]at h2
   cases e:vs[i]? with
   | none=>rw[e]at h2; cases h2
   | some a=>rw[e]at h2; cases h2; rfl
  obtain⟨u,hu,rv⟩:=r.get ha
  have hp:ps[i]?=some y:=by
   rw[← S.pre,List.getElem?_take_of_lt (by omega)]; exact h1
  have ndP:ps.Nodup:=by rw[← S.pre]; exact S.nd.sublist (List.take_sublist _ _)
  refine⟨u,rv,?_⟩
  rcases S.par y (List.mem_of_getElem? hp) with k | k
  ·exact .inl ⟨k,zEh ndP hp hu k⟩
  ·obtain⟨c,e⟩:=zFn (n:=s.heap.objs.size+1) k
   refine .inr ⟨.inl k,c,e,?_⟩
   have q:=x.cell y c e
   rw[zEa ndP hp hu (by show scope.names.lookup y≠_; rw[k]; decide)]at q
   exact q
 ·exact e0.hok.fresh (Nat.le_of_lt (x.above y c (PySem.mem_of_lookup h)))
 ·unfold start
  show _=N.length
  rw[List.length_append,List.length_map,List.length_replicate]
  omega
theorem zLU{CX:CXT}{P:Program}{w:World}{K:PySem.W.Frag}{mg:Str->Option Value}{base:Heap}{k:Nat}{f:Addr}{name qual:Str}{params:Arguments}{body:List Stmt}{scope:Scope}{dV kV doc pm cdv ct oc:Value}{an od:Option Addr}
  {osl:Array (Option Value)} {N ps:List Str} {sp:Sp} (lk:K.lookup f=some ⟨oc,od,.func (PySem.W.fnOf name qual params body scope dV kV doc pm an cdv ct),osl⟩) (hcd:PySem.W.codeIn K cdv qual=true) (S:FnScope N ps scope)
  (len:∀ vs H Q E,sp vs H Q E->vs.length=ps.length)
  (hbody:∀ (A:Around) (outer:List Env) (s:Shared) (H:Hp) (vs:List V) (Q:VK) (E:XK),Room k (A.deeper (envOfC qual scope s.heap.objs.size f cdv))->sp vs H Q E ->
   ∃ t,PSs (cxOf CX P w K mg base N qual scope f cdv A outer s H E) body t/\t { nx:=fun _ H'=>Q .non H',rt:=Q } (start N vs) H) :
  FnOk P w K mg base CX (k+1) f (PySem.W.fnOf name qual params body scope dV kV doc pm an cdv ct) ps sp:=by
 refine⟨len,fun A outer s H args us vs Q E hr e0 hb r hsp=>?_⟩
 have hl:=len _ _ _ _ hsp
 have KX:K.In s.heap:=e0.mod.kin.keeps fun b o e=>(e0.bs b o e).1
 have lim:s.heap.NoLimit:=e0.mod.nolimit.keeps fun b o e=>(e0.bs b o e).1
 have hkind:∀ y∈ps.zip us,scope.names.lookup y.1=some .local\/(scope.names.lookup y.1=some .cell/\((cellsFrom (s.heap.objs.size+1) scope.names []).lookup y.1).isSome=true):=fun ⟨n,v⟩ hy=>by
  rcases S.par n (List.of_mem_zip hy).1 with q | q
  ·exact .inl q
  ·exact .inr ⟨q,PySem.W.cellsFrom_some _ _ _ (.inl q)⟩
 refine codeAny_call_function hr.depth (KX _ _ lk) rfl S.co S.gen rfl (PySem.W.codeRec_of KX hcd) (hb _ _ _ _ ?_)
 refine wpAny_newFunctionEnv_cells S.kind hkind fun env he s1 x=>?_
 subst he
 refine⟨lim.keeps x.toInCall.keep,codeAny_func ?_⟩
 obtain⟨t,ht,hq⟩:=hbody A outer s H vs Q E (hr.deeper _) hsp
 have I:Inv (cxOf CX P w K mg base N qual scope f cdv A outer s H E) [] (start N vs) H s1:=zIX S hr.hd e0 hl r x
 refine wpAny_mono (ht [] s1 (start N vs) H _ I hq) (fun fl s' hs=>?_) fun e s' hs=>hs
 have fin:∀ {σ':St} {H':Hp} {v:V} {u:Value},Inv (cxOf CX P w K mg base N qual scope f cdv A outer s H E) [] σ' H' s'->RelV v u->Q v H'->CE outer P w H s Q u s' :=
  fun {σ' H' v u} J rv q=>⟨v,H',J.os,J.bare,J.base,J.hok,rv,q⟩
 cases fl with
 | ret u =>
  obtain⟨v,σ',H',J,rv,q⟩:=hs
  exact fin J rv q
 | next =>
  obtain⟨σ',H',J,q⟩:=hs
  exact fin (v:=V.non) (u:=Value.none) J rfl q
 | brk =>
  obtain⟨_,_,_,q⟩:=hs
  exact False.elim q
 | cont =>
  obtain⟨_,_,_,q⟩:=hs
  exact False.elim q
section
variable {X:Cx}{x:Str}{p pos:Pos}{e:Expr}{es:List Expr}{t:TA}{id T:String}{r:List V->Hp->VK->Prop}
def tCB(r:List V->Hp->VK->Prop)(t:TA):TE:=fun σ H Q=>t σ H fun vs H1=>r vs H1 Q
theorem zKM(hc:CallR X (.builtin id) r)(hg:Gl X x)(hm:X.mg x=none)(hv:bootBuiltins x=some (.builtin id))(ha:PA X (e::es) t)(hn:x≠"__name__":=by decide)(hdb:(x == ("__debug__":Str))=false:=by decide)
  (he:starEach (e::es) X.env=(false,eval e X.env)::starEach es X.env:=by rfl) (hpl:(backTo pos (starEach es X.env)).any (·.1)=false:=by rfl):PE X (.Call (.Name x p) (e::es) [] pos) (tCB r t):=by
 intro pins s σ H Q I h
 refine wpAny_Call_Name_kw (zA4 I hg hm hv ?_ hn hdb)
 exact PyProof.Rows.callWith_builtin1 (thn (ha pos pins s σ H _ I h) fun us s1 ⟨vs,H1,I1,r1,q1⟩=>hc pins s1 σ H1 vs us Q I1 r1 q1) he hpl
theorem zBT(hc:CallR X (.type T) r)(hg:Gl X x)(hm:X.mg x=none)(hv:bootBuiltins x=some (.type T))(ha:PA X (e::es) t)(hn:x≠"__name__":=by decide)(hdb:(x == ("__debug__":Str))=false:=by decide)
  (he:starEach (e::es) X.env=(false,eval e X.env)::starEach es X.env:=by rfl) (hpl:(backTo pos (starEach es X.env)).any (·.1)=false:=by rfl):PE X (.Call (.Name x p) (e::es) [] pos) (tCB r t):=by
 intro pins s σ H Q I h
 refine wpAny_Call_Name_kw (zA4 I hg hm hv ?_ hn hdb)
 exact PyProof.Rows.callWith_type1 (thn (ha pos pins s σ H _ I h) fun us s1 ⟨vs,H1,I1,r1,q1⟩=>hc pins s1 σ H1 vs us Q I1 r1 q1) he hpl
end
end L2
namespace HT
open PySem PyProof.Rows
def lexLt:List Int->List Int->Bool
 | [],[]=>false
 | [],_::_=>true
 | _::_,[]=>false
 | x::xs,y::ys=>if x=y then lexLt xs ys else decide (x < y)
theorem lexLt_cons(x y:Int)(xs ys:List Int):lexLt (x::xs) (y::ys)=if x=y then lexLt xs ys else decide (x < y):=rfl
theorem lexLt_nil_nil:lexLt [] []=false:=rfl
theorem lexLt_nil_cons(y:Int)(ys:List Int):lexLt [] (y::ys)=true:=rfl
theorem lexLt_cons_nil(x:Int)(xs:List Int):lexLt (x::xs) []=false:=rfl
theorem zK2(A:Around)(s:Shared)(a:Int)(t:Tok)(c:Int)(u:Tok):∃ e,SeqAt.EqAt A s (.int a t) (.int c u) e/\(e=true ↔ a=c) :=
 ⟨(a == c),SeqAt.EqAt.int_int a t c u,by simp⟩
theorem zLG(A:Around)(s:Shared)(a:Int)(t:Tok)(c:Int)(u:Tok)(prog:Program)(w:World)(E:Value->Shared->Prop)(Q:Value->Shared->Prop)(h:Q (.bool (decide (a < c))) s) :
  wpAny (model prog w) A (richCompare .Lt (.int a t) (.int c u)) Q E s :=
 (PyProof.Rows.lt_int h:wpAny (model prog w) A (compareOp .Lt (.int a t) (.int c u)) Q E s)
section
open PySem.SeqAt
open PySem.AutoSeq1 (wpAny_loadPart')
open PySem.MeetsSeq PySem.MeetsSeq2 PySem.MeetsSeq3
theorem tuple_lt_ints(l b:Addr)(items items2:Array Value)(n n2:Nat)(dd dd2:Option Addr)(sl sl2:Array (Option Value))(ns ms:List Int)(hi:IntsAre items.toList ns)(hj:IntsAre items2.toList ms) :
  Meets (Builtin.«tuple.__lt__» ⟨[.ref l,.ref b],[]⟩)
   (fun _ R s=>s.heap.get? l=some { cls:=.type "tuple",dict:=dd,data:=.seq items n,slots:=sl }/\s.heap.get? b=some { cls:=.type "tuple",dict:=dd2,data:=.seq items2 n2,slots:=sl2 } /\
    R (.ok (.ret (.bool (lexLt ns ms)))) s) :=
 .of_wp fun prog w A R s h=>by
  obtain⟨hp,g,d,tk,os⟩:=s; obtain⟨hl,hb,h⟩:=h
  have f2:=AutoSeq1.sub_tuple_tuple
  have z1:items.size=ns.length:=by rw[← hi.length]; simp
  have z2:items2.size=ms.length:=by rw[← hj.length]; simp
  wp_walk using wpAny_loadPart' hl,wpAny_loadPart' hb,wpAny_forIn_list _ (fun rest b s'=>b.1=none/\s'=⟨hp,g,d,tk,os⟩/\∃ (vs ws:List Value) (ns' ms':List Int),rest=vs.zip ws /\
   IntsAre vs ns'/\IntsAre ws ms'/\ns'.length+items2.size=ms'.length+items.size/\R (.ok (.ret (.bool (lexLt ns' ms')))) ⟨hp,g,d,tk,os⟩) _
  case turn =>
   rintro ⟨y,x⟩ rest b s' ⟨hb',rfl,vs,ws,ns',ms',hz,hvi,hwi,hlen,hR⟩
   cases hvi with
   | nil=>rw[List.zip_nil_left]at hz; cases hz
   | cons a t hvi' =>
    cases hwi with
    | nil=>rw[List.zip_nil_right]at hz; cases hz
    | cons c u hwi' =>
     rw[List.zip_cons_cons]at hz
     injection hz with hyx hrest
     injection hyx with hy hx
     subst hy hx
     rw[lexLt_cons]at hR
     simp only[List.length_cons]at hlen
     obtain⟨e,he,hiff⟩:=zK2 A.in1 ⟨hp,g,d,tk,os⟩ a t c u
     refine wpAny_bind (he prog w _ _ ?_)
     cases e with
     | true =>
      rw[if_pos (hiff.mp rfl)]at hR
      wp_walk
      exact⟨rfl,rfl,_,_,_,_,hrest,hvi',hwi',by omega,hR⟩
     | false =>
      rw[if_neg (fun q=>absurd (hiff.mpr q) Bool.false_ne_true)]at hR
      have hri:=zLG A.in1 ⟨hp,g,d,tk,os⟩ a t c u prog w
      wp_walk using hri
      exact⟨_,rfl,by simpa using hR⟩
  case fin =>
   rintro ⟨b1,b2⟩ s' ⟨hb',rfl,vs,ws,ns',ms',hz,hvi,hwi,hlen,hR⟩
   simp only at hb'
   subst hb'
   have hv:lexLt ns' ms'=decide (items.size < items2.size):=by
    cases hvi with
    | nil =>
     cases hwi with
     | nil =>
      simp only[List.length_nil]at hlen
      rw[lexLt_nil_nil]
      exact (decide_eq_false (by omega)).symm
     | cons c u hw =>
      simp only[List.length_nil,List.length_cons]at hlen
      rw[lexLt_nil_cons]
      exact (decide_eq_true (by omega)).symm
    | cons a t hv =>
     cases hwi with
     | nil =>
      simp only[List.length_nil,List.length_cons]at hlen
      rw[lexLt_cons_nil]
      exact (decide_eq_false (by omega)).symm
     | cons c u hw =>
      rw[List.zip_cons_cons]at hz
      cases hz
   rw[hv]at hR
   wp_walk
   exact⟨_,rfl,by simpa [Builtin.Tuple.tupleCompareSizes] using hR⟩
  case h =>
   exact⟨rfl,rfl,items.toList,items2.toList,ns,ms,rfl,hi,hj,by omega,h⟩
end
section
variable {prog:Program}{w:World}{A:Around}{E:Value->Shared->Prop}{s:Shared}
theorem lt_tupInts{l b:Addr}{items items2:Array Value}{ns ms:List Int}{Q:Value->Shared->Prop}(hl:IsTup s.heap l items)(hb:IsTup s.heap b items2)(hi:IntsAre items.toList ns)(hj:IntsAre items2.toList ms)
  (hu:A.units < cLine) (h:Q (.bool (lexLt ns ms)) s):wpAny (model prog w) A (compareOp .Lt (.ref l) (.ref b)) Q E s:=by
 obtain⟨⟨cls,dd,data,sl⟩,ho,hc,n,hd⟩:=id hl
 obtain⟨⟨cls2,dd2,data2,sl2⟩,ho2,hc2,n2,hd2⟩:=id hb
 simp only at hc hd hc2 hd2
 subst hc hd hc2 hd2
 exact richCompare_meets_room (op:=.Lt) ⟨_,ho,rfl⟩ ⟨_,ho2,rfl⟩ PySem.F.slot_tuple_lt PySem.F.entry_tuple_lt (PySem.F.args_tuple_lt_2 _ _) (tuple_lt_ints l b items items2 n n2 dd dd2 sl sl2 ns ms hi hj)
  ⟨ho,ho2,show Value.bool (lexLt ns ms)≠Value.notImplemented/\Q (.bool (lexLt ns ms)) s from ⟨(fun x=>nomatch x),h⟩⟩ hu
theorem cat_tup{t b:Addr}{vs ws:List Value}{Q:Value->Shared->Prop}(ht:IsTup s.heap t vs.toArray)(hb:IsTup s.heap b ws.toArray)(hv:vs≠[])
  (h1:ws=[]->Q (.ref t) s) (h2:ws≠[]->Q (.ref s.heap.objs.size) { s with heap:=s.heap.push { cls:=.type "tuple",data:=.seq (vs++ws).toArray } })
  (hsz:vs.length+ws.length<=sizeLine):wpAny (model prog w) A (binaryOp .Add (.ref t) (.ref b)) Q E s:=by
 obtain⟨⟨cls,dd,data,sl⟩,ho,hc,n,hd⟩:=id ht
 obtain⟨⟨cls2,dd2,data2,sl2⟩,ho2,hc2,n2,hd2⟩:=id hb
 simp only at hc hd hc2 hd2
 subst hc hd hc2 hd2
 have e:vs.toArray++ws.toArray=(vs++ws).toArray:=by simp
 by_cases hw:ws=[]
 ·exact concat_meets ⟨_,ho,rfl⟩ ⟨_,ho2,rfl⟩ noFill_tuple_add seq_tuple_add PySem.F.slot_tuple_add PySem.F.entry_tuple_add (PySem.F.args_tuple_add_2 _ _)
   (tuple_addW1 t b vs.toArray ws.toArray n n2 dd dd2 sl sl2 (by simpa using hv) (by simp[hw])) ⟨ho,ho2,h1 hw⟩
 ·refine concat_meets ⟨_,ho,rfl⟩ ⟨_,ho2,rfl⟩ noFill_tuple_add seq_tuple_add PySem.F.slot_tuple_add PySem.F.entry_tuple_add (PySem.F.args_tuple_add_2 _ _)
   (tuple_addW2 t b vs.toArray ws.toArray n n2 dd dd2 sl sl2 (by simpa using hv) (by simpa using hw) (by rw[List.size_toArray,List.size_toArray]; exact hsz)) ⟨ho,ho2,?_⟩
  rw[e]
  exact h2 hw
def sIx(n d:Nat):Option Int->Nat
 | none=>d
 | some v=>if v < 0 then (v+(n:Int)).toNat else min v.toNat n
theorem sIx_none(n d:Nat):sIx n d none=d:=rfl
theorem sIx_nat(n d k:Nat):sIx n d (some (k:Int))=min k n:=by
 show (if (k:Int) < 0 then ((k:Int)+(n:Int)).toNat else min (k:Int).toNat n)=min k n
 rw[if_neg (by omega),Int.toNat_natCast]
theorem zNM(n d:Nat)(hd:d<=n)(o:Option Int):sIx n d o<=n:=by
 cases o with
 | none=>exact hd
 | some v =>
  show (if v < 0 then (v+(n:Int)).toNat else min v.toNat n)<=n
  by_cases hv:v < 0
  ·rw[if_pos hv]; omega
  ·rw[if_neg hv]; exact Nat.min_le_right _ _
theorem zG8(v:Int)(n d:Nat):(if v < 0 then max (v+(n:Int)) 0 else min v (n:Int))=((sIx n d (some v):Nat):Int):=by
 show (if v < 0 then max (v+(n:Int)) 0 else min v (n:Int))=(((if v < 0 then (v+(n:Int)).toNat else min v.toNat n):Nat):Int)
 by_cases hv:v < 0
 ·simp only[if_pos hv]; omega
 ·simp only[if_neg hv]; omega
theorem zIC(lo hi:Option Int)(n:Nat):Builtin.Slice.sliceAdjust lo hi 1 (n:Int)=(((sIx n 0 lo:Nat):Int),((sIx n n hi:Nat):Int)):=by
 have h1:¬ ((1:Int) < 0):=by omega
 unfold Builtin.Slice.sliceAdjust
 simp only[h1,if_false]
 refine Prod.ext ?_ ?_
 ·cases lo with
  | none=>rfl
  | some v=>exact zG8 v n 0
 ·cases hi with
  | none=>rfl
  | some v=>exact zG8 v n n
theorem zHv(i j:Nat):Builtin.Slice.slicePlaces (i:Int) (j:Int) 1=j - i:=by
 unfold Builtin.Slice.slicePlaces
 have h1:(1:Int) > 0:=by omega
 simp only[h1,if_true,Int.ediv_one]
 split <;> omega
theorem zDl{v:Value}{o:Option Int}{Q:Option Int->Shared->Prop}(p:IsPart v o)(h:Q o s):wpAny (model prog w) A (Builtin.Slice.slicePartIndex v) Q E s:=by
 cases p with
 | none=>exact slicePart_none h
 | int i t=>exact slicePart_int h
theorem sliceApplied_gen{sl:Addr}{vl vu:Value}{lo hi:Option Int}{n:Nat}{Q:Int×Int×Nat->Shared->Prop}(hs:s.heap.IsSliceOf sl vl vu .none)(pl:IsPart vl lo)(pu:IsPart vu hi)
  (h:Q (((sIx n 0 lo:Nat):Int),1,sIx n n hi - sIx n 0 lo) s):wpAny (model prog w) A (Builtin.Slice.sliceApplied (.ref sl) (pure (n:Int))) Q E s:=by
 obtain⟨os,hos,hcs,hds⟩:=id hs
 unfold Builtin.Slice.sliceApplied Builtin.Slice.sliceFields
 refine wpAny_bind (wpAny_bind (wpAny_field hos hds (x:=vl) rfl (wpAny_bind (wpAny_field hos hds (x:=vu) rfl (wpAny_bind (wpAny_field hos hds (x:=.none) rfl (wpAny_pure ?_)))))))
 refine wpAny_bind (slicePart_none ?_)
 show wpAny _ _ (if ((1:Int) == 0)=true then _ else _) _ _ s
 rw[if_neg (by decide)]
 refine wpAny_bind (zDl pl (wpAny_bind (zDl pu (wpAny_bind (wpAny_pure ?_)))))
 show wpAny _ _ (match Builtin.Slice.sliceAdjust lo hi 1 (n:Int) with | (lo,hi)=>pure (lo,(1:Int),Builtin.Slice.slicePlaces lo hi 1)) _ _ s
 rw[zIC lo hi n]
 show wpAny _ _ (pure (((sIx n 0 lo:Nat):Int),(1:Int),Builtin.Slice.slicePlaces ((sIx n 0 lo:Nat):Int) ((sIx n n hi:Nat):Int) 1)) _ _ s
 rw[zHv]
 exact wpAny_pure h
theorem zK4(xs:Array Value)(i k:Nat):((List.range k).filterMap fun (m:Nat)=>xs[((i:Int)+(m:Int) * 1).toNat]?).toArray=((xs.toList.drop i).take k).toArray:=by
 have e:(fun (m:Nat)=>xs[((i:Int)+(m:Int) * 1).toNat]?)=fun m=>xs[i+m]?:=by
  funext m
  have:((i:Int)+(m:Int) * 1).toNat=i+m:=by omega
  rw[this]
 rw[e]
 have:=pick_run xs i k
 rw[List.filterMap_map]at this
 have e2:((fun x=>xs[x]?) ∘ fun x=>i+x)=fun m=>xs[i+m]?:=rfl
 rw[e2]at this
 rw[this]
theorem qY{t sl:Addr}{items:Array Value}{vl vu:Value}{lo hi:Option Int}{Q:Value->Shared->Prop}(ht:IsTup s.heap t items)(hs:s.heap.IsSliceOf sl vl vu .none)(pl:IsPart vl lo)(pu:IsPart vu hi)
  (hw:¬ (sIx items.size 0 lo=0/\sIx items.size items.size hi=items.size))
  (h:Q (.ref s.heap.objs.size) { s with heap:=s.heap.push { cls:=.type "tuple",data:=.seq ((items.toList.drop (sIx items.size 0 lo)).take (sIx items.size items.size hi - sIx items.size 0 lo)).toArray } })
  (hsz:items.size<=sizeLine):wpAny (model prog w) A (getItem (.ref t) (.ref sl)) Q E s:=by
 have htake:sizeOk (.seq ((items.toList.drop (sIx items.size 0 lo)).take (sIx items.size items.size hi - sIx items.size 0 lo)).toArray):=by
  show ((items.toList.drop (sIx items.size 0 lo)).take (sIx items.size items.size hi - sIx items.size 0 lo)).toArray.size<=sizeLine
  rw[List.size_toArray,List.length_take,List.length_drop,Array.length_toList]
  omega
 have hj:sIx items.size items.size hi<=items.size:=zNM _ _ (Nat.le_refl _) hi
 obtain⟨os,hos,hcs,hds⟩:=id hs
 have hTs:s.TypeIs (.ref sl) "slice":=⟨os,hos,hcs⟩
 unfold getItem
 try with_reducible refine wpAny_holding ?_
 first | refine wpAny_bind (wpAny_pure ?_) | skip
 refine wpAny_bind (wpAny_sequenceKey ht.typeIs (by decide) ?_)
 refine wpAny_bind (wpAny_callSpecial?_slot (name:=Str.ofString "__getitem__") ht.typeIs PyProof.Rows.slot_tuple_getitem
  (wpAny_call_entry PyProof.Rows.slot_tuple_getitem ht.typeIs entry_tuple_getitem ?_ (args_tuple_getitem _ _)))
 show wpAny _ _ (Builtin.Tuple.tupleItemsOf (.ref t) >>= _) _ _ s
 refine wpAny_bind (tupleItemsOf_ ht ?_)
 refine wpAny_bind (wpAny_typeOf hTs ?_)
 rw[if_pos (by decide)]
 refine wpAny_bind (sliceApplied_gen hs pl pu ?_)
 have hno:¬ ((((sIx items.size 0 lo:Nat):Int) == 0 && (1:Int) == 1 && (sIx items.size items.size hi - sIx items.size 0 lo) == items.size)=true):=by
  intro q
  rw[Bool.and_eq_true,Bool.and_eq_true]at q
  have q1:((sIx items.size 0 lo:Nat):Int)=0:=eq_of_beq q.1.1
  have q2:sIx items.size items.size hi - sIx items.size 0 lo=items.size:=eq_of_beq q.2
  exact hw ⟨by omega,by omega⟩
 show wpAny _ _ (if (((sIx items.size 0 lo:Nat):Int) == 0 && (1:Int) == 1 && (sIx items.size items.size hi - sIx items.size 0 lo) == items.size)=true then _ else _) _ _ s
 rw[if_neg hno,zK4]
 first
  | exact wpAny_bind (m:=Builtin.Tuple.tupleExact _) (wpAny_newObj_type (wpAny_pure ⟨_,rfl,wpAny_pure h⟩) htake)
  | exact wpAny_bind (m:=Builtin.Tuple.tupleExact _) (wpAny_newObj_type (wpAny_bind (wpAny_pure (wpAny_pure ⟨_,rfl,wpAny_pure h⟩))) htake)
  | exact wpAny_bind (wpAny_bind (m:=Builtin.Tuple.tupleExact _) (wpAny_newObj_type (wpAny_pure (wpAny_pure ⟨_,rfl,wpAny_pure h⟩)) htake))
  | exact wpAny_bind (wpAny_bind (m:=Builtin.Tuple.tupleExact _) (wpAny_newObj_type (wpAny_pure ⟨_,rfl,wpAny_pure h⟩) htake))
end
end HT
namespace L2
open PySem PySem.Spec PyProof.Rows
abbrev TO:=St->Hp->(Option Int->Hp->Prop)->Prop
def PO(X:Cx)(e:Option Expr)(t:TO):Prop :=
 ∀ (pins:List (Addr×Obj)) (s:Shared) (σ:St) (H:Hp) (Q:Option Int->Hp->Prop),Inv X pins σ H s->t σ H Q ->
  wpAny (model X.prog X.w) X.A (evalPart e X.env) (fun u s'=>∃ o H',Inv X pins σ H' s'/\IsPart u o/\Q o H') X.xe s
def tNoPart:TO:=fun _ H Q=>Q none H
def tPart(t:TE):TO:=fun σ H Q=>t σ H fun x H1=>∃ i,x=.int i/\Q (some i) H1
theorem zHf{ns:List Int}:∀ {us:List Value},Vals (ns.map V.int) us->IntsAre us ns:=by
 induction ns with
 | nil=>intro us r; rw[List.map_nil]at r; cases r; exact .nil
 | cons n ns ih =>
  intro us r
  rw[List.map_cons]at r
  cases r with
  | cons r1 r2 =>
   obtain⟨t,e⟩:=r1
   subst e
   exact .cons n t (ih r2)
section
variable {X:Cx}{e:Expr}{te:TE}{lo hi:Option Expr}{tl th:TO}{pos p2:Pos}
theorem zLw:PO X none tNoPart:=by
 intro pins s σ H Q I h
 rw[evalPart_none]
 exact wpAny_pure ⟨none,H,I,.none,h⟩
theorem zMo(h:PE X e te):PO X (some e) (tPart te):=by
 intro pins s σ H Q I hw
 rw[evalPart_some]
 refine thn (h pins s σ H _ I hw) fun u s1 ⟨x,H1,I1,r1,q1⟩=>?_
 obtain⟨i,rfl,q⟩:=q1
 obtain⟨t,rfl⟩:=r1
 exact⟨some i,H1,I1,.int i t,q⟩
def SlR(X:Cx)(r:V->Option Int->Option Int->Hp->VK->Prop):Prop :=
 ∀ (pins:List (Addr×Obj)) (s:Shared) (σ:St) (H:Hp) (x:V) (v vl vu:Value) (lo hi:Option Int) (sl:Addr) (Q:VK),Inv X pins σ H s->RelV x v->s.heap.IsSliceOf sl vl vu .none->IsPart vl lo->IsPart vu hi->r x lo hi H Q ->
  ∃ T id,typeLookup (.type T) "__getitem__"=pure (some (.builtin id))/\s.TypeIs v T/\wpAny (model X.prog X.w) X.A (getItem v (.ref sl)) (EP X pins σ Q) X.xe s
theorem SlR.or{r r':V->Option Int->Option Int->Hp->VK->Prop}(h:SlR X r)(h':SlR X r'):SlR X (fun x lo hi H Q=>r x lo hi H Q\/r' x lo hi H Q):=by
 intro pins s σ H x v vl vu lo hi sl Q I rx hs pl pu q
 rcases q with q | q
 ·exact h pins s σ H x v vl vu lo hi sl Q I rx hs pl pu q
 ·exact h' pins s σ H x v vl vu lo hi sl Q I rx hs pl pu q
def tSl(r:V->Option Int->Option Int->Hp->VK->Prop)(te:TE)(tl th:TO):TE:=fun σ H Q=>te σ H fun x H1=>tl σ H1 fun l H2=>th σ H2 fun u H3=>r x l u H3 Q
theorem zKo{r:V->Option Int->Option Int->Hp->VK->Prop}(hr:SlR X r)(he:PE X e te)(hl:PO X lo tl)(hu:PO X hi th):PE X (.Subscript e (.Slice lo hi none p2) pos) (tSl r te tl th):=by
 intro pins s σ H Q I h
 refine Subscript_ (thn (he pins s σ H _ I h) fun v s1 ⟨x,H1,I1,r1,q1⟩=>?_)
 refine wpAny_Slice (thn (hl pins s1 σ H1 _ I1 q1) fun vl s2 ⟨l,H2,I2,pl,q2⟩=>thn (hu pins s2 σ H2 _ I2 q2) fun vu s3 ⟨u,H3,I3,pu,q3⟩=>?_)
 rw[evalPart_none]
 refine wpAny_pure ?_
 have I4:Inv X pins σ H3 { s3 with heap:=s3.heap.push { cls:=.type "slice",data:=.fields #[vl,vu,.none] } }:=I3.kept (t':=s3.toks) fun b ob q=>Heap.get?_push_of_some _ q
 obtain⟨T,id,hT,ht,hg⟩:=hr pins { s3 with heap:=s3.heap.push { cls:=.type "slice",data:=.fields #[vl,vu,.none] } } σ H3 x v vl vu l u s3.heap.objs.size Q I4 r1 (Heap.IsSliceOf.new ..) pl pu q3
 show wpAny (model X.prog X.w) X.A (subscriptTail e (.Slice lo hi none p2) v (.ref s3.heap.objs.size)) (EP X pins σ Q) X.xe { s3 with heap:=s3.heap.push { cls:=.type "slice",data:=.fields #[vl,vu,.none] } }
 exact tail_any (ops:=[.ref s3.heap.objs.size,v]) ht hT hg (by with_unfolding_all rfl)
def cutV(xs:List V)(lo hi:Option Int):List V:=(xs.drop (HT.sIx xs.length 0 lo)).take (HT.sIx xs.length xs.length hi - HT.sIx xs.length 0 lo)
theorem zDG(xs:List V)(lo hi:Option Int):(cutV xs lo hi).length<=xs.length:=by
 unfold cutV
 rw[List.length_take,List.length_drop]
 omega
end
def ixN(n:Nat)(i:Int):Option Nat:=if 0<=i then (if i < n then some i.toNat else none) else if -(n:Int)<=i then some (i+n).toNat else none
def atI{α:Type}(xs:List α)(i:Int):Option α:=(ixN xs.length i).bind fun j=>xs[j]?
theorem zEE{n:Nat}{i:Int}{j:Nat}(h:ixN n i=some j):seqIndex? i n=some j/\j < n/\-(n:Int)<=i/\i < n:=by
 unfold ixN at h
 by_cases h0:0<=i
 ·rw[if_pos h0]at h
  by_cases h1:i < n
  ·rw[if_pos h1]at h
   have e:i.toNat=j:=Option.some.inj h
   exact⟨by rw[seqIndex_of h0 h1,e],by omega,by omega,h1⟩
  ·rw[if_neg h1]at h; cases h
 ·rw[if_neg h0]at h
  by_cases h1:-(n:Int)<=i
  ·rw[if_pos h1]at h
   have e:(i+n).toNat=j:=Option.some.inj h
   exact⟨by rw[seqIndex_neg (by omega) h1,e],by omega,h1,by omega⟩
  ·rw[if_neg h1]at h; cases h
theorem zEC{α:Type}{xs:List α}{i:Int}{v:α}(h:atI xs i=some v):∃ j,seqIndex? i xs.length=some j/\xs[j]?=some v/\j < xs.length/\-(xs.length:Int)<=i/\i < xs.length:=by
 unfold atI at h
 cases e:ixN xs.length i with
 | none=>rw[e]at h; cases h
 | some j =>
  rw[e]at h
  obtain⟨h1,h2,h3,h4⟩:=zEE e
  exact⟨j,h1,h,h2,h3,h4⟩
def PlainIx(b:Expr):Prop:=∀ o i,subscripted b false o i=operate [o,i] (getItem o i)
def IxR(X:Cx)(r:R2):Prop :=
 ∀ (value slice:Expr) (pins:List (Addr×Obj)) (s:Shared) (σ:St) (H:Hp) (x y:V) (v u:Value) (Q:VK),Inv X pins σ H s->RelV x v->RelV y u->r x y H Q ->
  subscripted slice false v u=operate [v,u] (getItem v u)->wpAny (model X.prog X.w) X.A (subscriptTail value slice v u) (EP X pins σ Q) X.xe s
def MtR(X:Cx)(id:String)(r:V->List V->Hp->VK->Prop):Prop :=
 ∀ (pins:List (Addr×Obj)) (s:Shared) (σ:St) (H:Hp) (x:V) (xs:List V) (v:Value) (us:List Value) (Q:VK),Inv X pins σ H s->RelV x v->Vals xs us->r x xs H Q ->
  wpAny (model X.prog X.w) X.A (call (.builtin id) (v::us)) (EP X pins σ Q) X.xe s
section
variable {X:Cx}{a b:Expr}{ta tb:TE}{pos:Pos}
theorem IxR.or{r r':R2}(h:IxR X r)(h':IxR X r'):IxR X (fun x y H Q=>r x y H Q\/r' x y H Q):=by
 intro value slice pins s σ H x y v u Q I rx ry q hs
 rcases q with q | q
 ·exact h value slice pins s σ H x y v u Q I rx ry q hs
 ·exact h' value slice pins s σ H x y v u Q I rx ry q hs
theorem zOj{r:R2}(hr:IxR X r)(ha:PE X a ta)(hb:PE X b tb)(hs:PlainIx b):PE X (.Subscript a b pos) (tOp r ta tb):=by
 intro pins s σ H Q I h
 exact Subscript_ (binT ha hb I h fun v u s2 x y H2 I2 rx ry q=>hr a b pins s2 σ H2 x y v u Q I2 rx ry q (hs _ _))
def rIxL(K:PySem.W.Frag):R2:=fun x y H Q=>∃ p xs i v,x=.ref p/\y=.int i/\SqL K H p xs/\atI xs i=some v/\Q v H
def rIxT(K:PySem.W.Frag):R2:=fun x y H Q=>∃ p xs i v,x=.ref p/\y=.int i/\SqT K H p xs/\atI xs i=some v/\Q v H
def rIxS:R2:=fun x y H Q=>∃ z i c,x=.str z/\y=.int i/\z.length<=sizeLine/\atI z.cps.toList i=some c/\Q (.str ⟨#[c]⟩) H
theorem zMn:IxR X (rIxL X.K):=by
 intro value slice pins s σ H x y v u Q I rx ry h hs
 obtain⟨p,xs,i,z,rfl,rfl,hq,he,q⟩:=h
 cases rx
 obtain⟨t,rfl⟩:=ry
 obtain⟨its,r,pl,hz⟩:=I.list hq
 obtain⟨j,h1,h2,h3,h4,h5⟩:=zEC he
 obtain⟨w,ew,rw'⟩:=r.get h2
 have hl:=r.length
 have hn:=line63
 have fin:EP X pins σ Q w s:=⟨z,H,I,rw',q⟩
 by_cases h0:0<=i
 ·have hj:i.toNat=j:=by
   rw[seqIndex_of h0 h5]at h1
   exact Option.some.inj h1
  exact item_listR pl.isList h0 (by omega) (by rw[hj]; simpa using ew) fin hs
 ·have hj:(i+(its.toArray.size:Int)).toNat=j:=by
   rw[seqIndex_neg (by omega) h4]at h1
   rw[List.size_toArray,← hl]
   exact Option.some.inj h1
  exact subscriptTail_builtinR (x:=w) pl.isList.typeIs slot_list_getitem.lookup
   (wpAny_getItem_list_neg (Q:=fun r s'=>r=w/\EP X pins σ Q r s') pl.isList (by omega) (by rw[List.size_toArray] <;> omega) (by omega) (by rw[hj]; simpa using ew) ⟨rfl,fin⟩) hs
theorem zNq:IxR X (rIxT X.K):=by
 intro value slice pins s σ H x y v u Q I rx ry h hs
 obtain⟨p,xs,i,z,rfl,rfl,hq,he,q⟩:=h
 cases rx
 obtain⟨t,rfl⟩:=ry
 obtain⟨its,r,pl,hz⟩:=I.tuple hq
 obtain⟨j,h1,h2,h3,h4,h5⟩:=zEC he
 obtain⟨w,ew,rw'⟩:=r.get h2
 have hl:=r.length
 have hn:=line63
 have fin:EP X pins σ Q w s:=⟨z,H,I,rw',q⟩
 exact subscriptTail_builtinR (x:=w) pl.typeIs slot_tuple_getitem.lookup
  (getItem_tuple (j:=j) (Q:=fun r s'=>r=w/\EP X pins σ Q r s') pl (by omega) (by omega) (by rw[List.size_toArray,← hl]; exact h1) (by simpa using ew) ⟨rfl,fin⟩) hs
theorem zNU:IxR X rIxS:=by
 intro value slice pins s σ H x y v u Q I rx ry h hs
 obtain⟨z,i,c,rfl,rfl,hz,he,q⟩:=h
 obtain⟨t,rfl⟩:=rx
 obtain⟨t',rfl⟩:=ry
 obtain⟨j,h1,h2,h3,h4,h5⟩:=zEC he
 have hl:z.cps.toList.length=z.length:=by simp[Str.length]
 rw[hl]at h1 h4 h5
 have hn:=line63
 exact tail_any (typeIs_str s z t) slot_str_getitem.lookup (getItem_str (c:=c) (by
  have e1:decide (i < -(2 ^ 63:Int))=false:=decide_eq_false (by omega)
  have e2:decide (i ≥ 2 ^ 63)=false:=decide_eq_false (by omega)
  rw[e1,e2,Bool.or_false]) (by rw[h1]; simpa using h2) ⟨.str ⟨#[c]⟩,H,I.tok _,⟨_,rfl⟩,q⟩) hs
def rIx(K:PySem.W.Frag):R2:=fun x y H Q=>rIxL K x y H Q\/rIxT K x y H Q\/rIxS x y H Q
theorem zM9:IxR X (rIx X.K):=zMn.or (zNq.or zNU)
theorem zHd(its:List Value)(n j:Nat)(u:Value):Obj.mapSeq (·.setIfInBounds j u) { cls:=.type "list",data:=.seq its.toArray n }={ cls:=.type "list",data:=.seq (its.set j u).toArray n }:=by
 simp[Obj.mapSeq]
theorem Inv.lst{pins:List (Addr×Obj)}{σ:St}{H:Hp}{s:Shared}{p:Addr}{xs:List V}(I:Inv X pins σ H s)(h:H p=some (.lst xs)) :
  ∃ (its:List Value) (n:Nat),Vals xs its/\s.heap.get? p=some { cls:=.type "list",data:=.seq its.toArray n }/\xs.length<=sizeLine:=by
 obtain⟨z,its,n,r,e⟩:=I.hok p _ h
 exact⟨its,n,r,e,z⟩
theorem Inv.lstUpd{pins:List (Addr×Obj)}{σ:St}{H:Hp}{s:Shared}{p:Addr}{xs ys:List V}{its its':List Value}{n n':Nat}{f:Obj->Obj}(I:Inv X pins σ H s)(h:H p=some (.lst xs))
  (ho:s.heap.get? p=some { cls:=.type "list",data:=.seq its.toArray n }) (hf:f { cls:=.type "list",data:=.seq its.toArray n }={ cls:=.type "list",data:=.seq its'.toArray n' }) (r:Vals ys its') (hz:ys.length<=sizeLine) (t:Nat) :
  Inv X pins σ (upd H p (.lst ys)) { s with heap:=s.heap.update p f,toks:=t }:=by
 have e:(s.heap.update p f).get? p=some { cls:=.type "list",data:=.seq its'.toArray n' }:=by
  rw[Heap.get?_update_self f ho (by rw[hf] <;> rfl),hf]
 refine I.write (x:=p) (e:=p) (by rw[h]; trivial) (.inl rfl) (fun b u hb q=>(Heap.get?_update_other _ _ (Ne.symm hb)).trans q) ⟨_,e⟩ ?_
 exact⟨hz,its',n',r,e⟩
def rSetL:V->V->V->Hp->(Hp->Prop)->Prop:=fun o i v H Q=>∃ p xs k j,o=.ref p/\i=.int k/\H p=some (.lst xs)/\ixN xs.length k=some j/\Q (upd H p (.lst (xs.set j v)))
theorem zKr:PSet X rSetL:=by
 intro pins s σ H o i v ov iv u Q I ro ri rv h
 obtain⟨p,xs,k,j,rfl,rfl,hp,hj,q⟩:=h
 cases ro
 obtain⟨t,rfl⟩:=ri
 obtain⟨its,n,r,ho,hz⟩:=I.lst hp
 obtain⟨h1,h2,h3,h4⟩:=zEE hj
 have hl:=r.length
 have hn:=line63
 have I':Inv X pins σ (upd H p (.lst (xs.set j v))) { s with heap:=s.heap.update p (Obj.mapSeq (·.setIfInBounds j u)) } :=
  I.lstUpd hp ho (zHd its n j u) (r.set rv j) (by rw[List.length_set]; exact hz) s.toks
 by_cases h0:0<=k
 ·have hk:k.toNat=j:=by
   rw[seqIndex_of h0 h4]at h1
   exact Option.some.inj h1
  exact PySem.W.ki_setAt ho h0 (by omega) (by rw[List.size_toArray,← hl]; exact h4) (by rw[hk]; exact⟨_,I',q⟩)
 ·have hk:(k+(its.toArray.size:Int)).toNat=j:=by
   rw[seqIndex_neg (by omega) h3]at h1
   rw[List.size_toArray,← hl]
   exact Option.some.inj h1
  exact PySem.W.ki_setBack ho (by omega) (by rw[List.size_toArray,← hl]; exact h3) (by omega) (by rw[hk]; exact⟨_,I',q⟩)
theorem zFm(lo hi:Option Int)(n:Nat):(sliceBounds lo hi none n).1=((HT.sIx n 0 lo:Nat):Int)/\(sliceBounds lo hi none n).2.1=((HT.sIx n n hi:Nat):Int)/\(sliceBounds lo hi none n).2.2=1:=by
 refine⟨?_,?_,rfl⟩
 ·cases lo with
  | none=>simp[sliceBounds,HT.sIx]
  | some i =>
   simp only[sliceBounds,HT.sIx,Option.getD_none,show (1:Int) > 0 by decide,if_true]
   by_cases h:i < 0
   ·simp only[h,if_true] <;> omega
   ·simp only[h,if_false] <;> omega
 ·cases hi with
  | none=>simp[sliceBounds,HT.sIx]
  | some i =>
   simp only[sliceBounds,HT.sIx,Option.getD_none,show (1:Int) > 0 by decide,if_true]
   by_cases h:i < 0
   ·simp only[h,if_true] <;> omega
   ·simp only[h,if_false] <;> omega
theorem zFD(its:List Value)(lo hi:Option Int):slicePick its.toArray lo hi none=((its.drop (HT.sIx its.length 0 lo)).take (HT.sIx its.length its.length hi - HT.sIx its.length 0 lo)).toArray:=by
 obtain⟨h1,h2,h3⟩:=zFm lo hi its.toArray.size
 unfold slicePick
 rw[h1,h2,h3]
 simp only[sliceRange_one,pick_run,List.size_toArray] <;> rfl
def rSlL(K:PySem.W.Frag):V->Option Int->Option Int->Hp->VK->Prop:=fun x lo hi H Q=>∃ a xs,x=.ref a/\SqL K H a xs/\∀ p,H p=none->Q (.ref p) (upd H p (.lst (cutV xs lo hi)))
theorem zMc:SlR X (rSlL X.K):=by
 intro pins s σ H x v vl vu lo hi sl Q I rx hs pl pu h
 obtain⟨a,xs,rfl,hx,q⟩:=h
 cases rx
 obtain⟨its,r,ht,hz⟩:=I.list hx
 have hlen:=r.length
 refine⟨"list",_,slot_list_getitem.lookup,ht.isList.typeIs,?_⟩
 refine wpAny_getItem_list_slice ht.isList hs pl pu .none (by simp) ?_ (by rw[List.size_toArray] <;> omega)
 rw[zFD,← hlen]
 refine⟨.ref s.heap.objs.size,_,I.laid (t':=s.toks) (o:=.lst (cutV xs lo hi)) (fun b ob q=>Heap.get?_push_of_some _ q) (Nat.le_refl _) ?_,rfl,q _ (I.hok.fresh (Nat.le_refl _))⟩
 exact⟨Nat.le_trans (zDG xs lo hi) hz,_,0,(r.drop (HT.sIx xs.length 0 lo)).take (HT.sIx xs.length xs.length hi - HT.sIx xs.length 0 lo),Heap.get?_push_size _ rfl⟩
def flatV:V->Bool
 | .non=>true
 | .bl _=>true
 | .int _=>true
 | .str _=>true
 | _=>false
def eqV:V->V->Bool
 | .non,.non=>true
 | .bl a,.bl b=>a == b
 | .bl a,.int b=>(if a then 1 else 0) == b
 | .int a,.bl b=>a == (if b then 1 else 0)
 | .int a,.int b=>a == b
 | .str a,.str b=>a == b
 | _,_=>false
theorem zF9:CallR X (.builtin "len") (fun xs H Q=>∃ p ys,xs=[.ref p]/\(SqL X.K H p ys\/SqT X.K H p ys)/\Q (.int ys.length) H):=by
 intro pins s σ H xs us Q I r h
 obtain⟨p,ys,rfl,hq,q⟩:=h
 obtain⟨u,rfl,rx⟩:=vals1 r
 cases rx
 have hn:=line63
 rcases hq with hq | hq
 ·obtain⟨its,r',pl,hz⟩:=I.list hq
  have hlen:=r'.length
  exact Calls.call_len_list pl.isList (by simp only[List.size_toArray] <;> omega) ⟨.int ys.length,H,I.tok _,⟨s.toks+1,by rw[List.size_toArray,hlen]⟩,q⟩
 ·obtain⟨its,r',pl,hz⟩:=I.tuple hq
  have hlen:=r'.length
  exact len_tuple pl (by simp only[List.size_toArray] <;> omega) ⟨.int ys.length,H,I.tok _,⟨s.toks+1,by rw[List.size_toArray,hlen]⟩,q⟩
theorem zFx:CallR X (.builtin "len") (fun xs H Q=>∃ z,xs=[.str z]/\z.length<=sizeLine/\Q (.int z.length) H):=by
 intro pins s σ H xs us Q I r h
 obtain⟨z,rfl,hz,q⟩:=h
 obtain⟨u,rfl,t,rfl⟩:=vals1 r
 have hn:=line63
 exact len_str (by omega) ⟨.int z.length,H,I.tok _,⟨_,rfl⟩,q⟩
theorem CallR.or{f:Value}{r r':List V->Hp->VK->Prop}(h:CallR X f r)(h':CallR X f r'):CallR X f (fun xs H Q=>r xs H Q\/r' xs H Q):=by
 intro pins s σ H xs us Q I rs q
 rcases q with q | q
 ·exact h pins s σ H xs us Q I rs q
 ·exact h' pins s σ H xs us Q I rs q
theorem zGH:CallR X (.type "list") (fun xs H Q=>∃ p ys,xs=[.ref p]/\(SqL X.K H p ys\/SqT X.K H p ys)/\∀ l,H l=none->Q (.ref l) (upd H l (.lst ys))):=by
 intro pins s σ H xs us Q I r h
 obtain⟨p,ys,rfl,hq,q⟩:=h
 obtain⟨u,rfl,rx⟩:=vals1 r
 cases rx
 have fin:∀ (its:List Value),Vals ys its->ys.length<=sizeLine->∀ (h':Heap) (c':Nat),(∀ b o',s.heap.get? b=some o'->h'.get? b=some o') ->
   h'.get? s.heap.objs.size=some { cls:=.type "list",dict:=none,data:=.seq its.toArray c',slots:=#[] }->EP X pins σ Q (.ref s.heap.objs.size) { s with heap:=h' }:=fun its r' hz h' c' kp e =>
  ⟨.ref s.heap.objs.size,_,I.laid (t':=s.toks) kp (Nat.le_refl _) (show ObjOk X.prog X.w _ h' _ (.lst ys) from ⟨hz,its,c',r',e⟩),rfl,q _ (I.hok.fresh (Nat.le_refl _))⟩
 rcases hq with hq | hq
 ·obtain⟨its,r',pl,hz⟩:=I.list hq
  have hlen:=r'.length
  obtain⟨o,ho,hc,n,hd⟩:=pl.isList
  exact call_list_seq p (.inl rfl) ho hc hd (fun h' c' kp e=>fin its r' hz h' c' kp e) (by simp only[List.size_toArray] <;> omega)
 ·obtain⟨its,r',pl,hz⟩:=I.tuple hq
  have hlen:=r'.length
  obtain⟨o,ho,hc,n,hd⟩:=pl
  exact call_list_seq p (.inr rfl) ho hc hd (fun h' c' kp e=>fin its r' hz h' c' kp e) (by simp only[List.size_toArray] <;> omega)
theorem zE5:CallR X (.type "tuple") (fun xs H Q=>∃ p ys,xs=[.ref p]/\((SqL X.K H p ys/\∀ l,H l=none->Q (.ref l) (upd H l (.tup ys)))\/(SqT X.K H p ys/\Q (.ref p) H))):=by
 intro pins s σ H xs us Q I r h
 obtain⟨p,ys,rfl,h⟩:=h
 obtain⟨u,rfl,rx⟩:=vals1 r
 cases rx
 rcases h with ⟨hq,q⟩ | ⟨hq,q⟩
 ·obtain⟨its,r',pl,hz⟩:=I.list hq
  have hlen:=r'.length
  refine call_tuple_list pl.isList (fun h' kp=>?_) (by simp only[List.size_toArray] <;> omega)
  have I1:Inv X pins σ H { s with heap:=h' }:=I.kept (t':=s.toks) kp
  have I2:Inv X pins σ (upd H h'.objs.size (.tup ys)) { s with heap:=h'.push { cls:=.type "tuple",data:=.seq its.toArray } } :=
   I1.laid (t':=s.toks) (fun b o e=>Heap.get?_push_of_some _ e) (Nat.le_refl _) (show ObjOk X.prog X.w _ _ _ (.tup ys) from ⟨hz,its,r',TupD.new _ _⟩)
  exact⟨.ref h'.objs.size,_,I2,rfl,q _ (I1.hok.fresh (Nat.le_refl _))⟩
 ·obtain⟨its,r',pl,hz⟩:=I.tuple hq
  exact call_tuple_same pl ⟨.ref p,H,I,rfl,q⟩
def tyV(K:PySem.W.Frag)(T:String)(x:V)(H:Hp):Prop:=match x with
 | .str _=>T="str"
 | .int _=>T="int"
 | .ref p=>(T="list"/\∃ xs,SqL K H p xs)\/(T="tuple"/\∃ o,K.lookup p=some o/\o.cls=.type "tuple"/\o.dict=none) \/
   (T="dict"/\((∃ kvs,H p=some (.dK kvs))\/∃ kvs,H p=some (.dT kvs)))\/(T="set"/\∃ S n,H p=some (.set S n))
 | _=>False
theorem zI6{pins:List (Addr×Obj)}{σ:St}{H:Hp}{s:Shared}{T:String}{x:V}{v:Value}(I:Inv X pins σ H s)(r:RelV x v)(ty:tyV X.K T x H) :
  s.TypeIs v T/\∀ a,v=.ref a->∃ ob,s.heap.get? a=some ob/\ob.dict=none:=by
 cases x with
 | str z =>
  obtain⟨t,rfl⟩:=r
  cases (show T="str" from ty)
  exact⟨typeIs_str s z t,fun _ e=>nomatch e⟩
 | int i =>
  obtain⟨t,rfl⟩:=r
  cases (show T="int" from ty)
  exact⟨typeIs_int s i t,fun _ e=>nomatch e⟩
 | ref p =>
  cases r
  rcases ty with ⟨rfl,xs,hq⟩ | ⟨rfl,o,hk,hc,hd⟩ | ⟨rfl,hk⟩ | ⟨rfl,S,n,hk⟩
  ·obtain⟨its,_,pl,_⟩:=I.list hq
   refine⟨pl.isList.typeIs,fun a e=>?_⟩
   cases e
   obtain⟨o,n,e,c,hd,_⟩:=pl
   exact⟨o,e,hd⟩
  ·refine⟨⟨o,I.kIn p o hk,hc⟩,fun a e=>?_⟩
   cases e
   exact⟨o,I.kIn _ o hk,hd⟩
  ·have z:∃ o,s.heap.get? p=some o/\o.ExactDict:=by
    rcases hk with ⟨kvs,hk⟩ | ⟨kvs,hk⟩
    ·obtain⟨_,_,_,_,o,_,_,e,ex,_⟩:=I.hok p _ hk
     exact⟨o,e,ex⟩
    ·obtain⟨_,_,_,_,o,_,_,e,ex,_⟩:=I.hok p _ hk
     exact⟨o,e,ex⟩
   obtain⟨o,e,ex⟩:=z
   refine⟨⟨o,e,ex.1⟩,fun a e2=>?_⟩
   cases e2
   exact⟨o,e,ex.2.1⟩
  ·obtain⟨o,_,_,_,e,ex,_⟩:=I.hok p _ hk
   refine⟨⟨o,e,ex.1⟩,fun a e2=>?_⟩
   cases e2
   exact⟨o,e,ex.2.1⟩
 | _=>exact False.elim ty
def tBM0(K:PySem.W.Frag)(T:String)(r:V->List V->Hp->VK->Prop)(to:TE):TE:=fun σ H Q=>to σ H fun x H1=>tyV K T x H1/\r x [] H1 Q
def tBM(K:PySem.W.Frag)(T:String)(r:V->List V->Hp->VK->Prop)(to:TE)(t:TA):TE:=fun σ H Q=>to σ H fun x H1=>tyV K T x H1/\t σ H1 fun xs H2=>r x xs H2 Q
variable {o e:Expr}{es:List Expr}{to:TE}{t:TA}{name:Str}{apos cpos:Pos}{T id:String}{r:V->List V->Hp->VK->Prop}
theorem zNe(pa:PlainAttrs T)(slot:Slot T name id)(hty:typeOf (.builtin id)=pure (.type "method_descriptor"))(hm:MtR X id r)(ho:PE X o to)
  (hbase:attributeBase o name X.env (eval o X.env)=eval o X.env:=by rfl) (hline:(apos.endLine == cpos.line)=true:=by rfl):PE X (.Call (.Attribute o name apos) [] [] cpos) (tBM0 X.K T r to):=by
 intro pins s σ H Q I h
 refine wpAny_Call_method0_late hbase hline (thn (ho pins s σ H _ I h) fun v s1 ⟨x,H1,I1,r1,ty,q1⟩=>?_)
 obtain⟨h1,h2⟩:=zI6 I1 r1 ty
 exact⟨T,id,pa,slot,hty,h1,h2,Calls.callWith_builtin rfl (PySem.evalArgs_none (hm pins s1 σ H1 x [] v [] Q I1 r1 .nil q1))⟩
theorem zLP(pa:PlainAttrs T)(slot:Slot T name id)(hty:typeOf (.builtin id)=pure (.type "method_descriptor"))(hm:MtR X id r)(ho:PE X o to)(ha:PA X (e::es) t)
  (hbase:attributeBase o name X.env (eval o X.env)=eval o X.env:=by rfl)
  (hfew:((backTo cpos (starEach (e::es) X.env)).all (fun x=>!x.1) && (backToKw cpos (keywordEach [] X.env)).all (fun x=>x.1.isSome)
   && decide ((e::es).length+([]:List Keyword).length+(if ([]:List Keyword).isEmpty then 0 else 1) < 30))=true:=by rfl)
  (hline:(apos.endLine == cpos.line)=true:=by rfl) (hs:starEach (e::es) X.env=(false,eval e X.env)::starEach es X.env:=by rfl) (hplain:(backTo cpos (starEach es X.env)).any (·.1)=false:=by rfl) :
  PE X (.Call (.Attribute o name apos) (e::es) [] cpos) (tBM X.K T r to t):=by
 intro pins s σ H Q I h
 refine wpAny_Call_method_late hbase hfew hline rfl (thn (ho pins s σ H _ I h) fun v s1 ⟨x,H1,I1,r1,ty,q1⟩=>?_)
 obtain⟨h1,h2⟩:=zI6 I1 r1 ty
 refine⟨T,id,pa,slot,hty,h1,h2,?_⟩
 have hA:=ha cpos pins s1 σ H1 _ I1 q1
 rw[hs]at hA ⊢
 refine Calls.callWith_builtin (by show (false || (backTo cpos (starEach es X.env)).any (·.1))=false; rw[hplain] <;> rfl) (Calls.evalArgs_plain ?_)
 exact thn hA fun us s2 ⟨vs,H2,I2,r2,q2⟩=>hm pins s2 σ H2 x vs v us Q I2 r1 r2 q2
end
def MtM(X:Cx)(id:String)(r:V->List V->Hp->VK->Prop):Prop :=
 ∀ (pins:List (Addr×Obj)) (s:Shared) (σ:St) (H:Hp) (x:V) (xs:List V) (v:Value) (us:List Value) (Q:VK),Inv X pins σ H s->RelV x v->Vals xs us->r x xs H Q ->
  wpAny (model X.prog X.w) X.A (call (.builtin id) (v::us)) (EP X pins σ Q) X.xe s
theorem Vals.one:∀ {x:V} {us:List Value},Vals [x] us->∃ u,us=[u]/\RelV x u
 | _,_,.cons r .nil=>⟨_,rfl,r⟩
theorem Vals.zero:∀ {us:List Value},Vals [] us->us=[]
 | _,.nil=>rfl
theorem Vals.dropLast{xs:List V}{us:List Value}(h:Vals xs us):Vals xs.dropLast us.dropLast:=by
 induction h with
 | nil=>exact .nil
 | cons r t ih =>
  cases t with
  | nil=>exact .nil
  | cons q t'=>exact .cons r ih
theorem Vals.eraseIdx:∀ {xs:List V} {us:List Value} (i:Nat),Vals xs us->Vals (xs.eraseIdx i) (us.eraseIdx i)
 | _,_,_,.nil=>.nil
 | _,_,0,.cons _ t=>t
 | _,_,i+1,.cons r t=>.cons r (Vals.eraseIdx i t)
theorem Vals.rep{xs:List V}{us:List Value}(h:Vals xs us):∀ k:Nat,Vals (List.replicate k xs).flatten (List.replicate k us).flatten
 | 0=>.nil
 | k+1=>by
  rw[List.replicate_succ,List.replicate_succ,List.flatten_cons,List.flatten_cons]
  exact Vals.append h (Vals.rep h k)
theorem zH0{α:Type}(l:List α):l.eraseIdx (l.length - 1)=l.dropLast:=by
 induction l with
 | nil=>rfl
 | cons a r ih =>
  cases r with
  | nil=>rfl
  | cons b r =>
   have e:(a::b::r).length - 1=((b::r).length - 1)+1:=by
    have h1:(a::b::r).length=r.length+2:=rfl
    have h2:(b::r).length=r.length+1:=rfl
    omega
   rw[e,List.eraseIdx_cons_succ,ih]
   all_goals rfl
theorem zEy{α:Type}:∀ (l:List α) (i:Nat),(l.eraseIdx i).length<=l.length
 | [],_=>Nat.le_refl _
 | _::_,0=>Nat.le_succ _
 | _::r,i+1=>Nat.succ_le_succ (zEy r i)
theorem zEk(its:List Value):∀ (k:Nat) (acc:List Value),
  List.foldl (fun x1 x2=>x1++x2) acc.toArray (List.replicate k its.toArray)=(acc++(List.replicate k its).flatten).toArray
 | 0,acc=>by simp
 | k+1,acc=>by
  have e:acc.toArray++its.toArray=(acc++its).toArray:=by simp
  have e2:(acc++its)++(List.replicate k its).flatten=acc++(List.replicate (k+1) its).flatten:=by
   rw[List.replicate_succ,List.flatten_cons,List.append_assoc]
  rw[← e2,← zEk its k (acc++its),← e,List.replicate_succ,List.foldl_cons]
section
variable {X:Cx}{pins:List (Addr×Obj)}{σ:St}{H:Hp}{s:Shared}{l b:Addr}{xs ys zs:List V}
theorem Inv.lset{its its':List Value}{n:Nat}{f:Array Value->Array Value}{t':Nat}(I:Inv X pins σ H s)(hH:H l=some (.lst xs))
  (e:s.heap.get? l=some { cls:=.type "list",data:=.seq its.toArray n }) (hf:f its.toArray=its'.toArray) (hv:Vals ys its') (hz:ys.length<=sizeLine) :
  Inv X pins σ (upd H l (.lst ys)) { s with heap:=s.heap.update l (Obj.mapSeq f),toks:=t' }:=by
 have q:=PySem.IsL.update e f
 rw[hf]at q
 refine I.write (x:=l) (e:=l) (by rw[hH]; exact trivial) (.inl rfl) (fun b' u hb hu=>(Heap.get?_update_other s.heap (Obj.mapSeq f) (Ne.symm hb)).trans hu) ⟨_,q⟩ ?_
 exact⟨hz,its',_,hv,q⟩
theorem Inv.lnew{its:List Value}{t':Nat}(I:Inv X pins σ H s)(hv:Vals ys its)(hz:ys.length<=sizeLine) :
  Inv X pins σ (upd H s.heap.objs.size (.lst ys)) { s with heap:=s.heap.push { cls:=.type "list",data:=.seq its.toArray },toks:=t' } :=
 I.laid (fun _ _ q=>Heap.get?_push_of_some _ q) (Nat.le_refl _) ⟨hz,its,0,hv,Heap.get?_push_size _ rfl⟩
theorem Inv.fresh(I:Inv X pins σ H s):H s.heap.objs.size=none:=I.hok.fresh (Nat.le_refl _)
theorem Inv.lstM(I:Inv X pins σ H s)(hH:H l=some (.lst xs)):xs.length<=sizeLine/\∃ (its:List Value) (n:Nat),Vals xs its/\xs.length=its.length/\s.heap.get? l=some { cls:=.type "list",data:=.seq its.toArray n }:=by
 obtain⟨z,its,n,r,e⟩:=I.hok l _ hH
 exact⟨z,its,n,r,r.length,e⟩
theorem notLongL{n:Nat}(h:n<=sizeLine):Builtin.List.listTooLong n=false:=by
 unfold Builtin.List.listTooLong
 exact decide_eq_false (by omega)
end
section
variable {X:Cx}
def rAppend:V->List V->Hp->VK->Prop:=fun x vs H Q=>∃ l xs y,x=.ref l/\vs=[y]/\H l=some (.lst xs)/\xs.length < sizeLine/\Q .non (upd H l (.lst (xs++[y])))
theorem zCo:MtM X "list.append" rAppend:=by
 intro pins s σ H x vs v us Q I rx rv h
 obtain⟨l,xs,y,rfl,rfl,hH,hz,q⟩:=h
 cases rx
 obtain⟨u,rfl,ru⟩:=rv.one
 obtain⟨z,its,n,r,hl,e⟩:=I.lstM hH
 refine call_meets F.slot_list_append ⟨_,e,rfl⟩ F.entry_list_append (F.args_list_append_2 _ _) (PySem.list_append l its.toArray n u (by rw[List.size_toArray]; omega)) ⟨e,?_⟩
 refine⟨.non,_,I.lset (its':=its++[u]) hH e (by simp) (r.append (.cons ru .nil)) ?_,rfl,q⟩
 rw[List.length_append,List.length_singleton]
 omega
def rExtend:V->List V->Hp->VK->Prop:=fun x vs H Q=>∃ l b xs zs,x=.ref l/\vs=[.ref b]/\H l=some (.lst xs)/\H b=some (.lst zs)/\xs.length+zs.length<=sizeLine/\Q .non (upd H l (.lst (xs++zs)))
theorem zEX:MtM X "list.extend" rExtend:=by
 intro pins s σ H x vs v us Q I rx rv h
 obtain⟨l,b,xs,zs,rfl,rfl,hH,hB,hz,q⟩:=h
 cases rx
 obtain⟨u,rfl,ru⟩:=rv.one
 cases ru
 obtain⟨z,its,n,r,hl,e⟩:=I.lstM hH
 obtain⟨z2,its2,n2,r2,hl2,e2⟩:=I.lstM hB
 have hsz:its.toArray.size+its2.toArray.size<=sizeLine:=by rw[List.size_toArray,List.size_toArray]; omega
 have hlong:¬ (!its.toArray.isEmpty && Builtin.List.listTooLong (its.toArray.size+its2.toArray.size))=true:=by
  rw[notLongL hsz,Bool.and_false]
  exact Bool.false_ne_true
 refine call_meets F.slot_list_extend ⟨_,e,rfl⟩ F.entry_list_extend (F.args_list_extend_2 _ _)
  (AutoSeq1.list_extend_list_list_0 l its.toArray n b its2.toArray n2 hlong (by rw[List.size_toArray]; omega) (by omega)) ⟨e,e2,?_⟩
 refine⟨.non,_,I.lset (its':=its++its2) hH e (by simp) (r.append r2) ?_,rfl,q⟩
 rw[List.length_append]
 omega
def rPop:V->List V->Hp->VK->Prop:=fun x vs H Q=>∃ l xs y,x=.ref l/\vs=[]/\H l=some (.lst xs)/\xs[xs.length - 1]?=some y/\Q y (upd H l (.lst xs.dropLast))
theorem zJk:MtM X "list.pop" rPop:=by
 intro pins s σ H x vs v us Q I rx rv h
 obtain⟨l,xs,y,rfl,rfl,hH,hy,q⟩:=h
 cases rx
 have hus:=rv.zero
 subst hus
 obtain⟨z,its,n,r,hl,e⟩:=I.lstM hH
 obtain⟨u,hu,ru⟩:=r.get hy
 have hy':its.toArray[its.toArray.size - 1]?=some u:=by
  show its.toArray[its.length - 1]?=some u
  rw[← Array.getElem?_toList,← hl]
  exact hu
 refine call_meets F.slot_list_pop ⟨_,e,rfl⟩ F.entry_list_pop (F.args_list_pop_1 _) (MeetsSeq.list_pop_last l its.toArray n u hy' (by rw[List.size_toArray]; omega)) ⟨e,?_⟩
 refine⟨y,_,I.lset (its':=its.dropLast) hH e ?_ r.dropLast ?_,ru,q⟩
 ·show its.toArray.eraseIdxIfInBounds (its.toArray.size - 1)=its.dropLast.toArray
  rw[List.size_toArray,List.eraseIdxIfInBounds_toArray,zH0]
 ·rw[List.length_dropLast]
  omega
def rPopAt:V->List V->Hp->VK->Prop:=fun x vs H Q=>∃ l xs i k y,x=.ref l/\vs=[.int i]/\H l=some (.lst xs)/\-(2 ^ 63)<=i/\i < 2 ^ 63/\seqIndex? i xs.length=some k/\xs[k]?=some y/\Q y (upd H l (.lst (xs.eraseIdx k)))
theorem zKA:MtM X "list.pop" rPopAt:=by
 intro pins s σ H x vs v us Q I rx rv h
 obtain⟨l,xs,i,k,y,rfl,rfl,hH,h1,h2,hk,hy,q⟩:=h
 cases rx
 obtain⟨u,rfl,ru⟩:=rv.one
 obtain⟨t,rfl⟩:=ru
 obtain⟨z,its,n,r,hl,e⟩:=I.lstM hH
 obtain⟨w,hw,rw'⟩:=r.get hy
 refine call_meets F.slot_list_pop ⟨_,e,rfl⟩ F.entry_list_pop (F.args_list_pop_2 _ _)
  (MeetsSeq.list_pop_at l its.toArray n i t k w (fitsIndex_both h1 h2) (by rw[List.size_toArray,← hl]; exact hk) (by rw[← Array.getElem?_toList]; exact hw) (by rw[List.size_toArray]; omega)) ⟨e,?_⟩
 refine⟨y,_,I.lset (its':=its.eraseIdx k) hH e ?_ (r.eraseIdx k) ?_,rw',q⟩
 ·show its.toArray.eraseIdxIfInBounds k=(its.eraseIdx k).toArray
  rw[List.eraseIdxIfInBounds_toArray]
 ·have:=zEy xs k
  omega
def rCat:R2:=fun x y H Q=>∃ l b xs zs,x=.ref l/\y=.ref b/\H l=some (.lst xs)/\H b=some (.lst zs)/\xs.length+zs.length<=sizeLine/\∀ p,H p=none->Q (.ref p) (upd H p (.lst (xs++zs)))
theorem zNS:OpR X (binaryOp .Add) rCat:=by
 intro pins s σ H x y v u Q I rx ry h
 obtain⟨l,b,xs,zs,rfl,rfl,hH,hB,hz,q⟩:=h
 cases rx
 cases ry
 obtain⟨z,its,n,r,hl,e⟩:=I.lstM hH
 obtain⟨z2,its2,n2,r2,hl2,e2⟩:=I.lstM hB
 refine PySem.P.add_list e e2 ?_ (by rw[List.size_toArray,List.size_toArray]; omega)
 have ea:its.toArray++its2.toArray=(its++its2).toArray:=by simp
 rw[ea]
 exact⟨.ref _,_,I.lnew (t':=s.toks) (r.append r2) (by rw[List.length_append]; omega),rfl,q _ I.fresh⟩
def rRep:R2:=fun x y H Q=>∃ l k xs,x=.ref l/\y=.int k/\H l=some (.lst xs)/\-(2 ^ 63)<=k/\k < 2 ^ 63/\xs.length * k.toNat<=sizeLine /\
 ∀ p,H p=none->Q (.ref p) (upd H p (.lst (List.replicate k.toNat xs).flatten))
theorem zLs{α:Type}(xs:List α)(k:Nat):(List.replicate k xs).flatten.length=k * xs.length:=by
 induction k with
 | zero=>simp
 | succ k ih=>rw[List.replicate_succ,List.flatten_cons,List.length_append,ih,Nat.succ_mul,Nat.add_comm]
theorem zNI:OpR X (binaryOp .Mult) rRep:=by
 intro pins s σ H x y v u Q I rx ry h
 obtain⟨l,k,xs,rfl,rfl,hH,h1,h2,hz,q⟩:=h
 cases rx
 obtain⟨t,rfl⟩:=ry
 obtain⟨z,its,n,r,hl,e⟩:=I.lstM hH
 have hlen:its.toArray.size * k.toNat<=sizeLine:=by rw[List.size_toArray,← hl]; exact hz
 have hcap:¬ its.toArray.size * k.toNat > (2 ^ 63 - 1) / 8:=by
  have:(sizeLine:Nat)<=(2 ^ 63 - 1) / 8:=by decide
  omega
 have hfit:¬ (!Builtin.List.listFitsIndex k)=true:=by
  rw[fitsIndex_both h1 h2]
  exact Bool.false_ne_true
 have hlong:¬ Builtin.List.listTooLong (its.toArray.size * k.toNat)=true:=by
  rw[notLongL hlen]
  exact Bool.false_ne_true
 have hnew:List.foldl (fun x1 x2=>x1++x2) #[] (List.replicate (if its.toArray.isEmpty=true then 0 else k.toNat) its.toArray)=(List.replicate k.toNat its).flatten.toArray:=by
  have f0:∀ m:Nat,List.foldl (fun x1 x2=>x1++x2) #[] (List.replicate m its.toArray)=(List.replicate m its).flatten.toArray:=fun m=>by
   have:=zEk its m []
   rw[List.nil_append]at this
   exact this
  rw[f0]
  cases its with
  | nil=>simp
  | cons a r'=>rw[if_neg (by simp)]
 refine wpAny_binaryOp_repeat_ref (T:="list") (U:="int") (by decide) ⟨_,e,rfl⟩ (fun s'=>typeIs_int s' k t) noFill_list_mul F.fills_int_mul F.slot_int_rmul repeat_list F.slot_int_index.lookup
  (call_meets F.slot_int_rmul (typeIs_int s k t) F.entry_int_rmul (F.args_int_rmul_2 _ _) (int___rmul___int_list k t l its.toArray n)
   ⟨e,rfl,⟨_,e,rfl⟩,call_meets F.slot_list_mul ⟨_,e,rfl⟩ F.entry_list_mul (F.args_list_mul_2 _ _) (AutoListH.list___mul___list_int_3 l its.toArray n k t hfit hcap hlong) ⟨e,?_⟩⟩)
 rw[hnew]
 exact⟨.ref _,_,I.lnew (t':=s.toks) (r.rep k.toNat) (by rw[zLs,Nat.mul_comm]; exact hz),rfl,q _ I.fresh⟩
end
end L2
namespace Att
open PySem PySem.W PySem.Calls PyProof.Rows
theorem zD2{P:Params}{h:Heap}:∀ (ns:List Int) (vs:List Value),WellAll P h vs (ns.map WData.int)->IntsAre vs ns:=by
 intro ns
 induction ns with
 | nil =>
  intro vs w
  rw[List.map_nil]at w
  cases w
  exact .nil
 | cons n ns ih =>
  intro vs w
  rw[List.map_cons]at w
  cases w with
  | cons a b =>
   cases a
   exact .cons _ _ (ih _ b)
theorem zJY{l:OpenLaw}{n:Nat}(hn:l.most=some n){P:Params}{h:Heap}{args:List WData}{vals:List Value}
  (hpre:l.row.toRowW.claim.pre args=true) (hwl:WellAll P h vals args) :
  ∃ a vs ns,vals=[Value.ref a]/\args=[WData.list (ns.map WData.int)]/\h.get? a=some { cls:=.type "list",data:=.seq vs.toArray }/\IntsAre vs ns/\ns.length<=n:=by
 have hsh:WShape.hasAll [] args [.list .int]=true:=(pre_splitW hpre).1
 have hc:l.pre.holds [] { args:=args }=true:=(pre_splitW hpre).2
 obtain⟨d,r,rfl,h1,h2⟩:=hasAllW_cons hsh
 obtain rfl:=hasAllW_nil h2
 obtain⟨xs,rfl,h3⟩:=hasW_list h1
 obtain⟨ns,rfl⟩:=items_int h3
 have hlen:ns.length<=n:=by
  unfold OpenLaw.pre at hc
  have h4:(WTm.not (.lt (.lit (.int (n:Int))) (.len (.arg 0)))).holds [] { args:=[.list (ns.map .int)] }=true:=by
   have h4:=(holds_andW hc).1
   rw[hn]at h4
   exact h4
  have h5:=condW_of h4 (w_not (w_lt w_lit (w_len_list (w_arg rfl))))
  rw[List.length_map]at h5
  refine Nat.le_of_not_lt fun q=>?_
  have q':(n:Int) < ((ns.length:Nat):Int):=by omega
  first
   | (rw[decide_eq_true q']at h5; exact absurd h5 (by decide))
   | (simp at h5; omega)
 cases hwl with
 | cons w1 w2 =>
  cases w2
  cases w1 with
  | list ho hall=>exact⟨_,_,ns,rfl,rfl,ho,zD2 ns _ hall,hlen⟩
theorem zJK(l:OpenLaw)(args:List WData):l.row.toRowW.claim.post args (.bool true) args=true :=
 postW_of (r:=l.row.toRowW) (X:=(true == true))
  (show WShape.has [] (.bool true) .bool=true by first | rfl | decide | simp[WShape.has,WShape.arms,WShape.armsAll])
  (show (WTm.eq .res (.lit (.bool true))).value [] { args:=args,res:=some (.bool true),after:=args }=some (.bool (true == true)) from w_eq_bool (w_res rfl) w_lit) rfl
theorem attach_call{l:OpenLaw}{n:Nat}{q:Program}{loose:List Str}{XP:(Str->Option Value)->Heap->Prop}{YP:World->Heap->Prop}{d:DefRec}
  (hn:l.most=some n) (hdf:d.params.defaults=[])
  (call:∀ (w:World) (s₀ s₁:Shared) (mg mb:Str->Option Value) (fa:Addr) (o:Obj) (pm cd doc:Value) (a:Addr) (vs:List Value) (ns:List Int),
   Ground q loose [] XP w s₀ mg mb s₁.heap->YP w s₁.heap ->
   s₁.heap.get? fa=some o->o.data=.func (docDef d.name d.params d.body d.scope pm cd doc)->s₁.heap.CodeRec cd d.name->mg d.name=some (.ref fa) ->
   s₁.heap.get? a=some { cls:=.type "list",data:=.seq vs.toArray }->IntsAre vs ns->ns.length<=n->s₁.gens=#[] ->
   codeAny (model l.prog w) callerA (.call (.ref fa) ⟨[.ref a],[]⟩) (fun r s'=>r=.ok (.ret (.bool true))/\OldK s₁.heap s'.heap/\s'.os=s₁.os/\AllBare s'.gens) s₁) :
  WalkO q loose XP YP l.row.toRowW d [] (fun f vs=>PySem.call f vs):=by
 intro w s₀ s₁ mg mb G Y fa o pm cd doc dV kV ho hd hcd hD hmg hg args vals as hpre hlay hrd hwl hlo
 obtain rfl:dV=.none:=Dflts.none hD hdf
 obtain rfl:kV=.none:=Dflts.noKw hD
 obtain⟨a,vs,ns,rfl,rfl,hobj,hints,hlen⟩:=zJY hn hpre hwl
 refine enter_call (codeAny_mono (call w s₀ s₁ mg mb fa o pm cd doc a vs ns G Y ho (fd_plain hd) hcd hmg hobj hints hlen hg) fun r s' hq=>?_)
 obtain⟨rfl,h2,h3,h4⟩:=hq
 exact⟨.inl ⟨.bool true,.bool true,[],rfl,fun _=>rfl,.bool true,zJK l _,fun _=>⟨List.Pairwise.nil,fun _ hm=>(nomatch hm)⟩⟩,h2,h3,h4⟩
end Att
namespace L2
open PySem PySem.Spec PyProof.Rows
theorem zEj:∀ {vs:List Value} {ns:List Int},IntsAre vs ns->Vals (ns.map V.int) vs
 | _,_,.nil=>.nil
 | _,_,.cons n t h=>.cons ⟨t,rfl⟩ (zEj h)
def defArgs(s:Stmt):Arguments:=match s with
 | .FunctionDef _ a _ _ _ _ _ _ _ _=>a
 | _=>{ posonlyargs:=[],args:=[],vararg:=none,kwonlyargs:=[],kw_defaults:=[],kwarg:=none,defaults:=[] }
def defBody(s:Stmt):List Stmt:=match s with
 | .FunctionDef _ _ b _ _ _ _ _ _ _=>b
 | _=>[]
def defScope(s:Stmt):Scope:=match s with
 | .FunctionDef _ _ _ _ _ _ sc _ _ _=>sc
 | _=>{ kind:=.function,names:=[],isGenerator:=false,isCoroutine:=false }
abbrev CX0:CXT:=fun _ _ _ _ _ _=>False
abbrev E0:XK:=fun _ _ _=>False
theorem pass0{X:Cx}:Passes CX0 X E0:=fun _ _ _ _ _ _ _ h=>h.elim
structure Fun(K:PySem.W.Frag)(x qual:Str)(st:Stmt)(f:Addr)(fd:FuncData):Prop where
 ex:∃ (oc:Value) (od:Option Addr) (kV doc pm:Value) (an:Option Addr) (cdv ct:Value) (osl:Array (Option Value)),
  fd=PySem.W.fnOf x qual (defArgs st) (defBody st) (defScope st) .none kV doc pm an cdv ct/\K.lookup f=some ⟨oc,od,.func fd,osl⟩/\PySem.W.codeIn K cdv qual=true
 kp:PySem.W.keepIn K (.ref f)=true
section
variable {P:Program}{w:World}{K:PySem.W.Frag}{mg:Str->Option Value}{base:Heap}
theorem Fun.ok{x qual:Str}{st:Stmt}{f:Addr}{fd:FuncData}{N ps:List Str}{k:Nat}{sp:Sp}(F:Fun K x qual st f fd)(S:FnScope N ps (defScope st))(len:∀ vs H Q E,sp vs H Q E->vs.length=ps.length)
  (hbody:∀ (cdv:Value) (A:Around) (outer:List Env) (s:Shared) (H:Hp) (vs:List V) (Q:VK) (E:XK),Room k (A.deeper (envOfC qual (defScope st) s.heap.objs.size f cdv))->sp vs H Q E ->
   ∃ t,PSs (cxOf CX0 P w K mg base N qual (defScope st) f cdv A outer s H E).nox (defBody st) t/\t { nx:=fun _ H'=>Q .non H',rt:=Q } (start N vs) H):FnOk P w K mg base CX0 (k+1) f fd ps sp:=by
 obtain⟨oc,od,kV,doc,pm,an,cdv,ct,osl,rfl,lk,hcd⟩:=F.ex
 refine zLU lk hcd S len fun A outer s H vs Q E hr hsp=>?_
 obtain⟨t,h,q⟩:=hbody cdv A outer s H vs Q E hr hsp
 exact⟨t,h.nox,q⟩
theorem Fun.binds{x qual:Str}{st:Stmt}{f:Addr}{fd:FuncData}{ps:List Str}(F:Fun K x qual st f fd)
  (h:∀ (kV doc pm:Value) (an:Option Addr) (cdv ct:Value) (us:List Value),us.length=ps.length->bindArgs (PySem.W.fnOf x qual (defArgs st) (defBody st) (defScope st) .none kV doc pm an cdv ct) ⟨us,[]⟩=pure (ps.zip us)):Binds K fd ps []:=by
 obtain⟨oc,od,kV,doc,pm,an,cdv,ct,osl,rfl,lk,hcd⟩:=F.ex
 exact .all (h kV doc pm an cdv ct)
theorem zFR{x qual:Str}{st:Stmt}{f:Addr}{oc:Value}{od an:Option Addr}{osl:Array (Option Value)}{kV doc pm cdv ct:Value}(l:K.lookup f=some ⟨oc,od,.func (PySem.W.fnOf x qual (defArgs st) (defBody st) (defScope st) .none kV doc pm an cdv ct),osl⟩)
  (c:PySem.W.codeIn K cdv qual=true) (k:PySem.W.keepIn K (.ref f)=true):Fun K x qual st f (PySem.W.fnOf x qual (defArgs st) (defBody st) (defScope st) .none kV doc pm an cdv ct):=⟨⟨oc,od,kV,doc,pm,an,cdv,ct,osl,rfl,l,c⟩,k⟩
end
section
variable {X:Cx}
theorem pv(i:Nat){x:Str}{pos:Pos}(hN:X.N[i]?=some x:=by rfl)(hv:Vis X.env.scope x:=by first | exact Or.inl rfl | exact Or.inr (Or.inl rfl) | exact Or.inr (Or.inr rfl))(hd:(x == ("__debug__":Str))=false:=by decide)
  (hcd:(x == ("__classdict__":Str))=false:=by decide):PE X (.Name x pos) (tVar i):=zCm hN hv hd hcd
end
def Same(H H':Hp):Prop:=∀ b o,H b=some o->H' b=some o
theorem Same.refl(H:Hp):Same H H:=fun _ _ h=>h
end L2
set_option maxHeartbeats 4000000
namespace L2
open PySem PySem.Spec PyProof.Rows
def cloOf(cells:List (Str×Addr)):List (Str×NameKind)->List (Str×Addr)->List (Str×Addr)
 | [],acc=>acc
 | (n,k)::r,acc=>if k == .free then cloOf cells r ((n,(cells.lookup n).getD 0)::acc) else cloOf cells r acc
theorem zE8{scope:Scope}{env:Env}(h:∀ x∈scope.names,x.2=.free->∃ c,env.cells.lookup x.1=some c):closureFor scope env=pure (cloOf env.cells scope.names []):=by
 have go:∀ (names:List (Str×NameKind)) (acc:List (Str×Addr)),(∀ x∈names,x.2=.free->∃ c,env.cells.lookup x.1=some c) ->
   (forIn names acc fun (x:Str×NameKind) (cs:List (Str×Addr))=>if (x.2 == NameKind.free)=true then (do let c ← cellOf env x.1; pure (ForInStep.yield ((x.1,c)::cs))) else (pure (ForInStep.yield cs):Sem _))=(pure (cloOf env.cells names acc):Sem _):=by
  intro names
  induction names with
  | nil=>intro acc _; rfl
  | cons x r ih =>
   intro acc hx
   obtain⟨n,k⟩:=x
   rw[List.forIn_cons]
   have hr:=fun acc=>ih acc fun y hy=>hx y (List.mem_cons_of_mem _ hy)
   unfold cloOf
   by_cases hk:(k == NameKind.free)=true
   ·obtain⟨c,hc⟩:=hx (n,k) List.mem_cons_self (by simpa using hk)
    have hc':env.cells.lookup n=some c:=hc
    have e:cellOf env n=pure c:=by unfold cellOf; rw[hc']
    simp only[hk,if_true,e,hc',Option.getD_some,pure_bind]
    exact hr _
   ·simp only[hk,if_false,pure_bind]
    exact hr _
 unfold closureFor
 have:=go scope.names [] h
 simp only[bind_pure]
 exact this
theorem zBE{cells:List (Str×Addr)}{x:Str}{c:Addr}:∀ (names:List (Str×NameKind)) (acc:List (Str×Addr)),(cloOf cells names acc).lookup x=some c->((x,NameKind.free)∈names/\c=(cells.lookup x).getD 0)\/acc.lookup x=some c
 | [],acc,h=>.inr h
 | (n,k)::r,acc,h=>by
  unfold cloOf at h
  by_cases hk:(k == NameKind.free)=true
  ·rw[if_pos hk]at h
   have hk':k=.free:=by simpa using hk
   subst hk'
   rcases zBE r _ h with ⟨a,b⟩ | h'
   ·exact .inl ⟨List.mem_cons_of_mem _ a,b⟩
   ·clear h
    rw[List.lookup_cons]at h'
    cases e:x == n with
    | true =>
         rw[e]at h'; have q:x=n:=by simpa using e
         subst q
         have q2:(cells.lookup x).getD 0=c:=Option.some.inj h'
         exact .inl ⟨List.mem_cons_self,q2.symm⟩
    | false=>rw[e]at h'; exact .inr h'
  ·rw[if_neg hk]at h
   rcases zBE r _ h with ⟨a,b⟩ | h
   ·exact .inl ⟨List.mem_cons_of_mem _ a,b⟩
   ·exact .inr h
theorem zCI{cells:List (Str×Addr)}{x:Str}:∀ (names:List (Str×NameKind)) (acc:List (Str×Addr)),((x,NameKind.free)∈names\/(acc.lookup x).isSome=true)->((cloOf cells names acc).lookup x).isSome=true
 | [],acc,h=>h.elim (fun z=>nomatch z) id
 | (n,k)::r,acc,h=>by
  unfold cloOf
  by_cases hk:(k == NameKind.free)=true
  ·rw[if_pos hk]
   refine zCI r _ ?_
   by_cases e:x=n
   ·subst e; exact .inr (by simp)
   ·rcases h with h | h
    ·rcases List.mem_cons.mp h with h | h
     ·cases h; exact absurd rfl e
     ·exact .inl h
    ·refine .inr ?_
     rw[List.lookup_cons]
     have:(x == n)=false:=by simpa using e
     rw[this]; exact h
  ·rw[if_neg hk]
   refine zCI r _ ?_
   rcases h with h | h
   ·rcases List.mem_cons.mp h with h | h
    ·cases h; exact absurd rfl hk
    ·exact .inl h
   ·exact .inr h
theorem zBV{x:Str}{c:Addr}:∀ (names:List (Str×NameKind)) (n:Nat) (acc:List (Str×Addr)),(cellsFrom n names acc).lookup x=some c->(n<=c/\(x,NameKind.cell)∈names)\/acc.lookup x=some c
 | [],_,acc,h=>.inr h
 | (y,k)::r,n,acc,h=>by
  unfold cellsFrom at h
  by_cases hk:(k == NameKind.cell)=true
  ·rw[if_pos hk]at h
   have hk':k=.cell:=by simpa using hk
   subst hk'
   rcases zBV r _ _ h with ⟨a,b⟩ | h'
   ·exact .inl ⟨by omega,List.mem_cons_of_mem _ b⟩
   ·clear h
    rw[List.lookup_cons]at h'
    cases e:x == y with
    | true =>
         rw[e]at h'; have q:x=y:=by simpa using e
         have q2:n=c:=Option.some.inj h'
         subst q q2; exact .inl ⟨Nat.le_refl _,List.mem_cons_self⟩
    | false=>rw[e]at h'; exact .inr h'
  ·rw[if_neg hk]at h
   rcases zBV r _ _ h with ⟨a,b⟩ | h
   ·exact .inl ⟨a,List.mem_cons_of_mem _ b⟩
   ·exact .inr h
theorem zFy{x:Str}{c:Addr}:∀ (names:List (Str×NameKind)) (n:Nat) (acc:List (Str×Addr)),(x,c)∈cellsFrom n names acc->n<=c\/(x,c)∈acc
 | [],_,acc,h=>.inr h
 | (y,k)::r,n,acc,h=>by
  unfold cellsFrom at h
  by_cases hk:(k == NameKind.cell)=true
  ·rw[if_pos hk]at h
   rcases zFy r _ _ h with a | h
   ·exact .inl (by omega)
   ·rcases List.mem_cons.mp h with h | h
    ·cases h; exact .inl (Nat.le_refl _)
    ·exact .inr h
  ·rw[if_neg hk]at h
   exact zFy r _ _ h
theorem zGO{x y:Str}{c:Addr}:∀ (names:List (Str×NameKind)) (n:Nat) (acc:List (Str×Addr)),(∀ p∈acc,p.2 < n)->n<=c->(x,c)∈cellsFrom n names acc->(y,c)∈cellsFrom n names acc->x=y
 | [],n,acc,ha,hc,h1,_=>by have q:c < n:=ha _ h1; exact absurd (Nat.lt_of_lt_of_le q hc) (Nat.lt_irrefl _)
 | (z,k)::r,n,acc,ha,hc,h1,h2=>by
  unfold cellsFrom at h1 h2
  by_cases hk:(k == NameKind.cell)=true
  ·rw[if_pos hk]at h1 h2
   have ha':∀ p∈(z,n)::acc,p.2 < n+1:=fun p hp=>by
    rcases List.mem_cons.mp hp with h | h
    ·subst h; exact Nat.lt_succ_self _
    ·exact Nat.lt_succ_of_lt (ha p h)
   by_cases hcn:n+1<=c
   ·exact zGO r _ _ ha' hcn h1 h2
   ·have hcn':c=n:=Nat.le_antisymm (Nat.not_lt.mp hcn) hc
    subst hcn'
    have g:∀ w,(w,c)∈cellsFrom (c+1) r ((z,c)::acc)->w=z:=fun w hw=>by
     rcases zFy r _ _ hw with a | a
     ·exact absurd a (Nat.not_succ_le_self _)
     ·rcases List.mem_cons.mp a with a | a
      ·cases a; rfl
      ·have:=ha _ a; exact absurd this (Nat.lt_irrefl _)
    rw[g x h1,g y h2]
  ·rw[if_neg hk]at h1 h2
   exact zGO r _ _ ha hc h1 h2
theorem zET{x:Str}{c:Addr}:∀ (names:List (Str×NameKind)) (h:Heap) (acc:List (Str×Addr)),(∀ p∈acc,∃ v,h.IsCell p.2 v)->(x,c)∈cellsFrom h.objs.size names acc->∃ v,(pushCells h names).IsCell c v
 | [],_,acc,ha,hm=>ha _ hm
 | (z,k)::r,h,acc,ha,hm=>by
  unfold cellsFrom at hm
  unfold pushCells
  by_cases hk:(k == NameKind.cell)=true
  ·rw[if_pos hk]at hm ⊢
   refine zET r (h.push { cls:=.type "cell",data:=.cell none }) ((z,h.objs.size)::acc) (fun p hp=>?_) (by rw[Heap.size_push]; exact hm)
   rcases List.mem_cons.mp hp with e | e
   ·subst e; exact⟨none,_,Heap.get?_push_size _ rfl,rfl⟩
   ·obtain⟨v,q⟩:=ha p e
    exact⟨v,q.keeps fun b o e=>Heap.get?_push_of_some _ e⟩
  ·rw[if_neg hk]at hm ⊢
   exact zET r h acc ha hm
theorem zGg{M:Model}{A:Around}{E:Value->Shared->Prop}{s:Shared}{scope:Scope}{globals:Addr}{cl:List (Str×Addr)}{qual:Str}{env:Env}{Q:Env->Shared->Prop}
  (hQ:Q (newEnv scope s.heap.objs.size globals (cellsFrom (s.heap.objs.size+1) scope.names cl) qual none .none (some env) builtinsNs) { s with heap:=pushCells (s.heap.push { cls:=.type "dict",data:=.dict #[] }) scope.names }) :
  wpAny M A (newFunctionEnv scope globals cl [] qual none .none (some env)) Q E s:=by
 simp only[newFunctionEnv,Option.isSome_some,if_true]
 refine wpAny_bind (wpAny_alloc ?_)
 refine wpAny_bind (wpAny_layCells _ (fun name kind cells=>by cases hkc:kind == NameKind.cell <;> simp[hkc]) _ _ _ _ ?_)
 rw[show ({ s with heap:=s.heap.push { cls:=.type "dict",data:=.dict #[] } }:Shared).heap.objs.size=s.heap.objs.size+1 from Heap.size_push ..]
 refine wpAny_bind ?_
 rw[List.forIn_nil]
 exact wpAny_pure (wpAny_pure hQ)
def compOk(N N':List Str)(ix:List (Option Nat))(outer names:List (Str×NameKind)):Bool :=
 decide (N'.length=ix.length) && ((N'.zip ix).all fun p=>match p.2 with | none=>true | some j=>decide (N[j]?=some p.1) && names.contains (p.1,NameKind.free)) &&
 (names.all fun p=>(p.2 != .free || outer.lookup p.1 == some .cell || outer.lookup p.1 == some .free) && (p.2 != .local || names.lookup p.1 == some .local) && (p.2 != .cell || names.lookup p.1 == some .cell) && (p.2 != .free || names.lookup p.1 == some .free))
def frm(ix:List (Option Nat))(σ:St):St:=ix.map fun o=>o.bind fun j=>(σ[j]?).join
def cxC(X:Cx)(N:List Str)(scope:Scope)(C:Addr)(cs:List (Str×Addr))(s:Shared)(H:Hp)(ex:List Addr):Cx where
 prog:=X.prog
 w:=X.w
 K:=X.K
 mg:=X.mg
 base:=X.base
 A:=X.A
 N:=N
 s₀:=s
 H₀:=H
 env:=compEnvC scope cs C X.env
 outer:=X.stack
 stack:=X.stack
 ex:=ex
 fn:=fun x=>scope.names.lookup x == some .cell
 calm:=X.calm
 pn:=[]
 xe:=fun _ _=>False
structure CompOk(X:Cx)(N':List Str)(ix:List (Option Nat))(scope:Scope):Prop where
 kind:scope.kind=.function
 ok:compOk X.N N' ix X.env.scope.names scope.names=true
section
variable {X:Cx}{N':List Str}{ix:List (Option Nat)}{scope:Scope}
theorem CompOk.len(S:CompOk X N' ix scope):N'.length=ix.length:=by
 have h:=S.ok; unfold compOk at h; simp only[Bool.and_eq_true,decide_eq_true_eq]at h; exact h.1.1
theorem CompOk.name(S:CompOk X N' ix scope){p:Str×NameKind}(hp:p∈scope.names) :
  (p.2=.free->X.env.scope.names.lookup p.1=some .cell\/X.env.scope.names.lookup p.1=some .free)/\(p.2=.local->scope.names.lookup p.1=some .local)/\(p.2=.cell->scope.names.lookup p.1=some .cell)/\(p.2=.free->scope.names.lookup p.1=some .free):=by
 have h:=S.ok; unfold compOk at h; simp only[Bool.and_eq_true]at h
 have q:=List.all_eq_true.mp h.2 p hp
 simp only[Bool.and_eq_true,Bool.or_eq_true,bne_iff_ne,beq_iff_eq,ne_eq]at q
 obtain⟨⟨⟨a,b⟩,c⟩,d⟩:=q
 refine⟨fun e=>?_,fun e=>?_,fun e=>?_,fun e=>?_⟩
 ·rcases a with (a | a) | a
  ·exact absurd e a
  ·exact .inl a
  ·exact .inr a
 ·exact b.resolve_left fun z=>z e
 ·exact c.resolve_left fun z=>z e
 ·exact d.resolve_left fun z=>z e
theorem CompOk.at(S:CompOk X N' ix scope){i j:Nat}{x:Str}(h1:N'[i]?=some x)(h2:ix[i]?=some (some j)):X.N[j]?=some x/\(x,NameKind.free)∈scope.names:=by
 have h:=S.ok; unfold compOk at h; simp only[Bool.and_eq_true]at h
 have hz:(x,some j)∈N'.zip ix:=by
  have:(N'.zip ix)[i]?=some (x,some j):=by rw[List.getElem?_zip_eq_some]; exact⟨h1,h2⟩
  exact List.mem_of_getElem? this
 have q:=List.all_eq_true.mp h.1.2 _ hz
 simp only[Bool.and_eq_true,decide_eq_true_eq,List.contains_iff_mem]at q
 exact q
theorem zM7{σ:St}{i:Nat}{v:V}(h:(frm ix σ)[i]?=some (some v)):∃ j,ix[i]?=some (some j)/\σ[j]?=some (some v):=by
 unfold frm at h
 rw[List.getElem?_map]at h
 cases e:ix[i]? with
 | none=>rw[e]at h; cases h
 | some o =>
  rw[e]at h
  cases o with
  | none=>cases h
  | some j =>
   have h':(σ[j]?).join=some v:=Option.some.inj h
   refine⟨j,rfl,?_⟩
   cases e2:σ[j]? with
   | none=>rw[e2]at h'; cases h'
   | some w=>rw[e2]at h'; rw[show w=some v from h']
theorem zCF{env:Env}:∀ (names:List (Str×NameKind)) (x:Str),
  (names.map fun (n,k)=>if (k == NameKind.free && env.scope.kind == .function && env.kindOf n == some .cell) then (n,NameKind.cell) else (n,k)).lookup x =
   match names.lookup x with
   | some .free=>if (env.scope.kind == .function && env.kindOf x == some .cell) then some NameKind.cell else some .free
   | o=>o
 | [],_=>rfl
 | (n,k)::r,x=>by
  have ih:=zCF (env:=env) r x
  rw[List.map_cons]
  show List.lookup x ((if (k == NameKind.free && env.scope.kind == .function && env.kindOf n == some .cell)=true then (n,NameKind.cell) else (n,k))::_)=_
  cases hx:x == n with
  | true =>
   have e:x=n:=by simpa using hx
   subst e
   simp only[List.lookup_cons,beq_self_eq_true]
   cases k <;> by_cases hc:(env.scope.kind == .function && env.kindOf x == some .cell)=true <;> simp[List.lookup_cons,hc] <;> simp_all
  | false =>
   simp only[List.lookup_cons,hx]
   rw[← ih]
   split <;> simp only[List.lookup_cons,hx]
theorem kindC{cs:List (Str×Addr)}{C:Addr}(x:Str):(compEnvC scope cs C X.env).kindOf x =
   match scope.names.lookup x with
   | some .free=>if (X.env.scope.kind == .function && X.env.kindOf x == some .cell) then some NameKind.cell else some .free
   | o=>o:=zCF scope.names x
end
theorem zLD{X:Cx}{N':List Str}{ix:List (Option Nat)}{scope:Scope}(S:CompOk X N' ix scope){pins:List (Addr×Obj)}{σ:St}{H:Hp}{s:Shared}{fp:List Addr}{D:Addr}{o:Obj}
  (I:Inv X pins σ H s) (hf:∀ b∈fp,FpOk X pins H b) (ho:∀ b∈fp,∃ o,s.heap.get? b=some o) (hc:X.calm=true) {h3:Heap} {C:Addr} (hk3:∀ b u,s.heap.get? b=some u->h3.get? b=some u) (hC:C=h3.objs.size) (hs3:s.heap.objs.size<=h3.objs.size) {h4:Heap}
  (h4e:h4=pushCells (h3.push { cls:=.type "dict",data:=.dict #[] }) scope.names) {t4:Nat} :
  Inv (cxC X N' scope C (cellsFrom (C+1) scope.names (cloOf X.env.cells scope.names [])) s H fp) [] (frm ix σ) H { s with heap:=h4,toks:=t4 }:=by
 have hsz:s.heap.objs.size<=C:=by rw[hC]; exact hs3
 have hk4:∀ b u,h3.get? b=some u->h4.get? b=some u:=fun b u e=>by rw[h4e]; exact pushCells_keeps _ _ b u (Heap.get?_push_of_some _ e)
 have hk:∀ b u,s.heap.get? b=some u->h4.get? b=some u:=fun b u e=>hk4 b u (hk3 b u e)
 have hpC:(h3.push { cls:=.type "dict",data:=.dict #[] }).objs.size=C+1:=by rw[hC,Heap.size_push]
 have clo:∀ x c,(cloOf X.env.cells scope.names []).lookup x=some c->X.env.cells.lookup x=some c:=fun x c h=>by
  rcases zBE scope.names [] h with ⟨hm,e⟩ | h
  ·obtain⟨c',hc'⟩:=I.ok.has x ((S.name hm).1 rfl)
   rw[hc']at e ⊢
   rw[e]; rfl
  ·cases h
 have cloM:∀ p∈cloOf X.env.cells scope.names [],∃ x,(x,NameKind.free)∈scope.names/\p.1=x/\X.env.cells.lookup x=some p.2:=by
  have go:∀ (names:List (Str×NameKind)) (acc:List (Str×Addr)),(∀ q∈names,q∈scope.names)->(∀ p∈acc,∃ x,(x,NameKind.free)∈scope.names/\p.1=x/\X.env.cells.lookup x=some p.2) ->
    ∀ p∈cloOf X.env.cells names acc,∃ x,(x,NameKind.free)∈scope.names/\p.1=x/\X.env.cells.lookup x=some p.2:=by
   intro names
   induction names with
   | nil=>intro acc _ ha; exact ha
   | cons q r ih =>
    intro acc hn ha
    obtain⟨n,k⟩:=q
    unfold cloOf
    by_cases hkf:(k == NameKind.free)=true
    ·rw[if_pos hkf]
     have e:k=.free:=by simpa using hkf
     subst e
     refine ih _ (fun q hq=>hn q (List.mem_cons_of_mem _ hq)) fun p hp=>?_
     rcases List.mem_cons.mp hp with e | hp
     ·subst e
      have hm:=hn (n,.free) List.mem_cons_self
      obtain⟨c',hc'⟩:=I.ok.has n ((S.name hm).1 rfl)
      refine⟨n,hm,rfl,?_⟩
      show List.lookup n X.env.cells=some ((X.env.cells.lookup n).getD 0)
      rw[hc']; rfl
     ·exact ha p hp
    ·rw[if_neg hkf]
     exact ih _ (fun q hq=>hn q (List.mem_cons_of_mem _ hq)) ha
  exact go scope.names [] (fun _ h=>h) fun p hp=>nomatch hp
 have cellLt:∀ x c,X.env.cells.lookup x=some c->c < s.heap.objs.size:=fun x c h=>by
  obtain⟨v,q⟩:=I.cell x c h; exact q.lt
 have split:∀ x c,(cellsFrom (C+1) scope.names (cloOf X.env.cells scope.names [])).lookup x=some c->(C+1<=c/\(x,NameKind.cell)∈scope.names)\/X.env.cells.lookup x=some c:=fun x c h=>by
  rcases zBV scope.names _ _ h with h | h
  ·exact .inl h
  ·exact .inr (clo x c h)
 have cells4:∀ x c,(cellsFrom (C+1) scope.names (cloOf X.env.cells scope.names [])).lookup x=some c->∃ v,h4.IsCell c v:=fun x c h=>by
  rw[h4e]
  refine zET (x:=x) scope.names _ (cloOf X.env.cells scope.names []) (fun p hp=>?_) (by rw[hpC]; exact PySem.mem_of_lookup h)
  obtain⟨y,_,_,e⟩:=cloM p hp
  obtain⟨v,q⟩:=I.cell y p.2 e
  exact⟨v,q.keeps fun b u e=>Heap.get?_push_of_some _ (hk3 b u e)⟩
 have bLt:∀ b∈fp,b < s.heap.objs.size:=fun b hb=>by obtain⟨u,e⟩:=ho b hb; exact Heap.lt_size e
 have nfree:∀ b,s.heap.objs.size<=b->H b=none:=fun b hb=>I.hok.fresh hb
 have HC:C < h4.objs.size:=by
  have:h4.get? C=some { cls:=.type "dict",data:=.dict #[] }:=by
   rw[h4e]; refine pushCells_keeps _ _ _ _ ?_
   rw[hC]; exact Heap.get?_push_size _ rfl
  exact Heap.lt_size this
 refine⟨⟨I.ok.mod,?_,I.ok.glob,I.ok.blt,hsz,fun x y c h1 h2=>?_,fun x hx=>?_,fun x c hx h=>?_,fun h=>I.ok.hd hc,I.ok.frames,.inl rfl,fun b hb=>⟨?_,fun x c h=>?_⟩,fun b u e=>I.bs b u e,Nat.le_trans I.ok.bsz I.sz,fun b u e hb=>?_,fun b hb hz=>?_,I.stack,I.stkFree⟩,
  rfl,I.bare,Un.kept hk,⟨fun _=>none,?_,fun i x v h1 h2 h3=>?_⟩,cells4,?_,fun x c h=>?_,fun p hp=>absurd (show p∈([]:List (Addr×Obj)) from hp) (by simp),I.hok.kept hk,?_⟩
 ·exact S.kind
 ·-- injective
  have m1:=PySem.mem_of_lookup h1
  have m2:=PySem.mem_of_lookup h2
  rcases split x c h1 with ⟨a,_⟩ | a
  ·exact zGO scope.names (C+1) _ (fun p hp=>by obtain⟨y,_,_,e⟩:=cloM p hp; exact Nat.lt_succ_of_lt (Nat.lt_of_lt_of_le (cellLt y _ e) hsz)) a m1 m2
  ·rcases split y c h2 with ⟨b,_⟩ | b
   ·exact absurd (Nat.lt_of_lt_of_le (cellLt x c a) (Nat.le_trans hsz (Nat.le_of_succ_le b))) (Nat.lt_irrefl _)
   ·exact I.ok.inj x y c a b
 ·-- has
  have hx':(compEnvC scope (cellsFrom (C+1) scope.names (cloOf X.env.cells scope.names [])) C X.env).kindOf x=some .cell\/(compEnvC scope (cellsFrom (C+1) scope.names (cloOf X.env.cells scope.names [])) C X.env).kindOf x=some .free:=hx
  rw[kindC]at hx'
  have key:scope.names.lookup x=some .cell\/scope.names.lookup x=some .free:=by
   cases e:scope.names.lookup x with
   | none=>rw[e]at hx'; rcases hx' with z | z <;> cases z
   | some k =>
    rw[e]at hx'
    cases k <;> first | exact .inl rfl | exact .inr rfl | (rcases hx' with z | z <;> cases z)
  refine Option.isSome_iff_exists.mp (PySem.W.cellsFrom_some scope.names _ _ ?_)
  rcases key with k | k
  ·exact .inl k
  ·exact .inr (zCI scope.names [] (.inl (PySem.mem_of_lookup k)))
 ·-- own cells are new
  have hx':(scope.names.lookup x == some NameKind.cell)=true:=hx
  have hx'':scope.names.lookup x=some .cell:=by simpa using hx'
  rcases zBV scope.names _ _ h with ⟨a,_⟩ | a
  ·exact Nat.le_trans hsz (Nat.le_of_succ_le a)
  ·rcases zBE scope.names [] a with ⟨hm,_⟩ | z
   ·have:=(S.name hm).2.2.2 rfl
    rw[hx'']at this; cases this
   ·cases z
 ·exact Nat.ne_of_lt (Nat.lt_of_lt_of_le (bLt b hb) hsz)
 ·rcases split x c h with ⟨a,_⟩ | a
  ·exact Nat.ne_of_gt (Nat.lt_of_lt_of_le (bLt b hb) (Nat.le_trans hsz (Nat.le_of_succ_le a)))
  ·exact (hf b hb).2.2.2.2.1 x c a
 ·rcases (hf b hb).2.2.2.1 with z | z
  ·exact I.ok.noex b u e z
  ·exact absurd (Nat.lt_of_lt_of_le (Heap.lt_size e) (Nat.le_trans I.ok.bsz z)) (Nat.lt_irrefl _)
 ·rcases List.mem_cons.mp (I.stkSub b hz) with e | e
  ·exact (hf b hb).2.1 e
  ·exact (hf b hb).2.2.1 e
 ·-- the block's names
  rw[h4e]
  show (pushCells (h3.push { cls:=.type "dict",data:=.dict #[] }) scope.names).Ns C (fun _=>none)
  rw[hC]
  exact (Heap.Ns.new h3 (.type "dict")).keeps (pushCells_keeps _ _)
 ·obtain⟨j,e1,e2⟩:=zM7 h2
  obtain⟨hn,hm⟩:=S.at h1 e1
  have hkx:=(S.name hm).2.2.2 rfl
  have hox:=(S.name hm).1 rfl
  obtain⟨m,hns,hl⟩:=I.loc
  have vis:Vis X.env.scope x:=by rcases hox with z | z; exact .inr (.inl z); exact .inr (.inr z)
  obtain⟨u,r,l⟩:=hl j x v hn e2 vis
  refine⟨u,r,.inr ⟨?_,?_⟩⟩
  ·show (compEnvC scope _ C X.env).kindOf x=some .cell\/(compEnvC scope _ C X.env).kindOf x=some .free
   rw[kindC,hkx]
   dsimp only
   split
   ·exact .inl rfl
   ·exact .inr rfl
  ·rcases l with ⟨k,_⟩ | ⟨_,c,hc',hcell⟩
   ·have k':X.env.scope.names.lookup x=some .local:=k
    rcases hox with z | z <;> rw[z]at k' <;> cases k'
   ·have hs:((cellsFrom (C+1) scope.names (cloOf X.env.cells scope.names [])).lookup x).isSome=true:=PySem.W.cellsFrom_some scope.names _ _ (.inr (zCI scope.names [] (.inl hm)))
    obtain⟨c',e'⟩:=Option.isSome_iff_exists.mp hs
    have:c'=c:=by
     rcases split x c' e' with ⟨_,q⟩ | q
     ·have:=(S.name q).2.2.1 rfl
      rw[show scope.names.lookup x=some .free from hkx]at this; cases this
     ·rw[hc']at q; exact (Option.some.inj q).symm
    subst this
    exact⟨c',e',hcell.keeps hk⟩
 ·exact nfree C hsz
 ·rcases split x c h with ⟨a,_⟩ | a
  ·exact nfree c (Nat.le_trans hsz (Nat.le_of_succ_le a))
  ·exact I.freeC x c a
 ·show (frm ix σ).length=N'.length
  unfold frm; rw[List.length_map,S.len]
theorem zFj{prog:Program}{w:World}{A:Around}{R:Result->Shared->Prop}{s:Shared}{elt target iter:Expr}{ifs:List Expr}{scope:Scope}{pos:Pos}{it acc:Value}{env:Env}(I:Nat->Shared->Prop)
  (turn:∀ n s,I n s->wpAny (model prog w) A (pyNext it) (fun r s₁=>match r with
   | none=>R (.ok .next) s₁
   | some v=>wpAny (model prog w) A (letOwnedTupleGo target it v) (fun _ s₁'=>wpAny (model prog w) A (assign target env v) (fun _ s₂ =>
     wpAny (model prog w) A (forIn ifs true fun c r=>if r=true then do let ok ← isTrue c env (eval c env); pure (ForInStep.yield ok) else pure (ForInStep.yield r)) (fun ok s₃ =>
      if ok=true then wpAny (model prog w) A (eval elt env) (fun x s₄ =>
       wpAny (model prog w) A (call (.builtin "list.append") [acc,x]) (fun _ s₅=>∃ m,m < n/\I m s₅) (fun _ _=>False) s₄) (fun _ _=>False) s₃
      else ∃ m,m < n/\I m s₃) (fun _ _=>False) s₂) (fun _ _=>False) s₁') (fun _ _=>False) s₁) (fun _ _=>False) s)
  (n:Nat) (h:I n s) :
  codeAny (model prog w) A (.compLoop (.ListComp elt [⟨target,iter,ifs,0⟩] scope pos) 0 it acc env) R s:=by
 refine codeAny_loop rfl I (fun n s hI=>?_) n h
 show wpAny _ A ((compTurn (.ListComp elt [⟨target,iter,ifs,0⟩] scope pos) 0 it acc env).onRaise (fun x=>do noteFrame x env; theTreesLotGoes x)) _ _ s
 refine wpAny_noted ?_
 rw[compTurn_list]
 refine wpAny_bind (wpAny_standAt (wpAny_bind (wpAny_mono (turn n s hI) (fun r s₁ h₁=>?_) fun _ _ h'=>h'.elim)))
 cases r with
 | none=>exact wpAny_pure h₁
 | some v =>
  refine wpAny_bind (wpAny_mono h₁ (fun _ s₁' h₁'=>?_) fun _ _ h'=>h'.elim)
  refine wpAny_bind (wpAny_mono h₁' (fun _ s₂ h₂=>wpAny_bind (wpAny_mono h₂ (fun ok s₃ h₃=>?_) fun _ _ h'=>h'.elim)) fun _ _ h'=>h'.elim)
  cases ok with
  | false=>exact wpAny_pure ⟨rfl,h₃⟩
  | true =>
   exact wpAny_bind (wpAny_bind (wpAny_mono h₃ (fun x s₄ h₄=>wpAny_bind (wpAny_mono h₄ (fun _ s₅ h₅=>wpAny_pure (wpAny_pure ⟨rfl,h₅⟩)) fun _ _ h'=>h'.elim)) fun _ _ h'=>h'.elim))
def PTs(X:Cx)(ifs:List Expr)(t:TT):Prop :=
 ∀ (pins:List (Addr×Obj)) (s:Shared) (σ:St) (H:Hp) (Q:Bool->Hp->Prop),Inv X pins σ H s->t σ H Q ->
  wpAny (model X.prog X.w) X.A (forIn ifs true fun c r=>if r=true then do let ok ← isTrue c X.env (eval c X.env); pure (ForInStep.yield ok) else pure (ForInStep.yield r)) (TP X pins σ Q) X.xe s
def tYes:TT:=fun _ H Q=>Q true H
theorem zMv{X:Cx}:PTs X [] tYes:=fun _ _ _ H _ I h=>wpAny_tests_nil ⟨H,I,h⟩
theorem zME{X:Cx}{c:Expr}{t:TT}(h:PT X c t):PTs X [c] t:=fun pins s σ H Q I hw=>wpAny_tests_one (h pins s σ H Q I hw)
def CompW(J:It)(ix:List (Option Nat))(g:TG)(tc:TT)(te:TE)(σ:St)(H1:Hp)(Q:VK):Prop:=∃ W:Nat->Nat->List V->St->Hp->Prop,(∃ m,W 0 m [] (frm ix σ) H1) /\
 ∀ i m ys σ' H',W i m ys σ' H' ->
  (J.stop i H'/\ys.length<=sizeLine/\∀ D,H' D=none->Q (.ref D) (upd H' D (.lst ys))) \/
  (J.go i H'/\ys.length < sizeLine/\∃ N:List V->St->Hp->Prop,(∀ ys' σ2 H2,N ys' σ2 H2->∃ m',m' < m/\W (i+1) m' ys' σ2 H2) /\
   ∀ x H2,J.yld i H' x H2->g x σ' H2 fun σ2 H3=>tc σ2 H3 fun b H4=>if b=true then te σ2 H4 fun v H5=>N (ys++[v]) σ2 H5 else N ys σ2 H4)
def tComp(wi:TI)(ix:List (Option Nat))(g:TG)(tc:TT)(te:TE):TE:=fun σ H Q=>wi σ H fun J H1=>CompW J ix g tc te σ H1 Q
theorem HOk.adopt{P:Program}{w:World}{H:Hp}{h:Heap}{a:Addr}{o:HO}(x:HOk P w H h)(hn:H a=none)(new:ObjOk P w (upd H a o) h a o):HOk P w (upd H a o) h:=fun b u e=>by
 by_cases hb:b=a
 ·subst hb; rw[zAN]at e; cases e; exact new
 ·rw[zAD hb]at e
  exact (x b u e).stay (fun c v _ q=>q) (fun c q=>by rw[zAD (zAI q hn)]; exact q) fun c xs q=>by rw[zAD (zAI q hn)]; exact q
section
variable {X:Cx}{N':List Str}{ix:List (Option Nat)}{scope:Scope}{elt tg iter:Expr}{ifs:List Expr}{pos:Pos}{wi:TI}{g:TG}{tc:TT}{te:TE}
theorem zEp{use:Option (Value->Sem Unit)}{QQ:Value->Shared->Prop}(S:CompOk X N' ix scope)(hc:X.calm=true)(hi:PI X tg iter wi)
  (hg:∀ C cs s H ex,PG (cxC X N' scope C cs s H ex) tg g) (ht:∀ C cs s H ex,PTs (cxC X N' scope C cs s H ex) ifs tc) (he:∀ C cs s H ex,PE (cxC X N' scope C cs s H ex) elt te)
  {pins:List (Addr×Obj)} {s:Shared} {σ:St} {H:Hp} {Q:VK} (I:Inv X pins σ H s) (hw:tComp wi ix g tc te σ H Q)
  (fin:∀ (D C:Addr) (o:Obj) (H':Hp) (s':Shared),Inv X (pins++[(C,o)]) σ H' s'->(∃ m,s'.heap.Ns C m)->(X.s₀.heap.objs.size<=C)->(∀ x c,X.env.cells.lookup x=some c->c≠C)->(∀ p∈X.pn++pins,p.1≠C)->Q (.ref D) H'->compPost (model X.prog X.w) X.A X.xe use QQ (.ref D) C (.ok .next) s')
  (hs:∀ x,foldedSetIterable iter X.env x=pure x:=by intro _; rfl) :
  wpAny (model X.prog X.w) X.A (comprehension (.ListComp elt [⟨tg,iter,ifs,0⟩] scope pos) scope X.env (firstIterPos [⟨tg,iter,ifs,0⟩] pos) (newList []) false (eval iter X.env) use) QQ X.xe s:=by
 refine wpAny_comprehension_free (cl:=cloOf X.env.cells scope.names []) rfl hs (zE8 fun x hx hk=>I.ok.has x.1 ((S.name hx).1 hk)) S.kind (fun x hx hl=>(S.name hx).2.1 hl) ?_
 refine thn (hi pins s σ H _ I hw) fun v s1 h1=>thn h1 fun itv s2 h2=>?_
 obtain⟨it,fp,tn,J,H2,e,I2,T,st2,f2,W,⟨m0,w0⟩,turn⟩:=h2
 subst e
 refine wpAny_newObj_type ?_
 refine zGg ?_
 generalize hH3:s2.heap.push { cls:=.type "list",dict:=none,data:=.seq ([]:List Value).toArray }=h3
 have hD3:h3.get? s2.heap.objs.size=some { cls:=.type "list",dict:=none,data:=.seq ([]:List Value).toArray }:=by rw[← hH3]; exact Heap.get?_push_size _ rfl
 have hk3:∀ b u,s2.heap.get? b=some u->h3.get? b=some u:=fun b u e=>by rw[← hH3]; exact Heap.get?_push_of_some _ e
 have hz3:h3.objs.size=s2.heap.objs.size+1:=by rw[← hH3,Heap.size_push]
 have ho2:∀ b∈fp,∃ o,s2.heap.get? b=some o:=fun b hb=>by obtain⟨o,e,_⟩:=T.obj _ _ st2 b hb; exact⟨o,e⟩
 show codeAny (model X.prog X.w) X.A (.compStart (.ListComp elt [⟨tg,iter,ifs,0⟩] scope pos) 0 (.ref it) (.ref s2.heap.objs.size) (compEnvC scope (cellsFrom (h3.objs.size+1) scope.names (cloOf X.env.cells scope.names [])) h3.objs.size X.env)) (compPost (model X.prog X.w) X.A X.xe use QQ (.ref s2.heap.objs.size) h3.objs.size) { s2 with heap:=pushCells (h3.push { cls:=.type "dict",data:=.dict #[] }) scope.names }
 generalize hD:s2.heap.objs.size=D at hD3 hz3 ⊢
 generalize hC:h3.objs.size=C at hz3 ⊢
 generalize h4e:pushCells (h3.push { cls:=.type "dict",data:=.dict #[] }) scope.names=h4
 have hk4:∀ b u,h3.get? b=some u->h4.get? b=some u:=fun b u e=>by rw[← h4e]; exact pushCells_keeps _ _ b u (Heap.get?_push_of_some _ e)
 have I4:Inv (cxC X N' scope C (cellsFrom (C+1) scope.names (cloOf X.env.cells scope.names [])) s2 H2 fp) [] (frm ix σ) H2 { s2 with heap:=h4,toks:=s2.toks } :=
  zLD (D:=D) (o:={ cls:=.none,data:=.dict #[] }) S I2 f2 ho2 hc hk3 hC.symm (by rw[hC,hz3,hD]; exact Nat.le_succ _) h4e.symm
 have hcellD:∀ x c,(cellsFrom (C+1) scope.names (cloOf X.env.cells scope.names [])).lookup x=some c->c≠D:=fun x c h z=>by
  rcases zBV scope.names _ _ h with ⟨a,_⟩ | a
  ·rw[z,hz3]at a; omega
  ·rcases zBE scope.names [] a with ⟨hm,e⟩ | a
   ·obtain⟨c',hc'⟩:=I2.ok.has x ((S.name hm).1 rfl)
    rw[hc']at e
    obtain⟨v,q⟩:=I2.cell x c' hc'
    have e':c=c':=e
    rw[← e',z,← hD]at q
    exact absurd q.lt (Nat.lt_irrefl _)
   ·cases a
 have hDC:D≠C:=by rw[hz3]; exact Nat.ne_of_lt (Nat.lt_succ_self _)
 have hDfp:D∉fp:=fun hb=>by obtain⟨o,e⟩:=ho2 D hb; exact absurd (hD ▸ Heap.lt_size e) (Nat.lt_irrefl _)
 generalize hX':cxC X N' scope C (cellsFrom (C+1) scope.names (cloOf X.env.cells scope.names [])) s2 H2 fp=X' at I4
 have hfpX:∀ {H':Hp} {oD:Obj},(∀ b∈fp,H' b=none)->∀ b∈fp,FpOk X' [(D,oD)] H' b:=fun {H' oD} hn b hb=>by
  rw[← hX']
  refine⟨hn b hb,fun z=>?_,fun z=>?_,.inl hb,fun x c h z=>?_,fun p hp=>?_⟩
  rotate_right
  ·have hp':p∈[(D,oD)]:=hp
   have e:p=(D,oD):=by simpa using hp'
   subst e
   exact fun z=>hDfp (by rw[show D=b from z]; exact hb)
  ·obtain⟨o,e⟩:=ho2 b hb
   have z':b=C:=z
   have q:=Heap.lt_size e
   rw[z',hz3,hD]at q
   exact absurd (Nat.lt_trans (Nat.lt_succ_self D) q) (Nat.lt_irrefl _)
  ·have z':b∈frs X.stack:=z
   rcases List.mem_cons.mp (I2.stkSub b z') with e | e
   ·exact (f2 b hb).2.1 e
   ·exact (f2 b hb).2.2.1 e
  ·rw[← hX']at I4
   exact (I4.ok.exf b hb).2 x c h z
 have HDnone:H2 D=none:=I2.hok.fresh (by rw[hD]; exact Nat.le_refl _)
 have key:∀ (s':Shared),s'={ s2 with heap:=h4,toks:=s2.toks } ->
   codeAny (model X.prog X.w) X.A (.compLoop (.ListComp elt [⟨tg,iter,ifs,0⟩] scope pos) 0 (.ref it) (.ref D) X'.env) (compPost (model X.prog X.w) X.A X.xe use QQ (.ref D) C) s':=by
  rintro s' rfl
  refine zFj (fun n s'=>∃ i ys σ' H' its,Inv X' [] σ' H' s'/\tn i s'.heap/\(∀ b∈fp,H' b=none)/\H' D=none/\s'.heap.PlainList D its/\Vals ys its.toList/\W i n ys σ' H') ?_ m0
   ⟨0,[],frm ix σ,H2,#[],I4,T.keep _ _ _ st2 fun b hb o e=>hk4 b o (hk3 b o e),fun b hb=>(f2 b hb).1,HDnone,⟨_,hk4 _ _ hD3⟩,.nil,w0⟩
  rintro n s3 ⟨i,ys,σ3,H3,its,I3,st3,fr3,hD3n,hpl,hv,w3⟩
  have hc':X'.calm=true:=by rw[← hX']; exact hc
  have xe':∀ e s,X'.xe e s->False:=by rw[← hX']; exact fun _ _ z=>z
  have pr:X'.prog=X.prog:=by rw[← hX']; rfl
  have pw:X'.w=X.w:=by rw[← hX']; rfl
  have pK:X'.K=X.K:=by rw[← hX']; rfl
  have pA:X'.A=X.A:=by rw[← hX']; rfl
  have p0:X'.s₀=s2:=by rw[← hX']; rfl
  have pH:X'.H₀=H2:=by rw[← hX']; rfl
  have px:X'.ex=fp:=by rw[← hX']; rfl
  have pf:X'.fs=frs X.stack:=by rw[← hX']; rfl
  have pL:X'.env.locals=C:=by rw[← hX']; rfl
  have pn0:X'.pn=[]:=by rw[← hX']; rfl
  have pcs:X'.env.cells=cellsFrom (C+1) scope.names (cloOf X.env.cells scope.names []):=by rw[← hX']; rfl
  obtain⟨nD,hoD⟩:=id hpl
  have Dfs:D∉X'.fs:=fun z=>by
   rw[pf]at z
   rcases List.mem_cons.mp (I2.stkSub D z) with e | e
   ·have q:=I2.lt; rw[← e,hD]at q; exact Nat.lt_irrefl _ q
   ·exact I2.nofs (by rw[hD]; exact Nat.le_refl _) e
  have I3':Inv X' [(D,_)] σ3 H3 s3:=I3.pins_of fun p hp=>by
   have e:p=(D,_):=List.mem_singleton.mp hp
   subst e
   exact⟨hoD,hD3n,by rw[pL]; exact hDC,Dfs,fun v z=>by cases z⟩
  have hg':PG X' tg g:=hX' ▸ hg _ _ _ _ _
  have ht':PTs X' ifs tc:=hX' ▸ ht _ _ _ _ _
  have he':PE X' elt te:=hX' ▸ he _ _ _ _ _
  have hsizes:its.toList.length=ys.length:=hv.length.symm
  rcases turn i n ys σ3 H3 w3 with ⟨stop,hlen,qn⟩ | ⟨go,hlt,N,hN,step⟩
  ·-- the end
   have T':=T.done X' pr pw pK hc' i _ s3 σ3 H3 (fun _ _=>False) I3' (hfpX fr3) st3 stop
   rw[pA]at T'
   refine thn T' fun r s4 ⟨hr,I5⟩=>?_
   subst hr
   obtain⟨gD,nDn,_,_,_⟩:=I5.pin (D,_) (List.mem_append_right _ (List.mem_singleton.mpr rfl))
   have gD':s4.heap.get? D=some { cls:=.type "list",data:=.seq its nD }:=gD
   obtain⟨m,hns,_⟩:=I5.loc
   rw[pL]at hns
   obtain⟨oC,es,ep,hoC,hdC,_⟩:=id hns
   have ub:Un (frs X.stack) fp H2 H3 s2.heap s4.heap:=by
    have q:=I5.base
    rw[px,pH,p0]at q
    rw[← pf]; exact q
   have bLt:∀ b u,s2.heap.get? b=some u->b≠D:=fun b u e z=>by have q:=Heap.lt_size e; rw[z,hD]at q; exact Nat.lt_irrefl _ q
   have u':Un (frs X.stack) fp H2 (upd H3 D (.lst ys)) s2.heap s4.heap :=
    ⟨ub.keep,ub.slot,fun b o e n hx=>by rw[zAD (bLt b o e)]; exact ub.free b o e n hx,ub.there,fun b xs e=>by rw[zAD (zAI (ub.tups b xs e) hD3n)]; exact ub.tups b xs e,
     fun b o u e=>by rw[zAD (zAI (ub.frzs b o u e) hD3n)]; exact ub.frzs b o u e,fun b ps e=>by obtain⟨more,q⟩:=ub.tbls b ps e; exact⟨more,by rw[zAD (zAI q hD3n)]; exact q⟩⟩
   have hok':HOk X.prog X.w (upd H3 D (.lst ys)) s4.heap:=by
    have q:=I5.hok
    rw[pr,pw]at q
    exact q.adopt hD3n ⟨hlen,its.toList,nD,hv,by simpa using gD'⟩
   have os':s4.os=s2.os:=by have q:=I5.os; rw[p0]at q; exact q
   have Iend:Inv X pins σ (upd H3 D (.lst ys)) s4:=I2.call' (ch:=fp) os' u' hok' I5.bare fun b hb=>⟨(f2 b hb).2.2.2.1,(f2 b hb).2.1,(f2 b hb).2.2.2.2.1,(f2 b hb).2.2.2.2.2⟩
   have hsC:s2.heap.objs.size<=C:=by rw[hz3,hD]; exact Nat.le_succ _
   have freeC:upd H3 D (.lst ys) C=none:=by rw[zAD (Ne.symm hDC)]; have q:=I5.free; rw[pL]at q; exact q
   have Iend':Inv X (pins++[(C,oC)]) σ (upd H3 D (.lst ys)) s4:=Iend.pins_of fun p hp=>by
    rcases List.mem_append.mp hp with hp | hp
    ·exact Iend.pin p (List.mem_append_right _ hp)
    ·have e:p=(C,oC):=List.mem_singleton.mp hp
     subst e
     exact⟨hoC,freeC,Nat.ne_of_gt (Nat.lt_of_lt_of_le I2.lt hsC),I2.nofs hsC,fun v z=>by rw[show oC.data=Data.cell v from z]at hdC; cases hdC⟩
   exact fin D C oC _ s4 Iend' ⟨m,hns⟩ (Nat.le_trans I2.sz hsC) (fun x c h z=>by obtain⟨v,q⟩:=I2.cell x c h; exact absurd (Nat.lt_of_lt_of_le q.lt hsC) (by rw[z]; exact Nat.lt_irrefl _))
    (fun p hp z=>by have q:=Heap.lt_size (I2.pin p hp).1; exact absurd (Nat.lt_of_lt_of_le q hsC) (by rw[z]; exact Nat.lt_irrefl _)) (qn D hD3n)
  ·have T':=T.item X' pr pw pK hc' i _ s3 σ3 H3 (fun _ _=>False) I3' (hfpX fr3) st3 go
   rw[pA]at T'
   refine thn T' fun r s4 ⟨u,hr,h4'⟩=>?_
   subst hr
   refine thn h4' fun _ s5 ⟨x,H5,I5,r5,y5,st5,fr5⟩=>?_
   have I5':=I5.pinned (hfpX fr5) (T.obj _ _ st5)
   have A1:=hg' _ s5 σ3 H5 x u _ I5' r5 (step x H5 y5)
   rw[pr,pw,pA]at A1
   refine wpAny_mono A1 (fun _ s6 ⟨σ6,H6,I6,q6⟩=>?_) xe'
   have A2:=ht' _ s6 σ6 H6 _ I6 q6
   rw[pr,pw,pA]at A2
   refine wpAny_mono A2 (fun b s7 ⟨H7,I7,q7⟩=>?_) xe'
   have pinD:∀ {σ':St} {H':Hp} {s':Shared},Inv X' ([(D,{ cls:=.type "list",data:=.seq its nD })]++pinsAt fp s5.heap) σ' H' s'->s'.heap.get? D=some { cls:=.type "list",data:=.seq its nD }/\H' D=none/\(∀ b∈fp,∀ o,s5.heap.get? b=some o->s'.heap.get? b=some o/\H' b=none):=fun {σ' H' s'} J=>by
    obtain⟨a1,a2,_⟩:=J.pin (D,_) (List.mem_append_right _ (List.mem_append_left _ (List.mem_singleton.mpr rfl)))
    refine⟨a1,a2,fun b hb o e=>?_⟩
    obtain⟨b1,b2,_⟩:=J.pin (b,o) (List.mem_append_right _ (List.mem_append_right _ (zCG hb e)))
    exact⟨b1,b2⟩
   have frOf:∀ {σ':St} {H':Hp} {s':Shared},Inv X' ([(D,{ cls:=.type "list",data:=.seq its nD })]++pinsAt fp s5.heap) σ' H' s'->∀ b∈fp,H' b=none:=fun {σ' H' s'} J b hb=>by
    obtain⟨o,e,_⟩:=T.obj _ _ st5 b hb
    exact ((pinD J).2.2 b hb o e).2
   have bare:∀ {σ':St} {H':Hp} {s':Shared},Inv X' ([(D,{ cls:=.type "list",data:=.seq its nD })]++pinsAt fp s5.heap) σ' H' s'->Inv X' [] σ' H' s':=fun {σ' H' s'} J=>J.pins_of fun p hp=>nomatch hp
   cases b with
   | false =>
    obtain⟨m',hm,w'⟩:=hN ys σ6 H7 q7
    exact⟨m',hm,i+1,ys,σ6,H7,its,bare I7,T.keep _ _ _ st5 fun b hb o e=>((pinD I7).2.2 b hb o e).1,frOf I7,(pinD I7).2.1,⟨nD,(pinD I7).1⟩,hv,w'⟩
   | true =>
    have A3:=he' _ s7 σ6 H7 _ I7 q7
    rw[pr,pw,pA]at A3
    refine wpAny_mono A3 (fun v s8 ⟨x8,H8,I8,r8,q8⟩=>?_) xe'
    refine wpAny_list_append_plain (items:=its) ⟨nD,(pinD I8).1⟩ (fun h9 hl9 hs9=>?_) (by
     have:its.size=its.toList.length:=by simp
     rw[this,hsizes]; exact Nat.le_of_lt hlt)
    obtain⟨m',hm,w'⟩:=hN (ys++[x8]) σ6 H8 q8
    have I9:Inv X' [] σ6 H8 { s8 with heap:=h9,toks:=s8.toks }:=(bare I8).turned (t':=s8.toks) (it:=D) (fun b o hb e=>(hs9.2 b hb).trans e) (pinD I8).2.1 (by rw[pL]; exact hDC) (.inr (by rw[p0,hD]; exact Nat.le_refl _)) (by rw[pcs]; exact hcellD) (fun p hp=>by rw[pn0]at hp; exact nomatch hp)
    refine⟨m',hm,i+1,ys++[x8],σ6,H8,its.push v,I9,T.keep _ _ _ st5 fun b hb o e=>(hs9.2 b fun z=>hDfp (z ▸ hb)).trans ((pinD I8).2.2 b hb o e).1,frOf I8,(pinD I8).2.1,hl9,?_,w'⟩
    rw[Array.toList_push]
    exact hv.append (.cons r8 .nil)
 rw[← hX']at key
 exact codeAny_compStart_list (key _ rfl) (T.self _ 0 _ _ _ (T.keep _ _ _ st2 fun b hb o e=>hk4 b o (hk3 b o e)) (key _ rfl))
theorem zMQ(S:CompOk X N' ix scope)(hc:X.calm=true)(hi:PI X tg iter wi)
  (hg:∀ C cs s H ex,PG (cxC X N' scope C cs s H ex) tg g) (ht:∀ C cs s H ex,PTs (cxC X N' scope C cs s H ex) ifs tc) (he:∀ C cs s H ex,PE (cxC X N' scope C cs s H ex) elt te)
  (hs:∀ x,foldedSetIterable iter X.env x=pure x:=by intro _; rfl):PE X (.ListComp elt [⟨tg,iter,ifs,0⟩] scope pos) (tComp wi ix g tc te):=by
 intro pins s σ H Q I h
 rw[eval_ListComp]
 refine zEp (use:=none) (QQ:=EP X pins σ Q) S hc hi hg ht he I h (fun D C o H' s' I' hns h1 h2 h3 q=>?_) hs
 obtain⟨m,hns⟩:=hns
 refine⟨m,hns,fun h' hs'=>⟨.ref D,H',?_,rfl,q⟩⟩
 obtain⟨a1,a2,a3,a4,_⟩:=I'.pin (C,o) (List.mem_append_right _ (List.mem_append_right _ (List.mem_singleton.mpr rfl)))
 exact I'.unpinned.turned (t':=s'.toks) (it:=C) (fun b u hb e=>(hs'.2 b hb).trans e) a2 a3 (.inr h1) h2 h3
theorem zL7{i:Nat}{x:Str}{pos' spos:Pos}(hN:X.N.Nodup)(hi':X.N[i]?=some x)(hx:Loc X.env.scope x)(S:CompOk X N' ix scope)(hc:X.calm=true)(hi:PI X tg iter wi)
  (hg:∀ C cs s H ex,PG (cxC X N' scope C cs s H ex) tg g) (ht:∀ C cs s H ex,PTs (cxC X N' scope C cs s H ex) ifs tc) (he:∀ C cs s H ex,PE (cxC X N' scope C cs s H ex) elt te)
  (hsw:swapsWith (.ListComp elt [⟨tg,iter,ifs,0⟩] scope pos) (some (.Name x pos')) spos.line X.env=pure true:=by rfl)
  (hf:X.fn x=true\/X.env.scope.names.lookup x=some .local:=by first | exact .inl rfl | exact .inr rfl | assumption)
  (hs:∀ x,foldedSetIterable iter X.env x=pure x:=by intro _; rfl):PS X (.Assign [.Name x pos'] (.ListComp elt [⟨tg,iter,ifs,0⟩] scope pos) spos) (tAsg (tComp wi ix g tc te) (gName i)):=by
 intro pins s σ H D I h
 rw[exec_Assign_Name_used _ _ _ _ hsw]
 refine wpAny_bind (wpAny_standAt (wpAny_bind ?_))
 show wpAny _ X.A (do let _ ← comprehension (.ListComp elt [⟨tg,iter,ifs,0⟩] scope pos) scope X.env _ (newList []) false (eval iter X.env) (some (assign (.Name x pos') X.env))) _ _ s
 refine wpAny_bind (thn (zEp (use:=some (assign (.Name x pos') X.env)) (QQ:=fun _ s'=>SP X pins D .next s') S hc hi hg ht he I h (fun E C o H' s' I' hns h1 h2 h3 q=>?_) hs) fun _ s' q=>wpAny_pure (wpAny_pure q))
 obtain⟨m,hns⟩:=hns
 have P:=zGo (pos:=pos') hN hi' hx hf
 refine thn (P _ s' σ H' (.ref E) (.ref E) _ I' rfl q) fun _ s2 ⟨σ2,H2,I2,q2⟩=>?_
 obtain⟨a1,_⟩:=I'.pin (C,o) (List.mem_append_right _ (List.mem_append_right _ (List.mem_singleton.mpr rfl)))
 obtain⟨b1,b2,b3,b4,_⟩:=I2.pin (C,o) (List.mem_append_right _ (List.mem_append_right _ (List.mem_singleton.mpr rfl)))
 refine⟨m,?_,fun h' hs'=>⟨σ2,H2,I2.unpinned.turned (t':=s2.toks) (it:=C) (fun b u hb e=>(hs'.2 b hb).trans e) b2 b3 (.inr h1) h2 h3,q2⟩⟩
 obtain⟨oC,es,ep,hoC,r⟩:=hns
 have e:oC=o:=by
  have q:=hoC.symm.trans a1
  exact Option.some.inj q
 subst e
 exact⟨oC,es,ep,b1,r⟩
end
structure Drawer(prog:Program)(w:World)(it l:Addr)(xs:Array Value)(St:Nat->Heap->Prop):Prop where
 keep:∀ k h h',St k h->(∀ o,h.get? it=some o->h'.get? it=some o)->(∀ o,h.get? l=some o->h'.get? l=some o)->St k h'
 live:∀ k h,St k h->∃ o,h.get? it=some o/\∀ v,o.data≠.cell v
 item:∀ (A:Around) (k:Nat) (s:Shared) (x:Value) (Q:Value->Shared->Prop) (E:Value->Shared->Prop),St k s.heap->xs[k]?=some x ->
  (∀ h',St (k+1) h'->Heap.SameBut it s.heap h'->Q x { s with heap:=h' })->wpAny (model prog w) A (Builtin.SmallTypes.nextOf (.ref it)) Q E s
 fini:∀ (A:Around) (k:Nat) (s:Shared) (Q:Value->Shared->Prop) (E:Value->Shared->Prop),A.handled=none->St k s.heap->xs[k]?=none ->
  (∀ h' e,Heap.ExtBut it s.heap h'->(∃ o,h'.get? e=some o/\o.cls=.type "StopIteration")->E (.ref e) { s with heap:=h' })->wpAny (model prog w) A (Builtin.SmallTypes.nextOf (.ref it)) Q E s
section
variable {prog:Program}{w:World}{A:Around}{E:Value->Shared->Prop}{s:Shared}
theorem zAe(it l:Addr)(xs:Array Value)(hne:l≠it):Drawer prog w it l xs (fun k h=>h.IsListIter it l k/\h.IsList l xs) where
 keep:=fun k h h' st k1 k2=>⟨st.1.at k1,st.2.at k2⟩
 live:=fun k h st=>by obtain⟨⟨o,e,_,d⟩,_⟩:=st; exact⟨o,e,fun v z=>by rw[d]at z; cases z⟩
 item:=fun A k s x Q E st hx hQ=>wpAny_nextOf_list_item st.1 st.2 hx fun h' st' sb=>hQ h' ⟨st',st.2.extBut sb.extBut hne⟩ sb
 fini:=fun A k s Q E hh st hx hE=>wpAny_nextOf_list_end hh st.1 st.2 hx hE
theorem zHa{it t:Addr}{i:Nat}{items:Array Value}{x:Value}{Q:Value->Shared->Prop}(hit:s.heap.IsTupleIter it t i)(ht:s.heap.IsTuple t items)(hx:items[i]?=some x)
  (hQ:∀ h',h'.IsTupleIter it t (i+1)->Heap.SameBut it s.heap h'->Q x { s with heap:=h' }):wpAny (model prog w) A (Builtin.SmallTypes.nextOf (.ref it)) Q E s:=by
 obtain⟨oi,hoi,hci,hdi⟩:=id hit; obtain⟨ot,hot,_,nt,hdt⟩:=ht
 unfold Builtin.SmallTypes.nextOf; refine wpAny_bind (wpAny_callSpecial?_slot (name:=Str.ofString "__next__") hit.typeIs F.slot_tuple_iterator_next (wpAny_call_entry F.slot_tuple_iterator_next hit.typeIs F.entry_tuple_iterator_next ?_ (F.args_tuple_iterator_next_1 _)))
 show wpAny _ _ (field (.ref it) 0 >>= _) _ _ s; refine wpAny_bind (wpAny_field hoi hdi (x:=.ref t) rfl ?_)
 show wpAny _ _ (if (Value.ref t == Value.none)=true then _ else _) _ _ s; rw[if_neg (show ¬ ((Value.ref t == Value.none)=true) from Bool.false_ne_true)]
 show wpAny _ _ (field (.ref it) 1 >>= _) _ _ s; refine wpAny_bind (wpAny_field hoi hdi (x:=.int i 0) rfl ?_)
 show wpAny _ _ (seqItems? (.ref t) >>= _) _ _ s; refine wpAny_bind (wpAny_seqItems hot hdt ?_); simp only[Int.toNat_natCast,hx]
 refine wpAny_bind (wpAny_setField hoi hdi (by simp) (wpAny_pure ⟨x,rfl,wpAny_pure (hQ _ ?_ (Heap.SameBut.update ..))⟩))
 exact⟨_,Heap.get?_update_self _ hoi (Obj.isFreed_of_fields (Obj.data_mapFields hdi _)),(Obj.cls_mapFields ..).trans hci,by rw[Obj.data_mapFields hdi]; simp[rawInt]⟩
theorem zFA{it t:Addr}{i:Nat}{items:Array Value}{Q:Value->Shared->Prop}(hh:A.handled=none)(hit:s.heap.IsTupleIter it t i)(ht:s.heap.IsTuple t items)(hx:items[i]?=none)
  (hE:∀ h' e,Heap.ExtBut it s.heap h'->(∃ o,h'.get? e=some o/\o.cls=.type "StopIteration")->E (.ref e) { s with heap:=h' }):wpAny (model prog w) A (Builtin.SmallTypes.nextOf (.ref it)) Q E s:=by
 obtain⟨oi,hoi,hci,hdi⟩:=id hit; obtain⟨ot,hot,_,nt,hdt⟩:=ht
 unfold Builtin.SmallTypes.nextOf; refine wpAny_bind (wpAny_callSpecial?_slot (name:=Str.ofString "__next__") hit.typeIs F.slot_tuple_iterator_next (wpAny_call_entry F.slot_tuple_iterator_next hit.typeIs F.entry_tuple_iterator_next ?_ (F.args_tuple_iterator_next_1 _)))
 show wpAny _ _ (field (.ref it) 0 >>= _) _ _ s; refine wpAny_bind (wpAny_field hoi hdi (x:=.ref t) rfl ?_)
 show wpAny _ _ (if (Value.ref t == Value.none)=true then _ else _) _ _ s; rw[if_neg (show ¬ ((Value.ref t == Value.none)=true) from Bool.false_ne_true)]
 show wpAny _ _ (field (.ref it) 1 >>= _) _ _ s; refine wpAny_bind (wpAny_field hoi hdi (x:=.int i 0) rfl ?_)
 show wpAny _ _ (seqItems? (.ref t) >>= _) _ _ s; refine wpAny_bind (wpAny_seqItems hot hdt ?_); simp only[Int.toNat_natCast,hx]
 refine wpAny_bind (wpAny_rule (wpAny_bind (wpAny_setField hoi hdi (by simp) ?_))); show wpAny _ _ (newExc (.type "StopIteration") [] >>= _) _ _ _
 refine wpAny_bind ?_; simp only[newExc,newTuple]; refine wpAny_bind (wpAny_newObj_type ?_ (by size_fits)); refine wpAny_bind (m:=firstArgMember _ _) (wpAny_of_eq (a:=Value.none) (by first | rfl | (simp only[firstArgMember]; rfl)) ?_)
 refine wpAny_newObj_type ?_ (by size_fits); simp only[raiseNew]; refine wpAny_bind (wpAny_handled ?_); (first | rw[show A.in1.handled=none from hh] | rw[hh]); refine wpAny_bind (wpAny_pure (wpAny_throw ?_))
 exact hE _ _ (((Heap.SameBut.update ..).extBut.push _).push _) ⟨_,Heap.get?_push_size _ rfl,rfl⟩
theorem zHz(it l:Addr)(xs:Array Value)(hne:l≠it):Drawer prog w it l xs (fun k h=>h.IsTupleIter it l k/\h.IsTuple l xs) where
 keep:=fun k h h' st k1 k2=>⟨let ⟨o,e,r⟩:=st.1; ⟨o,k1 o e,r⟩,let ⟨o,e,r⟩:=st.2; ⟨o,k2 o e,r⟩⟩
 live:=fun k h st=>by obtain⟨⟨o,e,_,d⟩,_⟩:=st; exact⟨o,e,fun v z=>by rw[d]at z; cases z⟩
 item:=fun A k s x Q E st hx hQ=>zHa st.1 st.2 hx fun h' st' sb=>hQ h' ⟨st',st.2.extBut sb.extBut hne⟩ sb
 fini:=fun A k s Q E hh st hx hE=>zFA hh st.1 st.2 hx hE
structure ZAp(z TI TO i1 i2 l1 l2:Addr):Prop where
 a:ZipApart z TI TO i1 i2 l1 l2
 l1TI:l1≠TI
 l2TI:l2≠TI
structure ZSt(z TI TO i1 i2:Addr)(S1 S2:Nat->Heap->Prop)(k:Nat)(f0:Value)(h:Heap):Prop where
 z:IsZip h z TI TO f0
 ti:IsPair h TI (.ref i1) (.ref i2)
 to:∃ a b,IsPair h TO a b
 s1:S1 k h
 s2:S2 k h
variable {z TI TO i1 i2 l1 l2:Addr}{S1 S2:Nat->Heap->Prop}{xs ys:Array Value}{k:Nat}
theorem zDo{x y:Value}{Q:Value->Shared->Prop}(D:ZAp z TI TO i1 i2 l1 l2)(D1:Drawer prog w i1 l1 xs S1)(D2:Drawer prog w i2 l2 ys S2)(st:ZSt z TI TO i1 i2 S1 S2 k .none s.heap)(hx:xs[k]?=some x)(hy:ys[k]?=some y)
  (hQ:∀ h',ZSt z TI TO i1 i2 S1 S2 (k+1) (rawInt s.heap.objs.size) h'->IsPair h' s.heap.objs.size x y ->
   (∀ c o,c≠z->c≠TO->c≠i1->c≠i2->s.heap.get? c=some o->h'.get? c=some o)->Q (.ref s.heap.objs.size) { s with heap:=h' }) :
  wpAny (model prog w) A (Builtin.«zip.__next__» ⟨[.ref z],[]⟩) (fun fin s'=>∃ v,fin=.done (.ret v)/\Q v s') E s:=by
 obtain⟨hz,hTI,⟨a,b,hTO⟩,st1,st2⟩:=st
 obtain⟨⟨TIz,TOz,i1z,i2z,TITO,TIi1,TIi2,TOi1,TOi2,i12,l1z,l1TO,l1i1,l1i2,l2z,l2TO,l2i1,l2i2⟩,_,_⟩:=D
 show wpAny _ _ (field (.ref z) 2 >>= _) _ _ _; refine wpAny_bind (wpAny_field hz rfl (x:=.bool false) rfl ?_)
 show wpAny _ _ (field (.ref z) 3 >>= _) _ _ _; refine wpAny_bind (wpAny_field hz rfl (x:=.ref TI) rfl (wpAny_bind (wpAny_seqItems hTI rfl ?_)))
 show wpAny _ _ (Builtin.SmallTypes.ownedTupleIsFree (.ref z) >>= _) _ _ _; refine wpAny_bind ?_; unfold Builtin.SmallTypes.ownedTupleIsFree
 refine wpAny_bind (wpAny_field hz rfl (x:=.none) rfl (wpAny_pure ?_)); simp only[if_true]
 refine wpAny_bind (wpAny_rule (wpAny_bind (wpAny_field hz rfl (x:=.ref TO) rfl (wpAny_bind (wpAny_setField_rec hz (by simp) fun h1 z1 b1=>?_)))))
 have z1':IsZip h1 z TI TO .ellipsis:=z1
 refine wpAny_bind ?_; simp only[List.zipIdx_cons,List.zipIdx_nil,List.forIn_cons,List.forIn_nil]
 refine wpAny_bind (wpAny_bind (wpAny_onRaise ?_)); show wpAny _ _ (Builtin.SmallTypes.nextOf (.ref i1) >>= _) _ _ _
 refine wpAny_bind (D1.item _ k _ x _ _ (D1.keep _ _ _ st1 (fun o e=>b1.extBut _ _ i1z e) fun o e=>b1.extBut _ _ l1z e) hx fun h2 t1 b2=>wpAny_pure ?_)
 have o2:IsPair h2 TO a b:=b2.extBut _ _ TOi1 (b1.extBut _ _ TOz hTO)
 refine wpAny_bind (wpAny_seqItems o2 rfl (wpAny_bind (wpAny_updateSeq_pair o2 fun h3 o3 b3=>?_)))
 have o3':IsPair h3 TO x b:=o3
 refine wpAny_bind (wpAny_letGo (wpAny_pure (wpAny_bind (wpAny_bind (wpAny_onRaise ?_))))); show wpAny _ _ (Builtin.SmallTypes.nextOf (.ref i2) >>= _) _ _ _
 have s2':S2 k h3:=D2.keep _ _ _ st2 (fun o e=>b3.extBut _ _ TOi2.symm (b2.extBut _ _ i12.symm (b1.extBut _ _ i2z e))) fun o e=>b3.extBut _ _ l2TO (b2.extBut _ _ l2i1 (b1.extBut _ _ l2z e))
 refine wpAny_bind (D2.item _ k _ y _ _ s2' hy fun h4 t2 b4=>wpAny_pure ?_)
 have o4:IsPair h4 TO x b:=b4.extBut _ _ TOi2 o3'
 refine wpAny_bind (wpAny_seqItems o4 rfl (wpAny_bind (wpAny_updateSeq_pair o4 fun h5 o5 b5=>?_)))
 have o5':IsPair h5 TO x y:=o5
 refine wpAny_bind (wpAny_letGo (wpAny_pure (wpAny_pure (wpAny_bind (wpAny_seqItems o5' rfl (wpAny_bind (wpAny_newTuple ?_)))))))
 have hsz:h5.objs.size=s.heap.objs.size:=by rw[b5.1,b4.1,b3.1,b2.1,b1.1]
 have z5:IsZip h5 z TI TO .ellipsis:=b5.extBut _ _ TOz.symm (b4.extBut _ _ i2z.symm (b3.extBut _ _ TOz.symm (b2.extBut _ _ i1z.symm z1')))
 have k5:∀ c o,c≠z->c≠TO->c≠i1->c≠i2->s.heap.get? c=some o->h5.get? c=some o:=fun c o c1 c2 c3 c4 e=>b5.extBut _ _ c2 (b4.extBut _ _ c4 (b3.extBut _ _ c2 (b2.extBut _ _ c3 (b1.extBut _ _ c1 e))))
 have t1':S1 (k+1) h5:=D1.keep _ _ _ t1 (fun o e=>b5.extBut _ _ TOi1.symm (b4.extBut _ _ i12 (b3.extBut _ _ TOi1.symm e))) fun o e=>b5.extBut _ _ l1TO (b4.extBut _ _ l1i2 (b3.extBut _ _ l1TO e))
 have t2':S2 (k+1) h5:=D2.keep _ _ _ t2 (fun o e=>b5.extBut _ _ TOi2.symm e) fun o e=>b5.extBut _ _ l2TO e
 have hzlt:z < h5.objs.size:=Heap.lt_size z5
 show wpAny _ _ (Builtin.SmallTypes.ownedTupleHandOut (.ref z) (.ref h5.objs.size) >>= _) _ _ _; refine wpAny_bind ?_; unfold Builtin.SmallTypes.ownedTupleHandOut
 have z6:IsZip (h5.push { cls:=.type "tuple",data:=.seq #[x,y] }) z TI TO .ellipsis:=Heap.get?_push_of_some _ z5
 refine wpAny_bind (wpAny_setField_rec z6 (by simp) fun h7 z7 b7=>?_)
 have z7':IsZip h7 z TI TO (rawInt h5.objs.size):=z7
 refine wpAny_setField_rec z7' (by simp) fun h8 z8 b8=>?_
 have z8':IsZip h8 z TI TO (rawInt h5.objs.size):=z8
 have up:∀ c o,c≠z->h5.get? c=some o->h8.get? c=some o:=fun c o c1 e=>b8.extBut _ _ c1 (b7.extBut _ _ c1 (Heap.get?_push_of_some _ e))
 have p8:IsPair h8 h5.objs.size x y:=b8.extBut _ _ (Nat.ne_of_gt hzlt) (b7.extBut _ _ (Nat.ne_of_gt hzlt) (Heap.get?_push_size _ rfl))
 rw[hsz]at z8' p8
 refine wpAny_pure ⟨_,rfl,?_⟩
 show Q (.ref h5.objs.size) _
 rw[hsz]
 have uu:∀ c o,c≠z->c≠TO->c≠i1->c≠i2->s.heap.get? c=some o->h8.get? c=some o:=fun c o c1 c2 c3 c4 e=>up c o c1 (k5 c o c1 c2 c3 c4 e)
 exact hQ h8 ⟨z8',uu _ _ TIz TITO TIi1 TIi2 hTI,⟨x,y,up _ _ TOz o5'⟩,D1.keep _ _ _ t1' (fun o e=>up _ o i1z e) (fun o e=>up _ o l1z e),D2.keep _ _ _ t2' (fun o e=>up _ o i2z e) (fun o e=>up _ o l2z e)⟩ p8 uu
theorem zEw{Q:Fin->Shared->Prop}(hh:A.handled=none)(D:ZAp z TI TO i1 i2 l1 l2)(D1:Drawer prog w i1 l1 xs S1)(D2:Drawer prog w i2 l2 ys S2)(st:ZSt z TI TO i1 i2 S1 S2 k .none s.heap)(hend:xs[k]?=none\/ys[k]?=none)
  (hE:∀ h' e,(∀ c o,c≠z->c≠TO->c≠i1->c≠i2->s.heap.get? c=some o->h'.get? c=some o)->(∃ o,h'.get? e=some o/\o.cls=.type "StopIteration")->E (.ref e) { s with heap:=h' }) :
  wpAny (model prog w) A (Builtin.«zip.__next__» ⟨[.ref z],[]⟩) Q E s:=by
 obtain⟨hz,hTI,⟨a,b,hTO⟩,st1,st2⟩:=st
 obtain⟨⟨TIz,TOz,i1z,i2z,TITO,TIi1,TIi2,TOi1,TOi2,i12,l1z,l1TO,l1i1,l1i2,l2z,l2TO,l2i1,l2i2⟩,_,_⟩:=D
 show wpAny _ _ (field (.ref z) 2 >>= _) _ _ _; refine wpAny_bind (wpAny_field hz rfl (x:=.bool false) rfl ?_)
 show wpAny _ _ (field (.ref z) 3 >>= _) _ _ _; refine wpAny_bind (wpAny_field hz rfl (x:=.ref TI) rfl (wpAny_bind (wpAny_seqItems hTI rfl ?_)))
 show wpAny _ _ (Builtin.SmallTypes.ownedTupleIsFree (.ref z) >>= _) _ _ _; refine wpAny_bind ?_; unfold Builtin.SmallTypes.ownedTupleIsFree
 refine wpAny_bind (wpAny_field hz rfl (x:=.none) rfl (wpAny_pure ?_)); simp only[if_true]
 refine wpAny_bind (wpAny_rule (wpAny_bind (wpAny_field hz rfl (x:=.ref TO) rfl (wpAny_bind (wpAny_setField_rec hz (by simp) fun h1 z1 b1=>?_)))))
 have z1':IsZip h1 z TI TO .ellipsis:=z1
 refine wpAny_bind ?_; simp only[List.zipIdx_cons,List.zipIdx_nil,List.forIn_cons,List.forIn_nil]
 refine wpAny_bind (wpAny_bind (wpAny_onRaise ?_)); show wpAny _ _ (Builtin.SmallTypes.nextOf (.ref i1) >>= _) _ _ _
 have s1':S1 k h1:=D1.keep _ _ _ st1 (fun o e=>b1.extBut _ _ i1z e) fun o e=>b1.extBut _ _ l1z e
 cases hx:xs[k]? with
 | none =>
  refine wpAny_bind (D1.fini _ k _ _ _ hh s1' hx fun h2 e b2 he=>?_)
  obtain⟨oe,hoe,hce⟩:=he
  have z2:IsZip h2 z TI TO .ellipsis:=b2 _ _ i1z.symm z1'
  have ez:e≠z:=fun q=>by subst q; rw[z2]at hoe; cases hoe; simp at hce
  exact wpAny_setField_rec z2 (by simp) fun h3 _ b3=>hE h3 e (fun c o c1 _ c3 _ q=>b3.extBut _ _ c1 (b2 _ _ c3 (b1.extBut _ _ c1 q))) ⟨oe,b3.extBut _ _ ez hoe,hce⟩
 | some x =>
  have hy:ys[k]?=none:=by rcases hend with q | q; (rw[hx]at q; cases q); exact q
  refine wpAny_bind (D1.item _ k _ x _ _ s1' hx fun h2 t1 b2=>wpAny_pure ?_)
  have o2:IsPair h2 TO a b:=b2.extBut _ _ TOi1 (b1.extBut _ _ TOz hTO)
  refine wpAny_bind (wpAny_seqItems o2 rfl (wpAny_bind (wpAny_updateSeq_pair o2 fun h3 o3 b3=>?_)))
  refine wpAny_bind (wpAny_letGo (wpAny_pure (wpAny_bind (wpAny_bind (wpAny_onRaise ?_))))); show wpAny _ _ (Builtin.SmallTypes.nextOf (.ref i2) >>= _) _ _ _
  have s2':S2 k h3:=D2.keep _ _ _ st2 (fun o e=>b3.extBut _ _ TOi2.symm (b2.extBut _ _ i12.symm (b1.extBut _ _ i2z e))) fun o e=>b3.extBut _ _ l2TO (b2.extBut _ _ l2i1 (b1.extBut _ _ l2z e))
  refine wpAny_bind (D2.fini _ k _ _ _ hh s2' hy fun h4 e b4 he=>?_)
  obtain⟨oe,hoe,hce⟩:=he
  have z4:IsZip h4 z TI TO .ellipsis:=b4 _ _ i2z.symm (b3.extBut _ _ TOz.symm (b2.extBut _ _ i1z.symm z1'))
  have ez:e≠z:=fun q=>by subst q; rw[z4]at hoe; cases hoe; simp at hce
  exact wpAny_setField_rec z4 (by simp) fun h5 _ b5=>hE h5 e (fun c o c1 c2 c3 c4 q=>b5.extBut _ _ c1 (b4 _ _ c4 (b3.extBut _ _ c2 (b2.extBut _ _ c3 (b1.extBut _ _ c1 q))))) ⟨oe,b5.extBut _ _ ez hoe,hce⟩
end
def Sq(b:Bool)(K:PySem.W.Frag)(H:Hp)(a:Addr)(xs:List V):Prop:=if b then SqT K H a xs else SqL K H a xs
def SIt(b:Bool)(it l:Addr)(k:Nat)(h:Heap):Prop:=if b then h.IsTupleIter it l k else h.IsListIter it l k
def SOb(b:Bool)(l:Addr)(its:Array Value)(h:Heap):Prop:=if b then h.IsTuple l its else h.IsList l its
theorem SIt.keep{b:Bool}{it l:Addr}{k:Nat}{h h':Heap}(st:SIt b it l k h)(e:∀ o,h.get? it=some o->h'.get? it=some o):SIt b it l k h':=by
 cases b with
 | false=>exact (show h.IsListIter it l k from st).at e
 | true=>obtain⟨o,q,r⟩:=(show h.IsTupleIter it l k from st); exact⟨o,e o q,r⟩
theorem SIt.live{b:Bool}{it l:Addr}{k:Nat}{h:Heap}(st:SIt b it l k h):∃ o,h.get? it=some o/\∀ v,o.data≠.cell v:=by
 cases b with
 | false=>obtain⟨o,q,_,d⟩:=(show h.IsListIter it l k from st); exact⟨o,q,fun v z=>by rw[d]at z; cases z⟩
 | true=>obtain⟨o,q,_,d⟩:=(show h.IsTupleIter it l k from st); exact⟨o,q,fun v z=>by rw[d]at z; cases z⟩
theorem zBs{prog:Program}{w:World}(b:Bool)(it l:Addr)(xs:Array Value)(hne:l≠it):Drawer prog w it l xs (fun k h=>SIt b it l k h/\SOb b l xs h):=by
 cases b with
 | false=>exact zAe it l xs hne
 | true=>exact zHz it l xs hne
section
variable {X:Cx}{pins:List (Addr×Obj)}{σ:St}{H:Hp}{s:Shared}
theorem Inv.sq{b:Bool}{a:Addr}{xs:List V}(I:Inv X pins σ H s)(h:Sq b X.K H a xs):∃ its:List Value,Vals xs its/\SOb b a its.toArray s.heap/\xs.length<=sizeLine:=by
 cases b with
 | false=>obtain⟨its,r,p,z⟩:=I.list h; exact⟨its,r,p.isList,z⟩
 | true=>obtain⟨its,r,p,z⟩:=I.tuple h; exact⟨its,r,p,z⟩
theorem Inv.sq_inj{b:Bool}{a:Addr}{xs ys:List V}(I:Inv X pins σ H s)(h:Sq b X.K H a xs)(h':Sq b X.K H a ys):xs=ys:=by
 cases b with
 | false=>exact I.list_inj h h'
 | true=>exact I.tuple_inj h h'
end
def Itz(b:Bool)(K:PySem.W.Frag)(a1 a2:Addr):It :=
 ⟨fun i H=>∃ xs ys x y,Sq b K H a1 xs/\Sq b K H a2 ys/\xs[i]?=some x/\ys[i]?=some y,
  fun i H v H'=>∃ T x y,v=.ref T/\H T=none/\H'=upd H T (.tup [x,y])/\(∀ xs,Sq b K H a1 xs->xs[i]?=some x)/\∀ ys,Sq b K H a2 ys->ys[i]?=some y,
  fun i H=>∃ xs ys,Sq b K H a1 xs/\Sq b K H a2 ys/\(xs.length<=i\/ys.length<=i)⟩
structure ZTn(b:Bool)(z TI TO i1 i2 a1 a2:Addr)(k:Nat)(h:Heap):Prop where
 z:IsZip h z TI TO .none
 ti:IsPair h TI (.ref i1) (.ref i2)
 to:∃ a b,IsPair h TO a b
 s1:SIt b i1 a1 k h
 s2:SIt b i2 a2 k h
theorem zKI{P:Program}{w:World}{K:PySem.W.Frag}{elts:List Expr}{x1:Nat}{tp:Pos}(b:Bool){z TI TO i1 i2 a1 a2:Addr}(D:ZAp z TI TO i1 i2 a1 a2) :
  Turn P w K (.Tuple elts x1 tp) (Itz b K a1 a2) [z,TI,TO,i1,i2] z (ZTn b z TI TO i1 i2 a1 a2) where
 mem:=by simp
 obj:=fun i h st c hc=>by
  simp only[List.mem_cons,List.not_mem_nil,or_false]at hc
  rcases hc with e | e | e | e | e
  ·exact⟨_,e ▸ st.z,fun v z=>by cases z⟩
  ·exact⟨_,e ▸ st.ti,fun v z=>by cases z⟩
  ·obtain⟨a,b,q⟩:=st.to; exact⟨_,e ▸ q,fun v z=>by cases z⟩
  ·obtain⟨o,q,d⟩:=st.s1.live; exact⟨o,e ▸ q,d⟩
  ·obtain⟨o,q,d⟩:=st.s2.live; exact⟨o,e ▸ q,d⟩
 keep:=fun i h h' st k=>⟨k z (by simp) _ st.z,k TI (by simp) _ st.ti,(let ⟨a,b,q⟩:=st.to; ⟨a,b,k TO (by simp) _ q⟩),st.s1.keep fun o e=>k i1 (by simp) o e,st.s2.keep fun o e=>k i2 (by simp) o e⟩
 item:=by
  intro X hP hw hK hc i pins s σ H E I hf st hg
  subst hP hw hK
  obtain⟨xs,ys,x,y,h1,h2,hx,hy⟩:=hg
  obtain⟨its1,v1,o1,z1⟩:=I.sq h1
  obtain⟨its2,v2,o2,z2⟩:=I.sq h2
  obtain⟨u1,e1,r1⟩:=v1.get hx
  obtain⟨u2,e2,r2⟩:=v2.get hy
  have hT:s.TypeIs (.ref z) "zip":=⟨_,st.z,rfl⟩
  have nH:∀ c∈[z,TI,TO,i1,i2],H c=none:=fun c hc=>(hf c hc).1
  unfold pyNext
  refine wpAny_bind (wpAny_attempt (wpAny_callSpecial?_slot (name:=Str.ofString "__next__") hT F.slot_zip_next (wpAny_call_entry F.slot_zip_next hT F.entry_zip_next
   (zDo D (zBs b i1 a1 its1.toArray D.a.l1i1) (zBs b i2 a2 its2.toArray D.a.l2i2) ⟨st.z,st.ti,st.to,⟨st.s1,o1⟩,⟨st.s2,o2⟩⟩ (by simpa using e1) (by simpa using e2) fun h' st' hp hk=>wpAny_pure ?_) (F.args_zip_next_1 _))))
  refine⟨_,rfl,?_⟩
  have fT:H s.heap.objs.size=none:=I.hok.fresh (Nat.le_refl _)
  have hk':∀ c o,c∉[z,TO,i1,i2]->s.heap.get? c=some o->h'.get? c=some o:=fun c o hc e=>by
   simp only[List.mem_cons,List.not_mem_nil,or_false,not_or]at hc
   exact hk c o hc.1 hc.2.1 hc.2.2.1 hc.2.2.2 e
  have sub:∀ c∈[z,TO,i1,i2],c∈[z,TI,TO,i1,i2]:=fun c hc=>by
   simp only[List.mem_cons,List.not_mem_nil,or_false]at hc ⊢
   rcases hc with e | e | e | e <;> simp[e]
  have trk:∀ c u,H c=some u->c∉[z,TO,i1,i2]:=fun c u e hc=>by rw[nH c (sub c hc)]at e; cases e
  have nT:∀ c o,s.heap.get? c=some o->c≠s.heap.objs.size:=fun c o e=>Nat.ne_of_lt (Heap.lt_size e)
  have hok1:HOk X.prog X.w H h':=fun c u e=>(I.hok c u e).stay (fun d v hd q=>hk' d v (by
   rcases hd with rfl | hd
   ·exact trk d u e
   ·exact trk d _ hd) q) (fun _ q=>q) fun _ _ q=>q
  have I1:Inv X pins σ (upd H s.heap.objs.size (.tup [x,y])) { s with heap:=h',toks:=s.toks }:=by
   refine I.step (g':=s.gens) (d':=s.drawn) (t':=s.toks) (ch:=[z,TO,i1,i2]) (fun c hc=>?_) (fun c o _ _ hc e _=>hk' c o hc e) (fun c o _ _ hc e _=>⟨o.slots,hk' c o hc e⟩)
    (fun c o _ e n=>by rw[zAD (nT c o e)]; exact n) (fun c o hc e=>⟨o,hk' c o hc e⟩) (fun c xs e=>by rw[zAD (zAI e fT)]; exact e) (fun c o u e=>by rw[zAD (zAI e fT)]; exact e)
    (fun c ps e=>⟨#[],by rw[zAD (zAI e fT),e]; simp⟩) (fun m hm=>?_) (hok1.adopt fT ⟨by show 2<=sizeLine; decide,[u1,u2],.cons r1 (.cons r2 .nil),_,hp,rfl,⟨0,rfl⟩,rfl⟩) I.bare
   ·obtain⟨_,f1,f2,f3,f4,f5⟩:=hf c (sub c hc); exact⟨f3,f1,f4,f5⟩
   ·obtain⟨o,es,ep,ho,r⟩:=hm
    exact⟨o,es,ep,hk' _ o (fun hc=>(hf _ (sub _ hc)).2.1 rfl) ho,r⟩
  refine wpAny_letOwnedTupleGo_zip st'.z fun h9 hz2 hs2=>?_
  obtain⟨_,f1,f2,f3,f4,f5⟩:=hf z (by simp)
  have nz:upd H s.heap.objs.size (.tup [x,y]) z=none:=by rw[zAD (nT z _ st.z)]; exact nH z (by simp)
  have I2:Inv X pins σ (upd H s.heap.objs.size (.tup [x,y])) { s with heap:=h9,toks:=s.toks }:=by
   have q:=I1.turned (h':=h9) (t':=s.toks) (it:=z) (fun c o hc e=>(hs2.2 c hc).trans e) nz f1 f3 f4 f5
   exact q
  refine⟨.ref s.heap.objs.size,_,I2,rfl,⟨s.heap.objs.size,x,y,rfl,fT,rfl,fun xs' q=>by rw[I.sq_inj q h1]; exact hx,fun ys' q=>by rw[I.sq_inj q h2]; exact hy⟩,?_,fun c hc=>?_⟩
  ·have up:∀ c o,c≠z->h'.get? c=some o->h9.get? c=some o:=fun c o hc e=>(hs2.2 c hc).trans e
   exact⟨hz2,up _ _ D.a.TIz st'.ti,(let ⟨a,b,q⟩:=st'.to; ⟨a,b,up _ _ D.a.TOz q⟩),st'.s1.1.keep fun o e=>up _ o D.a.i1z e,st'.s2.1.keep fun o e=>up _ o D.a.i2z e⟩
  ·obtain⟨o,e,_⟩:∃ o,s.heap.get? c=some o/\True:=by
    simp only[List.mem_cons,List.not_mem_nil,or_false]at hc
    rcases hc with e | e | e | e | e
    ·exact⟨_,e ▸ st.z,trivial⟩
    ·exact⟨_,e ▸ st.ti,trivial⟩
    ·obtain⟨a,b,q⟩:=st.to; exact⟨_,e ▸ q,trivial⟩
    ·obtain⟨o,q,d⟩:=st.s1.live; exact⟨o,e ▸ q,trivial⟩
    ·obtain⟨o,q,d⟩:=st.s2.live; exact⟨o,e ▸ q,trivial⟩
   rw[zAD (nT c o e)]; exact nH c hc
 done:=by
  intro X hP hw hK hc i pins s σ H E I hf st hg
  subst hP hw hK
  obtain⟨xs,ys,h1,h2,hl⟩:=hg
  obtain⟨its1,v1,o1,z1⟩:=I.sq h1
  obtain⟨its2,v2,o2,z2⟩:=I.sq h2
  have l1:=v1.length
  have l2:=v2.length
  have hT:s.TypeIs (.ref z) "zip":=⟨_,st.z,rfl⟩
  unfold pyNext
  refine wpAny_bind (wpAny_attempt (wpAny_callSpecial?_slot (name:=Str.ofString "__next__") hT F.slot_zip_next (wpAny_call_entry F.slot_zip_next hT F.entry_zip_next
   (zEw (I.ok.hd hc) D (zBs b i1 a1 its1.toArray D.a.l1i1) (zBs b i2 a2 its2.toArray D.a.l2i2) ⟨st.z,st.ti,st.to,⟨st.s1,o1⟩,⟨st.s2,o2⟩⟩
    (hl.imp (fun q=>by simp; omega) fun q=>by simp; omega) fun h' e hk he=>?_) (F.args_zip_next_1 _))))
  obtain⟨o,ho,hcl⟩:=he
  refine wpAny_bind (wpAny_isInstance (T:="StopIteration") (b:=true) ⟨o,ho,hcl⟩ isSubtype_stop (wpAny_pure ⟨rfl,?_⟩))
  have hk':∀ c o,c∉[z,TO,i1,i2]->s.heap.get? c=some o->h'.get? c=some o:=fun c o hc e=>by
   simp only[List.mem_cons,List.not_mem_nil,or_false,not_or]at hc
   exact hk c o hc.1 hc.2.1 hc.2.2.1 hc.2.2.2 e
  have sub:∀ c∈[z,TO,i1,i2],c∈[z,TI,TO,i1,i2]:=fun c hc=>by
   simp only[List.mem_cons,List.not_mem_nil,or_false]at hc ⊢
   rcases hc with e | e | e | e <;> simp[e]
  have trk:∀ c u,H c=some u->c∉[z,TO,i1,i2]:=fun c u e hc=>by rw[(hf c (sub c hc)).1]at e; cases e
  refine I.step (g':=s.gens) (d':=s.drawn) (t':=s.toks) (ch:=[z,TO,i1,i2]) (fun c hc=>?_) (fun c o _ _ hc e _=>hk' c o hc e) (fun c o _ _ hc e _=>⟨o.slots,hk' c o hc e⟩)
   (fun c o _ e n=>n) (fun c o hc e=>⟨o,hk' c o hc e⟩) (fun c xs e=>e) (fun c o u e=>e) (fun c ps e=>⟨#[],by rw[e]; simp⟩) (fun m hm=>?_) (fun c u e=>(I.hok c u e).stay (fun d v hd q=>hk' d v (by
    rcases hd with rfl | hd
    ·exact trk d u e
    ·exact trk d _ hd) q) (fun _ q=>q) fun _ _ q=>q) I.bare
  ·obtain⟨_,f1,f2,f3,f4,f5⟩:=hf c (sub c hc); exact⟨f3,f1,f4,f5⟩
  ·obtain⟨o,es,ep,ho,r⟩:=hm
   exact⟨o,es,ep,hk' _ o (fun hc=>(hf _ (sub _ hc)).2.1 rfl) ho,r⟩
 self:=fun _ _ _ _ _ st h=>wpAny_pyIter_zip st.z h
section
variable {prog:Program}{w:World}{A:Around}{E:Value->Shared->Prop}{s:Shared}
abbrev zT1(h:Heap)(l1:Addr):Heap:=h.push { cls:=.type "tuple_iterator",data:=.fields #[.ref l1,.int 0 0] }
abbrev zT2(h:Heap)(l1 l2:Addr):Heap:=(zT1 h l1).push { cls:=.type "tuple_iterator",data:=.fields #[.ref l2,.int 0 0] }
abbrev zT3(h:Heap)(l1 l2:Addr):Heap:=(zT2 h l1 l2).push { cls:=.type "tuple",data:=.seq #[.ref h.objs.size,.ref (zT1 h l1).objs.size] }
abbrev zT4(h:Heap)(l1 l2:Addr):Heap:=(zT3 h l1 l2).push { cls:=.type "tuple",data:=.seq #[.none,.none] }
abbrev zT5(h:Heap)(l1 l2:Addr):Heap:=(zT4 h l1 l2).push { cls:=.type "zip",data:=.fields #[.none,.bool false,.bool false,.ref (zT2 h l1 l2).objs.size,.ref (zT3 h l1 l2).objs.size] }
theorem zIH(l1 l2:Addr)(xs ys:Array Value) :
  Meets (Builtin.«zip.__new__» ⟨[.type "zip",.ref l1,.ref l2],[]⟩) (fun _ R s=>s.heap.IsTuple l1 xs/\s.heap.IsTuple l2 ys/\R (.ok (.ret (.ref (zT4 s.heap l1 l2).objs.size))) { s with heap:=zT5 s.heap l1 l2 }) :=
 .of_wp fun prog w A R s h=>by
  obtain⟨hp,g,d,tk,os⟩:=s; obtain⟨hl1,hl2,h⟩:=h
  have sub0:=sub_zip
  have T1:Heap.IsTuple (Shared.heap ⟨hp,g,d,tk,os⟩) l1 xs:=hl1
  have T2:Heap.IsTuple (Shared.heap ⟨hp.push { cls:=.type "tuple_iterator",data:=.fields #[.ref l1,.int 0 0] },g,d,tk,os⟩) l2 ys:=Heap.IsTuple.push hl2 _
  wp_walk using wpAny_pyIter_tuple T1,wpAny_pyIter_tuple T2
  exact⟨_,rfl,h⟩
theorem zIv{l1 l2:Addr}{xs ys:Array Value}{Q:Value->Shared->Prop}(hl1:s.heap.IsTuple l1 xs)(hl2:s.heap.IsTuple l2 ys)
  (h:∀ h',ZTn true (s.heap.objs.size+4) (s.heap.objs.size+2) (s.heap.objs.size+3) s.heap.objs.size (s.heap.objs.size+1) l1 l2 0 h'->(∀ c o,s.heap.get? c=some o->h'.get? c=some o)->Q (.ref (s.heap.objs.size+4)) { s with heap:=h' }) :
  wpAny (model prog w) A (call (.type "zip") [.ref l1,.ref l2]) Q E s:=by
 refine callType_new F.called_zip (by decide) (F.typeCall_zip_2 _ _) (F.newCall_zip_2 _ _) (fun obj=>F.args_object_init_3 obj _ _) F.entry_zip_new (zIH l1 l2 xs ys) ⟨hl1,hl2,?_⟩
 have z1:(zT1 s.heap l1).objs.size=s.heap.objs.size+1:=Heap.size_push ..
 have z2:(zT2 s.heap l1 l2).objs.size=s.heap.objs.size+2:=by rw[Heap.size_push,z1]
 have z3:(zT3 s.heap l1 l2).objs.size=s.heap.objs.size+3:=by rw[Heap.size_push,z2]
 have z4:(zT4 s.heap l1 l2).objs.size=s.heap.objs.size+4:=by rw[Heap.size_push,z3]
 have up:∀ c o,(zT4 s.heap l1 l2).get? c=some o->(zT5 s.heap l1 l2).get? c=some o:=fun c o e=>Heap.get?_push_of_some _ e
 have g5:(zT5 s.heap l1 l2).get? (zT4 s.heap l1 l2).objs.size=some _:=Heap.get?_push_size _ rfl
 have g4:(zT5 s.heap l1 l2).get? (zT3 s.heap l1 l2).objs.size=some _:=up _ _ (Heap.get?_push_size _ rfl)
 have g3:(zT5 s.heap l1 l2).get? (zT2 s.heap l1 l2).objs.size=some _:=up _ _ (Heap.get?_push_of_some _ (Heap.get?_push_size _ rfl))
 have g2:(zT5 s.heap l1 l2).get? (zT1 s.heap l1).objs.size=some _:=up _ _ (Heap.get?_push_of_some _ (Heap.get?_push_of_some _ (Heap.get?_push_size _ rfl)))
 have g1:(zT5 s.heap l1 l2).get? s.heap.objs.size=some _:=up _ _ (Heap.get?_push_of_some _ (Heap.get?_push_of_some _ (Heap.get?_push_of_some _ (Heap.get?_push_size _ rfl))))
 show _/\_
 rw[z2,z3,z4]at g5
 rw[z1,z2]at g3
 rw[z3]at g4
 rw[z1]at g2
 rw[z4]
 exact⟨⟨_,g5,rfl⟩,h _ ⟨g5,g3,⟨_,_,g4⟩,⟨_,g1,rfl,rfl⟩,⟨_,g2,rfl,rfl⟩⟩ fun c o x=>up _ _ (Heap.get?_push_of_some _ (Heap.get?_push_of_some _ (Heap.get?_push_of_some _ (Heap.get?_push_of_some _ x))))⟩
end
open AutoSeq1 (wpAny_loadPart')
def rngV(lo:Int)(n:Nat):List V:=(List.range n).map fun (i:Nat)=>V.int (lo+(i:Int))
theorem zDQ(lo:Int)(n:Nat):(rngV lo n).length=n:=by simp[rngV]
theorem zF8{lo:Int}{n:Nat}{acc:Array Value}(h:ItemsOf (fun i v=>∃ t,v=.int (lo+i * 1) t) acc n):Vals (rngV lo n) acc.toList:=by
 obtain⟨hn,hi⟩:=h
 have key:∀ (xs:List V) (us:List Value),xs.length=us.length->(∀ (i:Nat) (x:V) (u:Value),xs[i]?=some x->us[i]?=some u->RelV x u)->Vals xs us:=by
  intro xs
  induction xs with
  | nil=>intro us hl _; cases us with
   | nil=>exact .nil
   | cons _ _=>cases hl
  | cons x xs ih=>intro us hl hr; cases us with
   | nil=>cases hl
   | cons u us=>exact .cons (hr 0 x u rfl rfl) (ih us (by simpa using hl) fun i y v e1 e2=>hr (i+1) y v (by simpa using e1) (by simpa using e2))
 refine key _ _ (by rw[zDQ]; simp[hn]) fun i x u e1 e2=>?_
 unfold rngV at e1
 rw[List.getElem?_map]at e1
 cases e3:(List.range n)[i]? with
 | none=>rw[e3]at e1; cases e1
 | some j =>
  rw[e3]at e1
  have hj:j=i/\i < n:=by
   obtain⟨h1,h2⟩:=List.getElem?_eq_some_iff.mp e3
   rw[List.getElem_range]at h2
   exact⟨h2.symm,by simpa using h1⟩
  obtain⟨rfl,hjn⟩:=hj
  have e1':x=V.int (lo+(j:Int)):=(Option.some.inj e1).symm
  subst e1'
  obtain⟨t,ht⟩:=hi j u (by simpa using e2)
  exact⟨t,by rw[ht]; simp⟩
section
variable {prog:Program}{w:World}{A:Around}{E:Value->Shared->Prop}{s:Shared}
theorem zGZ{Q:List Value->Shared->Prop}{r:Addr}{a b c:Int}{t u v:Tok}{n:Nat}(hh:A.handled=none)(hr:IsRange s.heap r a b c t u v)(hsmall:Builtin.Range.small a b c=true)(hn:Builtin.Range.rangeSize a b c=n)(hlen:n<=2 ^ 24)
  (hQ:∀ h' tk acc,(∀ b o,s.heap.get? b=some o->h'.get? b=some o)->ItemsOf (fun i v=>∃ t,v=.int (a+i * c) t) acc n->Q acc.toList { s with heap:=h',toks:=tk }) :
  wpAny (model prog w) A (collect (.ref r)) Q E s:=by
 unfold collect
 refine wpAny_bind (wpAny_runValue (codeAny_builtin F.entry_proto_collect ?_)); rw[Around.under_plainId F.plain_proto_collect _]
 show wpAny _ A.in1 (newList [] >>= fun l=>again (.builtin "list.__iadd__" ⟨[l,.ref r],[]⟩)) _ _ s
 refine wpAny_bind (wpAny_newObj_type (wpAny_pure ⟨plainId_quiet F.plain_list_iadd _,codeAny_builtin F.entry_list_iadd ?_⟩)); rw[Around.under_plainId F.plain_list_iadd _]
 show wpAny _ A.in1 (Builtin.List.listExtendWith (.ref s.heap.objs.size) (.ref r) (.ref s.heap.objs.size)) _ _ _
 have hS:(s.heap.push { cls:=.type "list",data:=.seq ([]:List Value).toArray }).get? s.heap.objs.size=some { cls:=.type "list",data:=.seq ([]:List Value).toArray }:=Heap.get?_push_size _ rfl
 have hr2:IsRange (s.heap.push { cls:=.type "list",data:=.seq ([]:List Value).toArray }) r a b c t u v:=Heap.get?_push_of_some _ hr
 let RR:Result->Shared->Prop:=fun r s'=>match r with
  | .ok (.ret v)=>v=.ref s.heap.objs.size/\∃ h' tk acc c',s'={ s with heap:=h',toks:=tk }/\(∀ b o,s.heap.get? b=some o->h'.get? b=some o)/\h'.get? s.heap.objs.size=some { cls:=.type "list",dict:=none,data:=.seq acc c',slots:=#[] }/\ItemsOf (fun i v=>∃ t,v=.int (a+i * c) t) acc n
  | _=>False
 have go:∀ (v:Value) (s':Shared),RR (.ok (.ret v)) s'->wpAny (model prog w) A (match v with | .ref a=>(do match (← load a).data with | .seq xs _=>pure xs.toList | _=>unsupported "internal:collect") | _=>unsupported "internal:collect") Q E s':=fun v s' hR=>by
  obtain⟨rfl,h',tk,acc,c',rfl,hk,hS',hacc⟩:=hR
  show wpAny _ A (load s.heap.objs.size >>= _) _ _ _
  exact wpAny_bind (wpAny_load hS' (wpAny_pure (hQ h' tk acc hk hacc)))
 have base:=wpAny_extend_range (prog:=prog) (w:=w) (A:=A) (R:=RR) (s:={ s with heap:=s.heap.push { cls:=.type "list",data:=.seq ([]:List Value).toArray } }) hh hr2 hsmall hn hlen _ (.ref s.heap.objs.size) _ hS fun h' tk acc' c' hk hS' hacc =>
  ⟨rfl,h',tk,acc',c',rfl,fun b o e=>hk b o (Nat.ne_of_lt (Heap.lt_size e)) (Heap.get?_push_of_some _ e),hS',hacc⟩
 refine wpAny_mono base (fun fin s' h=>?_) (fun e s' h=>False.elim h)
 cases fin with
 | done f=>cases f with
  | ret v=>exact go v s' h
  | next=>exact False.elim h
  | brk=>exact False.elim h
  | cont=>exact False.elim h
 | again c' =>
  refine⟨h.1,codeAny_mono h.2 fun r s'' hr=>?_⟩
  cases r with
  | error e=>exact False.elim hr
  | ok f=>cases f with
   | ret v=>exact go v s'' hr
   | next=>exact False.elim hr
   | brk=>exact False.elim hr
   | cont=>exact False.elim hr
theorem zFq(r:Addr){a b c:Int}{t u v:Tok}{n:Nat}(hsmall:Builtin.Range.small a b c=true)(hn:Builtin.Range.rangeSize a b c=n)(hlen:n<=2 ^ 24) :
  Meets (Builtin.«tuple.__new__» ⟨[.type "tuple",.ref r],[]⟩) (fun A R s=>A.handled=none/\s.heap.get? r=some { cls:=.type "range",data:=.fields #[.int a t,.int b u,.int c v] }/\∀ (h':Heap) (tk:Nat) (acc:Array Value),(∀ b o,s.heap.get? b=some o->h'.get? b=some o) ->
   ItemsOf (fun i v=>∃ t,v=.int (a+i * c) t) acc n->R (.ok (.ret (.ref h'.objs.size))) { s with heap:=h'.push { cls:=.type "tuple",data:=.seq acc },toks:=tk }) :=
 .of_wp fun prog w A R s h=>by
  obtain⟨hh,hr,h⟩:=h
  have s1:=sub_tuple_self
  have s2:=init_tuple_lookup
  have s3:=madeHere_tuple
  have hT:s.TypeIs (.ref r) "range":=⟨_,hr,rfl⟩
  have hh1:A.in1.handled=none:=hh
  have hr':IsRange s.heap r a b c t u v:=hr
  wp_walk using wpAny_typeOf hT,zGZ hh1 hr' hsmall hn hlen
  intro h' tk acc hk hacc
  show wpAny _ _ (Builtin.Tuple.tupleExact acc.toList.toArray >>= fun v=>ret v) _ _ _; unfold Builtin.Tuple.tupleExact
  refine wpAny_bind (wpAny_newObj_type ?_ (show acc.toList.toArray.size<=sizeLine by simp only[Array.toArray_toList]; rw[hacc.1,sizeLine_eq]; omega)); refine wpAny_pure ⟨_,rfl,?_⟩
  rw[show acc.toList.toArray=acc by simp]
  exact h h' tk acc hk hacc
theorem zGY{Q:Value->Shared->Prop}{r:Addr}{a b c:Int}{t u v:Tok}{n:Nat}(hh:A.handled=none)(hr:s.heap.get? r=some { cls:=.type "range",data:=.fields #[.int a t,.int b u,.int c v] })(hsmall:Builtin.Range.small a b c=true)
  (hn:Builtin.Range.rangeSize a b c=n) (hlen:n<=2 ^ 24)
  (h:∀ (h':Heap) (tk:Nat) (acc:Array Value),(∀ b o,s.heap.get? b=some o->h'.get? b=some o)->ItemsOf (fun i v=>∃ t,v=.int (a+i * c) t) acc n->Q (.ref h'.objs.size) { s with heap:=h'.push { cls:=.type "tuple",data:=.seq acc },toks:=tk }) :
  wpAny (model prog w) A (call (.type "tuple") [.ref r]) Q E s :=
 callType_new F.called_tuple (by decide) (F.typeCall_tuple_1 _) (F.newCall_tuple_1 _) (fun obj=>F.args_object_init_2 obj _) F.entry_tuple_new (zFq r hsmall hn hlen) ⟨hh,hr,fun h' tk acc hk hacc=>⟨⟨_,Heap.get?_push_size _ rfl,rfl⟩,h h' tk acc hk hacc⟩⟩
end
section
variable {X:Cx}
theorem zIV:CallR X (.type "range") (fun xs H Q=>∃ j:Int,xs=[.int j]/\∀ p,H p=none->Q (.ref p) (upd H p (.rng 0 j))):=by
 intro pins s σ H xs us Q I r h
 obtain⟨j,rfl,q⟩:=h
 obtain⟨u,rfl,t,rfl⟩:=vals1 r
 refine call_range_1 ⟨.ref s.heap.objs.size,_,I.laid (fun b o e=>Heap.get?_push_of_some _ e) (Nat.le_refl _) (show ObjOk X.prog X.w _ _ _ (.rng 0 j) from ⟨_,_,_,Heap.get?_push_size _ rfl⟩),rfl,q _ (I.hok.fresh (Nat.le_refl _))⟩
theorem zJz:CallR X (.type "range") (fun xs H Q=>∃ i j:Int,xs=[.int i,.int j]/\∀ p,H p=none->Q (.ref p) (upd H p (.rng i j))):=by
 intro pins s σ H xs us Q I r h
 obtain⟨i,j,rfl,q⟩:=h
 obtain⟨u,u',rfl,⟨t,rfl⟩,⟨t',rfl⟩⟩:=vals2 r
 refine call_range_2 ⟨.ref s.heap.objs.size,_,I.laid (fun b o e=>Heap.get?_push_of_some _ e) (Nat.le_refl _) (show ObjOk X.prog X.w _ _ _ (.rng i j) from ⟨_,_,_,Heap.get?_push_size _ rfl⟩),rfl,q _ (I.hok.fresh (Nat.le_refl _))⟩
theorem rsz{lo hi:Int}:Builtin.Range.rangeSize lo hi 1=(((hi - lo).toNat:Nat):Int):=by rw[rangeSize_one]; split <;> omega
theorem zF0(hc:X.calm=true):CallR X (.type "list") (fun xs H Q=>∃ p lo hi,xs=[.ref p]/\H p=some (.rng lo hi)/\(-(2 ^ 62)<=lo/\lo < 2 ^ 62/\-(2 ^ 62)<=hi/\hi < 2 ^ 62)/\(hi - lo).toNat<=2 ^ 24/\∀ l,H l=none->Q (.ref l) (upd H l (.lst (rngV lo (hi - lo).toNat)))):=by
 intro pins s σ H xs us Q I r h
 obtain⟨p,lo,hi,rfl,hp,⟨b1,b2,b3,b4⟩,hl,q⟩:=h
 obtain⟨u,rfl,rx⟩:=vals1 r
 cases rx
 obtain⟨t,t',t'',ho⟩:=(show ObjOk X.prog X.w H s.heap p (.rng lo hi) from I.hok p _ hp)
 refine call_list_range (n:=(hi - lo).toNat) (I.ok.hd hc) ho (small_one b1 b2 b3 b4) rsz hl fun h' tk acc c' hk e hacc=>?_
 exact⟨.ref s.heap.objs.size,_,I.laid hk (Nat.le_refl _) (show ObjOk X.prog X.w _ h' _ (.lst _) from ⟨by rw[zDQ,sizeLine_eq]; omega,acc.toList,c',zF8 hacc,by simpa using e⟩),rfl,q _ (I.hok.fresh (Nat.le_refl _))⟩
theorem zE4(hc:X.calm=true):CallR X (.type "tuple") (fun xs H Q=>∃ p lo hi,xs=[.ref p]/\H p=some (.rng lo hi)/\(-(2 ^ 62)<=lo/\lo < 2 ^ 62/\-(2 ^ 62)<=hi/\hi < 2 ^ 62)/\(hi - lo).toNat<=2 ^ 24/\∀ l,H l=none->Q (.ref l) (upd H l (.tup (rngV lo (hi - lo).toNat)))):=by
 intro pins s σ H xs us Q I r h
 obtain⟨p,lo,hi,rfl,hp,⟨b1,b2,b3,b4⟩,hl,q⟩:=h
 obtain⟨u,rfl,rx⟩:=vals1 r
 cases rx
 obtain⟨t,t',t'',ho⟩:=(show ObjOk X.prog X.w H s.heap p (.rng lo hi) from I.hok p _ hp)
 refine zGY (n:=(hi - lo).toNat) (I.ok.hd hc) ho (small_one b1 b2 b3 b4) rsz hl fun h' tk acc hk hacc=>?_
 have I1:Inv X pins σ H { s with heap:=h',toks:=tk }:=I.kept hk
 exact⟨.ref h'.objs.size,_,I1.laid (t':=tk) (fun b o e=>Heap.get?_push_of_some _ e) (Nat.le_refl _) (show ObjOk X.prog X.w _ _ _ (.tup _) from ⟨by rw[zDQ,sizeLine_eq]; omega,acc.toList,zF8 hacc,by simpa using TupD.new h' acc⟩),rfl,q _ (I1.hok.fresh (Nat.le_refl _))⟩
theorem zHt{bs:List Bool}:∀ {us:List Value},Vals (bs.map V.bl) us->LSm.BoolsAre us bs:=by
 induction bs with
 | nil=>intro us h; cases h; exact .nil
 | cons b bs ih=>intro us h; cases h with
  | cons r t=>cases r; exact .cons b (ih t)
theorem zLA(hc:X.calm=true):CallR X (.builtin "all") (fun xs H Q=>∃ (p:Addr) (bs:List Bool),xs=[.ref p]/\SqL X.K H p (bs.map V.bl)/\Q (.bl (bs.all id)) H):=by
 intro pins s σ H xs us Q I r h
 obtain⟨p,bs,rfl,hq,q⟩:=h
 obtain⟨u,rfl,rx⟩:=vals1 r
 cases rx
 obtain⟨its,rv,pl,hz⟩:=I.list hq
 have hb:=zHt rv
 have hl:=pl.isList
 have hlt:p < s.heap.objs.size:=by obtain⟨_,e,_⟩:=hl; exact Heap.lt_size e
 refine call_all_walk (wpAny_pyIter_list hl ?_)
 refine⟨s.heap.objs.size,[s.heap.objs.size,p],[s.heap.objs.size],its.toArray.size,_,_,fun i=>(bs[i]?).getD true,rfl,Walks.list (A:=X.A.in1) (I.ok.hd hc) _ p (Nat.ne_of_lt hlt) its.toArray,⟨⟨_,Heap.get?_push_size _ rfl,rfl,rfl⟩,hl.push _⟩,fun i v s' Q' E' hP hQ=>?_,fun h' tk hk=>?_⟩
 ·obtain⟨b,e,rfl⟩:=hb.get i v (by simpa using hP)
  simp only[e,Option.getD_some]at hQ
  exact wpAny_truthy_bool hQ
 ·have e:((List.range its.toArray.size).all fun i=>(bs[i]?).getD true)=bs.all id:=by rw[List.size_toArray,hb.length]; exact LSm.range_all bs
  rw[e]
  exact⟨.bl (bs.all id),H,I.kept (LSm.kept_iter hk),rfl,q⟩
end
section
variable {X:Cx}
theorem Same.upd{H:Hp}{p:Addr}{o:HO}(h:H p=none):Same H (upd H p o):=fun b u e=>by rw[zAD (zAI e h)]; exact e
end
theorem zOo{X:Cx}{x:Str}{T:String}{pos:Pos}(hg:Gl X x)(hm:X.mg x=none)(hv:bootBuiltins x=some (.type T))(hn:x≠"__name__":=by decide)(hd:(x == ("__debug__":Str))=false:=by decide):PE X (.Name x pos) (tC (.ty T)):=zMd (v:=.ty T) hg hm hv rfl hn hd
theorem zLn{X:Cx}(K:PySem.W.Frag)(hK:X.K=K){es:List Expr}{k:Nat}{pos:Pos}{t:TGs}{n:Nat}(hc:X.calm=true)(h:PGs X es t)(hn:(assignEach es X.env).length=n:=by rfl)(hst:(assignEach es X.env).findIdx? (·.1)=none:=by rfl):PG X (.Tuple es k pos) (gTup K n t):=by
 subst hK
 exact zND hc h hn hst
section
variable {prog:Program}{w:World}{A:Around}{E:Value->Shared->Prop}{s:Shared}
theorem zCa{t sl:Addr}{items:Array Value}{vl vu:Value}{lo hi:Option Int}{Q:Value->Shared->Prop}(ht:IsTup s.heap t items)(hs:s.heap.IsSliceOf sl vl vu .none)(pl:IsPart vl lo)(pu:IsPart vu hi)
  (hw:HT.sIx items.size 0 lo=0/\HT.sIx items.size items.size hi=items.size) (h:Q (.ref t) s):wpAny (model prog w) A (getItem (.ref t) (.ref sl)) Q E s:=by
 obtain⟨os,hos,hcs,hds⟩:=id hs
 have hTs:s.TypeIs (.ref sl) "slice":=⟨os,hos,hcs⟩
 unfold getItem; try with_reducible refine wpAny_holding ?_
 first | refine wpAny_bind (wpAny_pure ?_) | skip
 refine wpAny_bind (wpAny_sequenceKey ht.typeIs (by decide) ?_); refine wpAny_bind (wpAny_callSpecial?_slot (name:=Str.ofString "__getitem__") ht.typeIs PyProof.Rows.slot_tuple_getitem (wpAny_call_entry PyProof.Rows.slot_tuple_getitem ht.typeIs entry_tuple_getitem ?_ (args_tuple_getitem _ _)))
 show wpAny _ _ (Builtin.Tuple.tupleItemsOf (.ref t) >>= _) _ _ s; refine wpAny_bind (tupleItemsOf_ ht ?_); refine wpAny_bind (wpAny_typeOf hTs ?_)
 rw[if_pos (by decide)]; refine wpAny_bind (HT.sliceApplied_gen hs pl pu ?_)
 have hyes:((((HT.sIx items.size 0 lo:Nat):Int) == 0 && (1:Int) == 1 && (HT.sIx items.size items.size hi - HT.sIx items.size 0 lo) == items.size)=true):=by
  rw[hw.1,hw.2]; simp
 show wpAny _ _ (if (((HT.sIx items.size 0 lo:Nat):Int) == 0 && (1:Int) == 1 && (HT.sIx items.size items.size hi - HT.sIx items.size 0 lo) == items.size)=true then _ else _) _ _ s
 rw[if_pos hyes]
 refine wpAny_bind ?_
 unfold Builtin.Tuple.tupleIsExact
 refine wpAny_bind (wpAny_typeOf ht.typeIs (wpAny_pure ?_))
 rw[if_pos (by decide)]
 exact wpAny_bind (wpAny_rule (wpAny_pure ⟨_,rfl,wpAny_pure h⟩))
end
end L2
namespace D
open PySem L2
abbrev Fg:=PySem.W.Frag
structure Lam where
 params:Arguments
 body:Expr
 scope:Scope
 qual:Str
 x:Str
inductive T where
 | a (v:V)
 | t (xs:List T)
 | l (xs:List T)
 | f (n:Str)
 | x (c:Str) (fs:List (Str×V))
 | m (L:Lam) (ts:List T)
abbrev Dk:=Sum (List (Key×T)) (List (List Key×T))
inductive G where
 | v (t:T)
 | l (xs:List T)
 | r (xs:List T)
 | k (xs:List T)
 | d (kvs:Dk)
 | e (kvs:Dk)
def isMut:G->Bool
 | .l _=>true
 | .d _=>true
 | _=>false
inductive S where
 | v (t:T)
 | l (xs:List T)
 | s (i:Nat)
 | d (kvs:Dk)
abbrev En:=List (Option G)
abbrev DE:=En->Option (S×En)
abbrev DT:=En->Option (Bool×En)
abbrev DA:=En->Option (List S×En)
inductive O where
 | nx (g:En) | rt (s:S) (g:En) | bk (g:En) | ct (g:En)
abbrev DS:=En->Option O
def cOk:List V->Bool
 | .int _::_=>true
 | .ref _::_=>true
 | [.str x]=>decide (x="yes") || decide (x="no")
 | _=>false
def KT(K:Fg)(a:Addr)(xs:List V):Prop:=∃ (o:Obj) (its:Array Value) (n:Nat),K.lookup a=some o/\o.cls=.type "tuple"/\o.dict=none/\o.data=.seq its n/\its.size<=sizeLine/\Vals xs its.toList/\cOk xs=true
def Tp(K:Fg)(H:Hp)(p:Addr)(vs:List V):Prop:=H p=some (.tup vs)\/KT K p vs
theorem Tp.sq{K:Fg}{H:Hp}{p:Addr}{vs:List V}(h:Tp K H p vs):SqT K H p vs:=by
 rcases h with h | ⟨o,its,n,a,b,c,d,e,f,_⟩
 ·exact SqT.of h
 ·exact .inr ⟨o,its,n,a,b,d,e,f⟩
theorem Tp.of{K:Fg}{H:Hp}{p:Addr}{vs:List V}(h:H p=some (.tup vs)):Tp K H p vs:=.inl h
def KL(K:Fg)(a:Addr)(xs:List V):Prop:=∃ (o:Obj) (its:Array Value) (n:Nat),K.lookup a=some o/\o.cls=.type "list"/\o.dict=none/\o.data=.seq its n/\its.size<=sizeLine/\Vals xs its.toList
def KF(K:Fg)(H:Hp)(p:Addr)(vs:List V):Prop:=(∃ o,H p=some (.frz o (.lst vs)))\/KL K p vs
def XOk(K:Fg)(H:Hp)(p:Addr)(c:Str)(fs:List (Str×V)):Prop:=∃ (C:Addr) (d:Option Addr),PySem.W.nsIn K mainGlobals c=some (some (.ref C)) /\
 H p=some (.ext fun h=>∃ o,h.get? p=some o/\o.cls=.ref C/\o.dict=d/\PySem.W.notCls o=true)/\((d=none/\fs=[])\/∃ dx,d=some dx/\H dx=some (.xd fs))
def FOk(K:Fg)(v:V)(n:Str):Prop:=∃ p,v=.ref p/\PySem.W.nsIn K mainGlobals n=some (some (.ref p))
def lamO(L:Lam)(f c c':Addr):Heap->Prop:=fun h=>∃ pm ct,h.get? f=some (PySem.W.kla_obj "<lambda>" L.qual L.params L.body L.scope [(L.x,c)] pm c' ct)
def cellO(c:Addr)(v:V)(o:Obj):Heap->Prop:=fun h=>h.get? c=some o/\∃ u,RelV v u/\o.data=.cell (some u)
def LOk(H:Hp)(f:Addr)(L:Lam)(vs:List V):Prop:=∃ (c c':Addr) (v:V) (o:Obj),vs=[v]/\H f=some (.ext (lamO L f c c'))/\H c=some (.ext (cellO c v o))/\H c'=some (.cod L.qual)
mutual
def Im(K:Fg)(H:Hp):V->T->Prop
 | v,.a u=>v=u
 | v,.t ts=>∃ p vs,v=.ref p/\Tp K H p vs/\Ims K H vs ts
 | v,.l ts=>∃ p vs,v=.ref p/\KF K H p vs/\Ims K H vs ts
 | v,.f n=>FOk K v n
 | v,.x c fs=>∃ p,v=.ref p/\XOk K H p c fs
 | v,.m L ts=>∃ p vs,v=.ref p/\LOk H p L vs/\Ims K H vs ts
def Ims(K:Fg)(H:Hp):List V->List T->Prop
 | vs,[]=>vs=[]
 | vs,t::ts=>∃ v r,vs=v::r/\Im K H v t/\Ims K H r ts
end
structure W where
 L:List Addr
 R:Addr->Prop
structure Fr where
 H0:Hp
 fx:List Addr
 pins:List (Nat×Addr)
def Evo(L:List Addr)(H H':Hp):Prop:=∀ b o,H b=some o->b∉L->H' b=some o
def Mu:HO->Prop
 | .lst _=>True
 | .dK _=>True
 | .dT _=>True
 | _=>False
def LL(L:List Addr)(H:Hp):Prop:=∀ p∈L,∃ o,H p=some o/\Mu o
theorem Evo.refl{L:List Addr}{H:Hp}:Evo L H H:=fun _ _ h _=>h
theorem Evo.trans{L:List Addr}{H H1 H2:Hp}(a:Evo L H H1)(b:Evo L H1 H2):Evo L H H2:=fun c o h n=>b c o (a c o h n) n
theorem Evo.wide{L L':List Addr}{H H':Hp}(a:Evo L' H H')(h:∀ p∈L',p∈L):Evo L H H':=fun c o e n=>a c o e fun z=>n (h c z)
theorem Evo.new{L:List Addr}{H:Hp}{p:Addr}{o:HO}(h:H p=none):Evo L H (upd H p o):=fun b u e _=>by rw[zAD (zAI e h)]; exact e
theorem Evo.of_same{L:List Addr}{H H':Hp}(h:Same H H'):Evo L H H':=fun b u e _=>h b u e
theorem zDZ{K:Fg}{L:List Addr}{H H':Hp}{p:Addr}{vs:List V}(e:Evo L H H')(hL:LL L H)(h:Tp K H p vs):Tp K H' p vs:=by
 rcases h with h | h
 ·refine .inl (e _ _ h fun z=>?_)
  obtain⟨o,q,m⟩:=hL p z
  rw[h]at q; cases q; exact m
 ·exact .inr h
theorem LOk.evo{L:List Addr}{H H':Hp}{f:Addr}{M:Lam}{vs:List V}(e:Evo L H H')(hL:LL L H)(h:LOk H f M vs):LOk H' f M vs:=by
 obtain⟨c,c',v,o,h0,h1,h2,h3⟩:=h
 have n:∀ {b o},H b=some o->¬ Mu o->b∉L:=fun {b o} q m z=>by
  obtain⟨u,q',m'⟩:=hL b z
  rw[q]at q'; cases q'; exact m m'
 exact⟨c,c',v,o,h0,e _ _ h1 (n h1 id),e _ _ h2 (n h2 id),e _ _ h3 (n h3 id)⟩
def TabOk(K:Fg)(H:Hp):Prop:=∀ c P,PySem.W.tabIn K "is_so"=some (c,P)->H P=some (.tbq "is_so.<locals>.<lambda>")
theorem TabOk.evo{K:Fg}{L:List Addr}{H H':Hp}(e:Evo L H H')(hL:LL L H)(h:TabOk K H):TabOk K H':=fun c P z=>e _ _ (h c P z) fun m=>by
 obtain⟨o,q,mu⟩:=hL P m
 rw[h c P z]at q; cases q; exact mu
theorem KF.evo{K:Fg}{L:List Addr}{H H':Hp}{p:Addr}{vs:List V}(e:Evo L H H')(hL:LL L H)(h:KF K H p vs):KF K H' p vs:=by
 rcases h with ⟨o,h⟩ | h
 ·refine .inl ⟨o,e _ _ h fun z=>?_⟩
  obtain⟨o,q,m⟩:=hL p z
  rw[h]at q; cases q; exact m
 ·exact .inr h
theorem XOk.evo{K:Fg}{L:List Addr}{H H':Hp}{p:Addr}{c:Str}{fs:List (Str×V)}(e:Evo L H H')(hL:LL L H)(h:XOk K H p c fs):XOk K H' p c fs:=by
 obtain⟨C,d,h1,h2,h3⟩:=h
 refine⟨C,d,h1,e _ _ h2 fun z=>?_,h3.imp id fun ⟨dx,a,b⟩=>⟨dx,a,e _ _ b fun z=>?_⟩⟩
 ·obtain⟨o,q,m⟩:=hL p z
  rw[h2]at q; cases q; exact m
 ·obtain⟨o,q,m⟩:=hL dx z
  rw[b]at q; cases q; exact m
mutual
theorem Im.evo{K:Fg}{L:List Addr}{H H':Hp}(e:Evo L H H')(hL:LL L H):∀ {v:V} {t:T},Im K H v t->Im K H' v t
 | _,.a _,h=>h
 | _,.t _,h=>by
  unfold Im at h ⊢
  obtain⟨p,vs,rfl,hs,hi⟩:=h
  exact⟨p,vs,rfl,zDZ e hL hs,Ims.evo e hL hi⟩
 | _,.l _,h=>by
  unfold Im at h ⊢
  obtain⟨p,vs,rfl,hs,hi⟩:=h
  exact⟨p,vs,rfl,hs.evo e hL,Ims.evo e hL hi⟩
 | _,.f _,h=>by
  unfold Im at h ⊢
  exact h
 | _,.x _ _,h=>by
  unfold Im at h ⊢
  obtain⟨p,rfl,hs⟩:=h
  exact⟨p,rfl,hs.evo e hL⟩
 | _,.m _ _,h=>by
  unfold Im at h ⊢
  obtain⟨p,vs,rfl,hs,hi⟩:=h
  exact⟨p,vs,rfl,hs.evo e hL,Ims.evo e hL hi⟩
theorem Ims.evo{K:Fg}{L:List Addr}{H H':Hp}(e:Evo L H H')(hL:LL L H):∀ {vs:List V} {ts:List T},Ims K H vs ts->Ims K H' vs ts
 | _,[],h=>h
 | _,_::_,h=>by
  unfold Ims at h ⊢
  obtain⟨v,r,rfl,h1,h2⟩:=h
  exact⟨v,r,rfl,Im.evo e hL h1,Ims.evo e hL h2⟩
end
section
variable {K:Fg}{H H':Hp}
theorem Ims.nil:Ims K H [] []:=by unfold Ims; rfl
theorem Ims.cons{v:V}{vs:List V}{t:T}{ts:List T}(h:Im K H v t)(hs:Ims K H vs ts):Ims K H (v::vs) (t::ts):=by unfold Ims; exact⟨v,vs,rfl,h,hs⟩
theorem Ims.inv{vs:List V}{t:T}{ts:List T}(h:Ims K H vs (t::ts)):∃ v r,vs=v::r/\Im K H v t/\Ims K H r ts:=by unfold Ims at h; exact h
theorem Ims.inv0{vs:List V}(h:Ims K H vs []):vs=[]:=by unfold Ims at h; exact h
theorem Ims.len:∀ {vs:List V} {ts:List T},Ims K H vs ts->vs.length=ts.length
 | _,[],h=>by rw[h.inv0]; rfl
 | _,_::_,h=>by obtain⟨v,r,rfl,_,h2⟩:=h.inv; simp[h2.len]
theorem Ims.app:∀ {vs us:List V} {ts ss:List T},Ims K H vs ts->Ims K H us ss->Ims K H (vs++us) (ts++ss)
 | _,_,[],_,h,h'=>by rw[h.inv0]; exact h'
 | _,_,_::_,_,h,h'=>by obtain⟨v,r,rfl,h1,h2⟩:=h.inv; exact .cons h1 (h2.app h')
theorem Ims.one{v:V}{t:T}(h:Im K H v t):Ims K H [v] [t]:=.cons h .nil
theorem Ims.get:∀ {vs:List V} {ts:List T} {i:Nat} {t:T},Ims K H vs ts->ts[i]?=some t->∃ v,vs[i]?=some v/\Im K H v t
 | _,[],_,_,_,e=>by simp at e
 | _,_::_,0,_,h,e=>by obtain⟨v,r,rfl,h1,h2⟩:=h.inv; simp at e; subst e; exact⟨v,rfl,h1⟩
 | _,_::_,i+1,_,h,e=>by obtain⟨v,r,rfl,h1,h2⟩:=h.inv; simpa using h2.get (i:=i) (by simpa using e)
theorem Ims.take:∀ (n:Nat) {vs:List V} {ts:List T},Ims K H vs ts->Ims K H (vs.take n) (ts.take n)
 | 0,_,_,_=>by simp; exact .nil
 | _+1,_,[],h=>by rw[h.inv0]; exact .nil
 | n+1,_,_::_,h=>by obtain⟨v,r,rfl,h1,h2⟩:=h.inv; exact .cons h1 (h2.take n)
theorem Ims.drop:∀ (n:Nat) {vs:List V} {ts:List T},Ims K H vs ts->Ims K H (vs.drop n) (ts.drop n)
 | 0,_,_,h=>h
 | _+1,_,[],h=>by rw[h.inv0]; exact .nil
 | n+1,_,_::_,h=>by obtain⟨v,r,rfl,h1,h2⟩:=h.inv; exact h2.drop n
theorem Ims.set:∀ {vs:List V} {ts:List T} (i:Nat) {v:V} {t:T},Ims K H vs ts->Im K H v t->Ims K H (vs.set i v) (ts.set i t)
 | _,[],_,_,_,h,_=>by rw[h.inv0]; exact .nil
 | _,_::_,0,_,_,h,h'=>by obtain⟨v,r,rfl,h1,h2⟩:=h.inv; exact .cons h' h2
 | _,_::_,i+1,_,_,h,h'=>by obtain⟨v,r,rfl,h1,h2⟩:=h.inv; exact .cons h1 (h2.set i h')
theorem Ims.erase:∀ {vs:List V} {ts:List T} (i:Nat),Ims K H vs ts->Ims K H (vs.eraseIdx i) (ts.eraseIdx i)
 | _,[],_,h=>by rw[h.inv0]; exact .nil
 | _,_::_,0,h=>by obtain⟨v,r,rfl,h1,h2⟩:=h.inv; exact h2
 | _,_::_,i+1,h=>by obtain⟨v,r,rfl,h1,h2⟩:=h.inv; exact .cons h1 (h2.erase i)
theorem Ims.rev:∀ {vs:List V} {ts:List T},Ims K H vs ts->Ims K H vs.reverse ts.reverse
 | _,[],h=>by rw[h.inv0]; exact .nil
 | _,_::_,h=>by obtain⟨v,r,rfl,h1,h2⟩:=h.inv; simp only[List.reverse_cons]; exact h2.rev.app (.one h1)
theorem Ims.atoms:∀ (vs:List V),Ims K H vs (vs.map T.a)
 | []=>.nil
 | v::r=>.cons (by unfold Im; rfl) (Ims.atoms r)
theorem Ims.of_atoms:∀ {vs:List V} {us:List V},Ims K H vs (us.map T.a)->vs=us
 | _,[],h=>h.inv0
 | _,_::_,h=>by obtain⟨v,r,rfl,h1,h2⟩:=h.inv; unfold Im at h1; rw[h1,Ims.of_atoms h2]
theorem Im.atom{v:V}:Im K H v (.a v):=by unfold Im; rfl
theorem Im.tup{p:Addr}{vs:List V}{ts:List T}(h:H p=some (.tup vs))(hs:Ims K H vs ts):Im K H (.ref p) (.t ts):=by unfold Im; exact⟨p,vs,rfl,Tp.of h,hs⟩
theorem Im.inv{v:V}{ts:List T}(h:Im K H v (.t ts)):∃ p vs,v=.ref p/\Tp K H p vs/\Ims K H vs ts:=by unfold Im at h; exact h
theorem Im.invl{v:V}{ts:List T}(h:Im K H v (.l ts)):∃ p vs,v=.ref p/\KF K H p vs/\Ims K H vs ts:=by unfold Im at h; exact h
theorem Im.fn{v:V}{n:Str}(h:FOk K v n):Im K H v (.f n):=by unfold Im; exact h
theorem Im.invf{v:V}{n:Str}(h:Im K H v (.f n)):FOk K v n:=by unfold Im at h; exact h
theorem Im.lam{p:Addr}{L:Lam}{vs:List V}{ts:List T}(h:LOk H p L vs)(hs:Ims K H vs ts):Im K H (.ref p) (.m L ts):=by unfold Im; exact⟨p,vs,rfl,h,hs⟩
theorem Im.invm{v:V}{L:Lam}{ts:List T}(h:Im K H v (.m L ts)):∃ p vs,v=.ref p/\LOk H p L vs/\Ims K H vs ts:=by unfold Im at h; exact h
theorem Im.inva{v u:V}(h:Im K H v (.a u)):v=u:=by unfold Im at h; exact h
end
theorem KF.sq{K:Fg}{H:Hp}{p:Addr}{vs:List V}(h:KF K H p vs):SqL K H p vs:=by
 rcases h with h | h
 ·exact .inl (.inr h)
 ·exact .inr h
theorem KF.of{K:Fg}{H:Hp}{p:Addr}{vs:List V}(h:SqL K H p vs)(n:∀ us,H p≠some (.lst us)):KF K H p vs:=by
 rcases h with (h | h) | h
 ·exact absurd h (n vs)
 ·exact .inl h
 ·exact .inr h
def DOk(K:Fg)(H:Hp):HO->Dk->Prop
 | .dK l,.inl kvs=>Paired (fun (a:Key×V) (b:Key×T)=>a.1=b.1/\Im K H a.2 b.2) l kvs
 | .dT l,.inr kvs=>Paired (fun (a:List Key×V) (b:List Key×T)=>a.1=b.1/\Im K H a.2 b.2) l kvs
 | _,_=>False
theorem DOk.mu{K:Fg}{H:Hp}{o:HO}{kvs:Dk}(h:DOk K H o kvs):Mu o:=by
 unfold DOk at h
 split at h
 ·trivial
 ·trivial
 ·exact h.elim
theorem DOk.evo{K:Fg}{L:List Addr}{H H':Hp}{o:HO}{kvs:Dk}(e:Evo L H H')(hL:LL L H)(h:DOk K H o kvs):DOk K H' o kvs:=by
 unfold DOk at h ⊢
 split at h
 ·exact Paired.mapP h fun _ _ z=>⟨z.1,z.2.evo e hL⟩
 ·exact Paired.mapP h fun _ _ z=>⟨z.1,z.2.evo e hL⟩
 ·exact h.elim
def GOk(K:Fg)(w:W)(H:Hp)(v:V):G->Prop
 | .v t=>Im K H v t
 | .l xs=>∃ p vs,v=.ref p/\p∈w.L/\H p=some (.lst vs)/\Ims K H vs xs
 | .r xs=>∃ p vs,v=.ref p/\Ims K H vs xs/\H p=some (.lst vs)/\p∉w.L/\w.R p
 | .k xs=>∃ p vs,v=.ref p/\Ims K H vs xs/\KF K H p vs
 | .d kvs=>∃ p o,v=.ref p/\p∈w.L/\H p=some o/\DOk K H o kvs
 | .e kvs=>∃ p o,v=.ref p/\DOk K H o kvs/\H p=some o/\p∉w.L/\w.R p
theorem GOk.own{K:Fg}{w:W}{H:Hp}{v:V}{g:G}(m:isMut g=true)(h:GOk K w H v g):∃ p,v=.ref p/\p∈w.L:=by
 cases g with
 | l xs=>obtain⟨p,vs,e,m,_⟩:=h; exact⟨p,e,m⟩
 | d xs=>obtain⟨p,vs,e,m,_⟩:=h; exact⟨p,e,m⟩
 | v _=>cases m
 | r _=>cases m
 | k _=>cases m
 | e _=>cases m
def Ow(C:Fr)(p:Addr):Prop:=p∈C.fx\/C.H0 p=none
structure Rep(K:Fg)(C:Fr)(w:W)(Γ:En)(σ:St)(H:Hp):Prop where
 len:σ.length=Γ.length
 val:∀ (i:Nat) g,Γ[i]?=some (some g)->∃ v,σ[i]?=some (some v)/\GOk K w H v g
 apart:∀ (i j:Nat) p g g',isMut g=true->isMut g'=true->Γ[i]?=some (some g)->Γ[j]?=some (some g')->σ[i]?=some (some (.ref p))->σ[j]?=some (some (.ref p))->i=j
 lst:LL w.L H
 own:∀ p∈w.L,Ow C p
 ra:∀ p,w.R p->∃ o,H p=some o
 rl:∀ p,w.R p->p∉w.L
 frame:∀ b o,C.H0 b=some o->b∉C.fx->H b=some o
 tab:TabOk K H
 pin:∀ q∈C.pins,σ[q.1]?=some (some (.ref q.2))/\∃ xs,Γ[q.1]?=some (some (.l xs))
def SOk(K:Fg)(C:Fr)(w:W)(σ:St)(H:Hp)(v:V):S->Prop
 | .v t=>Im K H v t
 | .l xs=>∃ p vs,v=.ref p/\p∉w.L/\¬ w.R p/\Ow C p/\H p=some (.lst vs)/\Ims K H vs xs
 | .s i=>σ[i]?=some (some v)
 | .d kvs=>∃ p o,v=.ref p/\p∉w.L/\¬ w.R p/\Ow C p/\H p=some o/\DOk K H o kvs
section
variable {K:Fg}{C:Fr}{w:W}{Γ Γ':En}{σ:St}{H H':Hp}
theorem GOk.evo{v:V}{g:G}(e:Evo w.L H H')(hL:LL w.L H)(hl:isMut g=false)(h:GOk K w H v g):GOk K w H' v g:=by
 cases g with
 | v t=>exact Im.evo e hL h
 | l xs=>cases hl
 | d xs=>cases hl
 | e kvs =>
  obtain⟨p,o,rfl,hi,h⟩:=h
  exact⟨p,o,rfl,hi.evo e hL,e _ _ h.1 h.2.1,h.2⟩
 | r xs =>
  obtain⟨p,vs,rfl,hi,h⟩:=h
  exact⟨p,vs,rfl,hi.evo e hL,e _ _ h.1 h.2.1,h.2⟩
 | k xs =>
  obtain⟨p,vs,rfl,hi,h⟩:=h
  exact⟨p,vs,rfl,hi.evo e hL,h.evo e hL⟩
theorem SOk.evo{v:V}{s:S}(e:Evo w.L H H')(hL:LL w.L H)(h:SOk K C w σ H v s):SOk K C w σ H' v s:=by
 cases s with
 | v t=>exact Im.evo e hL h
 | l xs =>
  obtain⟨p,vs,rfl,n1,n2,o,h1,h2⟩:=h
  exact⟨p,vs,rfl,n1,n2,o,e _ _ h1 n1,h2.evo e hL⟩
 | s i=>exact h
 | d kvs =>
  obtain⟨p,o,rfl,n1,n2,ow,h1,h2⟩:=h
  exact⟨p,o,rfl,n1,n2,ow,e _ _ h1 n1,h2.evo e hL⟩
theorem SOk.atom{v:V}:SOk K C w σ H v (.v (.a v)):=by show Im K H v (.a v); exact Im.atom
theorem SOk.inva{v u:V}(h:SOk K C w σ H v (.v (.a u))):v=u:=by
 have h':Im K H v (.a u):=h
 exact h'.inva
theorem SOk.invt{v:V}{ts:List T}(h:SOk K C w σ H v (.v (.t ts))):∃ p vs,v=.ref p/\Tp K H p vs/\Ims K H vs ts:=by
 have h':Im K H v (.t ts):=h
 exact h'.inv
theorem Rep.evo0(r:Rep K C w Γ σ H)(e:∀ b o,H b=some o->H' b=some o):Rep K C w Γ σ H' where
 len:=r.len
 val:=fun i g h=>by
  obtain⟨v,e1,e2⟩:=r.val i g h
  refine⟨v,e1,?_⟩
  cases g with
  | l xs =>
   obtain⟨p,vs,rfl,hp,h1,h2⟩:=e2
   exact⟨p,vs,rfl,hp,e _ _ h1,h2.evo (L:=w.L) (fun b o h _=>e b o h) r.lst⟩
  | d xs =>
   obtain⟨p,o,rfl,hp,h1,h2⟩:=e2
   exact⟨p,o,rfl,hp,e _ _ h1,h2.evo (L:=w.L) (fun b o h _=>e b o h) r.lst⟩
  | v t=>exact GOk.evo (fun b o h _=>e b o h) r.lst rfl e2
  | r xs=>exact GOk.evo (fun b o h _=>e b o h) r.lst rfl e2
  | k xs=>exact GOk.evo (fun b o h _=>e b o h) r.lst rfl e2
  | e xs=>exact GOk.evo (fun b o h _=>e b o h) r.lst rfl e2
 apart:=r.apart
 lst:=fun p hp=>by obtain⟨o,h,m⟩:=r.lst p hp; exact⟨o,e _ _ h,m⟩
 own:=r.own
 ra:=fun p hp=>by obtain⟨o,h⟩:=r.ra p hp; exact⟨o,e _ _ h⟩
 rl:=r.rl
 frame:=fun b o h n=>e _ _ (r.frame b o h n)
 tab:=fun c P z=>e _ _ (r.tab c P z)
 pin:=r.pin
theorem Rep.same(r:Rep K C w Γ σ H)(e:Same H H'):Rep K C w Γ σ H':=r.evo0 e
theorem Rep.new{p:Addr}{o:HO}(r:Rep K C w Γ σ H)(h:H p=none):Rep K C w Γ σ (upd H p o):=r.evo0 fun b u e=>by rw[zAD (zAI e h)]; exact e
theorem Rep.fresh{p:Addr}(r:Rep K C w Γ σ H)(h:H p=none):p∉w.L/\¬ w.R p/\Ow C p:=by
 refine⟨fun z=>?_,fun z=>?_,?_⟩
 ·obtain⟨vs,e,_⟩:=r.lst p z; rw[h]at e; cases e
 ·obtain⟨o,e⟩:=r.ra p z; rw[h]at e; cases e
 ·by_cases q:p∈C.fx
  ·exact .inl q
  ·refine .inr ?_
   cases e:C.H0 p with
   | none=>rfl
   | some o=>rw[r.frame p o e q]at h; cases h
theorem Rep.newl{p:Addr}{vs:List V}{ts:List T}(r:Rep K C w Γ σ H)(h:H p=none)(hi:Ims K H vs ts):SOk K C w σ (upd H p (.lst vs)) (.ref p) (.l ts):=by
 obtain⟨a,b,c⟩:=r.fresh h
 exact⟨p,vs,rfl,a,b,c,zAN,hi.evo (Evo.new h) r.lst⟩
theorem Rep.newt{p:Addr}{vs:List V}{ts:List T}(r:Rep K C w Γ σ H)(h:H p=none)(hi:Ims K H vs ts):SOk K C w σ (upd H p (.tup vs)) (.ref p) (.v (.t ts)):=by
 exact Im.tup zAN (hi.evo (L:=w.L) (Evo.new h) r.lst)
theorem Rep.put3{i:Nat}{p:Addr}{g0 g1:G}{ob:HO}(r:Rep K C w Γ σ H)(m0:isMut g0=true)(m1:isMut g1=true)(hpin:∀ xs,g0=.l xs->∃ ys,g1=.l ys)(hi:Γ[i]?=some (some g0))(hp:σ[i]?=some (some (.ref p)))(ev1:Evo [p] H H')(hp':H' p=some ob)(mb:Mu ob)(hq:p∈w.L)(hu:GOk K w H' (.ref p) g1) :
  Rep K C w (Γ.set i (some g1)) σ H'/\Evo w.L H H':=by
 have hiΓ:i < Γ.length:=(List.getElem?_eq_some_iff.mp hi).1
 have ev:Evo w.L H H':=ev1.wide fun q hq'=>List.mem_singleton.mp hq' ▸ hq
 have ne:∀ {c:Addr} {o:HO},c≠p->H c=some o->H' c=some o:=fun n e=>ev1 _ _ e fun z=>n (List.mem_singleton.mp z)
 refine⟨⟨by simpa using r.len,fun j g h=>?_,fun j k c g g' mg mg' h1 h2 h3 h4=>?_,fun c hc=>?_,r.own,fun c hc=>?_,r.rl,fun b o h n=>?_,r.tab.evo ev r.lst,fun c hc=>?_⟩,ev⟩
 ·by_cases hj:j=i
  ·subst hj
   rw[List.getElem?_set_self hiΓ]at h
   cases h
   exact⟨_,hp,hu⟩
  ·rw[List.getElem?_set_ne (Ne.symm hj)]at h
   obtain⟨v,e1,e2⟩:=r.val j g h
   refine⟨v,e1,?_⟩
   cases g with
   | l zs =>
    obtain⟨c,vs',rfl,hc,h1,h2⟩:=e2
    have:c≠p:=fun z=>hj (r.apart j i p _ _ rfl m0 h hi (z ▸ e1) hp)
    exact⟨c,vs',rfl,hc,ne this h1,h2.evo ev r.lst⟩
   | d zs =>
    obtain⟨c,vs',rfl,hc,h1,h2⟩:=e2
    have:c≠p:=fun z=>hj (r.apart j i p _ _ rfl m0 h hi (z ▸ e1) hp)
    exact⟨c,vs',rfl,hc,ne this h1,h2.evo ev r.lst⟩
   | v t=>exact GOk.evo ev r.lst rfl e2
   | r zs=>exact GOk.evo ev r.lst rfl e2
   | k zs=>exact GOk.evo ev r.lst rfl e2
   | e zs=>exact GOk.evo ev r.lst rfl e2
 ·have back:∀ (m:Nat) (g:G),isMut g=true->(Γ.set i (some g1))[m]?=some (some g)->∃ g',isMut g'=true/\Γ[m]?=some (some g'):=fun m g mg h=>by
   by_cases hm:m=i
   ·subst hm; exact⟨g0,m0,hi⟩
   ·rw[List.getElem?_set_ne (Ne.symm hm)]at h; exact⟨g,mg,h⟩
  obtain⟨z1,y1,g1⟩:=back j g mg h1
  obtain⟨z2,y2,g2⟩:=back k g' mg' h2
  exact r.apart j k c z1 z2 y1 y2 g1 g2 h3 h4
 ·by_cases hcp:c=p
  ·subst hcp; exact⟨ob,hp',mb⟩
  ·obtain⟨o,e,m⟩:=r.lst c hc; exact⟨o,ne hcp e,m⟩
 ·have:c≠p:=fun z=>r.rl c hc (z ▸ hq)
  obtain⟨o,e⟩:=r.ra c hc
  exact⟨o,ne this e⟩
 ·by_cases hb:b=p
  ·subst hb
   rcases r.own b hq with z | z
   ·exact absurd z n
   ·rw[z]at h; cases h
  ·exact ne hb (r.frame b o h n)
 ·obtain⟨h1,zs,h2⟩:=r.pin c hc
  refine⟨h1,?_⟩
  by_cases hm:c.1=i
  ·rw[hm,hi]at h2
   cases h2
   obtain⟨ys,e⟩:=hpin zs rfl
   exact⟨ys,by rw[hm,List.getElem?_set_self hiΓ,e]⟩
  ·exact⟨zs,by rw[List.getElem?_set_ne (Ne.symm hm)]; exact h2⟩
theorem Rep.put2{i:Nat}{p:Addr}{xs ys:List T}{us:List V}(r:Rep K C w Γ σ H)(hi:Γ[i]?=some (some (.l xs)))(hp:σ[i]?=some (some (.ref p)))(ev1:Evo [p] H H')(hp':H' p=some (.lst us))(hu:Ims K H' us ys) :
  Rep K C w (Γ.set i (some (.l ys))) σ H'/\Evo w.L H H':=by
 obtain⟨v,e1,q,vs,rfl,hq,hv,_⟩:=r.val i _ hi
 rw[hp]at e1; cases e1
 exact r.put3 rfl rfl (fun _ _=>⟨ys,rfl⟩) hi hp ev1 hp' trivial hq ⟨p,us,rfl,hq,hp',hu⟩
theorem Rep.putD{i:Nat}{p:Addr}{kvs kvs':Dk}{ob:HO}(r:Rep K C w Γ σ H)(hi:Γ[i]?=some (some (.d kvs)))(hp:σ[i]?=some (some (.ref p)))(hu:DOk K H ob kvs') :
  Rep K C w (Γ.set i (some (.d kvs'))) σ (upd H p ob)/\Evo w.L H (upd H p ob):=by
 obtain⟨v,e1,q,vs,rfl,hq,hv,_⟩:=r.val i _ hi
 rw[hp]at e1; cases e1
 have ev1:Evo [p] H (upd H p ob):=fun b o e n=>by rw[zAD (show b≠p from fun z=>n (List.mem_singleton.mpr z))]; exact e
 have hu':=hu.evo (ev1.wide fun q hq'=>List.mem_singleton.mp hq' ▸ hq) r.lst
 exact r.put3 rfl rfl (fun _ e=>by cases e) hi hp ev1 zAN hu'.mu hq ⟨p,ob,rfl,hq,zAN,hu'⟩
theorem Rep.put{i:Nat}{p:Addr}{xs ys:List T}{us:List V}(r:Rep K C w Γ σ H)(hi:Γ[i]?=some (some (.l xs)))(hp:σ[i]?=some (some (.ref p)))(hu:Ims K H us ys) :
  Rep K C w (Γ.set i (some (.l ys))) σ (upd H p (.lst us))/\Evo w.L H (upd H p (.lst us)):=by
 obtain⟨v,e1,q,vs,rfl,hq,hv,_⟩:=r.val i _ hi
 rw[hp]at e1; cases e1
 have ev1:Evo [p] H (upd H p (.lst us)):=fun b o e n=>by rw[zAD (show b≠p from fun z=>n (List.mem_singleton.mpr z))]; exact e
 exact r.put2 hi hp ev1 zAN (hu.evo (ev1.wide fun q hq'=>List.mem_singleton.mp hq' ▸ hq) r.lst)
theorem Rep.temp{p:Addr}(r:Rep K C w Γ σ H)(n1:p∉w.L)(n2:¬ w.R p)(ow:Ow C p)(hl:∃ o,H p=some o/\Mu o)(ev1:Evo [p] H H'):Rep K C w Γ σ H':=by
 have ne:∀ {c:Addr} {o:HO},c≠p->H c=some o->H' c=some o:=fun n e=>ev1 _ _ e fun z=>n (List.mem_singleton.mp z)
 have hL:LL [p] H:=fun q hq=>by rw[List.mem_singleton.mp hq]; exact hl
 refine⟨r.len,fun j g h=>?_,r.apart,fun c hc=>?_,r.own,fun c hc=>?_,r.rl,fun b o h n=>?_,r.tab.evo ev1 hL,r.pin⟩
 ·obtain⟨v,e1,e2⟩:=r.val j g h
  refine⟨v,e1,?_⟩
  cases g with
  | v t=>exact Im.evo ev1 hL e2
  | l zs =>
   obtain⟨c,vs',rfl,hc,h1,h2⟩:=e2
   exact⟨c,vs',rfl,hc,ne (fun z=>n1 (z ▸ hc)) h1,h2.evo ev1 hL⟩
  | r zs =>
   obtain⟨c,vs',rfl,h1,h2⟩:=e2
   exact⟨c,vs',rfl,h1.evo ev1 hL,ne (fun z=>n2 (z ▸ h2.2.2)) h2.1,h2.2⟩
  | k zs =>
   obtain⟨c,vs',rfl,h1,h2⟩:=e2
   exact⟨c,vs',rfl,h1.evo ev1 hL,h2.evo ev1 hL⟩
  | d zs =>
   obtain⟨c,vs',rfl,hc,h1,h2⟩:=e2
   exact⟨c,vs',rfl,hc,ne (fun z=>n1 (z ▸ hc)) h1,h2.evo ev1 hL⟩
  | e zs =>
   obtain⟨c,vs',rfl,h1,h2⟩:=e2
   exact⟨c,vs',rfl,h1.evo ev1 hL,ne (fun z=>n2 (z ▸ h2.2.2)) h2.1,h2.2⟩
 ·obtain⟨o,e,m⟩:=r.lst c hc; exact⟨o,ne (fun z=>n1 (z ▸ hc)) e,m⟩
 ·obtain⟨o,e⟩:=r.ra c hc; exact⟨o,ne (fun z=>n2 (z ▸ hc)) e⟩
 ·by_cases hb:b=p
  ·subst hb
   rcases ow with z | z
   ·exact absurd z n
   ·rw[z]at h; cases h
  ·exact ne hb (r.frame b o h n)
theorem Rep.setv{i:Nat}{v:V}{g:G}(r:Rep K C w Γ σ H)(hg:isMut g=false)(h:GOk K w H v g)(hn:∀ q∈C.pins,q.1≠i):Rep K C w (Γ.set i (some g)) (σ.set i (some v)) H where
 len:=by simpa using r.len
 val:=fun j g' hj=>by
  by_cases hji:j=i
  ·subst hji
   have hjl:j < Γ.length:=by
    rcases Nat.lt_or_ge j Γ.length with z | z
    ·exact z
    ·rw[List.getElem?_eq_none (by simpa using z)]at hj; cases hj
   rw[List.getElem?_set_self hjl]at hj
   cases hj
   exact⟨v,by rw[List.getElem?_set_self (by rw[r.len]; exact hjl)],h⟩
  ·rw[List.getElem?_set_ne (Ne.symm hji)]at hj
   rw[List.getElem?_set_ne (Ne.symm hji)]
   exact r.val j g' hj
 apart:=fun j k p ga gb ma mb h1 h2 h3 h4=>by
  have ne:∀ (m:Nat) (gc:G),isMut gc=true->(Γ.set i (some g))[m]?=some (some gc)->m≠i/\Γ[m]?=some (some gc):=fun m gc mc hm=>by
   by_cases e:m=i
   ·subst e
    rcases Nat.lt_or_ge m Γ.length with z | z
    ·rw[List.getElem?_set_self z]at hm; cases hm; rw[hg]at mc; cases mc
    ·rw[List.getElem?_eq_none (by simpa using z)]at hm; cases hm
   ·rw[List.getElem?_set_ne (Ne.symm e)]at hm; exact⟨e,hm⟩
  obtain⟨n1,g1⟩:=ne j ga ma h1
  obtain⟨n2,g2⟩:=ne k gb mb h2
  rw[List.getElem?_set_ne (Ne.symm n1)]at h3
  rw[List.getElem?_set_ne (Ne.symm n2)]at h4
  exact r.apart j k p ga gb ma mb g1 g2 h3 h4
 lst:=r.lst
 own:=r.own
 ra:=r.ra
 rl:=r.rl
 frame:=r.frame
 tab:=r.tab
 pin:=fun q hq=>by
  obtain⟨h1,xs,h2⟩:=r.pin q hq
  have:=hn q hq
  exact⟨by rw[List.getElem?_set_ne (Ne.symm this)]; exact h1,xs,by rw[List.getElem?_set_ne (Ne.symm this)]; exact h2⟩
theorem Rep.setm{i:Nat}{p:Addr}{ob:HO}{g:G}(r:Rep K C w Γ σ H)(mg:isMut g=true)(n1:p∉w.L)(n2:¬ w.R p)(ow:Ow C p)(hp:H p=some ob)(mb:Mu ob)(hv:GOk K ⟨p::w.L,w.R⟩ H (.ref p) g)(hn:∀ q∈C.pins,q.1≠i) :
  Rep K C ⟨p::w.L,w.R⟩ (Γ.set i (some g)) (σ.set i (some (.ref p))) H where
 len:=by simpa using r.len
 val:=fun j g' hj=>by
  by_cases hji:j=i
  ·subst hji
   have hjl:j < Γ.length:=by
    rcases Nat.lt_or_ge j Γ.length with z | z
    ·exact z
    ·rw[List.getElem?_eq_none (by simpa using z)]at hj; cases hj
   rw[List.getElem?_set_self hjl]at hj
   cases hj
   exact⟨_,by rw[List.getElem?_set_self (by rw[r.len]; exact hjl)],hv⟩
  ·rw[List.getElem?_set_ne (Ne.symm hji)]at hj
   rw[List.getElem?_set_ne (Ne.symm hji)]
   obtain⟨v,e1,e2⟩:=r.val j g' hj
   refine⟨v,e1,?_⟩
   cases g' with
   | v t=>exact e2
   | l ys=>obtain⟨c,us,rfl,hc,h1,h2⟩:=e2; exact⟨c,us,rfl,List.mem_cons_of_mem _ hc,h1,h2⟩
   | d ys=>obtain⟨c,us,rfl,hc,h1,h2⟩:=e2; exact⟨c,us,rfl,List.mem_cons_of_mem _ hc,h1,h2⟩
   | r ys =>
    obtain⟨c,us,rfl,hi,h⟩:=e2
    refine⟨c,us,rfl,hi,h.1,fun z=>?_,h.2.2⟩
    rcases List.mem_cons.mp z with z | z
    ·exact n2 (z ▸ h.2.2)
    ·exact h.2.1 z
   | e ys =>
    obtain⟨c,us,rfl,hi,h⟩:=e2
    refine⟨c,us,rfl,hi,h.1,fun z=>?_,h.2.2⟩
    rcases List.mem_cons.mp z with z | z
    ·exact n2 (z ▸ h.2.2)
    ·exact h.2.1 z
   | k ys=>exact e2
 apart:=fun j k c ga gb ma mb' h1 h2 h3 h4=>by
  have ne:∀ (m:Nat) (gc:G),isMut gc=true->m≠i->(Γ.set i (some g))[m]?=some (some gc)->(σ.set i (some (.ref p)))[m]?=some (some (.ref c))->Γ[m]?=some (some gc)/\σ[m]?=some (some (.ref c))/\c≠p:=fun m gc mc e h h'=>by
   rw[List.getElem?_set_ne (Ne.symm e)]at h
   rw[List.getElem?_set_ne (Ne.symm e)]at h'
   refine⟨h,h',fun z=>?_⟩
   obtain⟨v,e1,hg⟩:=r.val m _ h
   obtain⟨q,rfl,hq⟩:=hg.own mc
   rw[h']at e1; cases e1
   exact n1 (z ▸ hq)
  have at_i:∀ (m:Nat),m=i->(σ.set i (some (.ref p)))[m]?=some (some (.ref c))->c=p:=fun m e h=>by
   subst e
   rcases Nat.lt_or_ge m σ.length with z | z
   ·rw[List.getElem?_set_self z]at h; cases h; rfl
   ·rw[List.getElem?_eq_none (by simpa using z)]at h; cases h
  by_cases e1:j=i
  ·by_cases e2:k=i
   ·rw[e1,e2]
   ·obtain⟨_,_,n⟩:=ne k gb mb' e2 h2 h4
    exact absurd (at_i j e1 h3) n
  ·obtain⟨g1,s1,n⟩:=ne j ga ma e1 h1 h3
   by_cases e2:k=i
   ·exact absurd (at_i k e2 h4) n
   ·obtain⟨g2,s2,_⟩:=ne k gb mb' e2 h2 h4
    exact r.apart j k c ga gb ma mb' g1 g2 s1 s2
 lst:=fun c hc=>by
  rcases List.mem_cons.mp hc with e | e
  ·subst e; exact⟨ob,hp,mb⟩
  ·exact r.lst c e
 own:=fun c hc=>by
  rcases List.mem_cons.mp hc with e | e
  ·subst e; exact ow
  ·exact r.own c e
 ra:=r.ra
 rl:=fun c hc z=>by
  rcases List.mem_cons.mp z with e | e
  ·subst e; exact n2 hc
  ·exact r.rl c hc e
 frame:=r.frame
 tab:=r.tab
 pin:=fun q hq=>by
  obtain⟨h1,xs',h2⟩:=r.pin q hq
  have:=hn q hq
  exact⟨by rw[List.getElem?_set_ne (Ne.symm this)]; exact h1,xs',by rw[List.getElem?_set_ne (Ne.symm this)]; exact h2⟩
theorem Rep.setl{i:Nat}{p:Addr}{vs:List V}{xs:List T}(r:Rep K C w Γ σ H)(n1:p∉w.L)(n2:¬ w.R p)(ow:Ow C p)(hp:H p=some (.lst vs))(hv:Ims K H vs xs)(hn:∀ q∈C.pins,q.1≠i) :
  Rep K C ⟨p::w.L,w.R⟩ (Γ.set i (some (.l xs))) (σ.set i (some (.ref p))) H :=
 r.setm rfl n1 n2 ow hp trivial ⟨p,vs,rfl,List.mem_cons_self,hp,hv⟩ hn
theorem Rep.setd{i:Nat}{p:Addr}{ob:HO}{kvs:Dk}(r:Rep K C w Γ σ H)(n1:p∉w.L)(n2:¬ w.R p)(ow:Ow C p)(hp:H p=some ob)(hv:DOk K H ob kvs)(hn:∀ q∈C.pins,q.1≠i) :
  Rep K C ⟨p::w.L,w.R⟩ (Γ.set i (some (.d kvs))) (σ.set i (some (.ref p))) H :=
 r.setm rfl n1 n2 ow hp hv.mu ⟨p,ob,rfl,List.mem_cons_self,hp,hv⟩ hn
theorem Rep.newd{p:Addr}{ob:HO}{kvs:Dk}(r:Rep K C w Γ σ H)(h:H p=none)(hi:DOk K H ob kvs):SOk K C w σ (upd H p ob) (.ref p) (.d kvs):=by
 obtain⟨a,b,c⟩:=r.fresh h
 exact⟨p,ob,rfl,a,b,c,zAN,hi.evo (Evo.new h) r.lst⟩
end
def SOks(K:Fg)(C:Fr)(w:W)(σ:St)(H:Hp):List V->List S->Prop
 | [],[]=>True
 | v::vs,s::ss=>SOk K C w σ H v s/\SOks K C w σ H vs ss
 | _,_=>False
def Nw(H:Hp)(v:V):S->Prop
 | .l _=>∃ p,v=.ref p/\H p=none
 | .d _=>∃ p,v=.ref p/\H p=none
 | _=>True
def Nws(H:Hp):List V->List S->Prop
 | v::vs,s::ss=>Nw H v s/\Nws H vs ss
 | _,_=>True
theorem zAa{L:List Addr}{H H':Hp}{p:Addr}(e:Evo L H H')(hL:LL L H')(h:H' p=none):H p=none:=by
 cases q:H p with
 | none=>rfl
 | some o =>
  by_cases z:p∈L
  ·obtain⟨vs,u,_⟩:=hL p z; rw[h]at u; cases u
  ·rw[e p o q z]at h; cases h
theorem Nw.back{L:List Addr}{H H':Hp}{v:V}{s:S}(n:Nw H' v s)(e:Evo L H H')(hL:LL L H'):Nw H v s:=by
 cases s with
 | l xs=>obtain⟨p,a,b⟩:=n; exact⟨p,a,zAa e hL b⟩
 | d xs=>obtain⟨p,a,b⟩:=n; exact⟨p,a,zAa e hL b⟩
 | v t=>trivial
 | s i=>trivial
theorem Nws.back{L:List Addr}{H H':Hp}(e:Evo L H H')(hL:LL L H'):∀ {vs:List V} {ss:List S},Nws H' vs ss->Nws H vs ss
 | [],[],_=>trivial
 | [],_::_,_=>trivial
 | _::_,[],_=>trivial
 | _::_,_::_,h=>⟨h.1.back e hL,Nws.back e hL h.2⟩
theorem Nws.get{H:Hp}:∀ {vs:List V} {ss:List S} {k:Nat} {v:V} {s:S},Nws H vs ss->vs[k]?=some v->ss[k]?=some s->Nw H v s
 | [],_,_,_,_,_,e,_=>by simp at e
 | _::_,[],_,_,_,_,_,e=>by simp at e
 | _::_,_::_,0,_,_,h,e,e'=>by simp at e e'; subst e e'; exact h.1
 | _::_,_::_,k+1,_,_,h,e,e'=>Nws.get (k:=k) h.2 (by simpa using e) (by simpa using e')
def SimE(K:Fg)(te:TE)(f:DE):Prop:=∀ (C:Fr) (w:W) (Γ:En) (σ:St) (H:Hp) (s:S) (Γ':En) (Q:VK),Rep K C w Γ σ H->f Γ=some (s,Γ') ->
 (∀ v H',Rep K C w Γ' σ H'->Evo w.L H H'->SOk K C w σ H' v s->Nw H v s->Q v H')->te σ H Q
def SimT(K:Fg)(tt:TT)(f:DT):Prop:=∀ (C:Fr) (w:W) (Γ:En) (σ:St) (H:Hp) (b:Bool) (Γ':En) (Q:Bool->Hp->Prop),Rep K C w Γ σ H->f Γ=some (b,Γ') ->
 (∀ H',Rep K C w Γ' σ H'->Evo w.L H H'->Q b H')->tt σ H Q
def SimA(K:Fg)(ta:TA)(f:DA):Prop:=∀ (C:Fr) (w:W) (Γ:En) (σ:St) (H:Hp) (ss:List S) (Γ':En) (Q:List V->Hp->Prop),Rep K C w Γ σ H->f Γ=some (ss,Γ') ->
 (∀ vs H',Rep K C w Γ' σ H'->Evo w.L H H'->SOks K C w σ H' vs ss->Nws H vs ss->Q vs H')->ta σ H Q
def OkO(K:Fg)(C:Fr)(D:Ends):O->Prop
 | .nx Γ=>∀ w σ H,Rep K C w Γ σ H->D.nx σ H
 | .rt s Γ=>∀ w σ H v,Rep K C w Γ σ H->SOk K C w σ H v s->D.rt v H
 | .bk Γ=>∀ w σ H,Rep K C w Γ σ H->D.bk σ H
 | .ct Γ=>∀ w σ H,Rep K C w Γ σ H->D.ct σ H
def SimS(K:Fg)(ip:Option Nat)(ts:TS)(g:DS):Prop:=∀ (C:Fr) (w:W) (Γ:En) (σ:St) (H:Hp) (D:Ends) (o:O),C.pins.map (·.1)=ip.toList->Rep K C w Γ σ H->g Γ=some o->OkO K C D o->ts D σ H
def SimR2(K:Fg)(r:R2)(h:En->S->S->Option S):Prop:=∀ (C:Fr) (w:W) (Γ:En) (σ:St) (H:Hp) (x y:V) (a b s:S) (Q:VK),Rep K C w Γ σ H->SOk K C w σ H x a->SOk K C w σ H y b->h Γ a b=some s ->
 (∀ v H',Rep K C w Γ σ H'->Evo w.L H H'->SOk K C w σ H' v s->Nw H v s->Q v H')->r x y H Q
def SimRs(K:Fg)(r:List V->Hp->VK->Prop)(h:En->List S->Option S):Prop:=∀ (C:Fr) (w:W) (Γ:En) (σ:St) (H:Hp) (xs:List V) (as:List S) (s:S) (Q:VK),Rep K C w Γ σ H->SOks K C w σ H xs as->h Γ as=some s ->
 (∀ v H',Rep K C w Γ σ H'->Evo w.L H H'->SOk K C w σ H' v s->Nw H v s->Q v H')->r xs H Q
def jV(i:Nat):DE:=fun Γ=>match Γ[i]? with
 | some (some (.v t))=>some (.v t,Γ)
 | some (some (.l _))=>some (.s i,Γ)
 | some (some (.r _))=>some (.s i,Γ)
 | some (some (.k _))=>some (.s i,Γ)
 | some (some (.d _))=>some (.s i,Γ)
 | some (some (.e _))=>some (.s i,Γ)
 | _=>none
def dC(v:V):DE:=fun Γ=>some (.v (.a v),Γ)
def dOp(h:En->S->S->Option S)(fa fb:DE):DE:=fun Γ=>(fa Γ).bind fun p=>(fb p.2).bind fun q=>(h q.2 p.1 q.1).map fun s=>(s,q.2)
def dUn(h:En->S->Option S)(fa:DE):DE:=fun Γ=>(fa Γ).bind fun p=>(h p.2 p.1).map fun s=>(s,p.2)
def dCB(h:En->List S->Option S)(fa:DA):DE:=fun Γ=>(fa Γ).bind fun p=>(h p.2 p.1).map fun s=>(s,p.2)
def qQ:DA:=fun Γ=>some ([],Γ)
def jW(fa:DE)(fr:DA):DA:=fun Γ=>(fa Γ).bind fun p=>(fr p.2).bind fun q=>some (p.1::q.1,q.2)
def S.tree:S->Option T
 | .v t=>some t
 | _=>none
def trees:List S->Option (List T)
 | []=>some []
 | s::r=>s.tree.bind fun t=>(trees r).map fun ts=>t::ts
def gd{α:Type}(n:Nat)(x:α):Option α:=if n<=sizeLine then some x else none
theorem zBG{α:Type}{n:Nat}{x y:α}(h:gd n x=some y):n<=sizeLine/\x=y:=by
 unfold gd at h; split at h
 ·exact⟨by assumption,Option.some.inj h⟩
 ·cases h
def dTup(fa:DA):DE:=fun Γ=>(fa Γ).bind fun p=>(trees p.1).bind fun ts=>gd ts.length (.v (.t ts),p.2)
def dLst(fa:DA):DE:=fun Γ=>(fa Γ).bind fun p=>(trees p.1).bind fun ts=>gd ts.length (.l ts,p.2)
def dTest(f:DE):DT:=fun Γ=>(f Γ).bind fun p=>match p.1 with
 | .v (.a (.bl b))=>some (b,p.2)
 | _=>none
def dAnd(f g:DT):DT:=fun Γ=>(f Γ).bind fun p=>if p.1=true then g p.2 else some (false,p.2)
def dOr(f g:DT):DT:=fun Γ=>(f Γ).bind fun p=>if p.1=true then some (true,p.2) else g p.2
def dNot(f:DT):DT:=fun Γ=>(f Γ).bind fun p=>some (!p.1,p.2)
def dAndV(f g:DE):DE:=fun Γ=>(dTest f Γ).bind fun p=>if p.1=true then g p.2 else some (.v (.a (.bl false)),p.2)
def dOrV(f g:DE):DE:=fun Γ=>(dTest f Γ).bind fun p=>if p.1=true then some (.v (.a (.bl true)),p.2) else g p.2
def dNotV(f:DE):DE:=fun Γ=>(dTest f Γ).bind fun p=>some (.v (.a (.bl !p.1)),p.2)
def dIfE(c:DT)(f g:DE):DE:=fun Γ=>(c Γ).bind fun p=>if p.1=true then f p.2 else g p.2
def dChain(h h':En->S->S->Option S)(fa fb fc:DE):DE:=fun Γ=>(fa Γ).bind fun p=>(fb p.2).bind fun q=>(h q.2 p.1 q.1).bind fun z=>match z with
 | .v (.a (.bl k))=>if k=true then (fc q.2).bind fun u=>(h' u.2 q.1 u.1).map fun s=>(s,u.2) else some (.v (.a (.bl false)),q.2)
 | _=>none
section
variable {K:Fg}{ip:Option Nat}
theorem bind_some{α β:Type}{x:Option α}{f:α->Option β}{y:β}(h:x.bind f=some y):∃ a,x=some a/\f a=some y:=by
 cases x with
 | none=>cases h
 | some a=>exact⟨a,rfl,h⟩
theorem map_some{α β:Type}{x:Option α}{f:α->β}{y:β}(h:x.map f=some y):∃ a,x=some a/\f a=y:=by
 cases x with
 | none=>cases h
 | some a=>exact⟨a,rfl,Option.some.inj h⟩
theorem zLv{i:Nat}:SimE K (tVar i) (jV i):=by
 intro C w Γ σ H s Γ' Q R h k
 unfold jV at h
 split at h
 ·rename_i t e
  cases h
  obtain⟨v,e1,e2⟩:=R.val i _ e
  exact⟨v,e1,k v H R .refl e2 trivial⟩
 ·rename_i xs e
  cases h
  obtain⟨v,e1,e2⟩:=R.val i _ e
  exact⟨v,e1,k v H R .refl e1 trivial⟩
 ·rename_i xs e
  cases h
  obtain⟨v,e1,e2⟩:=R.val i _ e
  exact⟨v,e1,k v H R .refl e1 trivial⟩
 ·rename_i xs e
  cases h
  obtain⟨v,e1,e2⟩:=R.val i _ e
  exact⟨v,e1,k v H R .refl e1 trivial⟩
 ·rename_i xs e
  cases h
  obtain⟨v,e1,e2⟩:=R.val i _ e
  exact⟨v,e1,k v H R .refl e1 trivial⟩
 ·rename_i xs e
  cases h
  obtain⟨v,e1,e2⟩:=R.val i _ e
  exact⟨v,e1,k v H R .refl e1 trivial⟩
 ·cases h
theorem zFE{v:V}:SimE K (tC v) (dC v):=by
 intro C w Γ σ H s Γ' Q R h k
 cases h
 exact k v H R .refl SOk.atom trivial
theorem zCe{r:R2}{h:En->S->S->Option S}{ta tb:TE}{fa fb:DE}(hr:SimR2 K r h)(ha:SimE K ta fa)(hb:SimE K tb fb):SimE K (tOp r ta tb) (dOp h fa fb):=by
 intro C w Γ σ H s Γ' Q R e k
 obtain⟨p,e1,e⟩:=bind_some e
 obtain⟨q,e2,e⟩:=bind_some e
 obtain⟨z,e3,e⟩:=map_some e
 cases e
 refine ha C w Γ σ H p.1 p.2 _ R e1 fun v1 H1 R1 ev1 o1 n1=>?_
 refine hb C w p.2 σ H1 q.1 q.2 _ R1 e2 fun v2 H2 R2 ev2 o2 n2=>?_
 exact hr C w q.2 σ H2 v1 v2 _ _ _ Q R2 (o1.evo ev2 R1.lst) o2 e3 fun v H3 R3 ev3 o3 n3=>k v H3 R3 ((ev1.trans ev2).trans ev3) o3 (n3.back (ev1.trans ev2) R2.lst)
theorem zJS{r:List V->Hp->VK->Prop}{h:En->List S->Option S}{ta:TA}{fa:DA}(hr:SimRs K r h)(ha:SimA K ta fa):SimE K (tCB r ta) (dCB h fa):=by
 intro C w Γ σ H s Γ' Q R e k
 obtain⟨p,e1,e⟩:=bind_some e
 obtain⟨z,e3,e⟩:=map_some e
 cases e
 refine ha C w Γ σ H p.1 p.2 _ R e1 fun v1 H1 R1 ev1 o1 n1=>?_
 exact hr C w p.2 σ H1 v1 _ _ Q R1 o1 e3 fun v H3 R3 ev3 o3 n3=>k v H3 R3 (ev1.trans ev3) o3 (n3.back ev1 R1.lst)
theorem zHS:SimA K tNil qQ:=by
 intro C w Γ σ H s Γ' Q R e k
 cases e
 exact k [] H R .refl trivial trivial
theorem zK9{ta:TE}{tr:TA}{fa:DE}{fr:DA}(ha:SimE K ta fa)(hr:SimA K tr fr):SimA K (tCons ta tr) (jW fa fr):=by
 intro C w Γ σ H s Γ' Q R e k
 obtain⟨p,e1,e⟩:=bind_some e
 obtain⟨q,e2,e⟩:=bind_some e
 cases e
 refine ha C w Γ σ H p.1 p.2 _ R e1 fun v1 H1 R1 ev1 o1 n1=>?_
 exact hr C w p.2 σ H1 q.1 q.2 _ R1 e2 fun vs H2 R2 ev2 o2 n2=>k (v1::vs) H2 R2 (ev1.trans ev2) ⟨o1.evo ev2 R1.lst,o2⟩ ⟨n1,n2.back ev1 R1.lst⟩
theorem zDK{C:Fr}{w:W}{σ:St}{H:Hp}:∀ {vs:List V} {ss:List S} {ts:List T},SOks K C w σ H vs ss->trees ss=some ts->Ims K H vs ts
 | [],[],_,_,e=>by cases e; exact .nil
 | v::vs,s::ss,_,h,e=>by
  obtain⟨t,e1,e⟩:=bind_some e
  obtain⟨ts,e2,e⟩:=map_some e
  cases e
  cases s with
  | v t'=>cases e1; exact .cons h.1 (zDK h.2 e2)
  | l _=>cases e1
  | s _=>cases e1
  | d _=>cases e1
 | [],_::_,_,h,_=>h.elim
 | _::_,[],_,h,_=>h.elim
theorem zMB{ta:TA}{fa:DA}(ha:SimA K ta fa):SimE K (tTup ta) (dTup fa):=by
 intro C w Γ σ H s Γ' Q R e k
 obtain⟨p,e1,e⟩:=bind_some e
 obtain⟨ts,e2,e⟩:=bind_some e
 obtain⟨hn,e⟩:=zBG e
 cases e
 refine ha C w Γ σ H p.1 p.2 _ R e1 fun vs H1 R1 ev1 o1 _=>?_
 have hi:=zDK o1 e2
 exact⟨by rw[hi.len]; exact hn,fun q hq=>k _ _ (R1.new hq) (ev1.trans (Evo.new hq)) (R1.newt hq hi) trivial⟩
theorem zMM{ta:TA}{fa:DA}(ha:SimA K ta fa):SimE K (tLst ta) (dLst fa):=by
 intro C w Γ σ H s Γ' Q R e k
 obtain⟨p,e1,e⟩:=bind_some e
 obtain⟨ts,e2,e⟩:=bind_some e
 obtain⟨hn,e⟩:=zBG e
 cases e
 refine ha C w Γ σ H p.1 p.2 _ R e1 fun vs H1 R1 ev1 o1 _=>?_
 have hi:=zDK o1 e2
 exact⟨by rw[hi.len]; exact hn,fun q hq=>k _ _ (R1.new hq) (ev1.trans (Evo.new hq)) (R1.newl hq hi) ⟨_,rfl,zAa ev1 R1.lst hq⟩⟩
theorem zCY{ta:TE}{fa:DE}(ha:SimE K ta fa):SimT K (tTest ta) (dTest fa):=by
 intro C w Γ σ H s Γ' Q R e k
 obtain⟨p,e1,e⟩:=bind_some e
 obtain⟨p1,p2⟩:=p
 dsimp only at e
 split at e
 ·cases e
  refine ha C w Γ σ H _ _ _ R e1 fun v H1 R1 ev1 o1 _=>?_
  exact⟨_,SOk.inva o1,k H1 R1 ev1⟩
 ·cases e
theorem zMz{ta tb:TT}{fa fb:DT}(ha:SimT K ta fa)(hb:SimT K tb fb):SimT K (tOr ta tb) (dOr fa fb):=by
 intro C w Γ σ H s Γ' Q R e k
 obtain⟨⟨p,G1⟩,e1,e⟩:=bind_some e
 refine ha C w Γ σ H p G1 _ R e1 fun H1 R1 ev1=>?_
 cases p with
 | false=>exact (if_neg Bool.false_ne_true).mpr (hb C w G1 σ H1 s Γ' Q R1 (by simpa using e) fun H2 R2 ev2=>k H2 R2 (ev1.trans ev2))
 | true =>
  have e':(true,G1)=(s,Γ'):=by simpa using e
  cases e'
  exact (if_pos rfl).mpr (k H1 R1 ev1)
theorem zMe{ta:TT}{fa:DT}(ha:SimT K ta fa):SimT K (tNot ta) (dNot fa):=by
 intro C w Γ σ H s Γ' Q R e k
 obtain⟨p,e1,e⟩:=bind_some e
 cases e
 exact ha C w Γ σ H p.1 p.2 _ R e1 fun H1 R1 ev1=>k H1 R1 ev1
theorem zKm{ta tb:TE}{fa fb:DE}(ha:SimE K ta fa)(hb:SimE K tb fb):SimE K (tAndV ta tb) (dAndV fa fb):=by
 intro C w Γ σ H s Γ' Q R e k
 obtain⟨⟨p,G1⟩,e1,e⟩:=bind_some e
 refine (zCY ha) C w Γ σ H p G1 (fun c H1=>if c=true then tb σ H1 Q else Q (.bl false) H1) R e1 fun H1 R1 ev1=>?_
 cases p with
 | true=>exact (if_pos rfl).mpr (hb C w G1 σ H1 s Γ' Q R1 (by simpa using e) fun v H2 R2 ev2 o n=>k v H2 R2 (ev1.trans ev2) o (n.back ev1 R1.lst))
 | false =>
  have e':(S.v (.a (.bl false)),G1)=(s,Γ'):=by simpa using e
  cases e'
  exact (if_neg Bool.false_ne_true).mpr (k _ H1 R1 ev1 SOk.atom trivial)
theorem zMI{ta tb:TE}{fa fb:DE}(ha:SimE K ta fa)(hb:SimE K tb fb):SimE K (tOrV ta tb) (dOrV fa fb):=by
 intro C w Γ σ H s Γ' Q R e k
 obtain⟨⟨p,G1⟩,e1,e⟩:=bind_some e
 refine (zCY ha) C w Γ σ H p G1 (fun c H1=>if c=true then Q (.bl true) H1 else tb σ H1 Q) R e1 fun H1 R1 ev1=>?_
 cases p with
 | false=>exact (if_neg Bool.false_ne_true).mpr (hb C w G1 σ H1 s Γ' Q R1 (by simpa using e) fun v H2 R2 ev2 o n=>k v H2 R2 (ev1.trans ev2) o (n.back ev1 R1.lst))
 | true =>
  have e':(S.v (.a (.bl true)),G1)=(s,Γ'):=by simpa using e
  cases e'
  exact (if_pos rfl).mpr (k _ H1 R1 ev1 SOk.atom trivial)
theorem zKf{ta:TE}{fa:DE}(ha:SimE K ta fa):SimE K (tNotV ta) (dNotV fa):=by
 intro C w Γ σ H s Γ' Q R e k
 obtain⟨⟨p,G1⟩,e1,e⟩:=bind_some e
 cases e
 exact (zCY ha) C w Γ σ H p G1 (fun c H1=>Q (.bl (!c)) H1) R e1 fun H1 R1 ev1=>k _ H1 R1 ev1 SOk.atom trivial
theorem zMh{tc:TT}{ta tb:TE}{fc:DT}{fa fb:DE}(hc:SimT K tc fc)(ha:SimE K ta fa)(hb:SimE K tb fb):SimE K (tIf tc ta tb) (dIfE fc fa fb):=by
 intro C w Γ σ H s Γ' Q R e k
 obtain⟨⟨p,G1⟩,e1,e⟩:=bind_some e
 refine hc C w Γ σ H p G1 _ R e1 fun H1 R1 ev1=>?_
 cases p with
 | true=>exact (if_pos rfl).mpr (ha C w G1 σ H1 s Γ' Q R1 (by simpa using e) fun v H2 R2 ev2 o n=>k v H2 R2 (ev1.trans ev2) o (n.back ev1 R1.lst))
 | false=>exact (if_neg Bool.false_ne_true).mpr (hb C w G1 σ H1 s Γ' Q R1 (by simpa using e) fun v H2 R2 ev2 o n=>k v H2 R2 (ev1.trans ev2) o (n.back ev1 R1.lst))
end
def dNext:DS:=fun Γ=>some (.nx Γ)
def dSeq(f g:DS):DS:=fun Γ=>(f Γ).bind fun o=>match o with
 | .nx Γ'=>g Γ'
 | o=>some o
def dDrop(f:DE):DS:=fun Γ=>(f Γ).map fun p=>.nx p.2
def dRet(f:DE):DS:=fun Γ=>(f Γ).map fun p=>.rt p.1 p.2
def dRetN:DS:=fun Γ=>some (.rt (.v (.a .non)) Γ)
def dIf(c:DT)(f g:DS):DS:=fun Γ=>(c Γ).bind fun p=>if p.1=true then f p.2 else g p.2
def setS(i:Nat)(s:S)(Γ:En):Option En:=match s with
 | .v t=>some (Γ.set i (some (.v t)))
 | .l xs=>some (Γ.set i (some (.l xs)))
 | .d xs=>some (Γ.set i (some (.d xs)))
 | .s j=>match Γ[j]? with
  | some (some (.r xs))=>some (Γ.set i (some (.r xs)))
  | _=>none
def dSet(i:Nat)(f:DE):DS:=fun Γ=>(f Γ).bind fun p=>(setS i p.1 p.2).map .nx
def dWhile(c:DT)(b:DS):Nat->DS
 | 0=>fun _=>none
 | n+1=>fun Γ=>(c Γ).bind fun p=>if p.1=true then (b p.2).bind fun o=>match o with
   | .nx Γ'=>dWhile c b n Γ'
   | .ct Γ'=>dWhile c b n Γ'
   | .bk Γ'=>some (.nx Γ')
   | .rt s Γ'=>some (.rt s Γ')
  else some (.nx p.2)
section
variable {K:Fg}{ip:Option Nat}
theorem zJA:SimS K ip tNext dNext:=fun C w Γ σ H D o _ R e k=>by cases e; exact k w σ H R
theorem zLE{t u:TS}{f g:DS}(h1:SimS K ip t f)(h2:SimS K ip u g):SimS K ip (tSeq t u) (dSeq f g):=by
 intro C w Γ σ H D o hp R e k
 obtain⟨o1,e1,e⟩:=bind_some e
 refine h1 C w Γ σ H _ o1 hp R e1 ?_
 cases o1 with
 | nx Γ1=>exact fun w' σ' H' R'=>h2 C w' Γ1 σ' H' D o hp R' e k
 | rt s Γ1=>cases e; exact k
 | bk Γ1=>cases e; exact k
 | ct Γ1=>cases e; exact k
theorem zJT{te:TE}{f:DE}(h:SimE K te f):SimS K ip (tDrop te) (dDrop f):=by
 intro C w Γ σ H D o hp R e k
 obtain⟨p,e1,e⟩:=map_some e
 subst e
 exact h C w Γ σ H p.1 p.2 _ R e1 fun v H1 R1 _ _ _=>k w σ H1 R1
theorem zKZ{te:TE}{f:DE}(h:SimE K te f):SimS K ip (tRet te) (dRet f):=by
 intro C w Γ σ H D o hp R e k
 obtain⟨p,e1,e⟩:=map_some e
 subst e
 exact h C w Γ σ H p.1 p.2 _ R e1 fun v H1 R1 _ o _=>k w σ H1 v R1 o
theorem zMC{tc:TT}{t u:TS}{c:DT}{f g:DS}(hc:SimT K tc c)(h1:SimS K ip t f)(h2:SimS K ip u g):SimS K ip (tIfS tc t u) (dIf c f g):=by
 intro C w Γ σ H D o hp R e k
 obtain⟨⟨p,G1⟩,e1,e⟩:=bind_some e
 refine hc C w Γ σ H p G1 _ R e1 fun H1 R1 _=>?_
 cases p with
 | true=>exact (if_pos rfl).mpr (h1 C w G1 σ H1 D o hp R1 (by simpa using e) k)
 | false=>exact (if_neg Bool.false_ne_true).mpr (h2 C w G1 σ H1 D o hp R1 (by simpa using e) k)
theorem zBK{C:Fr}{i:Nat}(hp:C.pins.map (·.1)=ip.toList)(hi:ip≠some i):∀ q∈C.pins,q.1≠i:=fun q hq e=>by
 have:q.1∈ip.toList:=hp ▸ List.mem_map.mpr ⟨q,hq,rfl⟩
 rw[Option.mem_toList]at this
 exact hi (by rw[this,e])
theorem zLd{C:Fr}{w:W}{Γ Γ':En}{σ:St}{H:Hp}{v:V}{s:S}{i:Nat}(R:Rep K C w Γ σ H)(o:SOk K C w σ H v s)(e:setS i s Γ=some Γ')(hn:∀ q∈C.pins,q.1≠i):∃ w',Rep K C w' Γ' (σ.set i (some v)) H:=by
 cases s with
 | v t=>cases e; exact⟨w,R.setv rfl o hn⟩
 | d xs =>
  cases e
  obtain⟨p,vs,rfl,n1,n2,ow,h1,h2⟩:=o
  exact⟨_,R.setd n1 n2 ow h1 h2 hn⟩
 | l xs =>
  cases e
  obtain⟨p,vs,rfl,n1,n2,ow,h1,h2⟩:=o
  exact⟨_,R.setl n1 n2 ow h1 h2 hn⟩
 | s j =>
  unfold setS at e
  dsimp only at e
  split at e
  ·rename_i xs he
   cases e
   obtain⟨v',e1,e2⟩:=R.val j _ he
   have o':σ[j]?=some (some v):=o
   rw[o']at e1; cases e1
   exact⟨w,R.setv rfl e2 hn⟩
  ·cases e
theorem zGR{te:TE}{f:DE}{i:Nat}(h:SimE K te f)(hi:ip≠some i):SimS K ip (tAsg te (gName i)) (dSet i f):=by
 intro C w Γ σ H D o hp R e k
 obtain⟨p,e1,e⟩:=bind_some e
 obtain⟨Γ1,e2,e⟩:=map_some e
 subst e
 refine h C w Γ σ H p.1 p.2 _ R e1 fun v H1 R1 _ o1 _=>?_
 obtain⟨w',R'⟩:=zLd R1 o1 e2 (zBK hp hi)
 exact k w' _ H1 R'
theorem zHb{tc:TT}{tb:TS}{c:DT}{b:DS}(n:Nat)(hc:SimT K tc c)(hb:SimS K ip tb b):SimS K ip (tWhile tc tb) (dWhile c b n):=by
 intro C w Γ σ H D o hp R e k
 refine⟨fun m σ H=>∃ w Γ,Rep K C w Γ σ H/\dWhile c b m Γ=some o,⟨n,w,Γ,R,e⟩,?_⟩
 rintro m σ1 H1 ⟨w1,Γ1,R1,e1⟩
 cases m with
 | zero=>cases e1
 | succ m =>
  unfold dWhile at e1
  obtain⟨⟨p,G2⟩,e2,e1⟩:=bind_some e1
  refine hc C w1 Γ1 σ1 H1 p G2 _ R1 e2 fun H2 R2 _=>?_
  cases p with
  | false =>
   rw[if_neg Bool.false_ne_true]at e1 ⊢
   cases e1
   exact k w1 σ1 H2 R2
  | true =>
   rw[if_pos rfl]at e1 ⊢
   obtain⟨o2,e3,e1⟩:=bind_some e1
   refine⟨fun σ' H'=>∃ w Γ,Rep K C w Γ σ' H'/\dWhile c b m Γ=some o,fun σ' H' ⟨w',Γ',R',e'⟩=>⟨m,Nat.lt_succ_self _,w',Γ',R',e'⟩,?_⟩
   refine hb C w1 G2 σ1 H2 _ o2 hp R2 e3 ?_
   cases o2 with
   | nx Γ'=>exact fun w' σ' H' R'=>⟨w',Γ',R',e1⟩
   | ct Γ'=>exact fun w' σ' H' R'=>⟨w',Γ',R',e1⟩
   | bk Γ'=>cases e1; exact k
   | rt s Γ'=>cases e1; exact k
end
section
variable {K:Fg}{C:Fr}{w:W}{Γ Γ':En}{σ:St}{H H':Hp}
theorem Rep.base(R:Rep K C w Γ σ H):Rep K ⟨H,w.L,C.pins⟩ w Γ σ H :=
 ⟨R.len,R.val,R.apart,R.lst,fun p hp=>.inl hp,R.ra,R.rl,fun b o h _=>h,R.tab,R.pin⟩
theorem Rep.back{C1:Fr}{w1:W}{Γ1:En}{σ1:St}{H1:Hp}(R:Rep K C w Γ σ H)(hC:C1=⟨H,w.L,C.pins⟩)(R1:Rep K C1 w1 Γ1 σ1 H1):Rep K C w1 Γ1 σ1 H1:=by
 subst hC
 refine⟨R1.len,R1.val,R1.apart,R1.lst,fun p hp=>?_,R1.ra,R1.rl,fun b o h n=>R1.frame b o (R.frame b o h n) fun z=>?_,R1.tab,R1.pin⟩
 ·rcases R1.own p hp with z | z
  ·exact R.own p z
  ·exact (R.fresh z).2.2
 ·rcases R.own b z with q | q
  ·exact n q
  ·rw[q]at h; cases h
theorem Ow.back{C1:Fr}{p:Addr}(R:Rep K C w Γ σ H)(hC:C1=⟨H,w.L,C.pins⟩)(h:Ow C1 p):Ow C p:=by
 subst hC
 rcases h with z | z
 ·exact R.own p z
 ·exact (R.fresh z).2.2
theorem SOk.back{C1:Fr}{w1:W}{σ1:St}{H1:Hp}{v:V}{s:S}(R:Rep K C w Γ σ H)(hC:C1=⟨H,w.L,C.pins⟩)(o:SOk K C1 w1 σ1 H1 v s):SOk K C w1 σ1 H1 v s:=by
 cases s with
 | v t=>exact o
 | s i=>exact o
 | l xs =>
  obtain⟨p,vs,e,n1,n2,ow,h1,h2⟩:=o
  exact⟨p,vs,e,n1,n2,Ow.back R hC ow,h1,h2⟩
 | d xs =>
  obtain⟨p,vs,e,n1,n2,ow,h1,h2⟩:=o
  exact⟨p,vs,e,n1,n2,Ow.back R hC ow,h1,h2⟩
theorem Rep.freeze{i:Nat}{xs:List T}{p:Addr}(R:Rep K C w Γ σ H)(hi:Γ[i]?=some (some (.l xs)))(hp:σ[i]?=some (some (.ref p)))(hn:∀ q∈C.pins,q.1≠i) :
  Rep K C ⟨w.L.filter (fun q=>decide (q≠p)),fun q=>q=p\/w.R q⟩ (Γ.set i (some (.r xs))) σ H:=by
 have hiΓ:i < Γ.length:=(List.getElem?_eq_some_iff.mp hi).1
 obtain⟨v0,e0,q0,vs0,rfl,hq0,hv0,hi0⟩:=R.val i _ hi
 rw[hp]at e0; cases e0
 have mem:∀ {q:Addr},q∈w.L.filter (fun q=>decide (q≠p)) ↔ q∈w.L/\q≠p:=by intro q; simp
 have back:∀ (m:Nat) (g:G),isMut g=true->(Γ.set i (some (.r xs)))[m]?=some (some g)->m≠i/\Γ[m]?=some (some g):=fun m g mg h=>by
  by_cases hm:m=i
  ·subst hm; rw[List.getElem?_set_self hiΓ]at h; cases h; cases mg
  ·rw[List.getElem?_set_ne (Ne.symm hm)]at h; exact⟨hm,h⟩
 refine⟨by simpa using R.len,fun j g h=>?_,fun j k c ga gb ma mb h1 h2 h3 h4=>?_,fun c hc=>R.lst c (mem.mp hc).1,fun c hc=>R.own c (mem.mp hc).1,fun c hc=>?_,fun c hc z=>?_,R.frame,R.tab,fun q hq=>?_⟩
 ·by_cases hj:j=i
  ·subst hj
   rw[List.getElem?_set_self hiΓ]at h
   cases h
   exact⟨_,hp,p,vs0,rfl,hi0,hv0,fun z=>(mem.mp z).2 rfl,.inl rfl⟩
  ·rw[List.getElem?_set_ne (Ne.symm hj)]at h
   obtain⟨v,e1,e2⟩:=R.val j g h
   refine⟨v,e1,?_⟩
   cases g with
   | v t=>exact e2
   | l ys =>
    obtain⟨c,us,rfl,hc,h1,h2⟩:=e2
    exact⟨c,us,rfl,mem.mpr ⟨hc,fun z=>hj (R.apart j i p _ _ rfl rfl h hi (z ▸ e1) hp)⟩,h1,h2⟩
   | d ys =>
    obtain⟨c,us,rfl,hc,h1,h2⟩:=e2
    exact⟨c,us,rfl,mem.mpr ⟨hc,fun z=>hj (R.apart j i p _ _ rfl rfl h hi (z ▸ e1) hp)⟩,h1,h2⟩
   | r ys =>
    obtain⟨c,us,rfl,h1,h2⟩:=e2
    exact⟨c,us,rfl,h1,h2.1,fun z=>h2.2.1 (mem.mp z).1,.inr h2.2.2⟩
   | e ys =>
    obtain⟨c,us,rfl,h1,h2⟩:=e2
    exact⟨c,us,rfl,h1,h2.1,fun z=>h2.2.1 (mem.mp z).1,.inr h2.2.2⟩
   | k ys=>exact e2
 ·obtain⟨_,g1⟩:=back j ga ma h1
  obtain⟨_,g2⟩:=back k gb mb h2
  exact R.apart j k c ga gb ma mb g1 g2 h3 h4
 ·rcases hc with e | e
  ·subst e; exact⟨_,hv0⟩
  ·exact R.ra c e
 ·rcases hc with e | e
  ·exact (mem.mp z).2 e
  ·exact R.rl c e (mem.mp z).1
 ·obtain⟨h1,zs,h2⟩:=R.pin q hq
  exact⟨h1,zs,by rw[List.getElem?_set_ne (Ne.symm (hn q hq))]; exact h2⟩
def frz1(Γ:En)(i:Nat):En:=match Γ[i]? with
 | some (some (.l xs))=>Γ.set i (some (.r xs))
 | _=>Γ
def frz(Γ:En)(src:List Nat):En:=src.foldl frz1 Γ
theorem Rep.frz:∀ (src:List Nat) {w:W} {Γ:En},Rep K C w Γ σ H->(∀ i∈src,∀ q∈C.pins,q.1≠i) ->
  ∃ w',Rep K C w' (frz Γ src) σ H/\(∀ p∈w'.L,p∈w.L)/\∀ i∈src,∀ p,σ[i]?=some (some (.ref p))->(∃ xs,Γ[i]?=some (some (.l xs)))->p∉w'.L:=by
 intro src
 induction src with
 | nil=>intro w Γ R _; exact⟨w,R,fun p h=>h,fun i hi=>nomatch hi⟩
 | cons i r ih =>
  intro w Γ R hn
  have step:∃ w1,Rep K C w1 (frz1 Γ i) σ H/\(∀ p∈w1.L,p∈w.L)/\(∀ p,σ[i]?=some (some (.ref p))->(∃ xs,Γ[i]?=some (some (.l xs)))->p∉w1.L):=by
   unfold frz1
   split
   ·rename_i xs e
    obtain⟨v,e1,p,vs,rfl,_⟩:=R.val i _ e
    refine⟨_,R.freeze e e1 (hn i List.mem_cons_self),fun q hq=>(List.mem_filter.mp hq).1,fun q hq _ z=>?_⟩
    rw[e1]at hq; cases hq
    have:=(List.mem_filter.mp z).2
    simp at this
   ·rename_i e
    exact⟨w,R,fun p h=>h,fun p _ ⟨xs,h⟩=>absurd h (e xs)⟩
  obtain⟨w1,R1,s1,n1⟩:=step
  obtain⟨w2,R2,s2,n2⟩:=ih R1 (fun j hj=>hn j (List.mem_cons_of_mem _ hj))
  refine⟨w2,R2,fun p h=>s1 p (s2 p h),fun j hj p hp hx=>?_⟩
  rcases List.mem_cons.mp hj with e | e
  ·subst e; exact fun z=>n1 p hp hx (s2 p z)
  ·by_cases hji:j=i
   ·subst hji; exact fun z=>n1 p hp hx (s2 p z)
   ·refine n2 j e p hp ?_
    obtain⟨xs,hx⟩:=hx
    refine⟨xs,?_⟩
    unfold frz1
    split
    ·rw[List.getElem?_set_ne (Ne.symm hji)]; exact hx
    ·exact hx
end
abbrev DI:=En->Option ((List T×List Nat)×En)
def ItOk(K:Fg)(w:W)(Γ:En)(σ:St)(J:It)(H:Hp)(its:List T)(src:List Nat):Prop:=its.length<=sizeLine/\∀ L',(∀ p∈L',p∈w.L)->(∀ i∈src,∀ p,σ[i]?=some (some (.ref p))->(∃ xs,Γ[i]?=some (some (.l xs)))->p∉L')->∀ H2,Evo L' H H2 ->
 (∀ (i:Nat) t,its[i]?=some t->J.go i H2/\∀ x H3,J.yld i H2 x H3->(∀ b o,H2 b=some o->H3 b=some o)/\Im K H3 x t)/\J.stop its.length H2
def SimI(K:Fg)(wi:TI)(di:DI):Prop:=∀ (C:Fr) (w:W) (Γ:En) (σ:St) (H:Hp) (its:List T) (src:List Nat) (Γ':En) (R:It->Hp->Prop),Rep K C w Γ σ H->di Γ=some ((its,src),Γ') ->
 (∀ J H',Rep K C w Γ' σ H'->Evo w.L H H'->ItOk K w Γ' σ J H' its src->R J H')->wi σ H R
def SimG(K:Fg)(ip:Option Nat)(g:TG)(tg:En->T->Option En):Prop:=∀ (C:Fr) (w:W) (Γ:En) (σ:St) (H:Hp) (v:V) (t:T) (Γ':En) (Q:St->Hp->Prop),C.pins.map (·.1)=ip.toList->Rep K C w Γ σ H->Im K H v t->tg Γ t=some Γ' ->
 (∀ σ',Rep K C w Γ' σ' H->Q σ' H)->g v σ H Q
def SimGs(K:Fg)(ip:Option Nat)(g:TGs)(tg:En->List T->Option En):Prop:=∀ (C:Fr) (w:W) (Γ:En) (σ:St) (H:Hp) (vs:List V) (ts:List T) (Γ':En) (Q:St->Hp->Prop),C.pins.map (·.1)=ip.toList->Rep K C w Γ σ H->Ims K H vs ts->tg Γ ts=some Γ' ->
 (∀ σ',Rep K C w Γ' σ' H->Q σ' H)->g vs σ H Q
def gdName(i:Nat):En->T->Option En:=fun Γ t=>some (Γ.set i (some (.v t)))
def gdNil:En->List T->Option En:=fun Γ ts=>match ts with
 | []=>some Γ
 | _=>none
def gdCons(f:En->T->Option En)(g:En->List T->Option En):En->List T->Option En:=fun Γ ts=>match ts with
 | []=>none
 | t::r=>(f Γ t).bind fun Γ1=>g Γ1 r
def gdTup(n:Nat)(g:En->List T->Option En):En->T->Option En:=fun Γ t=>match t with
 | .t ts=>if ts.length=n then g Γ ts else none
 | _=>none
section
variable {K:Fg}{ip:Option Nat}
theorem zJb{i:Nat}(hi:ip≠some i):SimG K ip (gName i) (gdName i):=by
 intro C w Γ σ H v t Γ' Q hp R h e k
 cases e
 exact k _ (R.setv rfl h (zBK hp hi))
theorem zJp:SimGs K ip gNil gdNil:=by
 intro C w Γ σ H vs ts Γ' Q hp R h e k
 cases ts with
 | nil=>cases e; exact⟨h.inv0,k σ R⟩
 | cons t r=>cases e
theorem zIA{g:TG}{gs:TGs}{f:En->T->Option En}{fs:En->List T->Option En}(h1:SimG K ip g f)(h2:SimGs K ip gs fs):SimGs K ip (gCons g gs) (gdCons f fs):=by
 intro C w Γ σ H vs ts Γ' Q hp R h e k
 cases ts with
 | nil=>cases e
 | cons t r =>
  obtain⟨Γ1,e1,e2⟩:=bind_some e
  obtain⟨v,us,rfl,i1,i2⟩:=h.inv
  exact⟨v,us,rfl,h1 C w Γ σ H v t Γ1 _ hp R i1 e1 fun σ1 R1=>h2 C w Γ1 σ1 H us r Γ' Q hp R1 i2 e2 k⟩
theorem zLM{n:Nat}{gs:TGs}{fs:En->List T->Option En}(h:SimGs K ip gs fs):SimG K ip (gTup K n gs) (gdTup n fs):=by
 intro C w Γ σ H v t Γ' Q hp R hi e k
 cases t with
 | a u=>cases e
 | l u=>cases e
 | f u=>cases e
 | x u v=>cases e
 | m u v=>cases e
 | t ts =>
  unfold gdTup at e
  dsimp only at e
  split at e
  ·rename_i hn
   obtain⟨p,us,rfl,h1,h2⟩:=hi.inv
   exact⟨p,us,rfl,h1.sq,by rw[h2.len]; exact hn,h C w Γ σ H us ts Γ' Q hp R h2 e k⟩
  ·cases e
end
def forD(tg:En->T->Option En)(b:DS):List T->DS
 | []=>fun Γ=>some (.nx Γ)
 | t::r=>fun Γ=>(tg Γ t).bind fun Γ1=>(b Γ1).bind fun o=>match o with
  | .nx Γ'=>forD tg b r Γ'
  | .ct Γ'=>forD tg b r Γ'
  | .bk Γ'=>some (.nx Γ')
  | .rt s Γ'=>some (.rt s Γ')
def dFor(ip:Option Nat)(di:DI)(tg:En->T->Option En)(b:DS):DS:=fun Γ=>(di Γ).bind fun p=>if p.1.2.all (fun i=>decide (ip≠some i))=true then forD tg b p.1.1 (frz p.2 p.1.2) else none
theorem zKU{K:Fg}{ip:Option Nat}{wi:TI}{g:TG}{tb:TS}{di:DI}{tg:En->T->Option En}{b:DS}(hi:SimI K wi di)(hg:SimG K ip g tg)(hb:SimS K ip tb b):SimS K ip (tFor wi g tb) (dFor ip di tg b):=by
 intro C w Γ σ H D o hp R e k
 obtain⟨⟨⟨its,src⟩,Γ1⟩,e1,e⟩:=bind_some e
 dsimp only at e
 split at e
 rotate_left
 ·cases e
 rename_i hsrc
 refine hi C w Γ σ H its src Γ1 _ R e1 fun J H1 R1 _ ⟨hl,hJ⟩=>?_
 have hs:∀ i∈src,∀ q∈C.pins,q.1≠i:=fun i hi'=>zBK hp (by have:=List.all_eq_true.mp hsrc i hi'; simpa using this)
 obtain⟨w2,R2,sub,avoid⟩:=R1.frz src hs
 have hC:∃ C1:Fr,C1=⟨H1,w2.L,C.pins⟩:=⟨_,rfl⟩
 obtain⟨C1,hC⟩:=hC
 have R3:Rep K C1 w2 (frz Γ1 src) σ H1:=hC ▸ R2.base
 have hp1:C1.pins.map (·.1)=ip.toList:=by rw[hC]; exact hp
 refine⟨fun i m σ H=>m=its.length - i/\i<=its.length/\∃ w Γ,Rep K C1 w Γ σ H/\forD tg b (its.drop i) Γ=some o,⟨_,rfl,Nat.zero_le _,w2,_,R3,e⟩,?_⟩
 rintro i m σ' H' ⟨rfl,hi',w',Γ',R',e'⟩
 have ev:Evo w2.L H1 H':=fun b o h n=>R'.frame b o (by rw[hC]; exact h) (by rw[hC]; exact n)
 obtain⟨go,stop⟩:=hJ w2.L sub avoid H' ev
 by_cases hlt:i < its.length
 ·obtain⟨t,ht⟩:∃ t,its[i]?=some t:=⟨its[i],by simp[hlt]⟩
  have hd:its.drop i=t::its.drop (i+1):=by
   obtain⟨h1,h2⟩:=List.getElem?_eq_some_iff.mp ht
   rw[← h2]; exact List.drop_eq_getElem_cons h1
  rw[hd]at e'
  unfold forD at e'
  obtain⟨Γ2,e2,e'⟩:=bind_some e'
  obtain⟨o2,e3,e'⟩:=bind_some e'
  obtain⟨g1,g2⟩:=go i t ht
  refine .inr ⟨g1,fun σ H=>∃ w Γ,Rep K C1 w Γ σ H/\forD tg b (its.drop (i+1)) Γ=some o,fun σ2 H2 ⟨w2,Γ2,R2,e2⟩=>⟨_,by omega,rfl,hlt,w2,Γ2,R2,e2⟩,fun x H3 hx=>?_⟩
  obtain⟨k1,k2⟩:=g2 x H3 hx
  refine hg C1 w' Γ' σ' H3 x t Γ2 _ hp1 (R'.evo0 k1) k2 e2 fun σ4 R4=>?_
  refine hb C1 w' Γ2 σ4 H3 _ o2 hp1 R4 e3 ?_
  cases o2 with
  | nx Γ5=>exact fun w5 σ5 H5 R5=>⟨w5,Γ5,R5,e'⟩
  | ct Γ5=>exact fun w5 σ5 H5 R5=>⟨w5,Γ5,R5,e'⟩
  | bk Γ5=>cases e'; exact fun w5 σ5 H5 R5=>k w5 σ5 H5 (R2.back hC R5)
  | rt s Γ5=>cases e'; exact fun w5 σ5 H5 v R5 o5=>k w5 σ5 H5 v (R2.back hC R5) (o5.back R2 hC)
 ·have:i=its.length:=by omega
  subst this
  rw[List.drop_length]at e'
  cases e'
  exact .inl ⟨stop,k w' σ' H' (R2.back hC R')⟩
def pick1(mu:Option Nat)(k:Nat):Option G->Option G
 | some (.l xs)=>if mu=some k then some (.l xs) else some (.r xs)
 | some (.d xs)=>some (.e xs)
 | o=>o
def pick(mu:Option Nat)(ix:List (Option Nat))(Γ:En):En:=ix.map fun o=>o.bind fun k=>pick1 mu k (Γ[k]?).join
def compD(tg:En->T->Option En)(dc:DT)(de:DE):List T->En->Option (List T×En)
 | [],Γ=>some ([],Γ)
 | t::r,Γ=>(tg Γ t).bind fun Γ1=>(dc Γ1).bind fun p=>if p.1=true then (de p.2).bind fun q=>q.1.tree.bind fun t'=>(compD tg dc de r q.2).map fun z=>(t'::z.1,z.2) else compD tg dc de r p.2
def cback(mu:Option (Nat×Nat))(Γ Γo:En):En:=match mu with
 | none=>Γ
 | some (j,i)=>match Γo[j]? with
  | some (some (.l xs))=>Γ.set i (some (.l xs))
  | _=>Γ
def dComp(mu:Option (Nat×Nat))(ix:List (Option Nat))(di:DI)(tg:En->T->Option En)(dc:DT)(de:DE):DE:=fun Γ=>(di Γ).bind fun p =>
 match mu with
 | none=>(compD tg dc de p.1.1 (pick none ix p.2)).map fun z=>(.l z.1,p.2)
 | some (j,i)=>if i∈p.1.2 then none else match p.2[i]? with
  | some (some (.l _))=>(compD tg dc de p.1.1 (pick (some i) ix p.2)).map fun z=>(.l z.1,cback mu p.2 z.2)
  | _=>none
section
variable {K:Fg}
theorem zDg{C1:Fr}{w1:W}{J:It}{H1:Hp}{its:List T}{ix:List (Option Nat)}{g:TG}{tc:TT}{te:TE}{tg:En->T->Option En}{dc:DT}{de:DE}{jp:Option Nat}{σ:St}{Γ0 Γe:En}{ts:List T}{Q:VK}
  (hp:C1.pins.map (·.1)=jp.toList) (hg:SimG K jp g tg) (hc:SimT K tc dc) (he:SimE K te de) (hl:its.length<=sizeLine) (hC:C1.H0=H1)
  (hJ:∀ H2,Evo C1.fx H1 H2->(∀ (i:Nat) t,its[i]?=some t->J.go i H2/\∀ x H3,J.yld i H2 x H3->(∀ b o,H2 b=some o->H3 b=some o)/\Im K H3 x t)/\J.stop its.length H2)
  (hfx:∀ p,p∈w1.L->p∈C1.fx)
  (R:Rep K C1 w1 Γ0 (frm ix σ) H1) (e:compD tg dc de its Γ0=some (ts,Γe))
  (k:∀ σ' H' ys,Rep K C1 w1 Γe σ' H'->Ims K H' ys ts->ys.length<=sizeLine->∀ D,H' D=none->Q (.ref D) (upd H' D (.lst ys))):CompW J ix g tc te σ H1 Q:=by
 refine⟨fun i m ys σ' H'=>m=its.length - i/\i<=its.length/\ys.length<=i/\∃ Γ pre post,Rep K C1 w1 Γ σ' H'/\Ims K H' ys pre/\compD tg dc de (its.drop i) Γ=some (post,Γe)/\ts=pre++post,⟨_,rfl,Nat.zero_le _,Nat.zero_le _,Γ0,[],ts,R,.nil,e,rfl⟩,?_⟩
 rintro i m ys σ' H' ⟨rfl,hi,hy,Γ,pre,post,R',hpre,e',rfl⟩
 have ev:Evo C1.fx H1 H':=fun b o h n=>R'.frame b o (by rw[hC]; exact h) n
 obtain⟨go,stop⟩:=hJ H' ev
 by_cases hlt:i < its.length
 ·obtain⟨t,ht⟩:∃ t,its[i]?=some t:=⟨its[i],by simp[hlt]⟩
  have hd:its.drop i=t::its.drop (i+1):=by
   obtain⟨h1,h2⟩:=List.getElem?_eq_some_iff.mp ht
   rw[← h2]; exact List.drop_eq_getElem_cons h1
  rw[hd]at e'
  unfold compD at e'
  obtain⟨Γ1,e1,e'⟩:=bind_some e'
  obtain⟨⟨b,Γ2⟩,e2,e'⟩:=bind_some e'
  obtain⟨g1,g2⟩:=go i t ht
  refine .inr ⟨g1,by omega,fun ys' σ2 H2=>ys'.length<=i+1/\∃ Γ pre' post',Rep K C1 w1 Γ σ2 H2/\Ims K H2 ys' pre'/\compD tg dc de (its.drop (i+1)) Γ=some (post',Γe)/\pre++post=pre'++post',fun ys' σ2 H2 ⟨a,b⟩=>⟨_,by omega,rfl,hlt,a,b⟩,fun x H2 hx=>?_⟩
  obtain⟨k1,k2⟩:=g2 x H2 hx
  have ev1:Evo w1.L H' H2:=fun b o h _=>k1 b o h
  have R2:=R'.evo0 k1
  refine hg C1 w1 Γ σ' H2 x t Γ1 _ hp R2 k2 e1 fun σ3 R3=>?_
  refine hc C1 w1 Γ1 σ3 H2 b Γ2 _ R3 e2 fun H4 R4 ev4=>?_
  have hpre4:Ims K H4 ys pre:=(hpre.evo ev1 R'.lst).evo ev4 R3.lst
  cases b with
  | true =>
   rw[if_pos rfl]at e' ⊢
   obtain⟨⟨s,Γ3⟩,e3,e'⟩:=bind_some e'
   obtain⟨t',e4,e'⟩:=bind_some e'
   obtain⟨⟨ts',Γ4⟩,e5,e'⟩:=map_some e'
   cases e'
   refine he C1 w1 Γ2 σ3 H4 s Γ3 _ R4 e3 fun v H5 R5 ev5 o5 _=>?_
   cases s with
   | l _=>cases e4
   | s _=>cases e4
   | d _=>cases e4
   | v t'' =>
    cases e4
    exact⟨by simp; omega,Γ3,pre++[t'],ts',R5,(hpre4.evo ev5 R4.lst).app (.one o5),e5,by simp⟩
  | false =>
   rw[if_neg Bool.false_ne_true]at e' ⊢
   exact⟨by omega,Γ2,pre,post,R4,hpre4,e',rfl⟩
 ·have:i=its.length:=by omega
  subst this
  rw[List.drop_length]at e'
  cases e'
  rw[List.append_nil]at k
  exact .inl ⟨stop,by omega,k σ' H' ys R' hpre (by omega)⟩
theorem zCR{mu:Option Nat}{ix:List (Option Nat)}{Γ:En}{j:Nat}{g:G}(h:(pick mu ix Γ)[j]?=some (some g)):∃ k g',ix[j]?=some (some k)/\Γ[k]?=some (some g')/\pick1 mu k (some g')=some g:=by
 unfold pick at h
 rw[List.getElem?_map]at h
 cases e:ix[j]? with
 | none=>rw[e]at h; cases h
 | some o =>
  rw[e]at h
  cases o with
  | none=>cases h
  | some k =>
   have h':pick1 mu k (Γ[k]?).join=some g:=Option.some.inj h
   cases e2:Γ[k]? with
   | none=>rw[e2]at h'; cases h'
   | some o2 =>
    cases o2 with
    | none=>rw[e2]at h'; cases h'
    | some g'=>rw[e2]at h'; exact⟨k,g',rfl,e2,h'⟩
theorem zED{ix:List (Option Nat)}{σ:St}{j k:Nat}{v:V}(h:ix[j]?=some (some k))(hv:σ[k]?=some (some v)):(frm ix σ)[j]?=some (some v):=by
 unfold frm
 rw[List.getElem?_map,h]
 show some ((σ[k]?).join)=_
 rw[hv]; rfl
theorem zFa{mu:Option (Nat×Nat)}{ix:List (Option Nat)}{wi:TI}{g:TG}{tc:TT}{te:TE}{di:DI}{tg:En->T->Option En}{dc:DT}{de:DE}(hi:SimI K wi di)(hg:SimG K (mu.map (·.1)) g tg)(hc:SimT K tc dc)(he:SimE K te de)
  (hmu:∀ j i,mu=some (j,i)->ix[j]?=some (some i)) (hix:∀ (j j' i:Nat),mu.map (·.2)=some i->ix[j]?=some (some i)->ix[j']?=some (some i)->j=j'):SimE K (tComp wi ix g tc te) (dComp mu ix di tg dc de):=by
 intro C w Γ σ H s Γ' Q R e k
 obtain⟨⟨⟨its,src⟩,Γ1⟩,e1,e⟩:=bind_some e
 refine hi C w Γ σ H its src Γ1 _ R e1 fun J H1 R1 ev1 ⟨hl,hJ⟩=>?_
 cases mu with
 | none =>
  obtain⟨⟨ts,Γe⟩,e2,e⟩:=map_some e
  cases e
  have Rin:Rep K ⟨H1,[],[]⟩ ⟨[],fun q=>w.R q\/q∈w.L⟩ (pick none ix Γ1) (frm ix σ) H1:=by
   refine⟨by simp[pick,frm],fun j g h=>?_,fun i j p ga gb ma mb h1 h2 h3 h4=>?_,fun p hp=>(nomatch hp),fun p hp=>(nomatch hp),fun p hp=>?_,fun p hp=>(nofun),fun b o h _=>h,R1.tab,fun q hq=>(nomatch hq)⟩
   ·obtain⟨k',g',a1,a2,a3⟩:=zCR h
    obtain⟨v,b1,b2⟩:=R1.val k' g' a2
    refine⟨v,zED a1 b1,?_⟩
    cases g' with
    | v t=>cases a3; exact b2
    | l xs =>
     have:g=.r xs:=by simpa [pick1] using a3.symm
     subst this
     obtain⟨p,vs,rfl,c1,c2,c3⟩:=b2
     exact⟨p,vs,rfl,c3,c2,nofun,.inr c1⟩
    | r xs =>
     cases a3
     obtain⟨p,vs,rfl,c1,c2⟩:=b2
     exact⟨p,vs,rfl,c1,c2.1,nofun,.inl c2.2.2⟩
    | d xs =>
     cases a3
     obtain⟨p,vs,rfl,c1,c2,c3⟩:=b2
     exact⟨p,vs,rfl,c3,c2,nofun,.inr c1⟩
    | e xs =>
     cases a3
     obtain⟨p,vs,rfl,c1,c2⟩:=b2
     exact⟨p,vs,rfl,c1,c2.1,nofun,.inl c2.2.2⟩
    | k xs=>cases a3; exact b2
   ·obtain⟨k',g',a1,a2,a3⟩:=zCR h1
    cases g' with
    | v t=>cases a3; cases ma
    | l xs =>
     have:ga=.r xs:=by simpa [pick1] using a3.symm
     subst this; cases ma
    | r xs=>cases a3; cases ma
    | k xs=>cases a3; cases ma
    | d xs=>cases a3; cases ma
    | e xs=>cases a3; cases ma
   ·rcases hp with z | z
    ·exact R1.ra p z
    ·obtain⟨o,z,_⟩:=R1.lst p z; exact⟨o,z⟩
  refine zDg (jp:=none) (C1:=⟨H1,[],[]⟩) rfl hg hc he hl rfl (fun H2 ev=>hJ [] (fun p hp=>nomatch hp) (fun _ _ _ _ _=>nofun) H2 ev) (fun p hp=>hp) Rin e2 fun σ' H' ys R' hy hz D hD=>?_
  have R2:Rep K C w Γ1 σ H':=R1.evo0 fun b o h=>R'.frame b o h nofun
  exact k _ _ (R2.new hD) ((ev1.trans fun b o h _=>R'.frame b o h nofun).trans (Evo.new hD)) (R2.newl hD hy) ⟨_,rfl,zAa (L:=w.L) (ev1.trans fun b o h _=>R'.frame b o h nofun) R2.lst hD⟩
 | some m =>
  obtain⟨j,i⟩:=m
  dsimp only at e
  split at e
  ·cases e
  rename_i hsrc
  split at e
  rotate_left
  ·cases e
  rename_i xs0 hx0
  obtain⟨⟨ts,Γe⟩,e2,e⟩:=map_some e
  cases e
  obtain⟨v0,s0,p,vs0,rfl,m0,h0,i0⟩:=R1.val i _ hx0
  have hij:=hmu j i rfl
  have Rin:Rep K ⟨H1,[p],[(j,p)]⟩ ⟨[p],fun q=>w.R q\/(q∈w.L/\q≠p)⟩ (pick (some i) ix Γ1) (frm ix σ) H1:=by
   refine⟨by simp[pick,frm],fun j' g h=>?_,fun i1 i2 p' ga gb ma mb h1 h2 h3 h4=>?_,fun q hq=>?_,fun q hq=>.inl hq,fun q hq=>?_,fun q hq z=>?_,fun b o h _=>h,R1.tab,fun q hq=>?_⟩
   ·obtain⟨k',g',a1,a2,a3⟩:=zCR h
    obtain⟨v,b1,b2⟩:=R1.val k' g' a2
    refine⟨v,zED a1 b1,?_⟩
    cases g' with
    | v t=>cases a3; exact b2
    | l xs =>
     obtain⟨p',vs,rfl,c1,c2,c3⟩:=b2
     by_cases hk:i=k'
     ·subst hk
      have:g=.l xs:=by simpa [pick1] using a3.symm
      subst this
      rw[s0]at b1; cases b1
      exact⟨p,vs,rfl,List.mem_singleton.mpr rfl,c2,c3⟩
     ·have:g=.r xs:=by simpa [pick1,hk] using a3.symm
      subst this
      have hne:p'≠p:=fun z=>hk (R1.apart i k' p _ _ rfl rfl hx0 a2 s0 (z ▸ b1))
      exact⟨p',vs,rfl,c3,c2,fun z=>hne (List.mem_singleton.mp z),.inr ⟨c1,hne⟩⟩
    | d xs =>
     cases a3
     obtain⟨p',o',rfl,c1,c2,c3⟩:=b2
     have hne:p'≠p:=fun z=>by
      subst z
      rw[h0]at c2; cases c2
      exact c3
     exact⟨p',o',rfl,c3,c2,fun z=>hne (List.mem_singleton.mp z),.inr ⟨c1,hne⟩⟩
    | r xs =>
     cases a3
     obtain⟨p',vs,rfl,c1,c2⟩:=b2
     exact⟨p',vs,rfl,c1,c2.1,fun z=>c2.2.1 (List.mem_singleton.mp z ▸ m0),.inl c2.2.2⟩
    | e xs =>
     cases a3
     obtain⟨p',vs,rfl,c1,c2⟩:=b2
     exact⟨p',vs,rfl,c1,c2.1,fun z=>c2.2.1 (List.mem_singleton.mp z ▸ m0),.inl c2.2.2⟩
    | k xs=>cases a3; exact b2
   ·have only:∀ (n:Nat) (gc:G),isMut gc=true->(pick (some i) ix Γ1)[n]?=some (some gc)->ix[n]?=some (some i):=fun n gc mc h=>by
     obtain⟨k',g',a1,a2,a3⟩:=zCR h
     cases g' with
     | v t=>cases a3; cases mc
     | l xs =>
      by_cases hk:i=k'
      ·subst hk; exact a1
      ·have:gc=.r xs:=by simpa [pick1,hk] using a3.symm
       subst this; cases mc
     | r xs=>cases a3; cases mc
     | k xs=>cases a3; cases mc
     | d xs=>cases a3; cases mc
     | e xs=>cases a3; cases mc
    exact hix i1 i2 i rfl (only i1 ga ma h1) (only i2 gb mb h2)
   ·rw[List.mem_singleton.mp hq]; exact⟨_,h0,trivial⟩
   ·rcases hq with z | z
    ·exact R1.ra q z
    ·obtain⟨o,z,_⟩:=R1.lst q z.1; exact⟨o,z⟩
   ·have e:=List.mem_singleton.mp z
    rcases hq with z | z
    ·exact R1.rl q z (e ▸ m0)
    ·exact z.2 e
   ·rw[List.mem_singleton.mp hq]
    refine⟨zED hij s0,xs0,?_⟩
    unfold pick
    rw[List.getElem?_map,hij]
    show some (pick1 (some i) i (Γ1[i]?).join)=_
    rw[hx0]; simp[pick1,Option.join]
  have av:∀ i'∈src,∀ q,σ[i']?=some (some (.ref q))->(∃ xs,Γ1[i']?=some (some (.l xs)))->q∉[p]:=fun i' hi' q hq ⟨xs,hx⟩ z=>by
   rw[List.mem_singleton.mp z]at hq
   have:=R1.apart i i' p _ _ rfl rfl hx0 hx s0 hq
   subst this
   exact hsrc hi'
  refine zDg (jp:=some j) (C1:=⟨H1,[p],[(j,p)]⟩) rfl hg hc he hl rfl (fun H2 ev=>hJ [p] (fun q hq=>List.mem_singleton.mp hq ▸ m0) av H2 ev) (fun p hp=>hp) Rin e2 fun σ' H' ys R' hy hz D hD=>?_
  obtain⟨q1,xs',q2⟩:=R'.pin (j,p) (List.mem_singleton.mpr rfl)
  obtain⟨v',s',p',us',rfl,_,h',i'⟩:=R'.val j _ q2
  have s'':σ'[j]?=some (some (.ref p)):=q1
  rw[s'']at s'; cases s'
  have evp:Evo [p] H1 H':=fun b o h n=>R'.frame b o h n
  have R2:Rep K C w (Γ1.set i (some (.l xs'))) σ H':=(R1.put2 hx0 s0 evp h' i').1
  have eb:cback (some (j,i)) Γ1 Γe=Γ1.set i (some (.l xs')):=by unfold cback; dsimp only; rw[q2]
  rw[eb]at k
  exact k _ _ (R2.new hD) ((ev1.trans (evp.wide fun q hq=>List.mem_singleton.mp hq ▸ m0)).trans (Evo.new hD)) (R2.newl hD hy) ⟨_,rfl,zAa (L:=w.L) (ev1.trans (evp.wide fun q hq=>List.mem_singleton.mp hq ▸ m0)) R2.lst hD⟩
end
abbrev DF:=List G->Option (G×List T)
def ROk(K:Fg)(H H':Hp)(v:V):G->Prop
 | .v t=>Im K H' v t
 | .l xs=>∃ p us,v=.ref p/\H p=none/\H' p=some (.lst us)/\Ims K H' us xs
 | .r _=>False
 | .k _=>False
 | .d kvs=>∃ p o,v=.ref p/\H p=none/\H' p=some o/\DOk K H' o kvs
 | .e _=>False
theorem zEB{K:Fg}{H:Hp}{vs:List V}{kvs:Dk}(h:DOk K H (.lst vs) kvs):False:=h
def pinsG(ip:Option Nat)(vs:List V):List (Nat×Addr):=match ip with
 | none=>[]
 | some k=>match vs[k]? with
  | some (.ref p)=>[(k,p)]
  | _=>[]
def spD(K:Fg)(ip:Option Nat)(n:Nat)(F:DF):Sp:=fun vs H Q _=>vs.length=n/\∃ (w:W) (gs:List G) (r:G) (ys:List T),F gs=some (r,ys)/\Rep K ⟨H,w.L,pinsG ip vs⟩ w (gs.map some) (vs.map some) H /\
 (pinsG ip vs).map (·.1)=ip.toList/\(∀ p∈w.L,p∈(pinsG ip vs).map (·.2)) /\
 ∀ v H',Evo w.L H H'->(∀ q∈pinsG ip vs,∃ us,H' q.2=some (.lst us)/\Ims K H' us ys)->ROk K H H' v r->Q v H'
def outl(ip:Option Nat)(Γ:En):List T:=match ip with
 | none=>[]
 | some k=>match Γ[k]? with
  | some (some (.l xs))=>xs
  | _=>[]
def resG(ip:Option Nat)(Γ:En):S->Option G
 | .v t=>some (.v t)
 | .l xs=>some (.l xs)
 | .s i=>if ip=some i then none else match Γ[i]? with
  | some (some (.l xs))=>some (.l xs)
  | some (some (.d xs))=>some (.d xs)
  | _=>none
 | .d xs=>some (.d xs)
def fnD(ip:Option Nat)(np nN:Nat)(g:DS):DF:=fun gs=>if gs.length=np then (g (gs.map some++List.replicate (nN - np) none)).bind fun o=>match o with
  | .nx Γ=>some (.v (.a .non),outl ip Γ)
  | .rt s Γ=>(resG ip Γ s).map fun r=>(r,outl ip Γ)
  | _=>none
 else none
section
variable {K:Fg}
theorem Rep.more{C:Fr}{w:W}{Γ:En}{σ:St}{H:Hp}(R:Rep K C w Γ σ H)(n:Nat):Rep K C w (Γ++List.replicate n none) (σ++List.replicate n none) H:=by
 have get:∀ {j:Nat} {g:G},(Γ++List.replicate n none)[j]?=some (some g)->Γ[j]?=some (some g):=fun {j g} h=>by
  rcases Nat.lt_or_ge j Γ.length with z | z
  ·rw[List.getElem?_append_left z]at h; exact h
  ·rw[List.getElem?_append_right z,List.getElem?_replicate]at h; split at h <;> cases h
 have put:∀ {j:Nat} {o:Option V},j < σ.length->(σ++List.replicate n none)[j]?=σ[j]?:=fun z=>List.getElem?_append_left z
 have lt:∀ {j:Nat} {g:G},Γ[j]?=some (some g)->j < σ.length:=fun h=>by rw[R.len]; exact (List.getElem?_eq_some_iff.mp h).1
 refine⟨by simp[R.len],fun i g h=>?_,fun i j p ga gb ma mb h1 h2 h3 h4=>?_,R.lst,R.own,R.ra,R.rl,R.frame,R.tab,fun q hq=>?_⟩
 ·have h':=get h
  obtain⟨v,e1,e2⟩:=R.val i g h'
  exact⟨v,by rw[put (o:=none) (lt h')]; exact e1,e2⟩
 ·have g1:=get h1
  have g2:=get h2
  rw[put (o:=none) (lt g1)]at h3
  rw[put (o:=none) (lt g2)]at h4
  exact R.apart i j p ga gb ma mb g1 g2 h3 h4
 ·obtain⟨h1,xs,h2⟩:=R.pin q hq
  exact⟨by rw[put (o:=none) (lt h2)]; exact h1,xs,by rw[List.getElem?_append_left (List.getElem?_eq_some_iff.mp h2).1]; exact h2⟩
theorem zD9{ip:Option Nat}{ts:TS}{g:DS}{N:List Str}{np:Nat}{vs:List V}{H:Hp}{Q:VK}{E:XK}(hb:SimS K ip ts g)(h:spD K ip np (fnD ip np N.length g) vs H Q E):ts { nx:=fun _ H'=>Q .non H',rt:=Q } (L2.start N vs) H:=by
 obtain⟨hn,w,gs,r,ys,e,R,hp,hL,k⟩:=h
 unfold fnD at e
 have hg:gs.length=np:=by
  have:=R.len
  simp at this
  omega
 rw[if_pos hg]at e
 obtain⟨o,e1,e⟩:=bind_some e
 have R0:Rep K ⟨H,w.L,pinsG ip vs⟩ w (gs.map some++List.replicate (N.length - np) none) (L2.start N vs) H:=by
  unfold L2.start
  rw[hn]
  exact R.more _
 have fin:∀ {w':W} {Γ':En} {σ':St} {H':Hp},Rep K ⟨H,w.L,pinsG ip vs⟩ w' Γ' σ' H'->outl ip Γ'=ys->∀ v,ROk K H H' v r->Q v H':=fun {w' Γ' σ' H'} R' eo v hr=>by
  refine k v H' (fun b o h n=>R'.frame b o h n) (fun q hq=>?_) hr
  obtain⟨h1,xs,h2⟩:=R'.pin q hq
  obtain⟨v',e1,p,us,rfl,_,h3,h4⟩:=R'.val q.1 _ h2
  rw[h1]at e1; cases e1
  refine⟨us,h3,?_⟩
  have hq1:q.1∈ip.toList:=hp ▸ List.mem_map.mpr ⟨q,hq,rfl⟩
  rw[Option.mem_toList]at hq1
  unfold outl at eo
  rw[hq1]at eo
  dsimp only at eo
  rw[h2]at eo
  dsimp only at eo
  rw[← eo]; exact h4
 have notpin:∀ {w':W} {Γ':En} {σ':St} {H':Hp} {p:Addr},Rep K ⟨H,w.L,pinsG ip vs⟩ w' Γ' σ' H'->(∀ q∈pinsG ip vs,q.2≠p)->Ow ⟨H,w.L,pinsG ip vs⟩ p->H p=none:=fun {w' Γ' σ' H' p} R' hne ow=>by
  rcases ow with z | z
  ·obtain⟨q,hq,e⟩:=List.mem_map.mp (hL p z)
   exact absurd e (hne q hq)
  ·exact z
 refine hb _ w _ _ H _ o hp R0 e1 ?_
 cases o with
 | nx Γ' =>
  cases e
  exact fun w' σ' H' R'=>fin R' rfl _ (by show Im K H' V.non (.a .non); exact Im.atom)
 | rt s Γ' =>
  obtain⟨r',e2,e⟩:=map_some e
  cases e
  refine fun w' σ' H' v R' o'=>fin R' rfl v ?_
  have inL:∀ q∈pinsG ip vs,q.2∈w'.L:=fun q hq=>by
   obtain⟨h1,xs,h2⟩:=R'.pin q hq
   obtain⟨v',e1,p,us,rfl,h3,_⟩:=R'.val q.1 _ h2
   rw[h1]at e1; cases e1
   exact h3
  cases s with
  | v t=>cases e2; exact o'
  | l xs =>
   cases e2
   obtain⟨p,us,rfl,n1,n2,ow,h1,h2⟩:=o'
   exact⟨p,us,rfl,notpin R' (fun q hq z=>n1 (z ▸ inL q hq)) ow,h1,h2⟩
  | d xs =>
   cases e2
   obtain⟨p,us,rfl,n1,n2,ow,h1,h2⟩:=o'
   exact⟨p,us,rfl,notpin R' (fun q hq z=>n1 (z ▸ inL q hq)) ow,h1,h2⟩
  | s i =>
   unfold resG at e2
   dsimp only at e2
   split at e2
   ·cases e2
   rename_i hi
   split at e2
   ·rename_i xs hx
    cases e2
    obtain⟨v',e3,p,us,rfl,h3,h4,h5⟩:=R'.val i _ hx
    have o'':σ'[i]?=some (some v):=o'
    rw[o'']at e3; cases e3
    refine⟨p,us,rfl,notpin R' (fun q hq z=>?_) (R'.own p h3),h4,h5⟩
    obtain⟨h1,ys',h2⟩:=R'.pin q hq
    have:=R'.apart q.1 i q.2 _ _ rfl rfl h2 hx h1 (z ▸ o'')
    have hq1:q.1∈ip.toList:=hp ▸ List.mem_map.mpr ⟨q,hq,rfl⟩
    rw[Option.mem_toList]at hq1
    exact hi (by rw[hq1,this])
   ·rename_i xs hx
    cases e2
    obtain⟨v',e3,p,us,rfl,h3,h4,h5⟩:=R'.val i _ hx
    have o'':σ'[i]?=some (some v):=o'
    rw[o'']at e3; cases e3
    refine⟨p,us,rfl,notpin R' (fun q hq z=>?_) (R'.own p h3),h4,h5⟩
    obtain⟨h1,ys',h2⟩:=R'.pin q hq
    have:=R'.apart q.1 i q.2 _ _ rfl rfl h2 hx h1 (z ▸ o'')
    have hq1:q.1∈ip.toList:=hp ▸ List.mem_map.mpr ⟨q,hq,rfl⟩
    rw[Option.mem_toList]at hq1
    exact hi (by rw[hq1,this])
   ·cases e2
 | bk Γ'=>cases e
 | ct Γ'=>cases e
def argG(ip:Option Nat)(Γ:En)(k:Nat):S->Option G
 | .v t=>some (.v t)
 | .l xs=>some (if ip=some k then .l xs else .r xs)
 | .s i=>match Γ[i]? with
  | some (some (.l xs))=>some (if ip=some k then .l xs else .r xs)
  | some (some (.r xs))=>if ip=some k then none else some (.r xs)
  | some (some (.k xs))=>if ip=some k then none else some (.k xs)
  | some (some (.d xs))=>if ip=some k then none else some (.e xs)
  | some (some (.e xs))=>if ip=some k then none else some (.e xs)
  | _=>none
 | .d xs=>if ip=some k then none else some (.e xs)
def argsG(ip:Option Nat)(Γ:En):Nat->List S->Option (List G)
 | _,[]=>some []
 | k,s::r=>(argG ip Γ k s).bind fun g=>(argsG ip Γ (k+1) r).map fun gs=>g::gs
def isSl(i:Nat):S->Bool
 | .s j=>j == i
 | _=>false
def isTmp:S->Bool
 | .l _=>true
 | _=>false
def onceS(ip:Option Nat)(ss:List S):Bool:=match ip with
 | none=>true
 | some k=>match ss[k]? with
  | some (.s i)=>(ss.eraseIdx k).all fun s=>!isSl i s
  | some (.l _)=>(ss.eraseIdx k).all fun s=>!isTmp s
  | _=>false
def backS(ip:Option Nat)(Γ:En)(ss:List S)(ys:List T):En:=match ip with
 | none=>Γ
 | some k=>match ss[k]? with
  | some (.s i)=>Γ.set i (some (.l ys))
  | _=>Γ
def toS:G->S
 | .v t=>.v t
 | .l xs=>.l xs
 | .r xs=>.l xs
 | .k xs=>.l xs
 | .d xs=>.d xs
 | .e xs=>.d xs
def dCall(ip:Option Nat)(F:DF)(ds:List V)(fa:DA):DE:=fun Γ=>(fa Γ).bind fun p=>if onceS ip p.1=true then (argsG ip p.2 0 (p.1++ds.map fun v=>.v (.a v))).bind fun gs=>(F gs).map fun q=>(toS q.1,backS ip p.2 p.1 q.2) else none
theorem SOks.app{C:Fr}{w:W}{σ:St}{H:Hp}:∀ {vs:List V} {ss:List S},SOks K C w σ H vs ss->∀ ds:List V,SOks K C w σ H (vs++ds) (ss++ds.map fun v=>.v (.a v))
 | [],[],_,[]=>trivial
 | [],[],_,d::ds=>⟨SOk.atom,SOks.app (vs:=[]) (ss:=[]) trivial ds⟩
 | _::_,_::_,h,ds=>⟨h.1,SOks.app h.2 ds⟩
 | [],_::_,h,_=>h.elim
 | _::_,[],h,_=>h.elim
theorem SOks.len{C:Fr}{w:W}{σ:St}{H:Hp}:∀ {vs:List V} {ss:List S},SOks K C w σ H vs ss->vs.length=ss.length
 | [],[],_=>rfl
 | _::_,_::_,h=>by simp[SOks.len h.2]
 | [],_::_,h=>h.elim
 | _::_,[],h=>h.elim
theorem SOks.get{C:Fr}{w:W}{σ:St}{H:Hp}:∀ {vs:List V} {ss:List S} {k:Nat} {s:S},SOks K C w σ H vs ss->ss[k]?=some s->∃ v,vs[k]?=some v/\SOk K C w σ H v s
 | [],[],_,_,_,e=>by simp at e
 | v::_,_::_,0,_,h,e=>by simp at e; subst e; exact⟨v,rfl,h.1⟩
 | _::_,_::_,k+1,_,h,e=>by simpa using SOks.get (k:=k) h.2 (by simpa using e)
 | [],_::_,_,_,h,_=>h.elim
 | _::_,[],_,_,h,_=>h.elim
theorem zBk{ip:Option Nat}{Γ:En}:∀ {ss:List S} {k:Nat} {gs:List G},argsG ip Γ k ss=some gs->gs.length=ss.length
 | [],_,_,e=>by cases e; rfl
 | s::r,k,_,e=>by
  obtain⟨g,e1,e⟩:=bind_some e
  obtain⟨gs,e2,e⟩:=map_some e
  cases e
  simp[zBk e2]
theorem zAp{ip:Option Nat}{Γ:En}:∀ {ss:List S} {k:Nat} {gs:List G} {j:Nat} {g:G},argsG ip Γ k ss=some gs->gs[j]?=some g->∃ s,ss[j]?=some s/\argG ip Γ (k+j) s=some g
 | [],_,_,_,_,e,h=>by cases e; simp at h
 | s::r,k,_,j,g,e,h=>by
  obtain⟨g',e1,e⟩:=bind_some e
  obtain⟨gs,e2,e⟩:=map_some e
  cases e
  cases j with
  | zero=>simp at h; subst h; exact⟨s,rfl,e1⟩
  | succ j =>
   obtain⟨s',a,b⟩:=zAp (j:=j) e2 (by simpa using h)
   exact⟨s',by simpa using a,by rw[← b]; congr 1; omega⟩
theorem zFY{ip:Option Nat}{n:Nat}{F:DF}{ds:List V}{E:XK}{ta:TA}{fa:DA}(hF:∀ gs r,F gs=some r->gs.length=n)(ha:SimA K ta fa):SimE K (tCall (spD K ip n F) ds E ta) (dCall ip F ds fa):=by
 intro C w Γ σ H s Γ' Q R e k
 obtain⟨⟨ss,Γ1⟩,e1,e⟩:=bind_some e
 dsimp only at e
 split at e
 rotate_left
 ·cases e
 rename_i honce
 obtain⟨gs,e2,e⟩:=bind_some e
 obtain⟨⟨r,ys⟩,e3,e⟩:=map_some e
 cases e
 refine ha C w Γ σ H ss Γ1 _ R e1 fun vs0 H1 R1 ev1 o0 n0=>?_
 have o1:=o0.app ds
 have hl0:=o0.len
 generalize hvs:vs0++ds=vs at o1 ⊢
 generalize hss:ss++(ds.map fun v=>S.v (.a v))=ss' at o1 e2
 have hl:=o1.len
 have hgl:=zBk e2
 have hn:vs.length=n:=by rw[hl,← hgl]; exact hF _ _ e3
 have resOk:∀ {H2:Hp} {v:V} {L:List Addr},Evo L H1 H2->ROk K H1 H2 v r->Rep K C w Γ1 σ H1->SOk K C w σ H2 v (toS r):=fun {H2 v L} ev hr R=>by
  cases r with
  | v t=>exact hr
  | l xs =>
   obtain⟨p,us,rfl,h1,h2,h3⟩:=hr
   obtain⟨a,b,c⟩:=R.fresh h1
   exact⟨p,us,rfl,a,b,c,h2,h3⟩
  | r xs=>exact hr.elim
  | k xs=>exact hr.elim
  | d xs =>
   obtain⟨p,us,rfl,h1,h2,h3⟩:=hr
   obtain⟨a,b,c⟩:=R.fresh h1
   exact⟨p,us,rfl,a,b,c,h2,h3⟩
  | e xs=>exact hr.elim
 have resNew:∀ {H2:Hp} {v:V},ROk K H1 H2 v r->Nw H v (toS r):=fun {H2 v} hr=>by
  cases r with
  | v t=>trivial
  | l xs =>
   obtain⟨p,us,rfl,h1,h2,h3⟩:=hr
   exact⟨p,rfl,zAa ev1 R1.lst h1⟩
  | r xs=>exact hr.elim
  | k xs=>exact hr.elim
  | d xs =>
   obtain⟨p,us,rfl,h1,h2,h3⟩:=hr
   exact⟨p,rfl,zAa ev1 R1.lst h1⟩
  | e xs=>exact hr.elim
 cases ip with
 | none =>
  have Rc:Rep K ⟨H1,[],[]⟩ ⟨[],fun q=>∃ o,H1 q=some o⟩ (gs.map some) (vs.map some) H1:=by
   refine⟨by simp[hl,hgl],fun j g h=>?_,fun i j p ga gb ma mb h1 h2 h3 h4=>?_,fun p hp=>(nomatch hp),fun p hp=>(nomatch hp),fun p hp=>hp,fun p hp=>nofun,fun b o h _=>h,R1.tab,fun q hq=>(nomatch hq)⟩
   ·rw[List.getElem?_map]at h
    obtain⟨g',h',h⟩:=map_some h
    cases h
    obtain⟨s,a1,a2⟩:=zAp e2 h'
    obtain⟨v,b1,b2⟩:=o1.get a1
    refine⟨v,by rw[List.getElem?_map,b1]; rfl,?_⟩
    cases s with
    | v t=>cases a2; exact b2
    | l xs =>
     simp only[argG,reduceCtorEq,if_false,Option.some.injEq]at a2
     subst a2
     obtain⟨p,us,rfl,n1,n2,ow,h1,h2⟩:=b2
     exact⟨p,us,rfl,h2,h1,nofun,⟨_,h1⟩⟩
    | d xs =>
     simp only[argG,reduceCtorEq,if_false,Option.some.injEq]at a2
     subst a2
     obtain⟨p,us,rfl,n1,n2,ow,h1,h2⟩:=b2
     exact⟨p,us,rfl,h2,h1,nofun,⟨_,h1⟩⟩
    | s i =>
     unfold argG at a2
     dsimp only at a2
     split at a2
     ·rename_i xs hx
      simp only[reduceCtorEq,if_false,Option.some.injEq]at a2
      subst a2
      obtain⟨v',c1,p,us,rfl,c2,c3,c4⟩:=R1.val i _ hx
      have b2':σ[i]?=some (some v):=b2
      rw[b2']at c1; cases c1
      exact⟨p,us,rfl,c4,c3,nofun,⟨_,c3⟩⟩
     ·rename_i xs hx
      simp only[reduceCtorEq,if_false,Option.some.injEq]at a2
      subst a2
      obtain⟨v',c1,p,us,rfl,c2,c3⟩:=R1.val i _ hx
      have b2':σ[i]?=some (some v):=b2
      rw[b2']at c1; cases c1
      exact⟨p,us,rfl,c2,c3.1,nofun,R1.ra p c3.2.2⟩
     ·rename_i xs hx
      simp only[reduceCtorEq,if_false,Option.some.injEq]at a2
      subst a2
      obtain⟨v',c1,c2⟩:=R1.val i _ hx
      have b2':σ[i]?=some (some v):=b2
      rw[b2']at c1; cases c1
      exact c2
     ·rename_i xs hx
      simp only[reduceCtorEq,if_false,Option.some.injEq]at a2
      subst a2
      obtain⟨v',c1,p,us,rfl,c2,c3,c4⟩:=R1.val i _ hx
      have b2':σ[i]?=some (some v):=b2
      rw[b2']at c1; cases c1
      exact⟨p,us,rfl,c4,c3,nofun,⟨_,c3⟩⟩
     ·rename_i xs hx
      simp only[reduceCtorEq,if_false,Option.some.injEq]at a2
      subst a2
      obtain⟨v',c1,p,us,rfl,c2,c3⟩:=R1.val i _ hx
      have b2':σ[i]?=some (some v):=b2
      rw[b2']at c1; cases c1
      exact⟨p,us,rfl,c2,c3.1,nofun,R1.ra p c3.2.2⟩
     ·cases a2
   ·rw[List.getElem?_map]at h1
    obtain⟨g',h',h⟩:=map_some h1
    cases h
    obtain⟨s,a1,a2⟩:=zAp e2 h'
    cases s with
    | v t=>cases a2; cases ma
    | l xs=>simp[argG]at a2; subst a2; cases ma
    | d xs=>simp[argG]at a2; subst a2; cases ma
    | s i =>
     unfold argG at a2
     dsimp only at a2
     split at a2 <;> simp at a2 <;> (subst a2; cases ma)
  refine⟨hn,⟨[],fun q=>∃ o,H1 q=some o⟩,gs,r,ys,e3,Rc,rfl,(fun p hp=>nomatch hp),fun v H2 ev _ hr=>?_⟩
  have R2:Rep K C w Γ1 σ H2:=R1.evo0 fun b o h=>ev b o h nofun
  exact k v H2 R2 (ev1.trans fun b o h _=>ev b o h nofun) (resOk ev hr R1) (resNew hr)
 | some kk =>
  have hkk:∃ s,ss[kk]?=some s:=by
   unfold onceS at honce
   dsimp only at honce
   cases z:ss[kk]? with
   | none=>rw[z]at honce; cases honce
   | some s=>exact⟨s,rfl⟩
  obtain⟨sk,hsk⟩:=hkk
  have hkl:kk < ss.length:=(List.getElem?_eq_some_iff.mp hsk).1
  have hsk':ss'[kk]?=some sk:=by rw[← hss,List.getElem?_append_left hkl]; exact hsk
  obtain⟨vk,hvk,ok⟩:=o1.get hsk'
  have at_k:∃ p us xs,vk=.ref p/\H1 p=some (.lst us)/\Ims K H1 us xs/\argG (some kk) Γ1 kk sk=some (.l xs)/\((∃ i,sk=.s i/\Γ1[i]?=some (some (.l xs))/\σ[i]?=some (some (.ref p))/\p∈w.L)\/(sk=.l xs/\p∉w.L/\¬ w.R p/\Ow C p)):=by
   obtain⟨gk,hgk⟩:∃ g,gs[kk]?=some g:=⟨gs[kk]'(by rw[hgl,← hss]; simp; omega),by simp⟩
   obtain⟨s,a1,a2⟩:=zAp e2 hgk
   rw[hsk']at a1; cases a1
   rw[Nat.zero_add]at a2
   cases sk with
   | v t=>unfold onceS at honce; dsimp only at honce; rw[hsk]at honce; cases honce
   | l xs =>
    obtain⟨p,us,rfl,n1,n2,ow,h1,h2⟩:=ok
    exact⟨p,us,xs,rfl,h1,h2,by simp[argG],.inr ⟨rfl,n1,n2,ow⟩⟩
   | s i =>
    unfold argG at a2
    dsimp only at a2
    have ok':σ[i]?=some (some vk):=ok
    split at a2
    ·rename_i xs hx
     obtain⟨v',c1,p,us,rfl,c2,c3,c4⟩:=R1.val i _ hx
     rw[ok']at c1; cases c1
     exact⟨p,us,xs,rfl,c3,c4,by simp[argG,hx],.inl ⟨i,rfl,hx,ok',c2⟩⟩
    ·rw[if_pos rfl]at a2; cases a2
    ·rw[if_pos rfl]at a2; cases a2
    ·rw[if_pos rfl]at a2; cases a2
    ·rw[if_pos rfl]at a2; cases a2
    ·cases a2
   | d xs=>unfold onceS at honce; dsimp only at honce; rw[hsk]at honce; cases honce
  obtain⟨p,us,xs,rfl,hpu,hus,hag,hsort⟩:=at_k
  have other:∀ (j:Nat) s,j≠kk->ss'[j]?=some s->(∀ i xs',s=.s i->Γ1[i]?=some (some (.l xs'))->σ[i]?≠some (some (.ref p)))/\(∀ xs' q,s=.l xs'->SOk K C w σ H1 (.ref q) s->q≠p):=fun j s hj hs=>by
   rcases hsort with ⟨i0,rfl,g0,s0,m0⟩ | ⟨rfl,n1,n2,ow⟩
   ·refine⟨fun i xs' e hx z=>?_,fun xs' q e h z=>?_⟩
    ·subst e
     have:=R1.apart i0 i p _ _ rfl rfl g0 hx s0 z
     subst this
     have hjl:j < ss.length:=by
      rcases Nat.lt_or_ge j ss.length with z | z
      ·exact z
      ·rw[← hss,List.getElem?_append_right z,List.getElem?_map]at hs
       obtain⟨d,_,hs⟩:=map_some hs
       cases hs
     rw[← hss,List.getElem?_append_left hjl]at hs
     unfold onceS at honce
     dsimp only at honce
     rw[hsk]at honce
     have:=List.all_eq_true.mp honce (.s i0) (List.mem_eraseIdx_iff_getElem?.mpr ⟨j,hj,hs⟩)
     simp[isSl]at this
    ·subst e
     obtain⟨q',us'',e,n1,_⟩:=h
     cases e
     exact n1 (z ▸ m0)
   ·refine⟨fun i xs' e hx z=>?_,fun xs' q e h z=>?_⟩
    ·obtain⟨v',c1,p',us2,rfl,c2,_⟩:=R1.val i _ hx
     rw[z]at c1; cases c1
     exact n1 c2
    ·subst e
     have hjl:j < ss.length:=by
      rcases Nat.lt_or_ge j ss.length with z | z
      ·exact z
      ·rw[← hss,List.getElem?_append_right z,List.getElem?_map]at hs
       obtain⟨d,_,hs⟩:=map_some hs
       cases hs
     rw[← hss,List.getElem?_append_left hjl]at hs
     unfold onceS at honce
     dsimp only at honce
     rw[hsk]at honce
     have:=List.all_eq_true.mp honce _ (List.mem_eraseIdx_iff_getElem?.mpr ⟨j,hj,hs⟩)
     simp[isTmp]at this
  have hpins:pinsG (some kk) vs=[(kk,p)]:=by unfold pinsG; dsimp only; rw[hvk]
  have Rc:Rep K ⟨H1,[p],[(kk,p)]⟩ ⟨[p],fun q=>(∃ o,H1 q=some o)/\q≠p⟩ (gs.map some) (vs.map some) H1:=by
   have get:∀ {j:Nat} {g:G},(gs.map some)[j]?=some (some g)->∃ s,ss'[j]?=some s/\argG (some kk) Γ1 j s=some g:=fun {j g} h=>by
    rw[List.getElem?_map]at h
    obtain⟨g',h',h⟩:=map_some h
    cases h
    obtain⟨s,a1,a2⟩:=zAp e2 h'
    exact⟨s,a1,by rw[Nat.zero_add]at a2; exact a2⟩
   have only:∀ {j:Nat} {gc:G},isMut gc=true->(gs.map some)[j]?=some (some gc)->j=kk:=fun {j gc} mc h=>by
    obtain⟨s,a1,a2⟩:=get h
    by_cases hj:kk=j
    ·exact hj.symm
    ·cases s with
     | v t=>cases a2; cases mc
     | l xs=>simp[argG,hj]at a2; subst a2; cases mc
     | d xs=>simp[argG,hj]at a2; subst a2; cases mc
     | s i =>
      unfold argG at a2
      dsimp only at a2
      split at a2 <;> simp[hj]at a2 <;> (subst a2; cases mc)
   refine⟨by simp[hl,hgl],fun j g h=>?_,fun i j p' ga gb ma mb h1 h2 h3 h4=>(only ma h1).trans (only mb h2).symm,fun q hq=>?_,fun q hq=>.inl hq,fun q hq=>hq.1,fun q hq z=>hq.2 (List.mem_singleton.mp z),fun b o h _=>h,R1.tab,fun q hq=>?_⟩
   ·obtain⟨s,a1,a2⟩:=get h
    obtain⟨v,b1,b2⟩:=o1.get a1
    refine⟨v,by rw[List.getElem?_map,b1]; rfl,?_⟩
    by_cases hj:j=kk
    ·subst hj
     rw[hsk']at a1; cases a1
     rw[hag]at a2; cases a2
     rw[hvk]at b1; cases b1
     exact⟨p,us,rfl,List.mem_singleton.mpr rfl,hpu,hus⟩
    ·have hj':¬ kk=j:=fun z=>hj z.symm
     obtain⟨x1,x2⟩:=other j s hj a1
     cases s with
     | v t=>cases a2; exact b2
     | l xs' =>
      simp only[argG,Option.some.injEq,hj',if_false]at a2
      subst a2
      have b3:=b2
      obtain⟨q,us',rfl,n1,n2,ow,h1,h2⟩:=b2
      have hne:q≠p:=x2 xs' q rfl b3
      exact⟨q,us',rfl,h2,h1,fun z=>hne (List.mem_singleton.mp z),⟨_,h1⟩,hne⟩
     | s i =>
      have b2':σ[i]?=some (some v):=b2
      unfold argG at a2
      dsimp only at a2
      split at a2
      ·rename_i xs' hx
       simp only[Option.some.injEq,hj',if_false]at a2
       subst a2
       obtain⟨v',c1,q,us',rfl,c2,c3,c4⟩:=R1.val i _ hx
       rw[b2']at c1; cases c1
       have hne:q≠p:=fun z=>x1 i xs' rfl hx (z ▸ b2')
       exact⟨q,us',rfl,c4,c3,fun z=>hne (List.mem_singleton.mp z),⟨_,c3⟩,hne⟩
      ·rename_i xs' hx
       simp only[Option.some.injEq,hj',if_false]at a2
       subst a2
       obtain⟨v',c1,q,us',rfl,c2,c3⟩:=R1.val i _ hx
       rw[b2']at c1; cases c1
       have hne:q≠p:=fun z=>by
        subst z
        rcases hsort with ⟨_,_,_,_,m0⟩ | ⟨_,n1,n2,ow⟩
        ·exact c3.2.1 m0
        ·exact n2 c3.2.2
       exact⟨q,us',rfl,c2,c3.1,fun z=>hne (List.mem_singleton.mp z),R1.ra q c3.2.2,hne⟩
      ·rename_i xs' hx
       simp only[Option.some.injEq,hj',if_false]at a2
       subst a2
       obtain⟨v',c1,c2⟩:=R1.val i _ hx
       rw[b2']at c1; cases c1
       exact c2
      ·rename_i xs' hx
       simp only[Option.some.injEq,hj',if_false]at a2
       subst a2
       obtain⟨v',c1,q,us',rfl,c2,c3,c4⟩:=R1.val i _ hx
       rw[b2']at c1; cases c1
       have hne:q≠p:=fun z=>by subst z; rw[hpu]at c3; cases c3; exact zEB c4
       exact⟨q,us',rfl,c4,c3,fun z=>hne (List.mem_singleton.mp z),⟨_,c3⟩,hne⟩
      ·rename_i xs' hx
       simp only[Option.some.injEq,hj',if_false]at a2
       subst a2
       obtain⟨v',c1,q,us',rfl,c2,c3⟩:=R1.val i _ hx
       rw[b2']at c1; cases c1
       have hne:q≠p:=fun z=>by subst z; have c4:=c3.1; rw[hpu]at c4; cases c4; exact zEB c2
       exact⟨q,us',rfl,c2,c3.1,fun z=>hne (List.mem_singleton.mp z),R1.ra q c3.2.2,hne⟩
      ·cases a2
     | d xs' =>
      simp only[argG,Option.some.injEq,hj',if_false]at a2
      subst a2
      obtain⟨q,us',rfl,n1,n2,ow,h1,h2⟩:=b2
      have hne:q≠p:=fun z=>by subst z; rw[hpu]at h1; cases h1; exact zEB h2
      exact⟨q,us',rfl,h2,h1,fun z=>hne (List.mem_singleton.mp z),⟨_,h1⟩,hne⟩
   ·rw[List.mem_singleton.mp hq]; exact⟨_,hpu,trivial⟩
   ·rw[List.mem_singleton.mp hq]
    refine⟨by rw[List.getElem?_map,hvk]; rfl,xs,?_⟩
    obtain⟨gk,hgk⟩:∃ g,gs[kk]?=some g:=⟨gs[kk]'(by rw[hgl,← hss]; simp; omega),by simp⟩
    obtain⟨s,a1,a2⟩:=zAp e2 hgk
    rw[hsk']at a1; cases a1
    rw[Nat.zero_add,hag]at a2; cases a2
    rw[List.getElem?_map,hgk]; rfl
  refine⟨hn,⟨[p],fun q=>(∃ o,H1 q=some o)/\q≠p⟩,gs,r,ys,e3,by rw[hpins]; exact Rc,by rw[hpins]; rfl,by rw[hpins]; exact fun q hq=>hq,fun v H2 ev hch hr=>?_⟩
  rw[hpins]at hch
  obtain⟨us2,hp2,hu2⟩:=hch (kk,p) (List.mem_singleton.mpr rfl)
  rcases hsort with ⟨i0,rfl,g0,s0,m0⟩ | ⟨rfl,n1,n2,ow⟩
  ·obtain⟨R2,ev2⟩:=R1.put2 g0 s0 ev hp2 hu2
   have hb:backS (some kk) Γ1 ss ys=Γ1.set i0 (some (.l ys)):=by unfold backS; dsimp only; rw[hsk]
   dsimp only at k
   rw[hb]at k
   exact k v H2 R2 (ev1.trans ev2) (resOk ev hr R1) (resNew hr)
  ·have hb:backS (some kk) Γ1 ss ys=Γ1:=by unfold backS; dsimp only; rw[hsk]
   dsimp only at k
   rw[hb]at k
   have R2:=R1.temp n1 n2 ow ⟨_,hpu,trivial⟩ ev
   refine k v H2 R2 (fun b o h n=>?_) (resOk ev hr R1) (resNew hr)
   by_cases z:b=p
   ·subst z
    have hv0:vs0[kk]?=some (.ref b):=by
     rw[← hvs,List.getElem?_append_left (by rw[hl0]; exact hkl)]at hvk; exact hvk
    obtain⟨p',e',hn'⟩:=n0.get hv0 hsk
    cases e'
    rw[hn']at h; cases h
   ·exact ev b o (ev1 b o h n) fun q=>z (List.mem_singleton.mp q)
end
def lsOf(Γ:En):S->Option (List T)
 | .l xs=>some xs
 | .s i=>match Γ[i]? with
  | some (some (.l xs))=>some xs
  | some (some (.r xs))=>some xs
  | _=>none
 | .v _=>none
 | .d _=>none
def sqlOf(Γ:En):S->Option (List T)
 | .l xs=>some xs
 | .s i=>match Γ[i]? with
  | some (some (.l xs))=>some xs
  | some (some (.r xs))=>some xs
  | some (some (.k xs))=>some xs
  | _=>none
 | .v (.l xs)=>some xs
 | .v _=>none
 | .d _=>none
section
variable {K:Fg}{C:Fr}{w:W}{Γ:En}{σ:St}{H:Hp}
theorem zFF{x:V}{s:S}{xs:List T}(R:Rep K C w Γ σ H)(o:SOk K C w σ H x s)(e:lsOf Γ s=some xs):∃ p vs,x=.ref p/\H p=some (.lst vs)/\Ims K H vs xs:=by
 cases s with
 | v t=>cases e
 | d _=>cases e
 | l ys=>cases e; obtain⟨p,vs,rfl,_,_,_,h1,h2⟩:=o; exact⟨p,vs,rfl,h1,h2⟩
 | s i =>
  have o':σ[i]?=some (some x):=o
  unfold lsOf at e
  dsimp only at e
  split at e
  ·rename_i ys h
   cases e
   obtain⟨v,e1,p,vs,rfl,_,h1,h2⟩:=R.val i _ h
   rw[o']at e1; cases e1
   exact⟨p,vs,rfl,h1,h2⟩
  ·rename_i ys h
   cases e
   obtain⟨v,e1,p,vs,rfl,h1,h2,_⟩:=R.val i _ h
   rw[o']at e1; cases e1
   exact⟨p,vs,rfl,h2,h1⟩
  ·cases e
theorem zAi{x:V}{s:S}{xs:List T}(R:Rep K C w Γ σ H)(o:SOk K C w σ H x s)(e:sqlOf Γ s=some xs):∃ p vs,x=.ref p/\SqL K H p vs/\Ims K H vs xs:=by
 cases s with
 | v t =>
  cases t with
  | l ys =>
   cases e
   obtain⟨p,vs,rfl,h1,h2⟩:=(show Im K H x (.l xs) from o).invl
   exact⟨p,vs,rfl,h1.sq,h2⟩
  | a _=>cases e
  | t _=>cases e
  | f _=>cases e
  | x _ _=>cases e
  | m _ _=>cases e
 | d _=>cases e
 | l ys=>cases e; obtain⟨p,vs,rfl,_,_,_,h1,h2⟩:=o; exact⟨p,vs,rfl,SqL.of h1,h2⟩
 | s i =>
  have o':σ[i]?=some (some x):=o
  unfold sqlOf at e
  dsimp only at e
  split at e
  ·rename_i ys h
   cases e
   obtain⟨v,e1,p,vs,rfl,_,h1,h2⟩:=R.val i _ h
   rw[o']at e1; cases e1
   exact⟨p,vs,rfl,SqL.of h1,h2⟩
  ·rename_i ys h
   cases e
   obtain⟨v,e1,p,vs,rfl,h1,h2,_⟩:=R.val i _ h
   rw[o']at e1; cases e1
   exact⟨p,vs,rfl,SqL.of h2,h1⟩
  ·rename_i ys h
   cases e
   obtain⟨v,e1,p,vs,rfl,h1,h2⟩:=R.val i _ h
   rw[o']at e1; cases e1
   exact⟨p,vs,rfl,h2.sq,h1⟩
  ·cases e
end
def iS:S->Option Int
 | .v (.a (.int i))=>some i
 | _=>none
def mkI(i:Int):S:=.v (.a (.int i))
def mkB(b:Bool):S:=.v (.a (.bl b))
section
variable {K:Fg}{C:Fr}{w:W}{Γ:En}{σ:St}{H:Hp}
theorem zBu{x:V}{s:S}{i:Int}(o:SOk K C w σ H x s)(e:iS s=some i):x=.int i:=by
 unfold iS at e
 split at e
 ·cases e; exact o.inva
 ·cases e
end
def inR(b:Nat):Int->Bool
 | .ofNat n=>Nat.ble n b
 | .negSucc n=>Nat.ble n b
theorem zCq{b:Nat}{i:Int}:inR b i=true ↔ -((b:Int)+1)<=i/\i<=b:=by
 cases i with
 | ofNat n =>
  simp only[inR,Nat.ble_eq,Int.ofNat_eq_natCast]
  omega
 | negSucc n =>
  simp only[inR,Nat.ble_eq,Int.negSucc_eq]
  omega
theorem inR62{i:Int}(h:inR 4611686018427387903 i=true):-(2 ^ 62)<=i/\i < 2 ^ 62:=by have:=zCq.mp h; omega
theorem inR63{i:Int}(h:inR 9223372036854775807 i=true):-(2 ^ 63)<=i/\i < 2 ^ 63:=by have:=zCq.mp h; omega
theorem zC4{b n:Nat}(h:n<=b):inR b (n:Int)=true:=zCq.mpr ⟨by omega,by omega⟩
def opII(g:Int->Int->V):En->S->S->Option S:=fun _ a b=>(iS a).bind fun i=>(iS b).bind fun j=>some (.v (.a (g i j)))
def opIIc(c:Int->Int->Prop) [∀ i j,Decidable (c i j)] (g:Int->Int->V):En->S->S->Option S:=fun _ a b=>(iS a).bind fun i=>(iS b).bind fun j=>if c i j then some (.v (.a (g i j))) else none
theorem zBU{K:Fg}{g:Int->Int->V}:SimR2 K (rI0 g) (opII g):=by
 intro C w Γ σ H x y a b s Q R ox oy e k
 obtain⟨i,e1,e⟩:=bind_some e
 obtain⟨j,e2,e⟩:=bind_some e
 cases e
 exact⟨i,j,zBu ox e1,zBu oy e2,k _ H R .refl SOk.atom trivial⟩
theorem zBi{K:Fg}{c:Int->Int->Prop} [∀ i j,Decidable (c i j)] {g:Int->Int->V}:SimR2 K (rI c g) (opIIc c g):=by
 intro C w Γ σ H x y a b s Q R ox oy e k
 obtain⟨i,e1,e⟩:=bind_some e
 obtain⟨j,e2,e⟩:=bind_some e
 split at e
 ·rename_i hc
  cases e
  exact⟨i,j,zBu ox e1,zBu oy e2,hc,k _ H R .refl SOk.atom trivial⟩
 ·cases e
theorem zL3{i j:Int}:((inR 18446744073709551615 i && inR 18446744073709551615 (-i)) || (inR 18446744073709551615 j && inR 18446744073709551615 (-j)))=true ↔ CMul i j:=by
 unfold CMul
 simp only[Bool.or_eq_true,Bool.and_eq_true,zCq]
 omega
instance (i j:Int):Decidable (CMul i j):=decidable_of_iff _ zL3
instance (i j:Int):Decidable (CDiv i j):=by unfold CDiv; infer_instance
instance (i j:Int):Decidable (CPow i j):=by unfold CPow; infer_instance
theorem SimR2.or{K:Fg}{r r':R2}{h h':En->S->S->Option S}(a:SimR2 K r h)(b:SimR2 K r' h'):SimR2 K (fun x y H Q=>r x y H Q\/r' x y H Q) (fun Γ x y=>(h Γ x y).or (h' Γ x y)):=by
 intro C w Γ σ H x y s1 s2 s Q R ox oy e k
 dsimp only at e
 cases q:h Γ s1 s2 with
 | some z =>
  rw[q,Option.some_or]at e
  cases e
  exact .inl (a C w Γ σ H x y s1 s2 _ Q R ox oy q k)
 | none =>
  rw[q,Option.none_or]at e
  exact .inr (b C w Γ σ H x y s1 s2 _ Q R ox oy e k)
def addStr:En->S->S->Option S:=fun _ a b=>match a,b with
 | .v (.a (.str x)),.v (.a (.str y))=>gd (x.length+y.length) (.v (.a (.str (x++y))))
 | _,_=>none
def rAddStr:R2:=fun x y H Q=>∃ i j,x=.str i/\y=.str j/\i.length+j.length<=sizeLine/\Q (.str (i++j)) H
theorem zFo{K:Fg}:SimR2 K rAddStr addStr:=by
 intro C w Γ σ H x y a b s Q R ox oy e k
 unfold addStr at e
 split at e
 ·obtain⟨h,e⟩:=zBG e
  cases e
  exact⟨_,_,ox.inva,oy.inva,h,k _ H R .refl SOk.atom trivial⟩
 ·cases e
def rCatS(K:Fg):R2:=fun x y H Q=>∃ a b xs ys,x=.ref a/\y=.ref b/\Tp K H a xs/\Tp K H b ys/\xs.length+ys.length<=sizeLine/\∀ p H',Same H H'->Tp K H' p (xs++ys)->Q (.ref p) H'
open PySem.Spec PyProof.Rows in
theorem zMK{X:Cx}:OpR X (binaryOp .Add) (rCatS X.K):=by
 intro pins s σ H x y v u Q I rx ry h
 obtain⟨a,b,xs,ys,rfl,rfl,ha,hb,hz,q⟩:=h
 cases rx
 cases ry
 obtain⟨its,r1,t1,z1⟩:=I.tuple ha.sq
 obtain⟨its2,r2,t2,z2⟩:=I.tuple hb.sq
 by_cases hx:xs=[]
 ·subst hx
  have e:its=[]:=by have:=r1.length; simpa using this.symm
  subst e
  obtain⟨⟨cls,dd,data,sl⟩,ho,hc,n,hd⟩:=id t1
  obtain⟨⟨cls2,dd2,data2,sl2⟩,ho2,hc2,n2,hd2⟩:=id t2
  simp only at hc hd hc2 hd2
  subst hc hd hc2 hd2
  refine concat_meets ⟨_,ho,rfl⟩ ⟨_,ho2,rfl⟩ noFill_tuple_add seq_tuple_add PySem.F.slot_tuple_add PySem.F.entry_tuple_add (PySem.F.args_tuple_add_2 _ _)
   (tuple_addW0 a b _ its2.toArray n n2 dd dd2 sl sl2 (by simp)) ⟨ho,ho2,?_⟩
  exact⟨.ref b,H,I,rfl,q b H (Same.refl H) (by simpa using hb)⟩
 ·have hne:its≠[]:=fun e=>hx (by have:=r1.length; rw[e]at this; simpa using this)
  refine HT.cat_tup t1 t2 hne (fun e=>?_) (fun e=>?_) (by rw[← r1.length,← r2.length]; exact hz)
  ·have ey:ys=[]:=by have:=r2.length; rw[e]at this; simpa using this
   subst ey
   exact⟨.ref a,H,I,rfl,q a H (Same.refl H) (by simpa using ha)⟩
  ·have hf:H s.heap.objs.size=none:=I.hok.fresh (Nat.le_refl _)
   refine⟨.ref s.heap.objs.size,_,I.laid (t':=s.toks) (fun b o e=>Heap.get?_push_of_some _ e) (Nat.le_refl _) (show ObjOk X.prog X.w _ _ _ (.tup (xs++ys)) from ⟨by simpa using hz,its++its2,r1.append r2,TupD.new _ _⟩),rfl,q _ _ (Same.upd hf) (.inl zAN)⟩
def addTup:En->S->S->Option S:=fun _ a b=>match a,b with
 | .v (.t xs),.v (.t ys)=>gd (xs.length+ys.length) (.v (.t (xs++ys)))
 | _,_=>none
theorem zFU{K:Fg}:SimR2 K (rCatS K) addTup:=by
 intro C w Γ σ H x y a b s Q R ox oy e k
 unfold addTup at e
 split at e
 ·obtain⟨h,e⟩:=zBG e
  cases e
  obtain⟨p,vs,rfl,h1,i1⟩:=ox.invt
  obtain⟨q,us,rfl,h2,i2⟩:=oy.invt
  refine⟨p,q,vs,us,rfl,rfl,h1,h2,by rw[i1.len,i2.len]; exact h,fun c H' sm hc=>k _ H' (R.same sm) (.of_same sm) ?_ trivial⟩
  have ev:Evo w.L H H':=.of_same sm
  show Im K H' (.ref c) (.t _)
  unfold Im
  exact⟨c,_,rfl,hc,(i1.evo ev R.lst).app (i2.evo ev R.lst)⟩
 ·cases e
def addLst:En->S->S->Option S:=fun Γ a b=>(lsOf Γ a).bind fun xs=>(lsOf Γ b).bind fun ys=>gd (xs.length+ys.length) (.l (xs++ys))
theorem zGB{K:Fg}:SimR2 K rCat addLst:=by
 intro C w Γ σ H x y a b s Q R ox oy e k
 obtain⟨xs,e1,e⟩:=bind_some e
 obtain⟨ys,e2,e⟩:=bind_some e
 obtain⟨h,e⟩:=zBG e
 cases e
 obtain⟨p,vs,rfl,h1,i1⟩:=zFF R ox e1
 obtain⟨q,us,rfl,h2,i2⟩:=zFF R oy e2
 exact⟨p,q,vs,us,rfl,rfl,h1,h2,by rw[i1.len,i2.len]; exact h,fun c hc=>k _ _ (R.new hc) (Evo.new hc) (R.newl hc (i1.app i2)) ⟨c,rfl,hc⟩⟩
def addS:En->S->S->Option S:=fun Γ x y=>((opII fun i j=>.int (i+j)) Γ x y).or ((addTup Γ x y).or ((addLst Γ x y).or (addStr Γ x y)))
def rAddS(K:Fg):R2:=fun x y H Q=>rI0 (fun i j=>.int (i+j)) x y H Q\/rCatS K x y H Q\/rCat x y H Q\/rAddStr x y H Q
theorem zI8{K:Fg}:SimR2 K (rAddS K) addS:=zBU.or (zFU.or (zGB.or zFo))
theorem zMX{X:Cx}:OpR X (binaryOp .Add) (rAddS X.K):=zM1.or (zMK.or (zNS.or zH2))
def fitM(n:Nat)(k:Int):Bool:=inR 9223372036854775807 k && Nat.ble (n * k.toNat) sizeLine
def mulLst:En->S->S->Option S:=fun Γ a b=>(lsOf Γ a).bind fun xs=>(iS b).bind fun k=>if fitM xs.length k=true then some (.l (List.replicate k.toNat xs).flatten) else none
theorem Ims.rep{K:Fg}{H:Hp}{vs:List V}{ts:List T}(h:Ims K H vs ts):∀ n:Nat,Ims K H (List.replicate n vs).flatten (List.replicate n ts).flatten
 | 0=>.nil
 | n+1=>by rw[List.replicate_succ,List.replicate_succ,List.flatten_cons,List.flatten_cons]; exact h.app (h.rep n)
theorem zFk{K:Fg}:SimR2 K rRep mulLst:=by
 intro C w Γ σ H x y a b s Q R ox oy e k
 obtain⟨xs,e1,e⟩:=bind_some e
 obtain⟨n,e2,e⟩:=bind_some e
 split at e
 ·rename_i h
  cases e
  unfold fitM at h
  rw[Bool.and_eq_true]at h
  have h0:=inR63 h.1
  have h3:=Nat.le_of_ble_eq_true h.2
  obtain⟨p,vs,rfl,h1,i1⟩:=zFF R ox e1
  exact⟨p,n,vs,rfl,zBu oy e2,h1,h0.1,h0.2,by rw[i1.len]; exact h3,fun c hc=>k _ _ (R.new hc) (Evo.new hc) (R.newl hc (i1.rep _)) ⟨c,rfl,hc⟩⟩
 ·cases e
def mulS:En->S->S->Option S:=fun Γ x y=>(opIIc CMul (fun i j=>.int (i * j)) Γ x y).or (mulLst Γ x y)
def rMulS:R2:=fun x y H Q=>rI CMul (fun i j=>.int (i * j)) x y H Q\/rRep x y H Q
theorem zIb{K:Fg}:SimR2 K rMulS mulS:=zBi.or zFk
theorem zLf{X:Cx}:OpR X (binaryOp .Mult) rMulS:=zNO.or zNI
def modS:En->S->S->Option S:=opIIc (fun _ j=>0 < j) fun i j=>.int (i % j)
def fdivS:En->S->S->Option S:=opIIc CDiv fun i j=>.int (i / j)
def powS:En->S->S->Option S:=opIIc CPow fun i j=>.int (i ^ j.toNat)
def subS:En->S->S->Option S:=opII fun i j=>.int (i - j)
def ltS:En->S->S->Option S:=opII fun i j=>.bl (decide (i < j))
def leS:En->S->S->Option S:=opII fun i j=>.bl (decide (i<=j))
def gtS:En->S->S->Option S:=opII fun i j=>.bl (decide (j < i))
def geS:En->S->S->Option S:=opII fun i j=>.bl (decide (j<=i))
def negS:En->S->Option S:=fun _ a=>(iS a).map fun i=>mkI (-i)
def ixS:En->S->S->Option S:=fun Γ a b=>(iS b).bind fun i=>match a with
 | .v (.t xs)=>(atI xs i).map .v
 | .v (.a (.str z))=>if z.length<=sizeLine then (atI z.cps.toList i).map fun c=>.v (.a (.str ⟨#[c]⟩)) else none
 | a=>(sqlOf Γ a).bind fun xs=>(atI xs i).map .v
theorem zHL{K:Fg}{H:Hp}{vs:List V}{ts:List T}{i:Int}{t:T}(h:Ims K H vs ts)(e:atI ts i=some t):∃ v,atI vs i=some v/\Im K H v t:=by
 unfold atI at e ⊢
 rw[h.len]
 obtain⟨j,e1,e⟩:=bind_some e
 obtain⟨v,e2,hv⟩:=h.get e
 exact⟨v,by rw[e1]; exact e2,hv⟩
theorem zKN{K:Fg}:SimR2 K (rIx K) ixS:=by
 intro C w Γ σ H x y a b s Q R ox oy e k
 obtain⟨i,e1,e⟩:=bind_some e
 have hy:=zBu oy e1
 split at e
 ·rename_i xs
  obtain⟨t,e2,e⟩:=map_some e
  cases e
  obtain⟨p,vs,rfl,h1,i1⟩:=ox.invt
  obtain⟨v,e3,hv⟩:=zHL i1 e2
  exact .inr (.inl ⟨p,vs,i,v,rfl,hy,h1.sq,e3,k v H R .refl hv trivial⟩)
 ·rename_i z
  split at e
  ·rename_i hz
   obtain⟨c,e2,e⟩:=map_some e
   cases e
   exact .inr (.inr ⟨_,i,c,ox.inva,hy,hz,e2,k _ H R .refl SOk.atom trivial⟩)
  ·cases e
 ·obtain⟨xs,e2,e⟩:=bind_some e
  obtain⟨t,e3,e⟩:=map_some e
  cases e
  obtain⟨p,vs,rfl,h1,i1⟩:=zAi R ox e2
  obtain⟨v,e4,hv⟩:=zHL i1 e3
  exact .inl ⟨p,vs,i,v,rfl,hy,h1,e4,k v H R .refl hv trivial⟩
def lenS:En->List S->Option S:=fun Γ as=>match as with
 | [.v (.t xs)]=>some (mkI xs.length)
 | [.v (.a (.str z))]=>if z.length<=sizeLine then some (mkI z.length) else none
 | [a]=>(sqlOf Γ a).map fun xs=>mkI xs.length
 | _=>none
def rLenS(K:Fg):List V->Hp->VK->Prop:=fun xs H Q=>(∃ p ys,xs=[.ref p]/\(SqL K H p ys\/SqT K H p ys)/\Q (.int ys.length) H)\/(∃ z,xs=[.str z]/\z.length<=sizeLine/\Q (.int z.length) H)
theorem soks1{K:Fg}{C:Fr}{w:W}{σ:St}{H:Hp}{vs:List V}{a:S}(h:SOks K C w σ H vs [a]):∃ v,vs=[v]/\SOk K C w σ H v a:=by
 match vs,h with
 | [v],h=>exact⟨v,rfl,h.1⟩
theorem soks2{K:Fg}{C:Fr}{w:W}{σ:St}{H:Hp}{vs:List V}{a b:S}(h:SOks K C w σ H vs [a,b]):∃ v u,vs=[v,u]/\SOk K C w σ H v a/\SOk K C w σ H u b:=by
 match vs,h with
 | [v,u],h=>exact⟨v,u,rfl,h.1,h.2.1⟩
theorem zJD{K:Fg}:SimRs K (rLenS K) lenS:=by
 intro C w Γ σ H vs as s Q R o e k
 unfold lenS at e
 split at e
 ·cases e
  obtain⟨v,rfl,o1⟩:=soks1 o
  obtain⟨p,us,rfl,h1,i1⟩:=o1.invt
  refine .inl ⟨p,us,rfl,.inr h1.sq,?_⟩
  rw[i1.len]
  exact k _ H R .refl SOk.atom trivial
 ·rename_i z
  split at e
  ·rename_i hz
   cases e
   obtain⟨v,rfl,o1⟩:=soks1 o
   exact .inr ⟨z,by rw[o1.inva],hz,k _ H R .refl SOk.atom trivial⟩
  ·cases e
 ·obtain⟨xs,e1,e⟩:=map_some e
  cases e
  obtain⟨v,rfl,o1⟩:=soks1 o
  obtain⟨p,us,rfl,h1,i1⟩:=zAi R o1 e1
  refine .inl ⟨p,us,rfl,.inl h1,?_⟩
  rw[i1.len]
  exact k _ H R .refl SOk.atom trivial
 ·cases e
theorem zJJ{X:Cx}:CallR X (.builtin "len") (rLenS X.K):=zF9.or zFx
def seqS(Γ:En):S->Option (List T)
 | .v (.t xs)=>some xs
 | a=>sqlOf Γ a
theorem zI0{K:Fg}{C:Fr}{w:W}{Γ:En}{σ:St}{H:Hp}{x:V}{s:S}{xs:List T}(R:Rep K C w Γ σ H)(o:SOk K C w σ H x s)(e:seqS Γ s=some xs):∃ p vs,x=.ref p/\(SqL K H p vs\/SqT K H p vs)/\Ims K H vs xs:=by
 unfold seqS at e
 split at e
 ·cases e
  obtain⟨p,us,rfl,h1,i1⟩:=o.invt
  exact⟨p,us,rfl,.inr h1.sq,i1⟩
 ·obtain⟨p,us,rfl,h1,i1⟩:=zAi R o e
  exact⟨p,us,rfl,.inl h1,i1⟩
def listS:En->List S->Option S:=fun Γ as=>match as with
 | [a]=>(seqS Γ a).map .l
 | _=>none
theorem zHn{K:Fg}:SimRs K (fun xs H Q=>∃ p ys,xs=[.ref p]/\(SqL K H p ys\/SqT K H p ys)/\∀ l,H l=none->Q (.ref l) (upd H l (.lst ys))) listS:=by
 intro C w Γ σ H vs as s Q R o e k
 unfold listS at e
 split at e
 ·obtain⟨xs,e1,e⟩:=map_some e
  cases e
  obtain⟨v,rfl,o1⟩:=soks1 o
  obtain⟨p,us,rfl,h1,i1⟩:=zI0 R o1 e1
  exact⟨p,us,rfl,h1,fun l hl=>k _ _ (R.new hl) (Evo.new hl) (R.newl hl i1) ⟨l,rfl,hl⟩⟩
 ·cases e
def tupleS:En->List S->Option S:=fun Γ as=>match as with
 | [.v (.t xs)]=>some (.v (.t xs))
 | [a]=>(sqlOf Γ a).map fun xs=>.v (.t xs)
 | _=>none
theorem zGc{K:Fg}:SimRs K (fun xs H Q=>∃ p ys,xs=[.ref p]/\((SqL K H p ys/\∀ l,H l=none->Q (.ref l) (upd H l (.tup ys)))\/(SqT K H p ys/\Q (.ref p) H))) tupleS:=by
 intro C w Γ σ H vs as s Q R o e k
 unfold tupleS at e
 split at e
 ·cases e
  obtain⟨v,rfl,o1⟩:=soks1 o
  have o2:=o1
  obtain⟨p,us,rfl,h1,i1⟩:=o1.invt
  exact⟨p,us,rfl,.inr ⟨h1.sq,k _ H R .refl o2 trivial⟩⟩
 ·obtain⟨xs,e1,e⟩:=map_some e
  cases e
  obtain⟨v,rfl,o1⟩:=soks1 o
  obtain⟨p,us,rfl,h1,i1⟩:=zAi R o1 e1
  exact⟨p,us,rfl,.inl ⟨h1,fun l hl=>k _ _ (R.new hl) (Evo.new hl) (R.newt hl i1) trivial⟩⟩
 ·cases e
abbrev DO:=En->Option (Option Int×En)
def SimO(K:Fg)(t:TO)(f:DO):Prop:=∀ (C:Fr) (w:W) (Γ:En) (σ:St) (H:Hp) (i:Option Int) (Γ':En) (Q:Option Int->Hp->Prop),Rep K C w Γ σ H->f Γ=some (i,Γ')->(∀ H',Rep K C w Γ' σ H'->Evo w.L H H'->Q i H')->t σ H Q
def dNoPart:DO:=fun Γ=>some (none,Γ)
def dPart(f:DE):DO:=fun Γ=>(f Γ).bind fun p=>(iS p.1).map fun i=>(some i,p.2)
theorem zHg{K:Fg}:SimO K tNoPart dNoPart:=fun C w Γ σ H i Γ' Q R e k=>by cases e; exact k H R .refl
theorem zKi{K:Fg}{t:TE}{f:DE}(h:SimE K t f):SimO K (tPart t) (dPart f):=by
 intro C w Γ σ H i Γ' Q R e k
 obtain⟨p,e1,e⟩:=bind_some e
 obtain⟨i,e2,e⟩:=map_some e
 cases e
 exact h C w Γ σ H p.1 p.2 _ R e1 fun v H1 R1 ev o _=>⟨i,zBu o e2,k H1 R1 ev⟩
def cutT(xs:List T)(lo hi:Option Int):List T:=(xs.drop (HT.sIx xs.length 0 lo)).take (HT.sIx xs.length xs.length hi - HT.sIx xs.length 0 lo)
theorem Ims.cut{K:Fg}{H:Hp}{vs:List V}{ts:List T}(h:Ims K H vs ts)(lo hi:Option Int):Ims K H (cutV vs lo hi) (cutT ts lo hi):=by
 unfold cutV cutT
 rw[h.len]
 exact (h.drop _).take _
def slS(Γ:En)(lo hi:Option Int):S->Option S
 | .v (.t xs)=>some (.v (.t (cutT xs lo hi)))
 | .v (.a _)=>none
 | a=>(sqlOf Γ a).map fun xs=>.l (cutT xs lo hi)
def dSl(f:DE)(lo hi:DO):DE:=fun Γ=>(f Γ).bind fun p=>(lo p.2).bind fun l=>(hi l.2).bind fun h=>(slS h.2 l.1 h.1 p.1).map fun s=>(s,h.2)
def rSlTS(K:Fg):V->Option Int->Option Int->Hp->VK->Prop:=fun x lo hi H Q=>∃ a xs,x=.ref a/\Tp K H a xs/\∀ p H',Same H H'->Tp K H' p (cutV xs lo hi)->Q (.ref p) H'
theorem zMa{X:Cx}:SlR X (rSlTS X.K):=by
 intro pins s σ H x v vl vu lo hi sl Q I rx hs pl pu h
 obtain⟨a,xs,rfl,hx,q⟩:=h
 cases rx
 obtain⟨its,r,ht,hz⟩:=I.tuple hx.sq
 have hlen:its.toArray.size=xs.length:=by rw[List.size_toArray]; exact r.length.symm
 refine⟨"tuple",_,PyProof.Rows.slot_tuple_getitem.lookup,ht.typeIs,?_⟩
 by_cases hw:HT.sIx xs.length 0 lo=0/\HT.sIx xs.length xs.length hi=xs.length
 ·refine zCa ht hs pl pu (by rw[hlen]; exact hw) ⟨.ref a,H,I,rfl,q a H (Same.refl H) ?_⟩
  unfold cutV
  rw[hw.1,hw.2,List.drop_zero,Nat.sub_zero,List.take_of_length_le (Nat.le_refl _)]
  exact hx
 ·refine HT.qY ht hs pl pu (by rw[hlen]; exact hw) ?_ (by rw[hlen]; exact hz)
  rw[hlen]
  have hf:H s.heap.objs.size=none:=I.hok.fresh (Nat.le_refl _)
  refine⟨.ref s.heap.objs.size,_,I.laid (t':=s.toks) (o:=.tup (cutV xs lo hi)) (fun b ob q=>Heap.get?_push_of_some _ q) (Nat.le_refl _) ?_,rfl,q _ _ (Same.upd hf) (.inl zAN)⟩
  exact⟨Nat.le_trans (zDG xs lo hi) hz,_,(r.drop (HT.sIx xs.length 0 lo)).take (HT.sIx xs.length xs.length hi - HT.sIx xs.length 0 lo),TupD.new _ _⟩
def rSlS(K:Fg):V->Option Int->Option Int->Hp->VK->Prop:=fun x lo hi H Q=>rSlTS K x lo hi H Q\/rSlL K x lo hi H Q
theorem sl_S{X:Cx}:SlR X (rSlS X.K):=zMa.or zMc
theorem zOD{K:Fg}{te:TE}{f:DE}{tl th:TO}{lo hi:DO}(he:SimE K te f)(hl:SimO K tl lo)(hh:SimO K th hi):SimE K (tSl (rSlS K) te tl th) (dSl f lo hi):=by
 intro C w Γ σ H s Γ' Q R e k
 obtain⟨⟨a,G1⟩,e1,e⟩:=bind_some e
 obtain⟨⟨i,G2⟩,e2,e⟩:=bind_some e
 obtain⟨⟨j,G3⟩,e3,e⟩:=bind_some e
 obtain⟨z,e4,e⟩:=map_some e
 cases e
 dsimp only at e4
 refine he C w Γ σ H a G1 _ R e1 fun v H1 R1 ev1 o1 n1=>?_
 refine hl C w G1 σ H1 i G2 _ R1 e2 fun H2 R2 ev2=>?_
 refine hh C w G2 σ H2 j G3 _ R2 e3 fun H3 R3 ev3=>?_
 have o3:=(o1.evo ev2 R1.lst).evo ev3 R2.lst
 have ev:=(ev1.trans ev2).trans ev3
 unfold slS at e4
 split at e4
 ·cases e4
  obtain⟨p,us,rfl,h1,i1⟩:=o3.invt
  refine .inl ⟨p,us,rfl,h1,fun c H' sm hc=>k _ H' (R3.same sm) (ev.trans (.of_same sm)) ?_ trivial⟩
  show Im K H' (.ref c) (.t _)
  unfold Im
  exact⟨c,_,rfl,hc,(i1.evo (.of_same sm) R3.lst).cut _ _⟩
 ·cases e4
 ·obtain⟨xs,e5,e4⟩:=map_some e4
  cases e4
  obtain⟨p,us,rfl,h1,i1⟩:=zAi R3 o3 e5
  exact .inr ⟨p,us,rfl,h1,fun c hc=>k _ _ (R3.new hc) (ev.trans (Evo.new hc)) (R3.newl hc (i1.cut _ _)) ⟨c,rfl,zAa ev R3.lst hc⟩⟩
def SimMut(K:Fg)(r:V->List V->Hp->VK->Prop)(h:En->List T->List S->Option (T×List T)):Prop:=∀ (C:Fr) (w:W) (Γ:En) (σ:St) (H:Hp) (l:Addr) (us:List V) (xs:List T) (vs:List V) (as:List S) (t:T) (ys:List T) (Q:VK),Rep K C w Γ σ H->H l=some (.lst us)->Ims K H us xs->us.length<=sizeLine->SOks K C w σ H vs as->h Γ xs as=some (t,ys) ->
 (∀ v us',Ims K H us' ys->Im K H v t->Q v (upd H l (.lst us')))->r (.ref l) vs H Q
def isLs(Γ:En)(i:Nat):Bool:=match Γ[i]? with
 | some (some (.l _))=>true
 | _=>false
def dMut(i:Nat)(h:En->List T->List S->Option (T×List T))(fa:DA):DE:=fun Γ=>if isLs Γ i=true then (fa Γ).bind fun p=>match p.2[i]? with
 | some (some (.l xs))=>(gd xs.length ()).bind fun _=>(h p.2 xs p.1).map fun q=>(.v q.1,p.2.set i (some (.l q.2)))
 | _=>none
 else none
theorem zHR{K:Fg}{C:Fr}{w:W}{Γ:En}{σ:St}{H:Hp}{i:Nat}(R:Rep K C w Γ σ H)(h:isLs Γ i=true):∃ p vs,σ[i]?=some (some (.ref p))/\H p=some (.lst vs):=by
 unfold isLs at h
 split at h
 ·rename_i xs e
  obtain⟨v,e1,p,vs,rfl,_,h1,_⟩:=R.val i _ e
  exact⟨p,vs,e1,h1⟩
 ·cases h
theorem zHO{K:Fg}{i:Nat}{r:V->List V->Hp->VK->Prop}{h:En->List T->List S->Option (T×List T)}{ta:TA}{fa:DA}(hr:SimMut K r h)(ha:SimA K ta fa):SimE K (tBM K "list" r (tVar i) ta) (dMut i h fa):=by
 intro C w Γ σ H s Γ' Q R e k
 unfold dMut at e
 split at e
 rotate_left
 ·cases e
 rename_i hl
 obtain⟨p,vs,e1,e2⟩:=zHR R hl
 obtain⟨⟨as,G1⟩,e3,e⟩:=bind_some e
 dsimp only at e
 split at e
 rotate_left
 ·cases e
 rename_i xs hx
 obtain⟨_,eg,e⟩:=bind_some e
 obtain⟨hsz,_⟩:=zBG eg
 obtain⟨⟨t,ys⟩,e4,e⟩:=map_some e
 cases e
 refine⟨.ref p,e1,.inl ⟨rfl,vs,SqL.of e2⟩,?_⟩
 refine ha C w Γ σ H as G1 _ R e3 fun us H1 R1 ev1 o1 n1=>?_
 obtain⟨v,s1,q,ws,rfl,m1,h1,i1⟩:=R1.val i _ hx
 rw[e1]at s1; cases s1
 refine hr C w G1 σ H1 p ws xs us as t ys _ R1 h1 i1 (by rw[i1.len]; exact hsz) o1 e4 fun v us' hu hv=>?_
 obtain⟨R2,ev2⟩:=R1.put hx e1 hu
 exact k v _ R2 (ev1.trans ev2) (hv.evo ev2 R1.lst) trivial
theorem zLH{K:Fg}{i:Nat}{r:V->List V->Hp->VK->Prop}{h:En->List T->List S->Option (T×List T)}(hr:SimMut K r h):SimE K (tBM0 K "list" r (tVar i)) (dMut i h qQ):=by
 intro C w Γ σ H s Γ' Q R e k
 have:=zHO (i:=i) hr (zHS (K:=K)) C w Γ σ H s Γ' Q R e k
 obtain⟨v,e1,e2,e3⟩:=this
 exact⟨v,e1,e2,e3⟩
def hAppend:En->List T->List S->Option (T×List T):=fun _ xs as=>match as with
 | [.v t]=>if xs.length < sizeLine then some (.a .non,xs++[t]) else none
 | _=>none
theorem zCM{K:Fg}:SimMut K rAppend hAppend:=by
 intro C w Γ σ H l us xs vs as t ys Q R hl hi hz o e k
 unfold hAppend at e
 split at e
 ·rename_i t'
  split at e
  ·rename_i hn
   cases e
   obtain⟨v,rfl,o1⟩:=soks1 o
   exact⟨l,us,v,rfl,rfl,hl,by rw[hi.len]; exact hn,k _ _ (hi.app (.one o1)) Im.atom⟩
  ·cases e
 ·cases e
def hPop:En->List T->List S->Option (T×List T):=fun _ xs as=>match as with
 | []=>(xs[xs.length - 1]?).map fun t=>(t,xs.dropLast)
 | _=>none
theorem Ims.dropLast{K:Fg}{H:Hp}{vs:List V}{ts:List T}(h:Ims K H vs ts):Ims K H vs.dropLast ts.dropLast:=by
 rw[List.dropLast_eq_take,List.dropLast_eq_take,h.len]; exact h.take _
theorem soks0{K:Fg}{C:Fr}{w:W}{σ:St}{H:Hp}{vs:List V}(h:SOks K C w σ H vs []):vs=[]:=by
 match vs,h with
 | [],_=>rfl
theorem zHM{K:Fg}:SimMut K rPop hPop:=by
 intro C w Γ σ H l us xs vs as t ys Q R hl hi hz o e k
 unfold hPop at e
 split at e
 ·obtain⟨t',e1,e⟩:=map_some e
  cases e
  obtain⟨v,e2,hv⟩:=hi.get e1
  exact⟨l,us,v,rfl,soks0 o,hl,by rw[hi.len]; exact e2,k _ _ hi.dropLast hv⟩
 ·cases e
def hPopAt:En->List T->List S->Option (T×List T):=fun _ xs as=>match as with
 | [.v (.a (.int i))]=>if inR 9223372036854775807 i=true then (seqIndex? i xs.length).bind fun k=>(xs[k]?).map fun t=>(t,xs.eraseIdx k) else none
 | _=>none
theorem zJx{K:Fg}:SimMut K rPopAt hPopAt:=by
 intro C w Γ σ H l us xs vs as t ys Q R hl hi hz o e k
 unfold hPopAt at e
 split at e
 ·rename_i i
  split at e
  ·rename_i hb
   have hb:=inR63 hb
   obtain⟨j,e1,e⟩:=bind_some e
   obtain⟨t',e2,e⟩:=map_some e
   cases e
   obtain⟨v,rfl,o1⟩:=soks1 o
   obtain⟨y,e3,hy⟩:=hi.get e2
   exact⟨l,us,i,j,y,rfl,by rw[o1.inva],hl,hb.1,hb.2,by rw[hi.len]; exact e1,e3,k _ _ (hi.erase _) hy⟩
  ·cases e
 ·cases e
def hExtend:En->List T->List S->Option (T×List T):=fun Γ xs as=>match as with
 | [a]=>(lsOf Γ a).bind fun zs=>gd (xs.length+zs.length) (.a .non,xs++zs)
 | _=>none
theorem zD4{K:Fg}:SimMut K rExtend hExtend:=by
 intro C w Γ σ H l us xs vs as t ys Q R hl hi hz o e k
 unfold hExtend at e
 split at e
 ·obtain⟨zs,e1,e⟩:=bind_some e
  obtain⟨hg,e⟩:=zBG e
  cases e
  obtain⟨v,rfl,o1⟩:=soks1 o
  obtain⟨p,ws,rfl,h1,i1⟩:=zFF R o1 e1
  exact⟨l,p,us,ws,rfl,rfl,hl,h1,by rw[hi.len,i1.len]; exact hg,k _ _ (hi.app i1) Im.atom⟩
 ·cases e
def dSetIx(i:Nat)(fe fi:DE):DS:=fun Γ=>(fe Γ).bind fun p=>p.1.tree.bind fun t=>if isLs p.2 i=true then (fi p.2).bind fun q=>(iS q.1).bind fun k=>match q.2[i]? with
  | some (some (.l xs))=>(ixN xs.length k).map fun j=>.nx (q.2.set i (some (.l (xs.set j t))))
  | _=>none
 else none
theorem zHy{K:Fg}{ip:Option Nat}{i:Nat}{te ti:TE}{fe fi:DE}(he:SimE K te fe)(hi:SimE K ti fi):SimS K ip (tAsg te (gSub (tVar i) ti rSetL)) (dSetIx i fe fi):=by
 intro C w Γ σ H D o hp R e k
 obtain⟨⟨s,G1⟩,e1,e⟩:=bind_some e
 obtain⟨t,e2,e⟩:=bind_some e
 dsimp only at e e2
 split at e
 rotate_left
 ·cases e
 rename_i hl
 obtain⟨⟨s2,G2⟩,e3,e⟩:=bind_some e
 obtain⟨n,e4,e⟩:=bind_some e
 dsimp only at e e4
 split at e
 rotate_left
 ·cases e
 rename_i xs hx
 obtain⟨j,e5,e⟩:=map_some e
 subst e
 cases s with
 | l _=>cases e2
 | s _=>cases e2
 | d _=>cases e2
 | v t' =>
  cases e2
  refine he C w Γ σ H _ G1 _ R e1 fun v H1 R1 ev1 o1 n1=>?_
  obtain⟨p,vs,s1,h1⟩:=zHR R1 hl
  refine⟨.ref p,s1,?_⟩
  refine hi C w G1 σ H1 s2 G2 _ R1 e3 fun v2 H2 R2 ev2 o2 n2=>?_
  obtain⟨v3,s3,q,ws,rfl,m3,h3,i3⟩:=R2.val i _ hx
  rw[s1]at s3; cases s3
  have o1':Im K H1 v t:=o1
  exact⟨p,ws,n,j,rfl,zBu o2 e4,h3,by rw[i3.len]; exact e5,k w σ _ (R2.put hx s1 (i3.set j (o1'.evo ev2 R1.lst))).1⟩
def boolsOf:List T->Option (List Bool)
 | []=>some []
 | .a (.bl b)::r=>(boolsOf r).map fun bs=>b::bs
 | _=>none
theorem zFZ{K:Fg}{H:Hp}:∀ {vs:List V} {ts:List T} {bs:List Bool},Ims K H vs ts->boolsOf ts=some bs->vs=bs.map V.bl
 | _,[],_,h,e=>by cases e; exact h.inv0
 | _,.a (.bl b)::r,_,h,e=>by
  obtain⟨v,us,rfl,h1,h2⟩:=h.inv
  obtain⟨bs,e1,e⟩:=map_some e
  cases e
  rw[h1.inva,zFZ h2 e1]; rfl
 | _,.t _::_,_,_,e=>by cases e
 | _,.l _::_,_,_,e=>by cases e
 | _,.f _::_,_,_,e=>by cases e
 | _,.x _ _::_,_,_,e=>by cases e
 | _,.m _ _::_,_,_,e=>by cases e
 | _,.a .non::_,_,_,e=>by cases e
 | _,.a (.int _)::_,_,_,e=>by cases e
 | _,.a (.str _)::_,_,_,e=>by cases e
 | _,.a (.byt _)::_,_,_,e=>by cases e
 | _,.a (.flt _)::_,_,_,e=>by cases e
 | _,.a (.ref _)::_,_,_,e=>by cases e
 | _,.a (.ty _)::_,_,_,e=>by cases e
def allS:En->List S->Option S:=fun Γ as=>match as with
 | [a]=>(sqlOf Γ a).bind fun xs=>(boolsOf xs).map fun bs=>mkB (bs.all id)
 | _=>none
theorem zJC{K:Fg}:SimRs K (fun xs H Q=>∃ (p:Addr) (bs:List Bool),xs=[.ref p]/\SqL K H p (bs.map V.bl)/\Q (.bl (bs.all id)) H) allS:=by
 intro C w Γ σ H vs as s Q R o e k
 unfold allS at e
 split at e
 ·obtain⟨xs,e1,e⟩:=bind_some e
  obtain⟨bs,e2,e⟩:=map_some e
  cases e
  obtain⟨v,rfl,o1⟩:=soks1 o
  obtain⟨p,us,rfl,h1,i1⟩:=zAi R o1 e1
  exact⟨p,bs,rfl,by rw[← zFZ i1 e2]; exact h1,k _ H R .refl SOk.atom trivial⟩
 ·cases e
def tyN(Γ:En):S->Option String
 | .v (.t _)=>some "tuple"
 | .v (.a (.int _))=>some "int"
 | .v (.a (.bl _))=>some "bool"
 | .v (.a (.str _))=>some "str"
 | .v (.a .non)=>some "NoneType"
 | .v (.l _)=>some "list"
 | .v _=>none
 | a=>(sqlOf Γ a).map fun _=>"list"
def TyS(K:Fg)(H:Hp)(n:String):V->Prop
 | .int _=>n="int"
 | .bl _=>n="bool"
 | .str _=>n="str"
 | .non=>n="NoneType"
 | .ref p=>(n="list"/\∃ xs,SqL K H p xs)\/(n="tuple"/\∃ xs,SqT K H p xs)
 | _=>False
theorem zJ1{K:Fg}{C:Fr}{w:W}{Γ:En}{σ:St}{H:Hp}{x:V}{s:S}{n:String}(R:Rep K C w Γ σ H)(o:SOk K C w σ H x s)(e:tyN Γ s=some n):TyS K H n x:=by
 unfold tyN at e
 split at e
 ·cases e; obtain⟨p,us,rfl,h1,i1⟩:=o.invt; exact .inr ⟨rfl,us,h1.sq⟩
 ·cases e; rw[o.inva]; exact rfl
 ·cases e; rw[o.inva]; exact rfl
 ·cases e; rw[o.inva]; exact rfl
 ·cases e; rw[o.inva]; exact rfl
 ·rename_i ys; cases e; obtain⟨p,us,rfl,h1,i1⟩:=(show Im K H x (.l ys) from o).invl; exact .inl ⟨rfl,us,h1.sq⟩
 ·cases e
 ·obtain⟨xs,e1,e⟩:=map_some e
  cases e
  obtain⟨p,us,rfl,h1,i1⟩:=zAi R o e1
  exact .inl ⟨rfl,us,h1⟩
theorem zJf{X:Cx}{pins:List (Addr×Obj)}{σ:St}{H:Hp}{s:Shared}{x:V}{u:Value}{n:String}(I:Inv X pins σ H s)(rx:RelV x u)(ty:TyS X.K H n x):∃ P:Heap->Prop,PySem.W.KitX X.K u (.type n) P/\P s.heap/\u≠.builtin "__main__.__loader__#opaque":=by
 cases x with
 | non=>cases ty; cases (show u=Value.none from rx); exact⟨_,PySem.W.kitx_none,True.intro,fun z=>nomatch z⟩
 | bl y=>cases ty; cases (show u=Value.bool y from rx); exact⟨_,PySem.W.kitx_bool,True.intro,fun z=>nomatch z⟩
 | int i=>cases ty; obtain⟨t,q⟩:=(show ∃ t,u=Value.int i t from rx); cases q; exact⟨_,PySem.W.kitx_int,True.intro,fun z=>nomatch z⟩
 | str y=>cases ty; obtain⟨t,q⟩:=(show ∃ t,u=Value.str y t from rx); cases q; exact⟨_,PySem.W.kitx_str,True.intro,fun z=>nomatch z⟩
 | ref p =>
  cases (show u=Value.ref p from rx)
  rcases ty with ⟨rfl,xs,h⟩ | ⟨rfl,xs,h⟩
  ·obtain⟨its,_,pl,_⟩:=I.list h
   obtain⟨o,h1,h2,_⟩:=pl.isList
   exact⟨_,PySem.W.kitx_list,⟨o,h1,h2⟩,fun z=>nomatch z⟩
  ·obtain⟨its,_,pl,_⟩:=I.tuple h
   obtain⟨o,h1,h2,_⟩:=pl
   exact⟨_,PySem.W.kitx_tuple,⟨o,h1,h2⟩,fun z=>nomatch z⟩
 | byt _=>exact ty.elim
 | flt _=>exact ty.elim
 | ty _=>exact ty.elim
def tyIx:String->Option Nat
 | "int"=>some 0
 | "bool"=>some 1
 | "str"=>some 2
 | "list"=>some 3
 | "tuple"=>some 4
 | "NoneType"=>some 5
 | _=>none
def tyNm:Nat->String
 | 0=>"int" | 1=>"bool" | 2=>"str" | 3=>"list" | 4=>"tuple" | _=>"NoneType"
@[simp] theorem zSf:tyIx "int"=some 0:=(rfl)
@[simp] theorem zRR:tyIx "bool"=some 1:=(rfl)
@[simp] theorem zRV:tyIx "str"=some 2:=(rfl)
@[simp] theorem zSQ:tyIx "list"=some 3:=(rfl)
@[simp] theorem zRM:tyIx "tuple"=some 4:=(rfl)
@[simp] theorem zRe:tyIx "NoneType"=some 5:=(rfl)
theorem zGp{a:String}{i:Nat}(h:tyIx a=some i):a=tyNm i/\i < 6:=by
 unfold tyIx at h
 split at h <;> first | (cases h; exact⟨rfl,by decide⟩) | cases h
def subTy(a b:String):Option Bool:=(tyIx a).bind fun i=>(tyIx b).bind fun j=>if j=5 then none else some (i == j || (i == 1 && j == 0))
theorem zLL{K:Fg}{a b:String}{c:Bool}(e:subTy a b=some c):PySem.W.kitOne K (.type a) (.type b)=some c:=by
 obtain⟨i,e1,z0⟩:=bind_some e
 obtain⟨j,e2,z⟩:=bind_some z0
 clear z0
 clear e
 obtain⟨rfl,hi⟩:=zGp e1
 obtain⟨rfl,hj⟩:=zGp e2
 clear e1 e2
 by_cases h5:j=5
 ·rw[if_pos h5]at z; cases z
 rw[if_neg h5]at z
 cases z
 have key:∀ i < 6,∀ j < 5,PySem.W.kitOne K (.type (tyNm i)) (.type (tyNm j))=some (i == j || (i == 1 && j == 0)):=fun i hi j hj=>by
  match i,hi,j,hj with
  | 0,_,0,_=>kernel_rfl
  | 0,_,1,_=>kernel_rfl
  | 0,_,2,_=>kernel_rfl
  | 0,_,3,_=>kernel_rfl
  | 0,_,4,_=>kernel_rfl
  | 1,_,0,_=>kernel_rfl
  | 1,_,1,_=>kernel_rfl
  | 1,_,2,_=>kernel_rfl
  | 1,_,3,_=>kernel_rfl
  | 1,_,4,_=>kernel_rfl
  | 2,_,0,_=>kernel_rfl
  | 2,_,1,_=>kernel_rfl
  | 2,_,2,_=>kernel_rfl
  | 2,_,3,_=>kernel_rfl
  | 2,_,4,_=>kernel_rfl
  | 3,_,0,_=>kernel_rfl
  | 3,_,1,_=>kernel_rfl
  | 3,_,2,_=>kernel_rfl
  | 3,_,3,_=>kernel_rfl
  | 3,_,4,_=>kernel_rfl
  | 4,_,0,_=>kernel_rfl
  | 4,_,1,_=>kernel_rfl
  | 4,_,2,_=>kernel_rfl
  | 4,_,3,_=>kernel_rfl
  | 4,_,4,_=>kernel_rfl
  | 5,_,0,_=>kernel_rfl
  | 5,_,1,_=>kernel_rfl
  | 5,_,2,_=>kernel_rfl
  | 5,_,3,_=>kernel_rfl
  | 5,_,4,_=>kernel_rfl
 exact key i hi j (by omega)
def subLT:String->Option Bool
 | "int"=>some false
 | "bool"=>some false
 | "str"=>some false
 | "NoneType"=>some false
 | "list"=>some true
 | "tuple"=>some true
 | _=>none
theorem zJ7{K:Fg}{a:String}{c:Bool}(e:subLT a=some c):PySem.W.kitAny K (.type a) [.type "list",.type "tuple"]=some c:=by
 unfold subLT at e
 split at e <;> first | (cases e; kernel_rfl) | cases e
def rIsi(K:Fg):List V->Hp->VK->Prop:=fun xs H Q=>∃ x T n b,xs=[x,.ty T]/\TyS K H n x/\subTy n T=some b/\Q (.bl b) H
theorem zLB{X:Cx}:CallR X (.builtin "isinstance") (rIsi X.K):=by
 intro pins s σ H xs us Q I r h
 obtain⟨x,T,n,b,rfl,ty,e,q⟩:=h
 obtain⟨u,u',rfl,r1,r2⟩:=vals2 r
 cases (show u'=Value.type T from r2)
 obtain⟨P,Z,hP,hx⟩:=zJf I r1 ty
 exact PySem.W.kia_one Z I.kIn hP (zLL e) hx fun tk=>⟨.bl b,H,I.tok tk,rfl,q⟩
def rIsiLT(K:Fg):List V->Hp->VK->Prop:=fun xs H Q=>∃ x p n b,xs=[x,.ref p]/\SqT K H p [.ty "list",.ty "tuple"]/\TyS K H n x/\subLT n=some b/\Q (.bl b) H
theorem zIO{X:Cx}:CallR X (.builtin "isinstance") (rIsiLT X.K):=by
 intro pins s σ H xs us Q I r h
 obtain⟨x,p,n,b,rfl,hp,ty,e,q⟩:=h
 obtain⟨u,u',rfl,r1,r2⟩:=vals2 r
 cases (show u'=Value.ref p from r2)
 obtain⟨its,rv,⟨o,ho,hcl,⟨m,hd⟩⟩,hz⟩:=I.tuple hp
 obtain⟨u1,u2,rfl,q1,q2⟩:=vals2 rv
 cases (show u1=Value.type "list" from q1)
 cases (show u2=Value.type "tuple" from q2)
 obtain⟨P,Z,hP,hx⟩:=zJf I r1 ty
 obtain⟨cls,dd,data,sl⟩:=o
 simp only at hcl hd
 subst hcl hd
 exact PySem.W.kia_tup Z I.kIn hP ho (zJ7 e) hx fun tk=>⟨.bl b,H,I.tok tk,rfl,q⟩
def isiS:En->List S->Option S:=fun Γ as=>match as with
 | [a,.v (.a (.ty T))]=>(tyN Γ a).bind fun n=>(subTy n T).map mkB
 | [a,.v (.t [.a (.ty "list"),.a (.ty "tuple")])]=>(tyN Γ a).bind fun n=>(subLT n).map mkB
 | _=>none
def rIsiS(K:Fg):List V->Hp->VK->Prop:=fun xs H Q=>rIsi K xs H Q\/rIsiLT K xs H Q
theorem zIZ{X:Cx}:CallR X (.builtin "isinstance") (rIsiS X.K):=zLB.or zIO
theorem zIn{K:Fg}:SimRs K (rIsiS K) isiS:=by
 intro C w Γ σ H vs as s Q R o e k
 unfold isiS at e
 split at e
 ·obtain⟨n,e1,e⟩:=bind_some e
  obtain⟨b,e2,e⟩:=map_some e
  cases e
  obtain⟨v,u,rfl,o1,o2⟩:=soks2 o
  exact .inl ⟨v,_,n,b,by rw[o2.inva],zJ1 R o1 e1,e2,k _ H R .refl SOk.atom trivial⟩
 ·obtain⟨n,e1,e⟩:=bind_some e
  obtain⟨b,e2,e⟩:=map_some e
  cases e
  obtain⟨v,u,rfl,o1,o2⟩:=soks2 o
  obtain⟨p,us,rfl,h1,i1⟩:=o2.invt
  have hus:us=[.ty "list",.ty "tuple"]:=Ims.of_atoms (us:=[.ty "list",.ty "tuple"]) i1
  subst hus
  exact .inr ⟨v,p,n,b,rfl,h1.sq,zJ1 R o1 e1,e2,k _ H R .refl SOk.atom trivial⟩
 ·cases e
def intS:En->List S->Option S:=fun _ as=>match as with
 | [.v (.a (.int i))]=>some (mkI i)
 | [.v (.a (.bl b))]=>some (mkI (if b then 1 else 0))
 | _=>none
theorem zJu{K:Fg}:SimRs K (fun xs H Q=>(∃ i,xs=[.int i]/\Q (.int i) H)\/∃ k,xs=[.bl k]/\Q (.int (if k then 1 else 0)) H) intS:=by
 intro C w Γ σ H vs as s Q R o e k
 unfold intS at e
 split at e
 ·cases e
  obtain⟨v,rfl,o1⟩:=soks1 o
  exact .inl ⟨_,by rw[o1.inva],k _ H R .refl SOk.atom trivial⟩
 ·cases e
  obtain⟨v,rfl,o1⟩:=soks1 o
  exact .inr ⟨_,by rw[o1.inva],k _ H R .refl SOk.atom trivial⟩
 ·cases e
def max2S:En->List S->Option S:=fun _ as=>match as with
 | [.v (.a (.int i)),.v (.a (.int j))]=>some (mkI (if j > i then j else i))
 | _=>none
def min2S:En->List S->Option S:=fun _ as=>match as with
 | [.v (.a (.int i)),.v (.a (.int j))]=>some (mkI (if j < i then j else i))
 | _=>none
theorem zHm{K:Fg}:SimRs K (fun xs H Q=>∃ i j,xs=[.int i,.int j]/\Q (.int (if j > i then j else i)) H) max2S:=by
 intro C w Γ σ H vs as s Q R o e k
 unfold max2S at e
 split at e
 ·cases e
  obtain⟨v,u,rfl,o1,o2⟩:=soks2 o
  exact⟨_,_,by rw[o1.inva,o2.inva],k _ H R .refl SOk.atom trivial⟩
 ·cases e
def atomsOf:List T->Option (List V)
 | []=>some []
 | .a v::r=>(atomsOf r).map fun vs=>v::vs
 | _=>none
def dIndex(fo:DE)(fa:DA):DE:=fun Γ=>(fo Γ).bind fun p=>(fa p.2).bind fun q=>match p.1,q.1 with
 | .v (.t xs),[.v (.a y)]=>(atomsOf xs).bind fun vs=>if flatV y=true/\vs.all flatV=true then (vs.findIdx? fun z=>eqV z y).map fun j=>(mkI (j:Nat),q.2) else none
 | _,_=>none
end D
namespace L2
open PySem PySem.Spec PyProof.Rows
section
variable {X:Cx}{tg:Expr}
def iSeq(K:PySem.W.Frag)(tl:TE):TI:=fun σ H R=>tl σ H fun x H1=>∃ a,x=.ref a/\(((∃ xs,SqL K H1 a xs)/\R (Itl K a) H1)\/((∃ xs,SqT K H1 a xs)/\R (Itt K a) H1))
theorem zMs{l:Expr}{tl:TE}(hl:PE X l tl):PI X tg l (iSeq X.K tl):=by
 intro pins s σ H R I h
 refine thn (hl pins s σ H _ I h) fun v s1 ⟨x,H1,I1,r1,q1⟩=>?_
 obtain⟨a,e,q⟩:=q1
 subst e
 cases r1
 rcases q with ⟨⟨xs,hq⟩,q⟩ | ⟨⟨xs,hq⟩,q⟩
 ·obtain⟨its,rv,p,hz⟩:=I1.list hq
  refine wpAny_pyIter_list p.isList ?_
  refine⟨s1.heap.objs.size,[s1.heap.objs.size],_,_,H1,rfl,I1.kept (t':=s1.toks) fun b o e=>Heap.get?_push_of_some _ e,zI4 a _,⟨_,Heap.get?_push_size _ rfl,rfl,rfl⟩,fun b hb=>?_,q⟩
  have e:b=s1.heap.objs.size:=by simpa using hb
  subst e
  exact I1.fpOk (Nat.le_refl _) (I1.hok.fresh (Nat.le_refl _))
 ·obtain⟨its,rv,p,hz⟩:=I1.tuple hq
  refine wpAny_pyIter_tuple (show s1.heap.IsTuple a its.toArray from p) ?_
  refine⟨s1.heap.objs.size,[s1.heap.objs.size],_,_,H1,rfl,I1.kept (t':=s1.toks) fun b o e=>Heap.get?_push_of_some _ e,zHk a _,⟨_,Heap.get?_push_size _ rfl,rfl,rfl⟩,fun b hb=>?_,q⟩
  have e:b=s1.heap.objs.size:=by simpa using hb
  subst e
  exact I1.fpOk (Nat.le_refl _) (I1.hok.fresh (Nat.le_refl _))
end
section
variable {X:Cx}{elts:List Expr}{x1:Nat}{tp:Pos}
def iZipU(K:PySem.W.Frag)(ta:TA):TI:=fun σ H R=>ta σ H fun vs H1=>∃ (b:Bool) (a1 a2:Addr),vs=[.ref a1,.ref a2]/\(∃ xs,Sq b K H1 a1 xs)/\(∃ ys,Sq b K H1 a2 ys)/\R (Itz b K a1 a2) H1
theorem zLr{e1 e2:Expr}{ta:TA}{p pos:Pos}(hg:Gl X "zip")(hm:X.mg "zip"=none)(ha:PA X [e1,e2] ta)(hs:starEach [e1,e2] X.env=[(false,eval e1 X.env),(false,eval e2 X.env)]:=by rfl)(hs2:starEach [e2] X.env=[(false,eval e2 X.env)]:=by rfl) :
  PI X (.Tuple elts x1 tp) (.Call (.Name "zip" p) [e1,e2] [] pos) (iZipU X.K ta):=by
 intro pins s σ H R I h
 refine Call_ (zA4 I hg hm boot_zip (PyProof.Rows.callWith_type1 (thn (ha pos pins s σ H _ I h) fun us s1 ⟨vs,H1,I1,r1,q1⟩=>?_) (by rw[hs,hs2]) (by rw[hs2]; rfl)))
 obtain⟨b,a1,a2,e,⟨xs,h1⟩,⟨ys,h2⟩,q⟩:=q1
 subst e
 obtain⟨u1,u2,e,r,r'⟩:=vals2 r1
 subst e
 cases r; cases r'
 obtain⟨its1,v1,o1,z1⟩:=I1.sq h1
 obtain⟨its2,v2,o2,z2⟩:=I1.sq h2
 have lt1:a1 < s1.heap.objs.size:=by cases b with
  | false=>obtain⟨o,e,_⟩:=(show s1.heap.IsList a1 its1.toArray from o1); exact Heap.lt_size e
  | true=>obtain⟨o,e,_⟩:=(show s1.heap.IsTuple a1 its1.toArray from o1); exact Heap.lt_size e
 have lt2:a2 < s1.heap.objs.size:=by cases b with
  | false=>obtain⟨o,e,_⟩:=(show s1.heap.IsList a2 its2.toArray from o2); exact Heap.lt_size e
  | true=>obtain⟨o,e,_⟩:=(show s1.heap.IsTuple a2 its2.toArray from o2); exact Heap.lt_size e
 have D:ZAp (s1.heap.objs.size+4) (s1.heap.objs.size+2) (s1.heap.objs.size+3) s1.heap.objs.size (s1.heap.objs.size+1) a1 a2 :=
  ⟨zipApart_new lt1 lt2,Nat.ne_of_lt (Nat.lt_of_lt_of_le lt1 (Nat.le_add_right _ 2)),Nat.ne_of_lt (Nat.lt_of_lt_of_le lt2 (Nat.le_add_right _ 2))⟩
 have fin:∀ h',ZTn b (s1.heap.objs.size+4) (s1.heap.objs.size+2) (s1.heap.objs.size+3) s1.heap.objs.size (s1.heap.objs.size+1) a1 a2 0 h'->(∀ c o,s1.heap.get? c=some o->h'.get? c=some o) ->
   wpAny (model X.prog X.w) X.A (pyIter (.ref (s1.heap.objs.size+4))) (PIE X pins σ (.Tuple elts x1 tp) R) X.xe { s1 with heap:=h' }:=fun h' st hk=>by
  refine wpAny_pyIter_zip st.z ?_
  refine⟨_,_,_,_,H1,rfl,I1.kept (t':=s1.toks) hk,zKI b D,st,fun c hc=>?_,q⟩
  have hc':s1.heap.objs.size<=c:=by
   simp only[List.mem_cons,List.not_mem_nil,or_false]at hc
   rcases hc with e | e | e | e | e <;> (rw[e]) <;> first | exact Nat.le_refl _ | exact Nat.le_add_right _ _
  exact I1.fpOk hc' (I1.hok.fresh hc')
 cases b with
 | false=>exact call_zip_2 o1 o2 fun h' hz hTI hTO it1 it2 _ hk=>fin h' ⟨hz,hTI,⟨_,_,hTO⟩,it1,it2⟩ hk
 | true=>exact zIv o1 o2 fin
end
end L2
namespace D
open PySem L2
def rngT(lo:Int)(n:Nat):List T:=(List.range n).map fun (i:Nat)=>T.a (.int (lo+(i:Int)))
def dRng1(fa:DA):DI:=fun Γ=>(fa Γ).bind fun p=>match p.1 with
 | [.v (.a (.int j))]=>if (inR 4611686018427387903 j && Nat.ble j.toNat sizeLine)=true then some ((rngT 0 j.toNat,[]),p.2) else none
 | _=>none
section
variable {K:Fg}
theorem zKy{w:W}{Γ:En}{σ:St}{H:Hp}{lo:Int}{n:Nat}(h:n<=sizeLine):ItOk K w Γ σ (Itr lo n) H (rngT lo n) []:=by
 refine⟨by simp[rngT]; exact h,fun L' _ _ H2 _=>⟨fun i t e=>?_,by simp[rngT]; exact Nat.le_refl n⟩⟩
 unfold rngT at e
 rw[List.getElem?_map]at e
 obtain⟨j,e1,e⟩:=map_some e
 obtain⟨hi',e1⟩:=List.getElem?_eq_some_iff.mp e1
 have hi:i < n:=by simpa using hi'
 have e1':i=j:=by simpa using e1
 subst e
 subst e1'
 refine⟨hi,fun x H3 y=>?_⟩
 obtain⟨a,b⟩:=y
 subst a b
 exact⟨fun _ _ z=>z,Im.atom⟩
theorem fit1{j:Int}(h:(inR 4611686018427387903 j && Nat.ble j.toNat sizeLine)=true):-(2 ^ 62)<=j/\j < 2 ^ 62/\j.toNat<=sizeLine:=by
 rw[Bool.and_eq_true]at h
 exact⟨(inR62 h.1).1,(inR62 h.1).2,Nat.le_of_ble_eq_true h.2⟩
theorem fit2{i j:Int}(h:(inR 4611686018427387903 i && inR 4611686018427387903 j && Nat.ble (j - i).toNat sizeLine)=true):(-(2 ^ 62)<=i/\i < 2 ^ 62/\-(2 ^ 62)<=j/\j < 2 ^ 62)/\(j - i).toNat<=sizeLine:=by
 rw[Bool.and_eq_true,Bool.and_eq_true]at h
 exact⟨⟨(inR62 h.1.1).1,(inR62 h.1.1).2,(inR62 h.1.2).1,(inR62 h.1.2).2⟩,Nat.le_of_ble_eq_true h.2⟩
theorem zIW{ta:TA}{fa:DA}(ha:SimA K ta fa):SimI K (iRng1 ta) (dRng1 fa):=by
 intro C w Γ σ H its src Γ' R Rp e k
 obtain⟨⟨as,G1⟩,e1,e⟩:=bind_some e
 dsimp only at e
 split at e
 ·split at e
  ·rename_i j hj0
   have hj:=fit1 hj0
   cases e
   refine ha C w Γ σ H _ _ _ Rp e1 fun vs H1 R1 ev1 o1 n1=>?_
   obtain⟨v,rfl,o2⟩:=soks1 o1
   exact⟨_,by rw[o2.inva],hj.1,hj.2.1,k _ H1 R1 ev1 (zKy hj.2.2)⟩
  ·cases e
 ·cases e
def srcS(Γ:En):S->List Nat
 | .s i=>match Γ[i]? with
  | some (some (.l _))=>[i]
  | _=>[]
 | _=>[]
def dSeqI(f:DE):DI:=fun Γ=>(f Γ).bind fun p=>(seqS p.2 p.1).bind fun xs=>gd xs.length ((xs,srcS p.2 p.1),p.2)
theorem zBm{C:Fr}{w:W}{Γ:En}{σ:St}{H:Hp}{x:V}{s:S}{xs:List T}(R:Rep K C w Γ σ H)(o:SOk K C w σ H x s)(e:sqlOf Γ s=some xs):∃ p vs,x=.ref p/\SqL K H p vs/\Ims K H vs xs /\
  ∀ L',(∀ q∈L',q∈w.L)->(∀ i∈srcS Γ s,∀ q,σ[i]?=some (some (.ref q))->(∃ zs,Γ[i]?=some (some (.l zs)))->q∉L')->∀ H2,Evo L' H H2->SqL K H2 p vs:=by
 cases s with
 | v t =>
  cases t with
  | l ys =>
   cases e
   obtain⟨p,vs,rfl,h1,h2⟩:=(show Im K H x (.l xs) from o).invl
   exact⟨p,vs,rfl,h1.sq,h2,fun L' hs _ H2 ev=>(h1.evo ev fun q hq=>R.lst q (hs q hq)).sq⟩
  | a _=>cases e
  | t _=>cases e
  | f _=>cases e
  | x _ _=>cases e
  | m _ _=>cases e
 | d _=>cases e
 | l ys =>
  cases e
  obtain⟨p,vs,rfl,n1,n2,n3,h1,h2⟩:=o
  exact⟨p,vs,rfl,SqL.of h1,h2,fun L' hs _ H2 ev=>SqL.of (ev _ _ h1 fun z=>n1 (hs p z))⟩
 | s i =>
  have o':σ[i]?=some (some x):=o
  unfold sqlOf at e
  dsimp only at e
  split at e
  ·rename_i ys h
   cases e
   obtain⟨v,e1,p,vs,rfl,_,h1,h2⟩:=R.val i _ h
   rw[o']at e1; cases e1
   refine⟨p,vs,rfl,SqL.of h1,h2,fun L' hs av H2 ev=>SqL.of (ev _ _ h1 (av i ?_ p o' ⟨_,h⟩))⟩
   simp[srcS,h]
  ·rename_i ys h
   cases e
   obtain⟨v,e1,p,vs,rfl,h1,h2,h3,_⟩:=R.val i _ h
   rw[o']at e1; cases e1
   exact⟨p,vs,rfl,SqL.of h2,h1,fun L' hs av H2 ev=>SqL.of (ev _ _ h2 fun z=>h3 (hs p z))⟩
  ·rename_i ys h
   cases e
   obtain⟨v,e1,p,vs,rfl,h1,h2⟩:=R.val i _ h
   rw[o']at e1; cases e1
   exact⟨p,vs,rfl,h2.sq,h1,fun L' hs av H2 ev=>(h2.evo ev fun q hq=>R.lst q (hs q hq)).sq⟩
  ·cases e
theorem zKz{tl:TE}{f:DE}(hl:SimE K tl f):SimI K (iSeq K tl) (dSeqI f):=by
 intro C w Γ σ H its src Γ' R Rp e k
 obtain⟨⟨a,G1⟩,e1,e⟩:=bind_some e
 obtain⟨xs,e2,e⟩:=bind_some e
 obtain⟨hz,e⟩:=zBG e
 cases e
 refine hl C w Γ σ H a _ _ Rp e1 fun v H1 R1 ev1 o1 n1=>?_
 dsimp only at e2
 have go:∀ {vs:List V} {H2:Hp} {J:It} (mk:∀ i x,vs[i]?=some x->J.go i H2) (yl:∀ i x H3,J.yld i H2 x H3->H3=H2/\vs[i]?=some x),Ims K H2 vs its->∀ (i:Nat) t,its[i]?=some t->J.go i H2/\∀ x H3,J.yld i H2 x H3->(∀ b o,H2 b=some o->H3 b=some o)/\Im K H3 x t:=fun {vs H2 J} mk yl hi i t e=>by
  obtain⟨v,e3,hv⟩:=hi.get e
  refine⟨mk i v e3,fun x H3 y=>?_⟩
  obtain⟨rfl,e4⟩:=yl i x H3 y
  rw[e3]at e4; cases e4
  exact⟨fun _ _ z=>z,hv⟩
 unfold seqS at e2
 split at e2
 ·cases e2
  obtain⟨p,vs,rfl,h1,i1⟩:=o1.invt
  refine⟨p,rfl,.inr ⟨⟨vs,h1.sq⟩,k _ H1 R1 ev1 ⟨hz,fun L' hs av H2 ev=>?_⟩⟩⟩
  have hL:LL L' H1:=fun q hq=>R1.lst q (hs q hq)
  have h2:SqT K H2 p vs:=(zDZ ev hL h1).sq
  have i2:=i1.evo ev hL
  exact⟨go (vs:=vs) (J:=Itt K p) (fun i x e=>⟨vs,x,h2,e⟩) (fun i x H3 y=>⟨y.1,y.2 vs h2⟩) i2,⟨vs,h2,by rw[i2.len]; exact Nat.le_refl _⟩⟩
 ·obtain⟨p,vs,rfl,h1,i1,st⟩:=zBm R1 o1 e2
  refine⟨p,rfl,.inl ⟨⟨vs,h1⟩,k _ H1 R1 ev1 ⟨hz,fun L' hs av H2 ev=>?_⟩⟩⟩
  have hL:LL L' H1:=fun q hq=>R1.lst q (hs q hq)
  have h2:=st L' hs av H2 ev
  have i2:=i1.evo ev hL
  exact⟨go (vs:=vs) (J:=Itl K p) (fun i x e=>⟨vs,x,h2,e⟩) (fun i x H3 y=>⟨y.1,y.2 vs h2⟩) i2,⟨vs,h2,by rw[i2.len]; exact Nat.le_refl _⟩⟩
def zipT(xs ys:List T):List T:=(xs.zip ys).map fun p=>.t [p.1,p.2]
def dZip(fa:DA):DI:=fun Γ=>(fa Γ).bind fun p=>match p.1 with
 | [.v (.t xs),.v (.t ys)]=>gd xs.length ((zipT xs ys,[]),p.2)
 | [a,b]=>(sqlOf p.2 a).bind fun xs=>(sqlOf p.2 b).bind fun ys=>gd xs.length ((zipT xs ys,srcS p.2 a++srcS p.2 b),p.2)
 | _=>none
theorem zJF{b:Bool}{a1 a2:Addr}{vs us:List V}{xs ys:List T}{H2:Hp}(h1:Sq b K H2 a1 vs)(h2:Sq b K H2 a2 us)(i1:Ims K H2 vs xs)(i2:Ims K H2 us ys) :
  (∀ (i:Nat) t,(zipT xs ys)[i]?=some t->(Itz b K a1 a2).go i H2/\∀ x H3,(Itz b K a1 a2).yld i H2 x H3->(∀ b o,H2 b=some o->H3 b=some o)/\Im K H3 x t)/\(Itz b K a1 a2).stop (zipT xs ys).length H2:=by
 refine⟨fun i t e=>?_,⟨vs,us,h1,h2,?_⟩⟩
 ·unfold zipT at e
  rw[List.getElem?_map]at e
  obtain⟨⟨t1,t2⟩,e1,e⟩:=map_some e
  subst e
  obtain⟨g1,g2⟩:=List.getElem?_zip_eq_some.mp e1
  obtain⟨v,e3,hv⟩:=i1.get g1
  obtain⟨u,e4,hu⟩:=i2.get g2
  refine⟨⟨vs,us,v,u,h1,h2,e3,e4⟩,fun x H3 y=>?_⟩
  obtain⟨T',x',y',rfl,hT,rfl,k1,k2⟩:=y
  have q1:=k1 vs h1
  have q2:=k2 us h2
  rw[e3]at q1; cases q1
  rw[e4]at q2; cases q2
  have ev:Evo [] H2 (upd H2 T' (.tup [v,u])):=Evo.new hT
  have hL:LL [] H2:=fun q hq=>nomatch hq
  refine⟨fun b o e=>ev b o e nofun,Im.tup zAN (.cons (hv.evo ev hL) (.one (hu.evo ev hL)))⟩
 ·have l1:=i1.len
  have l2:=i2.len
  simp[zipT]
  omega
theorem zLC{ta:TA}{fa:DA}(ha:SimA K ta fa):SimI K (iZipU K ta) (dZip fa):=by
 intro C w Γ σ H its src Γ' R Rp e k
 obtain⟨⟨as,G1⟩,e1,e⟩:=bind_some e
 dsimp only at e
 have zl:∀ xs ys:List T,(zipT xs ys).length<=xs.length:=fun xs ys=>by simp[zipT]; omega
 split at e
 ·rename_i xs ys
  obtain⟨hz,e⟩:=zBG e
  cases e
  refine ha C w Γ σ H _ _ _ Rp e1 fun vs H1 R1 ev1 o1 n1=>?_
  obtain⟨v,u,rfl,o2,o3⟩:=soks2 o1
  obtain⟨p,vs,rfl,h1,i1⟩:=o2.invt
  obtain⟨q,us,rfl,h2,i2⟩:=o3.invt
  refine⟨true,p,q,rfl,⟨vs,h1.sq⟩,⟨us,h2.sq⟩,k _ H1 R1 ev1 ⟨Nat.le_trans (zl _ _) hz,fun L' hs av H2 ev=>?_⟩⟩
  have hL:LL L' H1:=fun q hq=>R1.lst q (hs q hq)
  exact zJF (b:=true) (zDZ ev hL h1).sq (zDZ ev hL h2).sq (i1.evo ev hL) (i2.evo ev hL)
 ·obtain⟨xs,e2,e⟩:=bind_some e
  obtain⟨ys,e3,e⟩:=bind_some e
  obtain⟨hz,e⟩:=zBG e
  cases e
  refine ha C w Γ σ H _ _ _ Rp e1 fun vs H1 R1 ev1 o1 n1=>?_
  obtain⟨v,u,rfl,o2,o3⟩:=soks2 o1
  obtain⟨p,vs,rfl,h1,i1,st1⟩:=zBm R1 o2 e2
  obtain⟨q,us,rfl,h2,i2,st2⟩:=zBm R1 o3 e3
  refine⟨false,p,q,rfl,⟨vs,h1⟩,⟨us,h2⟩,k _ H1 R1 ev1 ⟨Nat.le_trans (zl _ _) hz,fun L' hs av H2 ev=>?_⟩⟩
  have hL:LL L' H1:=fun q hq=>R1.lst q (hs q hq)
  exact zJF (b:=false) (st1 L' hs (fun i hi=>av i (List.mem_append_left _ hi)) H2 ev) (st2 L' hs (fun i hi=>av i (List.mem_append_right _ hi)) H2 ev) (i1.evo ev hL) (i2.evo ev hL)
 ·cases e
theorem zGT{H:Hp}(lo:Int)(n:Nat):Ims K H (rngV lo n) (rngT lo n):=by
 have:rngT lo n=(rngV lo n).map T.a:=by simp[rngT,rngV]
 rw[this]
 exact Ims.atoms _
def rngS(as:List S):Option (List T):=match as with
 | [.v (.a (.int j))]=>if (inR 4611686018427387903 j && Nat.ble j.toNat sizeLine)=true then some (rngT 0 j.toNat) else none
 | [.v (.a (.int i)),.v (.a (.int j))]=>if (inR 4611686018427387903 i && inR 4611686018427387903 j && Nat.ble (j - i).toNat sizeLine)=true then some (rngT i (j - i).toNat) else none
 | _=>none
def rRng:List V->Hp->VK->Prop:=fun xs H Q=>(∃ j:Int,xs=[.int j]/\∀ p,H p=none->Q (.ref p) (upd H p (.rng 0 j)))\/(∃ i j:Int,xs=[.int i,.int j]/\∀ p,H p=none->Q (.ref p) (upd H p (.rng i j)))
def rOfRngL:List V->Hp->VK->Prop:=fun xs H Q=>∃ p lo hi,xs=[.ref p]/\H p=some (.rng lo hi)/\(-(2 ^ 62)<=lo/\lo < 2 ^ 62/\-(2 ^ 62)<=hi/\hi < 2 ^ 62)/\(hi - lo).toNat<=2 ^ 24/\∀ l,H l=none->Q (.ref l) (upd H l (.lst (rngV lo (hi - lo).toNat)))
def rOfRngT:List V->Hp->VK->Prop:=fun xs H Q=>∃ p lo hi,xs=[.ref p]/\H p=some (.rng lo hi)/\(-(2 ^ 62)<=lo/\lo < 2 ^ 62/\-(2 ^ 62)<=hi/\hi < 2 ^ 62)/\(hi - lo).toNat<=2 ^ 24/\∀ l,H l=none->Q (.ref l) (upd H l (.tup (rngV lo (hi - lo).toNat)))
def dListRng(fa:DA):DE:=fun Γ=>(fa Γ).bind fun p=>(rngS p.1).map fun xs=>(.l xs,p.2)
def dTupRng(fa:DA):DE:=fun Γ=>(fa Γ).bind fun p=>(rngS p.1).map fun xs=>(.v (.t xs),p.2)
theorem zFW{C:Fr}{w:W}{Γ:En}{σ:St}{H:Hp}{vs:List V}{as:List S}{xs:List T}{Q:VK}(R:Rep K C w Γ σ H)(o:SOks K C w σ H vs as)(e:rngS as=some xs)
  (k:∀ p lo hi,H p=none->(-(2 ^ 62)<=lo/\lo < 2 ^ 62/\-(2 ^ 62)<=hi/\hi < 2 ^ 62)->(hi - lo).toNat<=2 ^ 24->xs=rngT lo (hi - lo).toNat->Q (.ref p) (upd H p (.rng lo hi))):rRng vs H Q:=by
 have hs:sizeLine=2 ^ 24:=by rw[sizeLine_eq]
 unfold rngS at e
 split at e
 ·split at e
  ·rename_i j hj0
   have hj:=fit1 hj0
   cases e
   obtain⟨v,rfl,o2⟩:=soks1 o
   refine .inl ⟨_,by rw[o2.inva],fun p hp=>k p 0 _ hp ⟨by decide,by decide,hj.1,hj.2.1⟩ ?_ (by rw[Int.sub_zero])⟩
   rw[Int.sub_zero]; have:=hj.2.2; omega
  ·cases e
 ·split at e
  ·rename_i j hj0
   have hj:=fit2 hj0
   cases e
   obtain⟨v,u,rfl,o2,o3⟩:=soks2 o
   exact .inr ⟨_,_,by rw[o2.inva,o3.inva],fun p hp=>k p _ _ hp hj.1 (by have:=hj.2; omega) rfl⟩
  ·cases e
 ·cases e
theorem zGe{ta:TA}{fa:DA}(ha:SimA K ta fa):SimE K (tCB rOfRngL (tCons (tCB rRng ta) tNil)) (dListRng fa):=by
 intro C w Γ σ H s Γ' Q R e k
 obtain⟨⟨as,G1⟩,e1,e⟩:=bind_some e
 obtain⟨xs,e2,e⟩:=map_some e
 cases e
 refine ha C w Γ σ H as G1 _ R e1 fun vs H1 R1 ev1 o1 n1=>?_
 refine zFW R1 o1 e2 fun p lo hi hp hb hz hx=>?_
 have R2:Rep K C w G1 σ (upd H1 p (.rng lo hi)):=R1.new hp
 have ev2:Evo w.L H (upd H1 p (.rng lo hi)):=ev1.trans (Evo.new hp)
 refine⟨p,lo,hi,rfl,zAN,hb,hz,fun l hl=>?_⟩
 subst hx
 exact k _ _ (R2.new hl) (ev2.trans (Evo.new hl)) (R2.newl hl (zGT _ _)) ⟨l,rfl,zAa ev2 R2.lst hl⟩
theorem zHj{ta:TA}{fa:DA}(ha:SimA K ta fa):SimE K (tCB rOfRngT (tCons (tCB rRng ta) tNil)) (dTupRng fa):=by
 intro C w Γ σ H s Γ' Q R e k
 obtain⟨⟨as,G1⟩,e1,e⟩:=bind_some e
 obtain⟨xs,e2,e⟩:=map_some e
 cases e
 refine ha C w Γ σ H as G1 _ R e1 fun vs H1 R1 ev1 o1 n1=>?_
 refine zFW R1 o1 e2 fun p lo hi hp hb hz hx=>?_
 have R2:Rep K C w G1 σ (upd H1 p (.rng lo hi)):=R1.new hp
 have ev2:Evo w.L H (upd H1 p (.rng lo hi)):=ev1.trans (Evo.new hp)
 refine⟨p,lo,hi,rfl,zAN,hb,hz,fun l hl=>?_⟩
 subst hx
 exact k _ _ (R2.new hl) (ev2.trans (Evo.new hl)) (R2.newt hl (zGT _ _)) trivial
theorem zPu{ip:Option Nat}{i j:Nat}{ta:TA}{fa:DA}(ha:SimA K ta fa)(hi:ip≠some i)(hj:ip≠some j):SimS K ip (tPar i j ta) (fun Γ=>(fa Γ).bind fun p=>match p.1 with
  | [.v a,.v b]=>some (.nx ((p.2.set i (some (.v a))).set j (some (.v b))))
  | _=>none):=by
 intro C w Γ σ H D o hp R e k
 obtain⟨⟨as,G1⟩,e1,e⟩:=bind_some e
 dsimp only at e
 split at e
 ·cases e
  refine ha C w Γ σ H _ G1 _ R e1 fun vs H1 R1 ev1 o1 n1=>?_
  obtain⟨v,u,rfl,o2,o3⟩:=soks2 o1
  exact⟨v,u,rfl,k w _ H1 ((R1.setv (g:=.v _) rfl o2 (zBK hp hi)).setv (g:=.v _) rfl o3 (zBK hp hj))⟩
 ·cases e
def dPar2(i j:Nat)(fa:DA):DS:=fun Γ=>(fa Γ).bind fun p=>match p.1 with
  | [.v a,.v b]=>some (.nx ((p.2.set i (some (.v a))).set j (some (.v b))))
  | _=>none
def dPar3(i j k:Nat)(fa:DA):DS:=fun Γ=>(fa Γ).bind fun p=>match p.1 with
  | [.v a,.v b,.v c]=>some (.nx (((p.2.set i (some (.v a))).set j (some (.v b))).set k (some (.v c))))
  | _=>none
def dUnp(tg:En->T->Option En)(f:DE):DS:=fun Γ=>(f Γ).bind fun p=>p.1.tree.bind fun t=>(tg p.2 t).map .nx
end
def toDa:V->Option PyData
 | .int i=>some (.int i)
 | .bl b=>some (.bool b)
 | .str x=>some (.str x)
 | .non=>some .none
 | _=>none
mutual
def toD:T->Option PyData
 | .a v=>toDa v
 | .t ts=>(toDs ts).map .tuple
 | .l ts=>(toDs ts).map .list
 | .f _=>none
 | .x _ _=>none
 | .m _ _=>none
def toDs:List T->Option (List PyData)
 | []=>some []
 | t::r=>(toD t).bind fun d=>(toDs r).map fun ds=>d::ds
end
mutual
theorem zDP{X:Cx}{pins:List (Addr×Obj)}{σ:St}{H:Hp}{s:Shared}(I:Inv X pins σ H s):∀ {v:V} {u:Value} {t:T} {d:PyData},Im X.K H v t->RelV v u->toD t=some d->∃ as,Reads s.heap u d as
 | v,u,.a x,d,h,r,e=>by
  have hv:=h.inva
  subst hv
  unfold toD at e
  cases v with
  | int i=>cases e; obtain⟨t,rfl⟩:=(show ∃ t,u=Value.int i t from r); exact⟨_,.int i t⟩
  | bl b=>cases e; cases (show u=Value.bool b from r); exact⟨_,.bool b⟩
  | str x=>cases e; obtain⟨t,rfl⟩:=(show ∃ t,u=Value.str x t from r); exact⟨_,.str x t⟩
  | non=>cases e; cases (show u=Value.none from r); exact⟨_,.none⟩
  | byt _=>cases e
  | flt _=>cases e
  | ref _=>cases e
  | ty _=>cases e
 | v,u,.t ts,d,h,r,e=>by
  obtain⟨p,vs,rfl,h1,h2⟩:=h.inv
  cases (show u=Value.ref p from r)
  unfold toD at e
  obtain⟨ds,e1,rfl⟩:=map_some e
  obtain⟨its,rv,⟨o,ho,hc,n,hd⟩,_⟩:=I.tuple h1.sq
  obtain⟨as,q⟩:=zAt I h2 rv e1
  exact⟨as,.tuple ho hc hd (by simpa using q)⟩
 | v,u,.l ts,d,h,r,e=>by
  obtain⟨p,vs,rfl,h1,h2⟩:=h.invl
  cases (show u=Value.ref p from r)
  unfold toD at e
  obtain⟨ds,e1,rfl⟩:=map_some e
  obtain⟨its,rv,pl,_⟩:=I.list h1.sq
  obtain⟨o,ho,hc,n,hd⟩:=pl.isList
  obtain⟨as,q⟩:=zAt I h2 rv e1
  exact⟨_,.list ho hc hd (by simpa using q)⟩
 | v,u,.f _,d,h,r,e=>by unfold toD at e; cases e
 | v,u,.x _ _,d,h,r,e=>by unfold toD at e; cases e
 | v,u,.m _ _,d,h,r,e=>by unfold toD at e; cases e
theorem zAt{X:Cx}{pins:List (Addr×Obj)}{σ:St}{H:Hp}{s:Shared}(I:Inv X pins σ H s):∀ {vs:List V} {us:List Value} {ts:List T} {ds:List PyData},Ims X.K H vs ts->Vals vs us->toDs ts=some ds->∃ as,ReadsAll s.heap us ds as
 | vs,us,[],ds,h,r,e=>by
  have:=h.inv0
  subst this
  cases r
  unfold toDs at e
  cases e
  exact⟨_,.nil⟩
 | vs,us,t::ts,ds,h,r,e=>by
  obtain⟨v,r',rfl,h1,h2⟩:=h.inv
  unfold toDs at e
  obtain⟨d,e1,e⟩:=bind_some e
  obtain⟨ds',e2,rfl⟩:=map_some e
  cases r with
  | cons r1 r2 =>
   obtain⟨as,q1⟩:=zDP I h1 r1 e1
   obtain⟨bs,q2⟩:=zAt I h2 r2 e2
   exact⟨_,ReadsAll.cons q1 q2⟩
end
def DatV(K:Fg)(H:Hp)(x:V)(d:PyData):Prop:=(∃ t,Im K H x t/\toD t=some d)\/(∃ p vs ts ds,x=.ref p/\SqL K H p vs/\Ims K H vs ts/\toDs ts=some ds/\d=.list ds)
theorem zBX{X:Cx}{pins:List (Addr×Obj)}{σ:St}{H:Hp}{s:Shared}{x:V}{u:Value}{d:PyData}(I:Inv X pins σ H s)(r:RelV x u)(h:DatV X.K H x d):∃ as,Reads s.heap u d as:=by
 rcases h with ⟨t,h,e⟩ | ⟨p,vs,ts,ds,rfl,h1,h2,e,rfl⟩
 ·exact zDP I h r e
 ·cases (show u=Value.ref p from r)
  obtain⟨its,rv,pl,_⟩:=I.list h1
  obtain⟨o,ho,hc,n,hd⟩:=pl.isList
  obtain⟨as,q⟩:=zAt I h2 rv e
  exact⟨_,.list ho hc hd (by simpa using q)⟩
def rEqD(K:Fg):R2:=fun x y H Q=>∃ da db,DatV K H x da/\DatV K H y db/\da.canLay0=true/\db.canLay0=true/\min da.depth db.depth<=100/\Q (.bl (PyData.eqv da db)) H
def rNeD(K:Fg):R2:=fun x y H Q=>∃ da db,DatV K H x da/\DatV K H y db/\da.canLay0=true/\db.canLay0=true/\min da.depth db.depth<=100/\Q (.bl (!PyData.eqv da db)) H
theorem zNB{X:Cx}{k:Nat}(hr:Room k X.A):OpR X (compareOp .Eq) (rEqD X.K):=by
 intro pins s σ H x y v u Q I rx ry h
 obtain⟨da,db,h1,h2,c1,c2,hm,q⟩:=h
 obtain⟨_,r1⟩:=zBX I rx h1
 obtain⟨_,r2⟩:=zBX I ry h2
 exact SeqAt.compareEq_reads r1 r2 c1 c2 (by have:=hr.un; omega) ⟨.bl _,H,I,rfl,q⟩
theorem zNl{X:Cx}{k:Nat}(hr:Room k X.A):OpR X (compareOp .NotEq) (rNeD X.K):=by
 intro pins s σ H x y v u Q I rx ry h
 obtain⟨da,db,h1,h2,c1,c2,hm,q⟩:=h
 obtain⟨_,r1⟩:=zBX I rx h1
 obtain⟨_,r2⟩:=zBX I ry h2
 exact SeqAt.compareNe_reads r1 r2 c1 c2 (by have:=hr.un; omega) ⟨.bl _,H,I,rfl,q⟩
def datS(Γ:En):S->Option PyData
 | .v t=>toD t
 | a=>(sqlOf Γ a).bind fun xs=>(toDs xs).map .list
theorem zDj{K:Fg}{C:Fr}{w:W}{Γ:En}{σ:St}{H:Hp}{x:V}{s:S}{d:PyData}(R:Rep K C w Γ σ H)(o:SOk K C w σ H x s)(e:datS Γ s=some d):DatV K H x d:=by
 have lst:∀ {s:S},SOk K C w σ H x s->(sqlOf Γ s).bind (fun xs=>(toDs xs).map PyData.list)=some d->DatV K H x d:=fun {s} o e=>by
  obtain⟨xs,e1,e⟩:=bind_some e
  obtain⟨ds,e2,rfl⟩:=map_some e
  obtain⟨p,vs,rfl,h1,h2⟩:=zAi R o e1
  exact .inr ⟨p,vs,xs,ds,rfl,h1,h2,e2,rfl⟩
 cases s with
 | v t=>exact .inl ⟨t,o,e⟩
 | l xs=>exact lst o e
 | s i=>exact lst o e
 | d _=>cases e
def cmpD(f:PyData->PyData->Bool):En->S->S->Option S:=fun Γ a b=>(datS Γ a).bind fun da=>(datS Γ b).bind fun db=>if da.canLay0=true/\db.canLay0=true/\min da.depth db.depth<=100 then some (mkB (f da db)) else none
def eqA(f:V->V->Bool):En->S->S->Option S:=fun _ a b=>match a,b with
 | .v (.a x),.v (.a y)=>if scal x y=true then some (mkB (f x y)) else none
 | _,_=>none
theorem zJt{K:Fg}:SimR2 K rEq (eqA fun x y=>decide (x=y)):=by
 intro C w Γ σ H x y a b s Q R ox oy e k
 unfold eqA at e
 split at e
 ·split at e
  ·rename_i h
   cases e
   rw[ox.inva,oy.inva]
   exact⟨h,k _ H R .refl SOk.atom trivial⟩
  ·cases e
 ·cases e
theorem zJv{K:Fg}:SimR2 K rNe (eqA fun x y=>!decide (x=y)):=by
 intro C w Γ σ H x y a b s Q R ox oy e k
 unfold eqA at e
 split at e
 ·split at e
  ·rename_i h
   cases e
   rw[ox.inva,oy.inva]
   exact⟨h,k _ H R .refl SOk.atom trivial⟩
  ·cases e
 ·cases e
def eqS:En->S->S->Option S:=fun Γ a b=>(eqA (fun x y=>decide (x=y)) Γ a b).or (cmpD PyData.eqv Γ a b)
def neS:En->S->S->Option S:=fun Γ a b=>(eqA (fun x y=>!decide (x=y)) Γ a b).or (cmpD (fun a b=>!PyData.eqv a b) Γ a b)
theorem zIc{K:Fg}:SimR2 K (rEqD K) (cmpD PyData.eqv):=by
 intro C w Γ σ H x y a b s Q R ox oy e k
 obtain⟨da,e1,e⟩:=bind_some e
 obtain⟨db,e2,e⟩:=bind_some e
 split at e
 ·rename_i h
  cases e
  exact⟨da,db,zDj R ox e1,zDj R oy e2,h.1,h.2.1,h.2.2,k _ H R .refl SOk.atom trivial⟩
 ·cases e
theorem zJa{K:Fg}:SimR2 K (rNeD K) (cmpD fun a b=>!PyData.eqv a b):=by
 intro C w Γ σ H x y a b s Q R ox oy e k
 obtain⟨da,e1,e⟩:=bind_some e
 obtain⟨db,e2,e⟩:=bind_some e
 split at e
 ·rename_i h
  cases e
  exact⟨da,db,zDj R ox e1,zDj R oy e2,h.1,h.2.1,h.2.2,k _ H R .refl SOk.atom trivial⟩
 ·cases e
theorem zKS{K:Fg}:SimR2 K (fun x y H Q=>rEq x y H Q\/rEqD K x y H Q) eqS:=zJt.or zIc
theorem zK3{K:Fg}:SimR2 K (fun x y H Q=>rNe x y H Q\/rNeD K x y H Q) neS:=zJv.or zJa
theorem zNn{X:Cx}{k:Nat}(hr:Room k X.A):OpR X (compareOp .Eq) (fun x y H Q=>rEq x y H Q\/rEqD X.K x y H Q):=zO4.or (zNB hr)
theorem zNC{X:Cx}{k:Nat}(hr:Room k X.A):OpR X (compareOp .NotEq) (fun x y H Q=>rNe x y H Q\/rNeD X.K x y H Q):=zO2.or (zNl hr)
def reprS:En->List S->Option S:=fun Γ as=>match as with
 | [a]=>(datS Γ a).bind fun d=>if d.showable=true/\d.hasDict=false/\d.depth<=100/\d.shown.length<=sizeLine then some (.v (.a (.str d.shown))) else none
 | _=>none
def truS(Γ:En):S->Option Bool
 | .v (.a .non)=>some false
 | .v (.a (.bl b))=>some b
 | .v (.a (.int i))=>some (i != 0)
 | .v (.a (.str y))=>if y.length<=sizeLine then some ((y.length:Int) != 0) else none
 | .v (.t xs)=>some (!xs.isEmpty)
 | .v _=>none
 | a=>(sqlOf Γ a).map fun xs=>!xs.isEmpty
def dTru(f:DE):DT:=fun Γ=>(f Γ).bind fun p=>(truS p.2 p.1).map fun b=>(b,p.2)
theorem Ims.isEmpty{K:Fg}{H:Hp}{vs:List V}{ts:List T}(h:Ims K H vs ts):vs.isEmpty=ts.isEmpty:=by
 have:=h.len
 cases vs <;> cases ts <;> simp at this ⊢
theorem zMu{K:Fg}{te:TE}{f:DE}(h:SimE K te f):SimT K (fun σ H Q=>te σ H fun x H'=>∃ k,TruV K x H' k/\Q k H') (dTru f):=by
 intro C w Γ σ H b Γ' Q R e k
 obtain⟨⟨a,G1⟩,e1,e⟩:=bind_some e
 obtain⟨b',e2,e⟩:=map_some e
 cases e
 refine h C w Γ σ H a _ _ R e1 fun v H1 R1 ev1 o1 n1=>⟨b,?_,k H1 R1 ev1⟩
 dsimp only at e2
 unfold truS at e2
 split at e2
 ·cases e2; rw[o1.inva]; exact rfl
 ·cases e2; rw[o1.inva]; exact rfl
 ·cases e2; rw[o1.inva]; exact rfl
 ·split at e2
  ·rename_i hz
   cases e2; rw[o1.inva]; exact⟨hz,rfl⟩
  ·cases e2
 ·cases e2
  obtain⟨p,us,rfl,h1,i1⟩:=o1.invt
  exact .inr (.inl ⟨us,h1.sq,by rw[i1.isEmpty]⟩)
 ·cases e2
 ·obtain⟨xs,e3,e2⟩:=map_some e2
  subst e2
  obtain⟨p,us,rfl,h1,i1⟩:=zAi R1 o1 e3
  exact .inl ⟨us,h1,by rw[i1.isEmpty]⟩
def EX{ι:Type}(K:Fg)(X:ι->Cx)(e:Expr)(f:DE):Prop:=∃ te,(∀ j,PE (X j) e te)/\SimE K te f
def TX{ι:Type}(K:Fg)(X:ι->Cx)(e:Expr)(f:DT):Prop:=∃ t,(∀ j,PT (X j) e t)/\SimT K t f
def WX{ι:Type}(K:Fg)(X:ι->Cx)(e:Expr)(f:DT):Prop:=∃ t,(∀ j,PW (X j) e t)/\SimT K t f
def AX{ι:Type}(K:Fg)(X:ι->Cx)(es:List Expr)(f:DA):Prop:=∃ t,(∀ j,PA (X j) es t)/\SimA K t f
def OX{ι:Type}(K:Fg)(X:ι->Cx)(e:Option Expr)(f:DO):Prop:=∃ t,(∀ j,PO (X j) e t)/\SimO K t f
def IX{ι:Type}(K:Fg)(X:ι->Cx)(tg it:Expr)(f:DI):Prop:=∃ t,(∀ j,PI (X j) tg it t)/\SimI K t f
def GX{ι:Type}(K:Fg)(X:ι->Cx)(ip:Option Nat)(tg:Expr)(f:En->T->Option En):Prop:=∃ t,(∀ j,PG (X j) tg t)/\SimG K ip t f
def GXs{ι:Type}(K:Fg)(X:ι->Cx)(ip:Option Nat)(tg:List Expr)(f:En->List T->Option En):Prop:=∃ t,(∀ j,PGs (X j) tg t)/\SimGs K ip t f
def SX{ι:Type}(K:Fg)(X:ι->Cx)(ip:Option Nat)(s:Stmt)(f:DS):Prop:=∃ t,(∀ j,PS (X j) s t)/\SimS K ip t f
def BX{ι:Type}(K:Fg)(X:ι->Cx)(ip:Option Nat)(s:List Stmt)(f:DS):Prop:=∃ t,(∀ j,PSs (X j) s t)/\SimS K ip t f
structure Fm{ι:Type}(K:Fg)(mg:Str->Option Value)(k:Nat)(X:ι->Cx):Prop where
 K:∀ j,(X j).K=K
 mg:∀ j,(X j).mg=mg
 calm:∀ j,(X j).calm=true
 room:∀ j,Room k (X j).A
section
variable {ι:Type}{K:Fg}{mg:Str->Option Value}{k:Nat}{X:ι->Cx}{ip:Option Nat}{a b c e:Expr}{es:List Expr}{pos:Pos}{fa fb fc:DE}{ta tb:DT}{da:DA}
theorem jZ(i:Nat){x:Str}(hN:∀ j,(X j).N[i]?=some x:=by intro _; rfl)(hv:∀ j,Vis (X j).env.scope x:=by intro _; first | exact Or.inl rfl | exact Or.inr (Or.inl rfl) | exact Or.inr (Or.inr rfl))(hd:(x == ("__debug__":Str))=false:=by decide)
  (hcd:(x == ("__classdict__":Str))=false:=by decide):EX K X (.Name x pos) (jV i):=⟨tVar i,fun j=>zCm (hN j) (hv j) hd hcd,zLv⟩
theorem jJ{i:Int}{u}:EX K X (.Constant (.int i) u pos) (dC (.int i)):=⟨_,fun _=>zNP,zFE⟩
theorem zBn{v:Bool}{u}:EX K X (.Constant (.bool v) u pos) (dC (.bl v)):=⟨_,fun _=>zOp,zFE⟩
theorem zAm{v:Str}{u}:EX K X (.Constant (.str v) u pos) (dC (.str v)):=⟨_,fun _=>zNt,zFE⟩
theorem zBt{x:Str}{N:String}(M:Fm K mg k X)(hm:mg x=none)(hv:bootBuiltins x=some (.type N))(hg:∀ j,Gl (X j) x:=by intro _; rfl)(hn:x≠"__name__":=by decide)(hd:(x == ("__debug__":Str))=false:=by decide):EX K X (.Name x pos) (dC (.ty N)) :=
 ⟨_,fun j=>zOo (hg j) (by rw[M.mg]; exact hm) hv hn hd,zFE⟩
theorem zCN{op:Operator}{r:R2}{h:En->S->S->Option S}(ho:∀ j,OpR (X j) (binaryOp op) r)(hs:SimR2 K r h)(ha:EX K X a fa)(hb:EX K X b fb):EX K X (.BinOp a op b pos) (dOp h fa fb) :=
 let ⟨_,p,s⟩:=ha; let ⟨_,q,u⟩:=hb; ⟨_,fun j=>zOw (ho j) (p j) (q j),zCe hs s u⟩
theorem zAL(M:Fm K mg k X)(ha:EX K X a fa)(hb:EX K X b fb):EX K X (.BinOp a .Add b pos) (dOp addS fa fb):=zCN (fun j=>by rw[← M.K j]; exact zMX) zI8 ha hb
theorem zJr(ha:EX K X a fa)(hb:EX K X b fb):EX K X (.BinOp a .Sub b pos) (dOp subS fa fb):=zCN (fun j=>zN8) zBU ha hb
theorem zBH(ha:EX K X a fa)(hb:EX K X b fb):EX K X (.BinOp a .Mult b pos) (dOp mulS fa fb):=zCN (fun j=>zLf) zIb ha hb
theorem zBD(ha:EX K X a fa)(hb:EX K X b fb):EX K X (.BinOp a .Mod b pos) (dOp modS fa fb):=zCN (fun j=>zNo) zBi ha hb
theorem zB6(ha:EX K X a fa)(hb:EX K X b fb):EX K X (.BinOp a .FloorDiv b pos) (dOp fdivS fa fb):=zCN (fun j=>zMq) zBi ha hb
theorem zM6(ha:EX K X a fa)(hb:EX K X b fb):EX K X (.BinOp a .Pow b pos) (dOp powS fa fb):=zCN (fun j=>zN4) zBi ha hb
theorem zNd{op:CmpOp}{r:R2}{h:En->S->S->Option S}(ho:∀ j,OpR (X j) (compareOp op) r)(hs:SimR2 K r h)(hm:behindInMarks op b=false)(ha:EX K X a fa)(hb:EX K X b fb):EX K X (.Compare a [op] [b] pos) (dOp h fa fb) :=
 let ⟨_,p,s⟩:=ha; let ⟨_,q,u⟩:=hb; ⟨_,fun j=>zLY (ho j) (p j) (q j) hm,zCe hs s u⟩
theorem zNN{op:CmpOp}{r:R2}{h:En->S->S->Option S}(ho:∀ j,OpR (X j) (compareOp op) r)(hs:SimR2 K r h)(hm:behindInMarks op b=false)(ha:EX K X a fa)(hb:EX K X b fb):TX K X (.Compare a [op] [b] pos) (dTest (dOp h fa fb)) :=
 let ⟨_,p,s⟩:=ha; let ⟨_,q,u⟩:=hb; ⟨_,fun j=>zLa (ho j) (p j) (q j) hm,zCY (zCe hs s u)⟩
structure CmpR{ι:Type}(K:Fg)(X:ι->Cx)(op:CmpOp)(h:En->S->S->Option S):Prop where
 ex:∃ r,(∀ j,OpR (X j) (compareOp op) r)/\SimR2 K r h
theorem zLV:CmpR K X .Lt ltS:=⟨_,fun _=>zOY,zBU⟩
theorem zDm:CmpR K X .Gt gtS:=⟨_,fun _=>zOf,zBU⟩
theorem zLQ:CmpR K X .GtE geS:=⟨_,fun _=>zOd,zBU⟩
theorem zAl(M:Fm K mg k X):CmpR K X .Eq eqS:=⟨_,fun j=>by have:=zNn (M.room j); rw[M.K j]at this; exact this,zKS⟩
theorem zBa(M:Fm K mg k X):CmpR K X .NotEq neS:=⟨_,fun j=>by have:=zNC (M.room j); rw[M.K j]at this; exact this,zK3⟩
theorem ex_c{op:CmpOp}{h:En->S->S->Option S}(hc:CmpR K X op h)(ha:EX K X a fa)(hb:EX K X b fb)(hm:behindInMarks op b=false:=by first | exact nomark _ | with_unfolding_all rfl):EX K X (.Compare a [op] [b] pos) (dOp h fa fb) :=
 let ⟨_,p,q⟩:=hc.ex; zNd p q hm ha hb
theorem tx_c{op:CmpOp}{h:En->S->S->Option S}(hc:CmpR K X op h)(ha:EX K X a fa)(hb:EX K X b fb)(hm:behindInMarks op b=false:=by first | exact nomark _ | with_unfolding_all rfl):TX K X (.Compare a [op] [b] pos) (dTest (dOp h fa fb)) :=
 let ⟨_,p,q⟩:=hc.ex; zNN p q hm ha hb
theorem tx_v(M:Fm K mg k X)(ha:EX K X a fa)(he:∀ j whole,isTrue a (X j).env whole=(do let v ← whole; standAt a.pos; holding [v] (truthy v)):=by intro _ _; rfl):TX K X a (dTru fa) :=
 let ⟨te,p,s⟩:=ha; ⟨(fun σ H Q=>te σ H fun x H'=>∃ k,TruV K x H' k/\Q k H'),fun j=>by have:=zLN (p j) (he j); rw[M.K j]at this; exact this,zMu s⟩
theorem zI5(ha:TX K X a ta):TX K X (.UnaryOp .Not a pos) (dNot ta):=let ⟨_,p,s⟩:=ha; ⟨_,fun j=>zNj (p j),zMe s⟩
theorem zD5(ha:TX K X a ta):WX K X (.BoolOp .Or [a] pos) ta:=let ⟨_,p,s⟩:=ha; ⟨_,fun j=>zNi (p j),s⟩
theorem zFL(ha:TX K X a ta)(hb:WX K X (.BoolOp .Or (b::es) pos) tb):WX K X (.BoolOp .Or (a::b::es) pos) (dOr ta tb):=let ⟨_,p,s⟩:=ha; let ⟨_,q,u⟩:=hb; ⟨_,fun j=>zOX (p j) (q j),zMz s u⟩
theorem tx_w(ha:WX K X a ta):TX K X a ta:=let ⟨_,p,s⟩:=ha; ⟨_,fun j=>(p j).pt,s⟩
theorem zDX{op}(ha:EX K X a fa):EX K X (.BoolOp op [a] pos) fa:=let ⟨_,p,s⟩:=ha; ⟨_,fun j=>zNL (p j),s⟩
theorem zFS(ha:EX K X a fa)(hb:EX K X (.BoolOp .And (b::es) pos) fb):EX K X (.BoolOp .And (a::b::es) pos) (dAndV fa fb):=let ⟨_,p,s⟩:=ha; let ⟨_,q,u⟩:=hb; ⟨_,fun j=>zNH (p j) (q j),zKm s u⟩
theorem zOU(ha:EX K X a fa)(hb:EX K X (.BoolOp .Or (b::es) pos) fb):EX K X (.BoolOp .Or (a::b::es) pos) (dOrV fa fb):=let ⟨_,p,s⟩:=ha; let ⟨_,q,u⟩:=hb; ⟨_,fun j=>zPC (p j) (q j),zMI s u⟩
theorem zNp(ha:EX K X a fa):EX K X (.UnaryOp .Not a pos) (dNotV fa):=let ⟨_,p,s⟩:=ha; ⟨_,fun j=>zN7 (p j),zKf s⟩
theorem zLW(hc:TX K X c ta)(ha:EX K X a fa)(hb:EX K X b fb):EX K X (.IfExp c a b pos) (dIfE ta fa fb):=let ⟨_,p,s⟩:=hc; let ⟨_,q,u⟩:=ha; let ⟨_,q',u'⟩:=hb; ⟨_,fun j=>zKt (p j) (q j) (q' j),zMh s u u'⟩
theorem jY:AX K X [] qQ:=⟨_,fun _=>zDx,zHS⟩
theorem jQ{fr:DA}(ha:EX K X e fa)(hr:AX K X es fr)(hs:∀ j,starEach (e::es) (X j).env=(false,eval e (X j).env)::starEach es (X j).env:=by intro _; rfl):AX K X (e::es) (jW fa fr) :=
 let ⟨_,p,s⟩:=ha; let ⟨_,q,u⟩:=hr; ⟨_,fun j=>zB3 (p j) (q j) (hs j),zK9 s u⟩
theorem zAK{x1}(h:AX K X es da):EX K X (.Tuple es x1 pos) (dTup da):=let ⟨_,p,s⟩:=h; ⟨_,fun j=>zM3 (p j),zMB s⟩
theorem zAX(h:AX K X es da):EX K X (.List es pos) (dLst da):=let ⟨_,p,s⟩:=h; ⟨_,fun j=>zNh (p j),zMM s⟩
theorem zAG(M:Fm K mg k X)(ha:EX K X a fa)(hb:EX K X b fb)(hs:PlainIx b:=by exact fun _ _=>rfl):EX K X (.Subscript a b pos) (dOp ixS fa fb) :=
 let ⟨_,p,s⟩:=ha; let ⟨_,q,u⟩:=hb; ⟨_,fun j=>zOj (by have:=zM9 (X:=X j); rw[M.K j]at this; exact this) (p j) (q j) hs,zCe zKN s u⟩
theorem zBB:OX K X none dNoPart:=⟨_,fun _=>zLw,zHg⟩
theorem zBA(ha:EX K X a fa):OX K X (some a) (dPart fa):=let ⟨_,p,s⟩:=ha; ⟨_,fun j=>zMo (p j),zKi s⟩
theorem zBl(M:Fm K mg k X){lo hi:Option Expr}{p2:Pos}{dl dh:DO}(ha:EX K X a fa)(hl:OX K X lo dl)(hh:OX K X hi dh):EX K X (.Subscript a (.Slice lo hi none p2) pos) (dSl fa dl dh) :=
 let ⟨_,p,s⟩:=ha; let ⟨_,q,u⟩:=hl; let ⟨_,q',u'⟩:=hh; ⟨_,fun j=>zKo (by have:=sl_S (X:=X j); rw[M.K j]at this; exact this) (p j) (q j) (q' j),zOD s u u'⟩
structure CalR{ι:Type}(K:Fg)(X:ι->Cx)(f:Value)(h:En->List S->Option S):Prop where
 ex:∃ r,(∀ j,CallR (X j) f r)/\SimRs K r h
theorem zAQ{x:Str}{p:Pos}{id:String}{h:En->List S->Option S}(M:Fm K mg k X)(hc:CalR K X (.builtin id) h)(hm:mg x=none)(hv:bootBuiltins x=some (.builtin id))(ha:AX K X (e::es) da)(hg:∀ j,Gl (X j) x:=by intro _; rfl)(hn:x≠"__name__":=by decide)(hdb:(x == ("__debug__":Str))=false:=by decide)
  (he:∀ j,starEach (e::es) (X j).env=(false,eval e (X j).env)::starEach es (X j).env:=by intro _; rfl) (hpl:∀ j,(backTo pos (starEach es (X j).env)).any (·.1)=false:=by intro _; rfl):EX K X (.Call (.Name x p) (e::es) [] pos) (dCB h da) :=
 let ⟨_,p,s⟩:=hc.ex; let ⟨_,q,u⟩:=ha; ⟨_,fun j=>zKM (p j) (hg j) (by rw[M.mg]; exact hm) hv (q j) hn hdb (he j) (hpl j),zJS s u⟩
theorem zBY{x:Str}{p:Pos}{N:String}{h:En->List S->Option S}(M:Fm K mg k X)(hc:CalR K X (.type N) h)(hm:mg x=none)(hv:bootBuiltins x=some (.type N))(ha:AX K X (e::es) da)(hg:∀ j,Gl (X j) x:=by intro _; rfl)(hn:x≠"__name__":=by decide)(hdb:(x == ("__debug__":Str))=false:=by decide)
  (he:∀ j,starEach (e::es) (X j).env=(false,eval e (X j).env)::starEach es (X j).env:=by intro _; rfl) (hpl:∀ j,(backTo pos (starEach es (X j).env)).any (·.1)=false:=by intro _; rfl):EX K X (.Call (.Name x p) (e::es) [] pos) (dCB h da) :=
 let ⟨_,p,s⟩:=hc.ex; let ⟨_,q,u⟩:=ha; ⟨_,fun j=>zBT (p j) (hg j) (by rw[M.mg]; exact hm) hv (q j) hn hdb (he j) (hpl j),zJS s u⟩
theorem zAh(M:Fm K mg k X):CalR K X (.builtin "len") lenS:=⟨_,fun j=>by have:=zJJ (X:=X j); rw[M.K j]at this; exact this,zJD⟩
theorem zOC(M:Fm K mg k X):CalR K X (.builtin "all") allS:=⟨_,fun j=>by have:=zLA (M.calm j); rw[M.K j]at this; exact this,zJC⟩
theorem zBf(M:Fm K mg k X):CalR K X (.builtin "isinstance") isiS:=⟨_,fun j=>by have:=zIZ (X:=X j); rw[M.K j]at this; exact this,zIn⟩
theorem zLo(M:Fm K mg k X):CalR K X (.builtin "max") max2S:=⟨_,fun j=>zJH (M.calm j),zHm⟩
theorem zJU:CalR K X (.type "int") intS:=⟨_,fun j=>zJW,zJu⟩
theorem zHE(M:Fm K mg k X):CalR K X (.type "list") listS:=⟨_,fun j=>by have:=zGH (X:=X j); rw[M.K j]at this; exact this,zHn⟩
theorem zBh(M:Fm K mg k X):CalR K X (.type "tuple") tupleS:=⟨_,fun j=>by have:=zE5 (X:=X j); rw[M.K j]at this; exact this,zGc⟩
theorem zEz{X:Cx}:CallR X (.type "range") rRng:=zIV.or zJz
theorem zHi{p p2 pos2:Pos}(M:Fm K mg k X)(hl:mg "list"=none)(hr:mg "range"=none)(ha:AX K X (e::es) da)(hg:∀ j,Gl (X j) "list":=by intro _; rfl)(hg2:∀ j,Gl (X j) "range":=by intro _; rfl)
  (he:∀ j,starEach (e::es) (X j).env=(false,eval e (X j).env)::starEach es (X j).env:=by intro _; rfl) (hpl:∀ j,(backTo pos2 (starEach es (X j).env)).any (·.1)=false:=by intro _; rfl) :
  EX K X (.Call (.Name "list" p) [.Call (.Name "range" p2) (e::es) [] pos2] [] pos) (dListRng da) :=
 let ⟨_,q,u⟩:=ha; ⟨_,fun j=>zBT (zF0 (M.calm j)) (hg j) (by rw[M.mg]; exact hl) PyProof.Rows.boot_list (zB3 (zBT zEz (hg2 j) (by rw[M.mg]; exact hr) PyProof.Rows.boot_range (q j) (by decide) (by decide) (he j) (hpl j)) zDx),zGe u⟩
theorem zE1{p p2 pos2:Pos}(M:Fm K mg k X)(hl:mg "tuple"=none)(hr:mg "range"=none)(ha:AX K X (e::es) da)(hg:∀ j,Gl (X j) "tuple":=by intro _; rfl)(hg2:∀ j,Gl (X j) "range":=by intro _; rfl)
  (he:∀ j,starEach (e::es) (X j).env=(false,eval e (X j).env)::starEach es (X j).env:=by intro _; rfl) (hpl:∀ j,(backTo pos2 (starEach es (X j).env)).any (·.1)=false:=by intro _; rfl) :
  EX K X (.Call (.Name "tuple" p) [.Call (.Name "range" p2) (e::es) [] pos2] [] pos) (dTupRng da) :=
 let ⟨_,q,u⟩:=ha; ⟨_,fun j=>zBT (zE4 (M.calm j)) (hg j) (by rw[M.mg]; exact hl) PyProof.Rows.boot_tuple (zB3 (zBT zEz (hg2 j) (by rw[M.mg]; exact hr) PyProof.Rows.boot_range (q j) (by decide) (by decide) (he j) (hpl j)) zDx),zHj u⟩
end
structure Fb{ι:Type}(P:Program)(wd:World)(base:Heap)(X:ι->Cx):Prop where
 P:∀ j,(X j).prog=P
 w:∀ j,(X j).w=wd
 b:∀ j,(X j).base=base
structure FD(P:Program)(wd:World)(K:Fg)(mg:Str->Option Value)(base:Heap)(k:Nat)(x:Str)(ip:Option Nat)(n:Nat)(F:DF):Prop where
 ex:∃ (f:Addr) (fd:FuncData) (ps:List Str),FnOk P wd K mg base CX0 k f fd ps (spD K ip n F)/\mg x=some (.ref f)/\PySem.W.keepIn K (.ref f)=true/\Binds K fd ps []
 len:∀ gs r,F gs=some r->gs.length=n
theorem zHT{ip:Option Nat}{np nN:Nat}{g:DS}:∀ gs r,fnD ip np nN g gs=some r->gs.length=np:=fun gs r e=>by
 unfold fnD at e
 split at e
 ·assumption
 ·cases e
section
variable {ι:Type}{P:Program}{wd:World}{base:Heap}{K:Fg}{mg:Str->Option Value}{k k' n:Nat}{X:ι->Cx}{ip:Option Nat}{a b c e:Expr}{es:List Expr}{pos p:Pos}{fa fb fc:DE}{ta tb:DT}{da:DA}{F:DF}{x:Str}
theorem zAE(M:Fm K mg k X)(B:Fb P wd base X)(D0:FD P wd K mg base k' x ip n F)(ha:AX K X (e::es) da)(hk:k'<=k:=by first | exact Nat.le_refl _ | decide | omega)(hg:∀ j,Gl (X j) x:=by intro _; rfl)(hdb:(x == ("__debug__":Str))=false:=by decide)
  (he:∀ j,starEach (e::es) (X j).env=(false,eval e (X j).env)::starEach es (X j).env:=by intro _; rfl) (hpl:∀ j,(backTo pos (starEach es (X j).env)).any (·.1)=false:=by intro _; rfl) :
  EX K X (.Call (.Name x p) (e::es) [] pos) (dCall ip F [] da):=by
 obtain⟨f,fd,ps,h1,h2,h3,h4⟩:=D0.ex
 obtain⟨t,q,u⟩:=ha
 refine⟨tCall (spD K ip n F) [] E0 t,fun j=>?_,zFY D0.len u⟩
 have hF:FnOk (X j).prog (X j).w (X j).K (X j).mg (X j).base CX0 k' f fd ps (spD K ip n F):=by rw[B.P,B.w,M.K,M.mg,B.b]; exact h1
 exact zLq hF ((M.room j).mono hk) (hg j) (by rw[M.mg]; exact h2) (by rw[M.K]; exact h3) (by rw[M.K]; exact h4) .nil pass0 (q j) hdb (he j) (hpl j)
theorem zAO{tg l:Expr}(M:Fm K mg k X)(hl:EX K X l fa):IX K X tg l (dSeqI fa):=let ⟨t,p,s⟩:=hl; ⟨iSeq K t,fun j=>by have:=zMs (tg:=tg) (p j); rw[M.K j]at this; exact this,zKz s⟩
theorem zC6{tg:Expr}(M:Fm K mg k X)(hm:mg "range"=none)(ha:AX K X [a] da)(hg:∀ j,Gl (X j) "range":=by intro _; rfl)(hs:∀ j,starEach [a] (X j).env=[(false,eval a (X j).env)]:=by intro _; rfl):IX K X tg (.Call (.Name "range" p) [a] [] pos) (dRng1 da) :=
 let ⟨_,q,u⟩:=ha; ⟨_,fun j=>zIi (hg j) (by rw[M.mg]; exact hm) (q j) (hs j),zIW u⟩
theorem zNW{elts:List Expr}{x1:Nat}{tp:Pos}(M:Fm K mg k X)(hm:mg "zip"=none)(ha:AX K X [a,b] da)(hg:∀ j,Gl (X j) "zip":=by intro _; rfl)(hs:∀ j,starEach [a,b] (X j).env=[(false,eval a (X j).env),(false,eval b (X j).env)]:=by intro _; rfl)
  (hs2:∀ j,starEach [b] (X j).env=[(false,eval b (X j).env)]:=by intro _; rfl):IX K X (.Tuple elts x1 tp) (.Call (.Name "zip" p) [a,b] [] pos) (dZip da) :=
 let ⟨t,q,u⟩:=ha; ⟨iZipU K t,fun j=>by have:=zLr (elts:=elts) (x1:=x1) (tp:=tp) (p:=p) (pos:=pos) (hg j) (by rw[M.mg]; exact hm) (q j) (hs j) (hs2 j); rw[M.K j]at this; exact this,zLC u⟩
theorem zAJ(i:Nat)(hi:ip≠some i:=by decide)(hN:∀ j,(X j).N.Nodup:=by intro _; show (List.Nodup _); decide +kernel)(hx':∀ j,(X j).N[i]?=some x:=by intro _; rfl)(hx:∀ j,Loc (X j).env.scope x:=by intro _; first | exact Or.inl rfl | exact Or.inr rfl)
  (hf:∀ j,(X j).fn x=true\/(X j).env.scope.names.lookup x=some .local:=by intro _; first | exact .inl rfl | exact .inr rfl):GX K X ip (.Name x pos) (gdName i):=⟨_,fun j=>zGo (hN j) (hx' j) (hx j) (hf j),zJb hi⟩
theorem zCD:GXs K X ip [] gdNil:=⟨_,fun _=>zMW,zJp⟩
theorem zAg{f:En->T->Option En}{g:En->List T->Option En}(h1:GX K X ip e f)(h2:GXs K X ip es g)(hst:∀ j,(assignEach (e::es) (X j).env).map (·.2)=assign e (X j).env::(assignEach es (X j).env).map (·.2):=by intro _; rfl):GXs K X ip (e::es) (gdCons f g) :=
 let ⟨_,p,s⟩:=h1; let ⟨_,q,u⟩:=h2; ⟨_,fun j=>zKg (p j) (q j) (hst j),zIA s u⟩
theorem zCi(n:Nat){kk:Nat}{g:En->List T->Option En}(M:Fm K mg k X)(h:GXs K X ip es g)(hn:∀ j,(assignEach es (X j).env).length=n:=by intro _; rfl)(hst:∀ j,(assignEach es (X j).env).findIdx? (·.1)=none:=by intro _; rfl):GX K X ip (.Tuple es kk pos) (gdTup n g) :=
 let ⟨_,p,s⟩:=h; ⟨_,fun j=>zLn K (M.K j) (M.calm j) (p j) (hn j) (hst j),zLM s⟩
def QX{ι:Type}(K:Fg)(X:ι->Cx)(ifs:List Expr)(f:DT):Prop:=∃ t,(∀ j,PTs (X j) ifs t)/\SimT K t f
def dYes:DT:=fun Γ=>some (true,Γ)
theorem zAb:QX K X [] dYes:=⟨_,fun _=>zMv,fun C w Γ σ H b Γ' Q R e k=>by cases e; exact k H R .refl⟩
theorem zJZ(h:TX K X c ta):QX K X [c] ta:=let ⟨_,p,s⟩:=h; ⟨_,fun j=>zME (p j),s⟩
abbrev CI(ι:Type):=ι×Addr×List (Str×Addr)×Shared×Hp×List Addr
abbrev cxF{ι:Type}(X:ι->Cx)(N':List Str)(sc:Scope):CI ι->Cx:=fun q=>cxC (X q.1) N' sc q.2.1 q.2.2.1 q.2.2.2.1 q.2.2.2.2.1 q.2.2.2.2.2
theorem Fm.comp{N':List Str}{sc:Scope}(M:Fm K mg k X):Fm K mg k (cxF X N' sc):=⟨fun j=>M.K j.1,fun j=>M.mg j.1,fun j=>M.calm j.1,fun j=>M.room j.1⟩
theorem Fb.comp{N':List Str}{sc:Scope}(B:Fb P wd base X):Fb P wd base (cxF X N' sc):=⟨fun j=>B.P j.1,fun j=>B.w j.1,fun j=>B.b j.1⟩
theorem zAV{N':List Str}{ix:List (Option Nat)}{sc:Scope}{elt tg iter:Expr}{ifs:List Expr}{di:DI}{g:En->T->Option En}{dc:DT}{de:DE}(mu:Option (Nat×Nat))(M:Fm K mg k X)(S:∀ j,CompOk (X j) N' ix sc)(hi:IX K X tg iter di)
  (hg:GX K (cxF X N' sc) (mu.map (·.1)) tg g) (ht:QX K (cxF X N' sc) ifs dc) (he:EX K (cxF X N' sc) elt de)
  (hmu:∀ j i,mu=some (j,i)->ix[j]?=some (some i):=by intro _ _ e; first | (cases e; rfl) | cases e) (hix:∀ (j j' i:Nat),mu.map (·.2)=some i->ix[j]?=some (some i)->ix[j']?=some (some i)->j=j')
  (hs:∀ j x,foldedSetIterable iter (X j).env x=pure x:=by intro _ _; rfl):EX K X (.ListComp elt [⟨tg,iter,ifs,0⟩] sc pos) (dComp mu ix di g dc de) :=
 let ⟨_,p1,s1⟩:=hi; let ⟨_,p2,s2⟩:=hg; let ⟨_,p3,s3⟩:=ht; let ⟨_,p4,s4⟩:=he
 ⟨_,fun j=>zMQ (S j) (M.calm j) (p1 j) (fun C cs s H ex=>p2 (j,C,cs,s,H,ex)) (fun C cs s H ex=>p3 (j,C,cs,s,H,ex)) (fun C cs s H ex=>p4 (j,C,cs,s,H,ex)) (hs j),zFa s1 s2 s3 s4 hmu hix⟩
theorem hix0{ix:List (Option Nat)}:∀ (j j' i:Nat),(none:Option (Nat×Nat)).map (·.2)=some i->ix[j]?=some (some i)->ix[j']?=some (some i)->j=j':=fun _ _ _ e=>by cases e
def onceIx(ix:List (Option Nat))(j i:Nat):Bool:=(List.range ix.length).all fun m=>decide (ix[m]?=some (some i)->m=j)
theorem hix1{ix:List (Option Nat)}{j0 i0:Nat}(h:onceIx ix j0 i0=true):∀ (j j' i:Nat),(some (j0,i0)).map (·.2)=some i->ix[j]?=some (some i)->ix[j']?=some (some i)->j=j':=by
 intro j j' i e h1 h2
 cases e
 have key:∀ m:Nat,ix[m]?=some (some i0)->m=j0:=fun m hm=>by
  have hl:=(List.getElem?_eq_some_iff.mp hm).1
  have:=List.all_eq_true.mp h m (by simpa using hl)
  exact (of_decide_eq_true this) hm
 rw[key j h1,key j' h2]
theorem zB2{i:Nat}{name:Str}{apos cpos:Pos}{id:String}{r:V->List V->Hp->VK->Prop}{h:En->List T->List S->Option (T×List T)}{y:Str}{yp:Pos}(M:Fm K mg k X)(slot:Slot "list" name id)(hty:typeOf (.builtin id)=pure (.type "method_descriptor"))(hm:∀ j,MtM (X j) id r)(hr:SimMut K r h)
  (ho:∀ j,PE (X j) (.Name y yp) (tVar i)) (ha:AX K X (e::es) da)
  (hbase:∀ j,attributeBase (.Name y yp) name (X j).env (eval (.Name y yp) (X j).env)=eval (.Name y yp) (X j).env:=by intro _; rfl)
  (hfew:∀ j,((backTo cpos (starEach (e::es) (X j).env)).all (fun x=>!x.1) && (backToKw cpos (keywordEach [] (X j).env)).all (fun x=>x.1.isSome) && decide ((e::es).length+([]:List Keyword).length+(if ([]:List Keyword).isEmpty then 0 else 1) < 30))=true:=by intro _; rfl)
  (hline:(apos.endLine == cpos.line)=true:=by rfl) (hs:∀ j,starEach (e::es) (X j).env=(false,eval e (X j).env)::starEach es (X j).env:=by intro _; rfl) (hplain:∀ j,(backTo cpos (starEach es (X j).env)).any (·.1)=false:=by intro _; rfl) :
  EX K X (.Call (.Attribute (.Name y yp) name apos) (e::es) [] cpos) (dMut i h da) :=
 let ⟨t,q,u⟩:=ha; ⟨tBM K "list" r (tVar i) t,fun j=>by have:=zLP PySem.F.plainAttrs_list slot hty (hm j) (ho j) (q j) (hbase j) (hfew j) hline (hs j) (hplain j); rw[M.K j]at this; exact this,zHO hr u⟩
theorem zHK{i:Nat}{name:Str}{apos cpos:Pos}{id:String}{r:V->List V->Hp->VK->Prop}{h:En->List T->List S->Option (T×List T)}{y:Str}{yp:Pos}(M:Fm K mg k X)(slot:Slot "list" name id)(hty:typeOf (.builtin id)=pure (.type "method_descriptor"))(hm:∀ j,MtM (X j) id r)(hr:SimMut K r h)
  (ho:∀ j,PE (X j) (.Name y yp) (tVar i)) (hbase:∀ j,attributeBase (.Name y yp) name (X j).env (eval (.Name y yp) (X j).env)=eval (.Name y yp) (X j).env:=by intro _; rfl) (hline:(apos.endLine == cpos.line)=true:=by rfl) :
  EX K X (.Call (.Attribute (.Name y yp) name apos) [] [] cpos) (dMut i h qQ) :=
 ⟨tBM0 K "list" r (tVar i),fun j=>by have:=zNe PySem.F.plainAttrs_list slot hty (hm j) (ho j) (hbase j) hline; rw[M.K j]at this; exact this,zLH hr⟩
theorem pv'(i:Nat){x:Str}{pos:Pos}(hN:∀ j,(X j).N[i]?=some x:=by intro _; rfl)(hv:∀ j,Vis (X j).env.scope x:=by intro _; first | exact Or.inl rfl | exact Or.inr (Or.inl rfl) | exact Or.inr (Or.inr rfl))(hd:(x == ("__debug__":Str))=false:=by decide)
  (hcd:(x == ("__classdict__":Str))=false:=by decide):∀ j,PE (X j) (.Name x pos) (tVar i):=fun j=>zCm (hN j) (hv j) hd hcd
variable {st:Stmt}{sts sts':List Stmt}{f g:DS}
theorem zAW:BX K X ip [] dNext:=⟨_,fun _=>zLc,zJA⟩
theorem zAC(h:SX K X ip st f):BX K X ip [st] f:=let ⟨_,p,s⟩:=h; ⟨_,fun j=>zMA (p j),s⟩
theorem zAA(h:SX K X ip st f)(h2:BX K X ip sts g):BX K X ip (st::sts) (dSeq f g):=let ⟨_,p,s⟩:=h; let ⟨_,q,u⟩:=h2; ⟨_,fun j=>zLJ (p j) (q j),zLE s u⟩
theorem zCE(h:EX K X e fa)(hs:∀ j,swapsWith e none pos.line (X j).env=pure false:=by intro _; rfl):SX K X ip (.Expr e pos) (dDrop fa):=let ⟨_,p,s⟩:=h; ⟨_,fun j=>zMP (p j) (hs j),zJT s⟩
theorem zAH(h:EX K X e fa):SX K X ip (.Return (some e) pos) (dRet fa):=let ⟨_,p,s⟩:=h; ⟨_,fun j=>zNf (p j),zKZ s⟩
theorem zAd(hc:TX K X c ta)(h1:BX K X ip sts f)(h2:BX K X ip sts' g):SX K X ip (.If c sts sts' pos) (dIf ta f g):=let ⟨_,p,s⟩:=hc; let ⟨_,q,u⟩:=h1; let ⟨_,q',u'⟩:=h2; ⟨_,fun j=>zPA (p j) (q j) (q' j),zMC s u u'⟩
theorem zAF(i:Nat){pos':Pos}(h:EX K X e fa)(hi:ip≠some i:=by decide)(hN:∀ j,(X j).N.Nodup:=by intro _; show (List.Nodup _); decide +kernel)(hx':∀ j,(X j).N[i]?=some x:=by intro _; rfl)(hx:∀ j,Loc (X j).env.scope x:=by intro _; first | exact Or.inl rfl | exact Or.inr rfl)
  (hs:∀ j,swapsWith e (some (.Name x pos')) pos.line (X j).env=pure false:=by intro _; rfl) (hf:∀ j,(X j).fn x=true\/(X j).env.scope.names.lookup x=some .local:=by intro _; first | exact .inl rfl | exact .inr rfl):SX K X ip (.Assign [.Name x pos'] e pos) (dSet i fa) :=
 let ⟨_,p,s⟩:=h; ⟨_,fun j=>zJn (hN j) (hx' j) (hx j) (p j) (hs j) (hf j),zGR s hi⟩
theorem zEM{N':List Str}{ix:List (Option Nat)}{sc:Scope}{elt tg iter:Expr}{ifs:List Expr}{di:DI}{gg:En->T->Option En}{dc:DT}{de:DE}{pos' spos:Pos}(i:Nat)(mu:Option (Nat×Nat))(M:Fm K mg k X)(S:∀ j,CompOk (X j) N' ix sc)(h1:IX K X tg iter di)
  (hg:GX K (cxF X N' sc) (mu.map (·.1)) tg gg) (ht:QX K (cxF X N' sc) ifs dc) (he:EX K (cxF X N' sc) elt de)
  (hix:∀ (j j' i:Nat),mu.map (·.2)=some i->ix[j]?=some (some i)->ix[j']?=some (some i)->j=j') (hi:ip≠some i:=by decide) (hmu:∀ j i,mu=some (j,i)->ix[j]?=some (some i):=by intro _ _ e; first | (cases e; rfl) | cases e)
  (hN:∀ j,(X j).N.Nodup:=by intro _; show (List.Nodup _); decide +kernel) (hx':∀ j,(X j).N[i]?=some x:=by intro _; rfl) (hx:∀ j,Loc (X j).env.scope x:=by intro _; first | exact Or.inl rfl | exact Or.inr rfl)
  (hsw:∀ j,swapsWith (.ListComp elt [⟨tg,iter,ifs,0⟩] sc pos) (some (.Name x pos')) spos.line (X j).env=pure true:=by intro _; rfl)
  (hf:∀ j,(X j).fn x=true\/(X j).env.scope.names.lookup x=some .local:=by intro _; first | exact .inl rfl | exact .inr rfl)
  (hs:∀ j x,foldedSetIterable iter (X j).env x=pure x:=by intro _ _; rfl):SX K X ip (.Assign [.Name x pos'] (.ListComp elt [⟨tg,iter,ifs,0⟩] sc pos) spos) (dSet i (dComp mu ix di gg dc de)) :=
 let ⟨_,p1,s1⟩:=h1; let ⟨_,p2,s2⟩:=hg; let ⟨_,p3,s3⟩:=ht; let ⟨_,p4,s4⟩:=he
 ⟨_,fun j=>zL7 (hN j) (hx' j) (hx j) (S j) (M.calm j) (p1 j) (fun C cs s H ex=>p2 (j,C,cs,s,H,ex)) (fun C cs s H ex=>p3 (j,C,cs,s,H,ex)) (fun C cs s H ex=>p4 (j,C,cs,s,H,ex)) (hsw j) (hf j) (hs j),zGR (zFa s1 s2 s3 s4 hmu hix) hi⟩
theorem zGF(i:Nat){y:Str}{yp p2:Pos}(he:EX K X e fa)(ho:∀ j,PE (X j) (.Name y yp) (tVar i))(hb:EX K X b fb)(hs:∀ j,swapsWithSole [.Subscript (.Name y yp) b p2] e pos.line (X j).env=pure false:=by intro _; rfl)(hw:∀ j,swappedStores [.Subscript (.Name y yp) b p2] e (X j).env=pure none:=by intro _; rfl)
  (hA:∀ j v,assign (.Subscript (.Name y yp) b p2) (X j).env v=(do let ov ← holding [v] (eval (.Name y yp) (X j).env); let iv ← holding [v,ov] (eval b (X j).env); standAt p2; holding [v,ov,iv] (setItem ov iv v); release [v,ov,iv] []):=by intro _ _; rfl) (h1:∀ j,(assignEach [.Subscript (.Name y yp) b p2] (X j).env).map (·.2)=[assign (.Subscript (.Name y yp) b p2) (X j).env]:=by intro _; rfl) :
  SX K X ip (.Assign [.Subscript (.Name y yp) b p2] e pos) (dSetIx i fa fb) :=
 let ⟨_,p,s⟩:=he; let ⟨_,q,u⟩:=hb; ⟨_,fun j=>zOB (p j) (zNQ (ho j) (q j) zKr (hA j)) (hs j) (hw j) (h1 j),zHy s u⟩
theorem zDU(nn:Nat)(hp:∀ j,PassesOwn (model (X j).prog (X j).w) (X j).A (X j).env (X j).xe)(hc:TX K X c ta)(hb:BX K X ip sts f):SX K X ip (.While c sts [] pos) (dWhile ta f nn) :=
 let ⟨_,p,s⟩:=hc; let ⟨_,q,u⟩:=hb; ⟨_,fun j=>zKh (hp j) (p j) (q j),zHb nn s u⟩
theorem zBI{tg iter:Expr}{di:DI}{gg:En->T->Option En}(M:Fm K mg k X)(hp:∀ j,PassesOwn (model (X j).prog (X j).w) (X j).A (X j).env (X j).xe)(hi:IX K X tg iter di)(hg:GX K X ip tg gg)(hb:BX K X ip sts f)
  (hs:∀ j x,foldedSetIterable iter (X j).env x=pure x:=by intro _ _; rfl):SX K X ip (.For tg iter sts [] pos) (dFor ip di gg f) :=
 let ⟨_,p1,s1⟩:=hi; let ⟨_,p2,s2⟩:=hg; let ⟨_,p3,s3⟩:=hb; ⟨_,fun j=>zNg (hp j) (M.calm j) (p1 j) (p2 j) (p3 j) (hs j),zKU s1 s2 s3⟩
end
section
variable {P:Program}{wd:World}{base:Heap}{K:Fg}{mg:Str->Option Value}{k:Nat}
abbrev cx1(P:Program)(wd:World)(K:Fg)(mg:Str->Option Value)(base:Heap)(N:List Str)(qual:Str)(sc:Scope)(f:Addr)(cdv:Value)(A:Around)(outer:List Env)(s:Shared)(H:Hp)(E:XK):Unit->Cx:=fun _=>(cxOf CX0 P wd K mg base N qual sc f cdv A outer s H E).nox
theorem zAS{x:Str}{st:Stmt}{f:Addr}{fd:FuncData}{N ps:List Str}{ip:Option Nat}{g:DS}(F:Fun K x x st f fd)(S:FnScope N ps (defScope st))(hm:mg x=some (.ref f))(hb:Binds K fd ps [])
  (body:∀ (cdv:Value) (A:Around) (outer:List Env) (s:Shared) (H:Hp) (E:XK),Fm K mg k (cx1 P wd K mg base N x (defScope st) f cdv A outer s H E)->Fb P wd base (cx1 P wd K mg base N x (defScope st) f cdv A outer s H E)->BX K (cx1 P wd K mg base N x (defScope st) f cdv A outer s H E) ip (defBody st) g) :
  FD P wd K mg base (k+1) x ip ps.length (fnD ip ps.length N.length g):=by
 refine⟨⟨f,fd,ps,?_,hm,F.kp,hb⟩,zHT⟩
 refine F.ok S (fun vs H Q E h=>h.1) fun cdv A outer s H vs Q E hr h=>?_
 obtain⟨t,p,u⟩:=body cdv A outer s H E ⟨fun _=>rfl,fun _=>rfl,fun _=>rfl,fun _=>hr⟩ ⟨fun _=>rfl,fun _=>rfl,fun _=>rfl⟩
 exact⟨t,p (),zD9 u h⟩
end
section
variable {P:Program}{wd:World}{base:Heap}{K:Fg}{mg:Str->Option Value}{k:Nat}
theorem zOn{x:Str}{st:Stmt}{f:Addr}{fd:FuncData}{N ps:List Str}{ip:Option Nat}{g:DS}(F:Fun K x x st f fd)(S:FnScope N ps (defScope st))
  (body:∀ (cdv:Value) (A:Around) (outer:List Env) (s:Shared) (H:Hp) (E:XK),Fm K mg k (cx1 P wd K mg base N x (defScope st) f cdv A outer s H E)->Fb P wd base (cx1 P wd K mg base N x (defScope st) f cdv A outer s H E)->BX K (cx1 P wd K mg base N x (defScope st) f cdv A outer s H E) ip (defBody st) g) :
  FnOk P wd K mg base CX0 (k+1) f fd ps (spD K ip ps.length (fnD ip ps.length N.length g)):=by
 refine F.ok S (fun vs H Q E h=>h.1) fun cdv A outer s H vs Q E hr h=>?_
 obtain⟨t,p,u⟩:=body cdv A outer s H E ⟨fun _=>rfl,fun _=>rfl,fun _=>rfl,fun _=>hr⟩ ⟨fun _=>rfl,fun _=>rfl,fun _=>rfl⟩
 exact⟨t,p (),zD9 u h⟩
theorem zHD{x:Str}{st:Stmt}{f:Addr}{fd:FuncData}{ps:List Str}{ip:Option Nat}{n:Nat}(F:Fun K x x st f fd)(hm:mg x=some (.ref f))(hb:Binds K fd ps [])(hn:ps.length=n):FD P wd K mg base k x ip n (fun _=>none):=by
 refine⟨⟨f,fd,ps,⟨fun vs H Q E h=>h.1.trans hn.symm,fun A outer s H args us vs Q E _ _ _ _ h=>?_⟩,hm,F.kp,hb⟩,fun gs r e=>nomatch e⟩
 obtain⟨_,w,gs,r,ys,e,_⟩:=h
 cases e
theorem len1{us:List Value}(h:us.length=1):∃ a,us=[a]:=List.length_eq_one_iff.mp h
theorem lenSc{us:List Value}{n:Nat}(h:us.length=n+1):∃ a r,us=a::r/\r.length=n:=by
 cases us with
 | nil=>cases h
 | cons a r=>exact⟨a,r,rfl,Nat.succ.inj h⟩
theorem len2{us:List Value}(h:us.length=2):∃ a b,us=[a,b]:=by
 obtain⟨a,r,rfl,h'⟩:=lenSc h
 obtain⟨b,rfl⟩:=len1 h'
 exact⟨a,b,rfl⟩
theorem len3{us:List Value}(h:us.length=3):∃ a b c,us=[a,b,c]:=by
 obtain⟨a,r,rfl,h'⟩:=lenSc h
 obtain⟨b,c,rfl⟩:=len2 h'
 exact⟨a,b,c,rfl⟩
def intsT(ns:List Int):List T:=ns.map fun i=>.a (.int i)
end
def setM(i:Nat)(s:S)(Γ:En):Option En:=match s with
 | .v t=>some (Γ.set i (some (.v t)))
 | .l xs=>some (Γ.set i (some (.l xs)))
 | .d _=>none
 | .s j=>match Γ[j]? with
  | some (some (.r xs))=>some (Γ.set i (some (.r xs)))
  | some (some (.l xs))=>some ((Γ.set j none).set i (some (.l xs)))
  | _=>none
def dMv(i j:Nat):DS:=fun Γ=>(jV j Γ).bind fun p=>(setM i p.1 p.2).map .nx
theorem Rep.forget{K:Fg}{C:Fr}{w:W}{Γ:En}{σ:St}{H:Hp}{j:Nat}(r:Rep K C w Γ σ H)(hn:∀ q∈C.pins,q.1≠j):Rep K C w (Γ.set j none) σ H where
 len:=by simpa using r.len
 val:=fun i g h=>by
  by_cases e:i=j
  ·subst e
   rw[List.getElem?_set]at h
   split at h
   ·split at h <;> simp at h
   ·exact absurd rfl ‹_›
  ·rw[List.getElem?_set_ne (Ne.symm e)]at h
   exact r.val i g h
 apart:=fun a b p ga gb ma mb h1 h2 h3 h4=>by
  have back:∀ (m:Nat) (zs:G),(Γ.set j none)[m]?=some (some zs)->Γ[m]?=some (some zs):=fun m zs h=>by
   by_cases e:m=j
   ·subst e
    rw[List.getElem?_set]at h
    split at h
    ·split at h <;> simp at h
    ·exact absurd rfl ‹_›
   ·rw[List.getElem?_set_ne (Ne.symm e)]at h; exact h
  exact r.apart a b p ga gb ma mb (back _ _ h1) (back _ _ h2) h3 h4
 lst:=r.lst
 own:=r.own
 ra:=r.ra
 rl:=r.rl
 frame:=r.frame
 tab:=r.tab
 pin:=fun q hq=>by
  obtain⟨a,xs,b⟩:=r.pin q hq
  exact⟨a,xs,by rw[List.getElem?_set_ne (Ne.symm (hn q hq))]; exact b⟩
theorem Rep.move{K:Fg}{C:Fr}{w:W}{Γ:En}{σ:St}{H:Hp}{i j:Nat}{v:V}{xs:List T}(r:Rep K C w Γ σ H)(hj:Γ[j]?=some (some (.l xs)))(hv:σ[j]?=some (some v))(hni:∀ q∈C.pins,q.1≠i)(hnj:∀ q∈C.pins,q.1≠j) :
  Rep K C w ((Γ.set j none).set i (some (.l xs))) (σ.set i (some v)) H:=by
 have r':=r.forget (j:=j) hnj
 obtain⟨v',e1,e2⟩:=r.val j _ hj
 rw[hv]at e1; cases e1
 obtain⟨p,vs,rfl,hp,h1,h2⟩:=e2
 have hjl:j < Γ.length:=(List.getElem?_eq_some_iff.mp hj).1
 refine⟨by simpa using r.len,fun m g h=>?_,fun a b c ga gb ma mb g1 g2 g3 g4=>?_,r.lst,r.own,r.ra,r.rl,r.frame,r.tab,fun q hq=>?_⟩
 ·by_cases e:m=i
  ·subst e
   have hml:m < (Γ.set j none).length:=by
    rcases Nat.lt_or_ge m (Γ.set j none).length with z | z
    ·exact z
    ·rw[List.getElem?_eq_none (by simpa using z)]at h; cases h
   rw[List.getElem?_set_self hml]at h
   cases h
   exact⟨_,by rw[List.getElem?_set_self (by rw[r'.len]; exact hml)],p,vs,rfl,hp,h1,h2⟩
  ·rw[List.getElem?_set_ne (Ne.symm e)]at h
   rw[List.getElem?_set_ne (Ne.symm e)]
   exact r'.val m g h
 ·have old:∀ (m:Nat) (gc:G),isMut gc=true->m≠i->((Γ.set j none).set i (some (.l xs)))[m]?=some (some gc)->(σ.set i (some (.ref p)))[m]?=some (some (.ref c))->m≠j/\Γ[m]?=some (some gc)/\σ[m]?=some (some (.ref c))/\c≠p:=fun m gc mc e h h'=>by
   rw[List.getElem?_set_ne (Ne.symm e)]at h
   rw[List.getElem?_set_ne (Ne.symm e)]at h'
   have hmj:m≠j:=fun z=>by subst z; rw[List.getElem?_set_self hjl]at h; cases h
   rw[List.getElem?_set_ne (Ne.symm hmj)]at h
   exact⟨hmj,h,h',fun z=>hmj (r.apart m j c _ _ mc rfl h hj h' (z ▸ hv))⟩
  have at_i:∀ (h:(σ.set i (some (.ref p)))[i]?=some (some (V.ref c))),c=p:=fun h=>by
   have hil:i < (σ.set i (some (V.ref p))).length:=(List.getElem?_eq_some_iff.mp h).1
   rw[List.getElem?_set_self (by simpa using hil)]at h
   cases h; rfl
  by_cases ea:a=i
  ·by_cases eb:b=i
   ·rw[ea,eb]
   ·exact absurd (at_i (ea ▸ g3)) (old b gb mb eb g2 g4).2.2.2
  ·by_cases eb:b=i
   ·exact absurd (at_i (eb ▸ g4)) (old a ga ma ea g1 g3).2.2.2
   ·exact r.apart a b c ga gb ma mb (old a ga ma ea g1 g3).2.1 (old b gb mb eb g2 g4).2.1 (old a ga ma ea g1 g3).2.2.1 (old b gb mb eb g2 g4).2.2.1
 ·obtain⟨a,ys,b⟩:=r'.pin q hq
  exact⟨by rw[List.getElem?_set_ne (Ne.symm (hni q hq))]; exact a,ys,by rw[List.getElem?_set_ne (Ne.symm (hni q hq))]; exact b⟩
theorem zMJ{K:Fg}{C:Fr}{w:W}{Γ Γ':En}{σ:St}{H:Hp}{v:V}{s:S}{i j:Nat}(R:Rep K C w Γ σ H)(o:SOk K C w σ H v s)(e:setM i s Γ=some Γ')(hs:∀ m,s=.s m->m=j)(hn:∀ q∈C.pins,q.1≠i)(hm:∀ q∈C.pins,q.1≠j):∃ w',Rep K C w' Γ' (σ.set i (some v)) H:=by
 cases s with
 | v t=>cases e; exact⟨w,R.setv rfl o hn⟩
 | d _=>cases e
 | l xs =>
  cases e
  obtain⟨p,vs,rfl,n1,n2,ow,h1,h2⟩:=o
  exact⟨_,R.setl n1 n2 ow h1 h2 hn⟩
 | s m =>
  cases hs m rfl
  unfold setM at e
  dsimp only at e
  have o':σ[j]?=some (some v):=o
  split at e
  ·rename_i xs he
   cases e
   obtain⟨v',e1,e2⟩:=R.val j _ he
   rw[o']at e1; cases e1
   exact⟨w,R.setv rfl e2 hn⟩
  ·rename_i xs he
   cases e
   exact⟨w,R.move he o' hn hm⟩
  ·cases e
theorem zNw{j:Nat}{Γ:En}{p:S×En}(e:jV j Γ=some p):∀ m,p.1=.s m->m=j:=by
 intro m hm
 unfold jV at e
 split at e <;> first | cases e | (cases e; cases hm) | (cases e; cases hm; rfl)
 all_goals first | (cases hm; done) | (cases hm; rfl)
theorem zL2{K:Fg}{ip:Option Nat}{i j:Nat}{te:TE}(h:SimE K te (jV j))(hi:ip≠some i)(hj:ip≠some j):SimS K ip (tAsg te (gName i)) (dMv i j):=by
 intro C w Γ σ H D o hp R e k
 obtain⟨p,e1,e⟩:=bind_some e
 obtain⟨Γ1,e2,e⟩:=map_some e
 subst e
 refine h C w Γ σ H p.1 p.2 _ R e1 fun v H1 R1 _ o1 _=>?_
 obtain⟨w',R'⟩:=zMJ (j:=j) R1 o1 e2 (zNw e1) (zBK hp hi) (zBK hp hj)
 exact k w' _ H1 R'
section
variable {ι:Type}{K:Fg}{X:ι->Cx}{ip:Option Nat}{e:Expr}{x:Str}{pos:Pos}
theorem zOI(i j:Nat){pos':Pos}(h:EX K X e (jV j))(hi:ip≠some i:=by decide)(hj:ip≠some j:=by decide)(hN:∀ j,(X j).N.Nodup:=by intro _; show (List.Nodup _); decide +kernel)(hx':∀ j,(X j).N[i]?=some x:=by intro _; rfl)(hx:∀ j,Loc (X j).env.scope x:=by intro _; first | exact Or.inl rfl | exact Or.inr rfl)
  (hs:∀ j,swapsWith e (some (.Name x pos')) pos.line (X j).env=pure false:=by intro _; rfl) (hf:∀ j,(X j).fn x=true\/(X j).env.scope.names.lookup x=some .local:=by intro _; first | exact .inl rfl | exact .inr rfl):SX K X ip (.Assign [.Name x pos'] e pos) (dMv i j) :=
 let ⟨_,p,s⟩:=h; ⟨_,fun j=>zJn (hN j) (hx' j) (hx j) (p j) (hs j) (hf j),zL2 s hi hj⟩
end
end D
namespace L2
open PySem PySem.Spec PyProof.Rows
theorem zMR:Slot "reversed" "__init__" "object.__init__" :=
 .of (owner:="object") (n:="__init__") (by rw[typeLookup_type,builtinLookup_eq_fast]; kernel_rfl) (by decide +kernel) (by decide +kernel) (by decide +kernel)
  (by first | exact .inl (by decide +kernel) | exact .inr (by decide +kernel)) (by rw[isSubtype_type]; kernel_rfl)
theorem zIR:TypeCalled "reversed" "reversed.__new__" "object.__init__" :=
 ⟨by decide +kernel,by decide +kernel,⟨_,_,F.mro_reversed⟩,F.made_reversed,by decide +kernel,by rw[isSubtype_type]; kernel_rfl,zMR⟩
theorem zDJ:Manifest.owners.lookup (String.ofList ['d','e','s','r','e','v','e','r'].reverse)=some Manifest.sig_reversed:=by kernel_rfl
theorem zCC:Slot "reversed" "__next__" "reversed.__next__" :=
 .of (owner:="reversed") (n:="__next__") (by rw[typeLookup_type,builtinLookup_eq_fast]; kernel_rfl) (by decide +kernel) (by decide +kernel) (by decide +kernel)
  (by first | exact .inl (by decide +kernel) | exact .inr (by decide +kernel)) (by rw[isSubtype_type]; kernel_rfl)
theorem zCZ:entryFor table "reversed.__next__"=some Builtin.«reversed.__next__»:=entryFor_of_tree (by kernel_rfl)
theorem zG2:Slot "reversed" "__iter__" "reversed.__iter__" :=
 .of (owner:="reversed") (n:="__iter__") (by rw[typeLookup_type,builtinLookup_eq_fast]; kernel_rfl) (by decide +kernel) (by decide +kernel) (by decide +kernel)
  (by first | exact .inl (by decide +kernel) | exact .inr (by decide +kernel)) (by rw[isSubtype_type]; kernel_rfl)
theorem zLZ:typeLookup (.type "tuple") "__reversed__"=pure none:=by rw[typeLookup_type,builtinLookup_eq_fast]; kernel_rfl
theorem zL5:isSubtype (.type "tuple") (.type "dict")=pure false:=by rw[isSubtype_type]; kernel_rfl
theorem zCj(a:Value):argsOk "reversed.__next__" ⟨[a],[]⟩:=by
 unfold argsOk; rw[signature?_of (id:="reversed.__next__") (n:=['_','_','t','x','e','n','_','_']) (o:=['d','e','s','r','e','v','e','r']) (by kernel_rfl) zDJ]; kernel_rfl
theorem zGJ(a:Value):argsOk "reversed.__iter__" ⟨[a],[]⟩:=by
 unfold argsOk; rw[signature?_of (id:="reversed.__iter__") (n:=['_','_','r','e','t','i','_','_']) (o:=['d','e','s','r','e','v','e','r']) (by kernel_rfl) zDJ]; kernel_rfl
theorem zFB:entryFor table "reversed.__iter__"=some Builtin.«dict_keyiterator.__iter__» :=
 entryFor_alias (id':="dict_keyiterator.__iter__") (by kernel_rfl) (by first | rfl | decide +kernel | (unfold String.splitOn; simp +decide [String.splitOnAux])) (by decide +kernel) (by kernel_rfl)
abbrev IsRv(h:Heap)(e l:Addr)(i:Int):Prop:=h.get? e=some { cls:=.type "reversed",dict:=none,data:=.fields #[.ref l,rawInt i],slots:=#[] }
section
variable {prog:Program}{w:World}{A:Around}{E:Value->Shared->Prop}{s:Shared}
theorem zLl{l:Addr}{xs:Array Value}{Q:Bool->Shared->Prop}(hl:s.heap.IsTuple l xs)(hQ:Q true s):wpAny (model prog w) A (do
  if ← isInstance (.ref l) (.type "dict") then return false
  match ← specialOf (.ref l) "__getitem__" with
  | none=>return false
  | some (.builtin id) =>
   if ["tuple.__getitem__","str.__getitem__","bytes.__getitem__","bytearray.__getitem__","memoryview.__getitem__","numpy.ndarray.__getitem__","sqlite3.Row.__getitem__"].contains id then return true
   if id == "sqlite3.Blob.__getitem__" then return false
   unsupported "reversed.__new__:is-it-a-sequence"
  | some _=>return true) Q E s:=by
 refine wpAny_bind (wpAny_isInstance hl.typeIs zL5 ?_)
 refine wpAny_bind (wpAny_specialOf hl.typeIs F.slot_tuple_getitem.lookup ?_)
 exact wpAny_pure hQ
theorem zIw(l:Addr)(xs:Array Value)(hz:xs.size<=sizeLine) :
  Meets (Builtin.«reversed.__new__» ⟨[.type "reversed",.ref l],[]⟩) (fun _ R s=>s.heap.IsTuple l xs /\
   R (.ok (.ret (.ref s.heap.objs.size))) { s with heap:=s.heap.push { cls:=.type "reversed",data:=.fields #[.ref l,rawInt ((xs.size:Int) - 1)] },toks:=s.toks+1+1 }) :=
 .of_wp fun prog w A R s h=>by
  obtain⟨hl,h⟩:=h
  unfold Builtin.«reversed.__new__»
  refine wpAny_bind (wpAny_of_eq (newClass_reversed _) ?_)
  try dsimp only
  refine wpAny_bind (wpAny_of_eq (a:=()) (by first | rfl | kernel_rfl) ?_)
  refine wpAny_bind (wpAny_of_eq (a:=()) (by first | rfl | kernel_rfl) ?_)
  try dsimp only
  refine wpAny_bind (wpAny_specialOf hl.typeIs zLZ ?_)
  try dsimp only
  refine wpAny_bind (zLl hl ?_)
  rw[if_neg (by decide)]
  refine wpAny_bind (len_tuple hl (by have:=hz; rw[sizeLine_eq]at this; omega) ?_)
  refine wpAny_bind (wpAny_of_eq (a:=some (xs.size:Int)) (by first | rfl | kernel_rfl) ?_)
  try dsimp only
  refine wpAny_bind (m:=Builtin.SmallTypes.newRecord _ _) ?_
  unfold Builtin.SmallTypes.newRecord
  refine wpAny_newObj_type ?_ (by size_fits)
  exact wpAny_pure ⟨_,rfl,h⟩
theorem zEW{e l:Addr}{i:Int}{Q:Value->Shared->Prop}(he:IsRv s.heap e l i)(h:Q (.ref e) s):wpAny (model prog w) A (pyIter (.ref e)) Q E s:=by
 have hT:s.TypeIs (.ref e) "reversed":=⟨_,he,rfl⟩
 refine wpAny_pyIter_slot hT zG2 (wpAny_call_entry zG2 hT zFB ?_ (zGJ _))
 show wpAny _ _ (ret (.ref e)) _ _ s
 exact wpAny_pure ⟨_,rfl,"reversed",_,hT,zCC.lookup,h⟩
theorem zLt{e l:Addr}{i:Nat}{xs:Array Value}{x:Value}{Q:Option Value->Shared->Prop}(he:IsRv s.heap e l (i:Int))(hl:s.heap.IsTuple l xs)(hz:xs.size<=sizeLine)(hx:xs[i]?=some x)
  (hQ:∀ h' tk,IsRv h' e l ((i:Int) - 1)->Heap.SameBut e s.heap h'->Q (some x) { s with heap:=h',toks:=tk }):wpAny (model prog w) A (pyNext (.ref e)) Q E s:=by
 have hT:s.TypeIs (.ref e) "reversed":=⟨_,he,rfl⟩
 have hi:i < xs.size:=(Array.getElem?_eq_some_iff.mp hx).1
 rw[sizeLine_eq]at hz
 obtain⟨hp,g,d,tk,os⟩:=s
 unfold pyNext
 refine wpAny_bind (wpAny_attempt (wpAny_callSpecial?_slot (name:=Str.ofString "__next__") hT zCC (wpAny_call_entry zCC hT zCZ ?_ (zCj _))))
 unfold Builtin.«reversed.__next__»
 refine wpAny_bind (wpAny_of_eq (a:=(Value.ref e,[])) rfl ?_)
 try dsimp only
 refine wpAny_bind (wpAny_field he rfl (x:=.ref l) rfl ?_)
 refine wpAny_bind (wpAny_field he rfl (x:=rawInt (i:Int)) rfl ?_)
 show wpAny _ _ (if (i:Int) < 0 then _ else _) _ _ _
 rw[if_neg (by omega)]
 refine wpAny_bind (wpAny_specialOf hl.typeIs F.slot_tuple_getitem.lookup ?_)
 try dsimp only
 rw[if_neg (by decide)]
 refine wpAny_bind (wpAny_mkInt ?_)
 refine wpAny_bind (wpAny_attempt (PyProof.Rows.getItem_tuple (j:=i) hl (by omega) (by omega) (by rw[seqIndex_of (by omega) (by omega),Int.toNat_natCast]) hx ?_))
 show wpAny _ _ (field (.ref e) 1 >>= _) _ _ _
 refine wpAny_bind (wpAny_field he rfl (x:=rawInt (i:Int)) rfl ?_)
 show wpAny _ _ (setField (.ref e) 1 (rawInt ((i:Int) - 1)) >>= _) _ _ _
 refine wpAny_bind (wpAny_setField_rec he (by simp) fun h1 e1 b1=>?_)
 exact wpAny_pure ⟨x,rfl,wpAny_pure (hQ h1 _ e1 b1)⟩
theorem zNV{e l:Addr}{Q:Option Value->Shared->Prop}(hh:A.handled=none)(he:IsRv s.heap e l (-1))(hQ:∀ h',Heap.ExtBut e s.heap h'->Q none { s with heap:=h' }):wpAny (model prog w) A (pyNext (.ref e)) Q E s:=by
 have hT:s.TypeIs (.ref e) "reversed":=⟨_,he,rfl⟩
 obtain⟨hp,g,d,tk,os⟩:=s
 unfold pyNext
 refine wpAny_bind (wpAny_attempt (wpAny_callSpecial?_slot (name:=Str.ofString "__next__") hT zCC (wpAny_call_entry zCC hT zCZ ?_ (zCj _))))
 unfold Builtin.«reversed.__next__»
 refine wpAny_bind (wpAny_of_eq (a:=(Value.ref e,[])) rfl ?_)
 try dsimp only
 refine wpAny_bind (wpAny_field he rfl (x:=.ref l) rfl ?_)
 refine wpAny_bind (wpAny_field he rfl (x:=rawInt (-1)) rfl ?_)
 show wpAny _ _ (if (-1:Int) < 0 then _ else _) _ _ _
 rw[if_pos (by decide)]
 refine wpAny_bind (wpAny_rule ?_)
 refine wpAny_bind ?_
 show wpAny _ _ (setField (.ref e) 1 (rawInt (-1)) >>= fun _=>setField (.ref e) 0 .none) _ _ _
 refine wpAny_bind (wpAny_setField_rec he (by simp) fun h1 e1 b1=>?_)
 replace e1:IsRv h1 e l (-1):=e1
 refine wpAny_setField_rec e1 (by simp) fun h2 e2 b2=>?_
 replace b1:Heap.SameBut e hp h1:=b1
 replace b2:Heap.SameBut e h1 h2:=b2
 have x2:Heap.ExtBut e hp h2:=fun c o hc q=>b2.extBut c o hc (b1.extBut c o hc q)
 refine wpAny_bind ?_
 show wpAny _ _ (newExc (.type "StopIteration") [] >>= _) _ _ _
 refine wpAny_bind ?_
 simp only[newExc,newTuple]
 refine wpAny_bind (wpAny_newObj_type ?_ (by size_fits))
 refine wpAny_bind (m:=firstArgMember _ _) (wpAny_of_eq (a:=Value.none) (by first | rfl | (simp only[firstArgMember]; rfl)) ?_)
 refine wpAny_newObj_type ?_ (by size_fits)
 simp only[raiseNew]
 refine wpAny_bind (wpAny_handled ?_)
 first | rw[show A.in1.handled=none from hh] | rw[hh]
 refine wpAny_bind (wpAny_pure (wpAny_throw ?_))
 refine wpAny_bind (wpAny_isInstance (T:="StopIteration") (b:=true) ⟨_,Heap.get?_push_size _ rfl,rfl⟩ isSubtype_stop ?_)
 exact wpAny_pure (hQ _ ((x2.push _).push _))
end
end L2
namespace D
open PySem L2
def intsOf:List T->Option (List Int)
 | []=>some []
 | .a (.int n)::r=>(intsOf r).map fun ns=>n::ns
 | _::_=>none
theorem zEo:∀ {xs:List T} {ns:List Int},intsOf xs=some ns->xs=(ns.map V.int).map T.a
 | [],ns,e=>by cases e; rfl
 | x::r,ns,e=>by
  unfold intsOf at e
  split at e
  ·rename_i h; cases h
  ·rename_i n r' h
   cases h
   obtain⟨ms,e1,e⟩:=map_some e
   subst e
   rw[zEo e1]; rfl
  ·cases e
end D
namespace D
open PySem L2
def ixL{α:Type}(l:List α)(i:Nat):Option α:=l[i]?
@[simp,simp ↓] theorem zSp{α:Type}{x:α}{r:List α}:ixL (x::r) 0=some x:=rfl
@[simp,simp ↓] theorem zTE{α:Type}{x:α}{r:List α}{n:Nat}:ixL (x::r) (n+1)=ixL r n:=rfl
@[simp,simp ↓] theorem zS1{α:Type}{n:Nat}:ixL ([]:List α) n=none:=rfl
@[simp high,simp ↓ high] theorem gd_0{α:Type}{x:α}:gd 0 x=some x:=rfl
@[simp high,simp ↓ high] theorem gd_1{α:Type}{x:α}:gd 1 x=some x:=rfl
@[simp high,simp ↓ high] theorem gd_2{α:Type}{x:α}:gd 2 x=some x:=rfl
@[simp high,simp ↓ high] theorem gd_3{α:Type}{x:α}:gd 3 x=some x:=rfl
@[simp high,simp ↓ high] theorem gd_4{α:Type}{x:α}:gd 4 x=some x:=rfl
@[simp high,simp ↓ high] theorem gd_5{α:Type}{x:α}:gd 5 x=some x:=rfl
@[simp high,simp ↓ high] theorem gd_6{α:Type}{x:α}:gd 6 x=some x:=rfl
@[simp high,simp ↓ high] theorem gd_7{α:Type}{x:α}:gd 7 x=some x:=rfl
@[simp high,simp ↓ high] theorem gd_8{α:Type}{x:α}:gd 8 x=some x:=rfl
@[simp high,simp ↓ high] theorem gd_9{α:Type}{x:α}:gd 9 x=some x:=rfl
@[simp high,simp ↓ high] theorem zSz{α:Type}{x:α}:gd 10 x=some x:=rfl
@[simp high,simp ↓ high] theorem zSt{α:Type}{x:α}:gd 11 x=some x:=rfl
@[simp high,simp ↓ high] theorem zTH{α:Type}{x:α}:gd 12 x=some x:=rfl
class Kf (α β:Type) where
 k:α->Option β
class Kg (α β:Type) where
 k:α->β
def bnd{α β:Type}(x:Option α) [f:Kf α β]:Option β:=x.bind f.k
@[simp,simp ↓] theorem zTC{α β:Type}{a:α}{f:α->Option β}:bnd (some a) (f:=⟨f⟩)=f a:=rfl
@[simp,simp ↓] theorem zS7{α β:Type}{f:Kf α β}:bnd none (f:=f)=none:=rfl
def omp{α β:Type}(x:Option α) [f:Kg α β]:Option β:=x.map f.k
@[simp,simp ↓] theorem zSu{α β:Type}{a:α}{f:α->β}:omp (some a) (f:=⟨f⟩)=some (f a):=rfl
@[simp,simp ↓] theorem zS6{α β:Type}{f:Kg α β}:omp none (f:=f)=none:=rfl
class Ka (α:Type) where
 v:α
def ifB{α:Type}(b:Bool) [x:Ka α] [y:Ka α]:α:=if b=true then x.v else y.v
@[simp high,simp ↓ high] theorem zSl{α:Type}{x:α}{y:Ka α}:ifB true (x:=⟨x⟩) (y:=y)=x:=rfl
@[simp high,simp ↓ high] theorem zSx{α:Type}{x:Ka α}{y:α}:ifB false (x:=x) (y:=⟨y⟩)=y:=rfl
def ifO{α:Type}(p:Option Nat)(k:Nat)(x y:α):α:=if p=some k then x else y
@[simp high,simp ↓ high] theorem zSj{α:Type}{k:Nat}{x y:α}:ifO none k x y=y:=rfl
def ifN{α:Type}(m n:Nat)(x y:α):α:=if m=n then x else y
def ifM{α:Type}(i:Nat)(l:List Nat)(x y:α):α:=if i∈l then x else y
@[simp high,simp ↓ high] theorem zS8{α:Type}{i:Nat}{x y:α}:ifM i [] x y=y:=rfl
def apE{α:Type}(l:List α):List α:=l++[]
@[simp,simp ↓] theorem zTR{α:Type}:apE ([]:List α)=[]:=rfl
@[simp,simp ↓] theorem zS4{α:Type}{x:α}{r:List α}:apE (x::r)=x::apE r:=rfl
@[simp high,simp ↓ high] theorem zSE{α:Type}{x y:α}:ifO (some 0) 0 x y=x:=rfl
@[simp high,simp ↓ high] theorem zR1{α:Type}{x y:α}:ifO (some 0) 1 x y=y:=rfl
@[simp high,simp ↓ high] theorem zSa{α:Type}{x y:α}:ifO (some 0) 2 x y=y:=rfl
@[simp high,simp ↓ high] theorem zRz{α:Type}{x y:α}:ifO (some 0) 3 x y=y:=rfl
@[simp high,simp ↓ high] theorem zRZ{α:Type}{x y:α}:ifO (some 0) 4 x y=y:=rfl
@[simp high,simp ↓ high] theorem zRt{α:Type}{x y:α}:ifO (some 0) 5 x y=y:=rfl
@[simp high,simp ↓ high] theorem zSK{α:Type}{x y:α}:ifO (some 0) 6 x y=y:=rfl
@[simp high,simp ↓ high] theorem zTL{α:Type}{x y:α}:ifN 1 1 x y=x:=rfl
@[simp high,simp ↓ high] theorem zSy{α:Type}{x y:α}:ifN 2 2 x y=x:=rfl
@[simp high,simp ↓ high] theorem zS0{α:Type}{x y:α}:ifN 3 3 x y=x:=rfl
@[simp high,simp ↓ high] theorem zTJ{α:Type}{x y:α}:ifN 4 4 x y=x:=rfl
@[simp high,simp ↓ high] theorem zSo{α:Type}{x y:α}:ifN 5 5 x y=x:=rfl
@[simp high,simp ↓ high] theorem zSk{α:Type}{x y:α}:ifN 6 6 x y=x:=rfl
@[simp high,simp ↓ high] theorem zTQ{α:Type}{x y:α}:ifN 7 7 x y=x:=rfl
@[simp high,simp ↓ high] theorem zTA{α:Type}{x y:α}:ifN 8 8 x y=x:=rfl
section
variable {f g:DS}{fa fb fc fi:DE}{da fr:DA}{ta tb:DT}{Γ:En}{i j k:Nat}{h h':En->S->S->Option S}
@[simp,simp ↓] theorem zQ9:dSeq f g Γ=bnd (f Γ) (f:=⟨fun o=>match o with | .nx Γ'=>g Γ' | o=>some o⟩):=rfl
@[simp,simp ↓] theorem zPn:dNext Γ=some (.nx Γ):=rfl
@[simp,simp ↓] theorem zQk:dRet fa Γ=omp (fa Γ) (f:=⟨fun p=>.rt p.1 p.2⟩):=rfl
@[simp,simp ↓] theorem zPq:dRetN Γ=some (.rt (.v (.a .non)) Γ):=rfl
@[simp,simp ↓] theorem zPm:dDrop fa Γ=omp (fa Γ) (f:=⟨fun p=>.nx p.2⟩):=rfl
@[simp,simp ↓] theorem zSs:dIf ta f g Γ=bnd (ta Γ) (f:=⟨fun p=>ifB p.1 (x:=⟨(f p.2)⟩) (y:=⟨(g p.2)⟩)⟩):=rfl
@[simp,simp ↓] theorem zQ3:dSet i fa Γ=bnd (fa Γ) (f:=⟨fun p=>omp (setS i p.1 p.2) (f:=⟨.nx⟩)⟩):=rfl
@[simp,simp ↓] theorem zRg{t:T}:setS i (.v t) Γ=some (Γ.set i (some (.v t))):=rfl
@[simp,simp ↓] theorem zRj{t:List T}:setS i (.l t) Γ=some (Γ.set i (some (.l t))):=rfl
@[simp,simp ↓] theorem zQ5:jV i Γ=match ixL Γ i with
 | some (some (.v t))=>some (.v t,Γ)
 | some (some (.l _))=>some (.s i,Γ)
 | some (some (.r _))=>some (.s i,Γ)
 | some (some (.k _))=>some (.s i,Γ)
 | some (some (.d _))=>some (.s i,Γ)
 | some (some (.e _))=>some (.s i,Γ)
 | _=>none:=rfl
@[simp,simp ↓] theorem zSv{v:V}:dC v Γ=some (.v (.a v),Γ):=rfl
@[simp,simp ↓] theorem zR7:dOp h fa fb Γ=bnd (fa Γ) (f:=⟨fun p=>bnd (fb p.2) (f:=⟨fun q=>omp (h q.2 p.1 q.1) (f:=⟨fun s=>(s,q.2)⟩)⟩)⟩):=rfl
@[simp,simp ↓] theorem zSG{h:En->S->Option S}:dUn h fa Γ=bnd (fa Γ) (f:=⟨fun p=>omp (h p.2 p.1) (f:=⟨fun s=>(s,p.2)⟩)⟩):=rfl
@[simp,simp ↓] theorem zSg{h:En->List S->Option S}:dCB h da Γ=bnd (da Γ) (f:=⟨fun p=>omp (h p.2 p.1) (f:=⟨fun s=>(s,p.2)⟩)⟩):=rfl
@[simp,simp ↓] theorem zRC:qQ Γ=some ([],Γ):=rfl
@[simp,simp ↓] theorem zQA:jW fa fr Γ=bnd (fa Γ) (f:=⟨fun p=>bnd (fr p.2) (f:=⟨fun q=>some (p.1::q.1,q.2)⟩)⟩):=rfl
@[simp,simp ↓] theorem zSN{t:T}:S.tree (.v t)=some t:=rfl
@[simp,simp ↓] theorem zPD:trees []=some []:=rfl
@[simp,simp ↓] theorem zOr{t:T}{r:List S}:trees (.v t::r)=omp (trees r) (f:=⟨fun ts=>t::ts⟩):=rfl
theorem zER:sizeLine=16777216:=sizeLine_eq
@[simp,simp ↓] theorem zQv:dTup da Γ=bnd (da Γ) (f:=⟨fun p=>bnd (trees p.1) (f:=⟨fun ts=>gd ts.length (.v (.t ts),p.2)⟩)⟩):=rfl
@[simp,simp ↓] theorem zQ6:dLst da Γ=bnd (da Γ) (f:=⟨fun p=>bnd (trees p.1) (f:=⟨fun ts=>gd ts.length (.l ts,p.2)⟩)⟩):=rfl
@[simp,simp ↓] theorem zP1:dTest fa Γ=bnd (fa Γ) (f:=⟨fun p=>match p.1 with | .v (.a (.bl b))=>some (b,p.2) | _=>none⟩):=rfl
@[simp,simp ↓] theorem zSZ:dAnd ta tb Γ=bnd (ta Γ) (f:=⟨fun p=>ifB p.1 (x:=⟨(tb p.2)⟩) (y:=⟨(some (false,p.2))⟩)⟩):=rfl
@[simp,simp ↓] theorem zSi:dOr ta tb Γ=bnd (ta Γ) (f:=⟨fun p=>ifB p.1 (x:=⟨(some (true,p.2))⟩) (y:=⟨(tb p.2)⟩)⟩):=rfl
@[simp,simp ↓] theorem zQt:dNot ta Γ=bnd (ta Γ) (f:=⟨fun p=>some (!p.1,p.2)⟩):=rfl
@[simp,simp ↓] theorem zQb:dAndV fa fb Γ=bnd (dTest fa Γ) (f:=⟨fun p=>ifB p.1 (x:=⟨(fb p.2)⟩) (y:=⟨(some (.v (.a (.bl false)),p.2))⟩)⟩):=rfl
@[simp,simp ↓] theorem zRl:dOrV fa fb Γ=bnd (dTest fa Γ) (f:=⟨fun p=>ifB p.1 (x:=⟨(some (.v (.a (.bl true)),p.2))⟩) (y:=⟨(fb p.2)⟩)⟩):=rfl
@[simp,simp ↓] theorem zPc:dNotV fa Γ=bnd (dTest fa Γ) (f:=⟨fun p=>some (.v (.a (.bl !p.1)),p.2)⟩):=rfl
@[simp,simp ↓] theorem zSA:dIfE ta fa fb Γ=bnd (ta Γ) (f:=⟨fun p=>ifB p.1 (x:=⟨(fa p.2)⟩) (y:=⟨(fb p.2)⟩)⟩):=rfl
@[simp] theorem zPY:dChain h h' fa fb fc Γ=bnd (fa Γ) (f:=⟨fun p=>bnd (fb p.2) (f:=⟨fun q=>bnd (h q.2 p.1 q.1) (f:=⟨fun z=>match z with
 | .v (.a (.bl k))=>if k=true then bnd (fc q.2) (f:=⟨fun u=>omp (h' u.2 q.1 u.1) (f:=⟨fun s=>(s,u.2)⟩)⟩) else some (.v (.a (.bl false)),q.2)
 | _=>none⟩)⟩)⟩):=rfl
@[simp,simp ↓] theorem zSR{h:En->List T->List S->Option (T×List T)}:dMut i h da Γ=ifB (isLs Γ i) (x:=⟨(bnd (da Γ) (f:=⟨fun p=>match ixL p.2 i with
 | some (some (.l xs))=>bnd (gd xs.length ()) (f:=⟨fun _=>omp (h p.2 xs p.1) (f:=⟨fun q=>(.v q.1,p.2.set i (some (.l q.2)))⟩)⟩)
 | _=>none⟩))⟩) (y:=⟨none⟩):=rfl
@[simp,simp ↓] theorem zQ7:isLs Γ i=match ixL Γ i with | some (some (.l _))=>true | _=>false:=rfl
@[simp,simp ↓] theorem zQG:dSetIx i fa fi Γ=bnd (fa Γ) (f:=⟨fun p=>bnd p.1.tree (f:=⟨fun t=>ifB (isLs p.2 i) (x:=⟨(bnd (fi p.2) (f:=⟨fun q=>bnd (iS q.1) (f:=⟨fun k=>match ixL q.2 i with
  | some (some (.l xs))=>omp (ixN xs.length k) (f:=⟨fun j=>.nx (q.2.set i (some (.l (xs.set j t))))⟩)
  | _=>none⟩)⟩))⟩) (y:=⟨none⟩)⟩)⟩):=rfl
@[simp,simp ↓] theorem zSm{n:Int}:iS (.v (.a (.int n)))=some n:=rfl
@[simp,simp ↓] theorem zQZ{g:Int->Int->V}{m n:Int}:opII g Γ (.v (.a (.int m))) (.v (.a (.int n)))=some (.v (.a (g m n))):=rfl
@[simp,simp ↓] theorem zQl{g:Int->Int->V}{xs:List T}{b:S}:opII g Γ (.v (.t xs)) b=none:=rfl
@[simp,simp ↓] theorem zQW{g:Int->Int->V}{xs:List T}{b:S}:opII g Γ (.l xs) b=none:=rfl
@[simp,simp ↓] theorem zRF{g:Int->Int->V}{n:Nat}{b:S}:opII g Γ (.s n) b=none:=rfl
@[simp,simp ↓] theorem zPP{g:Int->Int->V}{z:Str}{b:S}:opII g Γ (.v (.a (.str z))) b=none:=rfl
@[simp,simp ↓] theorem zQy{m n:Int}:addS Γ (.v (.a (.int m))) (.v (.a (.int n)))=some (.v (.a (.int (m+n)))):=rfl
@[simp] theorem zQz{xs ys:List T}:addS Γ (.v (.t xs)) (.v (.t ys))=gd (xs.length+ys.length) (.v (.t (xs++ys))):=by
 show ((none:Option S).or ((addTup Γ (.v (.t xs)) (.v (.t ys))).or ((none:Option S).or none)))=_
 simp[addTup]
@[simp] theorem zRw{m:Nat}{b:S}:addS Γ (.s m) b=addLst Γ (.s m) b:=by
 show ((none:Option S).or ((none:Option S).or ((addLst Γ (.s m) b).or none)))=_
 simp
@[simp] theorem zSI{xs:List T}{b:S}:addS Γ (.l xs) b=addLst Γ (.l xs) b:=by
 show ((none:Option S).or ((none:Option S).or ((addLst Γ (.l xs) b).or none)))=_
 simp
@[simp,simp ↓] theorem zPQ{a b:S}:addLst Γ a b=bnd (lsOf Γ a) (f:=⟨fun xs=>bnd (lsOf Γ b) (f:=⟨fun ys=>gd (xs.length+ys.length) (.l (xs++ys))⟩)⟩):=rfl
@[simp,simp ↓] theorem zQh{m n:Int}:subS Γ (.v (.a (.int m))) (.v (.a (.int n)))=some (.v (.a (.int (m - n)))):=rfl
@[simp] theorem zRH{m n:Int}:mulS Γ (.v (.a (.int m))) (.v (.a (.int n)))=if CMul m n then some (.v (.a (.int (m * n)))) else none:=by
 show ((if CMul m n then some _ else none).or (none:Option S))=_
 simp
@[simp] theorem zQx{m n:Int}:modS Γ (.v (.a (.int m))) (.v (.a (.int n)))=if 0 < n then some (.v (.a (.int (m % n)))) else none:=(rfl)
@[simp] theorem zQB{m n:Int}:fdivS Γ (.v (.a (.int m))) (.v (.a (.int n)))=if CDiv m n then some (.v (.a (.int (m / n)))) else none:=(rfl)
@[simp] theorem zRD{m n:Int}:powS Γ (.v (.a (.int m))) (.v (.a (.int n)))=if CPow m n then some (.v (.a (.int (m ^ n.toNat)))) else none:=(rfl)
@[simp,simp ↓] theorem zSP{m n:Int}:ltS Γ (.v (.a (.int m))) (.v (.a (.int n)))=some (.v (.a (.bl (decide (m < n))))):=rfl
@[simp,simp ↓] theorem zRs{m n:Int}:leS Γ (.v (.a (.int m))) (.v (.a (.int n)))=some (.v (.a (.bl (decide (m<=n))))):=rfl
@[simp,simp ↓] theorem zRb{m n:Int}:gtS Γ (.v (.a (.int m))) (.v (.a (.int n)))=some (.v (.a (.bl (decide (n < m))))):=rfl
@[simp,simp ↓] theorem zRf{m n:Int}:geS Γ (.v (.a (.int m))) (.v (.a (.int n)))=some (.v (.a (.bl (decide (n<=m))))):=rfl
@[simp,simp ↓] theorem zRp{m:Int}:negS Γ (.v (.a (.int m)))=some (.v (.a (.int (-m)))):=rfl
@[simp,simp ↓] theorem zS9{xs:List T}{n:Int}:ixS Γ (.v (.t xs)) (.v (.a (.int n)))=omp (atI xs n) (f:=⟨.v⟩):=rfl
@[simp,simp ↓] theorem zTI{xs:List T}{n:Int}:ixS Γ (.l xs) (.v (.a (.int n)))=omp (atI xs n) (f:=⟨.v⟩):=rfl
@[simp,simp ↓] theorem zSn{m:Nat}{n:Int}:ixS Γ (.s m) (.v (.a (.int n)))=bnd (sqlOf Γ (.s m)) (f:=⟨fun xs=>omp (atI xs n) (f:=⟨.v⟩)⟩):=rfl
@[simp,simp ↓] theorem zQT{m:Nat}:sqlOf Γ (.s m)=match ixL Γ m with
  | some (some (.l xs))=>some xs
  | some (some (.r xs))=>some xs
  | some (some (.k xs))=>some xs
  | _=>none:=rfl
@[simp,simp ↓] theorem zML{xs:List T}:sqlOf Γ (.l xs)=some xs:=rfl
@[simp,simp ↓] theorem zRa{xs:List T}:lsOf Γ (.l xs)=some xs:=rfl
@[simp,simp ↓] theorem zR0{m:Nat}:lsOf Γ (.s m)=match ixL Γ m with
  | some (some (.l xs))=>some xs
  | some (some (.r xs))=>some xs
  | _=>none:=rfl
@[simp,simp ↓] theorem zRO{xs:List T}:lenS Γ [.v (.t xs)]=some (.v (.a (.int xs.length))):=rfl
@[simp,simp ↓] theorem zRP{xs:List T}:lenS Γ [.l xs]=some (.v (.a (.int xs.length))):=rfl
@[simp,simp ↓] theorem zSU{m:Nat}:lenS Γ [.s m]=omp (sqlOf Γ (.s m)) (f:=⟨fun xs=>.v (.a (.int xs.length))⟩):=rfl
@[simp,simp ↓] theorem zQm{xs:List T}:listS Γ [.v (.t xs)]=some (.l xs):=rfl
@[simp,simp ↓] theorem zQr{m:Nat}:listS Γ [.s m]=omp (sqlOf Γ (.s m)) (f:=⟨.l⟩):=rfl
@[simp,simp ↓] theorem zQ8{xs:List T}:listS Γ [.l xs]=some (.l xs):=rfl
@[simp,simp ↓] theorem zPs{xs:List T}:tupleS Γ [.v (.t xs)]=some (.v (.t xs)):=rfl
@[simp,simp ↓] theorem zPz{xs:List T}:tupleS Γ [.l xs]=some (.v (.t xs)):=rfl
@[simp,simp ↓] theorem zPo{m:Nat}:tupleS Γ [.s m]=omp (sqlOf Γ (.s m)) (f:=⟨fun xs=>.v (.t xs)⟩):=rfl
@[simp,simp ↓] theorem zO1:dNoPart Γ=some (none,Γ):=rfl
@[simp,simp ↓] theorem zPd:dPart fa Γ=bnd (fa Γ) (f:=⟨fun p=>omp (iS p.1) (f:=⟨fun i=>(some i,p.2)⟩)⟩):=rfl
@[simp,simp ↓] theorem zSL{lo hi:DO}:dSl fa lo hi Γ=bnd (fa Γ) (f:=⟨fun p=>bnd (lo p.2) (f:=⟨fun l=>bnd (hi l.2) (f:=⟨fun h=>omp (slS h.2 l.1 h.1 p.1) (f:=⟨fun s=>(s,h.2)⟩)⟩)⟩)⟩):=rfl
@[simp,simp ↓] theorem zSw{xs:List T}{lo hi:Option Int}:slS Γ lo hi (.v (.t xs))=some (.v (.t (cutT xs lo hi))):=rfl
@[simp,simp ↓] theorem zTK{xs:List T}{lo hi:Option Int}:slS Γ lo hi (.l xs)=some (.l (cutT xs lo hi)):=rfl
@[simp,simp ↓] theorem zTG{m:Nat}{lo hi:Option Int}:slS Γ lo hi (.s m)=omp (sqlOf Γ (.s m)) (f:=⟨fun xs=>.l (cutT xs lo hi)⟩):=rfl
@[simp,simp ↓] theorem zPX{xs:List T}{t:T}:hAppend Γ xs [.v t]=if xs.length < sizeLine then some (.a .non,xs++[t]) else none:=rfl
@[simp,simp ↓] theorem zSF{xs:List T}:hPop Γ xs []=omp (xs[xs.length - 1]?) (f:=⟨fun t=>(t,xs.dropLast)⟩):=rfl
@[simp] theorem zQL{xs:List T}{n:Int}:hPopAt Γ xs [.v (.a (.int n))]=if inR 9223372036854775807 n=true then bnd (seqIndex? n xs.length) (f:=⟨fun k=>omp (xs[k]?) (f:=⟨fun t=>(t,xs.eraseIdx k)⟩)⟩) else none:=rfl
@[simp,simp ↓] theorem zRv{n:Int}:intS Γ [.v (.a (.int n))]=some (.v (.a (.int n))):=rfl
@[simp,simp ↓] theorem zRQ{b:Bool}:intS Γ [.v (.a (.bl b))]=some (.v (.a (.int (if b then 1 else 0)))):=rfl
@[simp,simp ↓] theorem zPr{m n:Int}:max2S Γ [.v (.a (.int m)),.v (.a (.int n))]=some (.v (.a (.int (if n > m then n else m)))):=rfl
@[simp,simp ↓] theorem zPp{m n:Int}:min2S Γ [.v (.a (.int m)),.v (.a (.int n))]=some (.v (.a (.int (if n < m then n else m)))):=rfl
@[simp] theorem zPF{fo:DE}:dIndex fo da Γ=bnd (fo Γ) (f:=⟨fun p=>bnd (da p.2) (f:=⟨fun q=>match p.1,q.1 with
 | .v (.t xs),[.v (.a y)]=>bnd (atomsOf xs) (f:=⟨fun vs=>if flatV y=true/\vs.all flatV=true then omp (vs.findIdx? fun z=>eqV z y) (f:=⟨fun j=>(mkI (j:Nat),q.2)⟩) else none⟩)
 | _,_=>none⟩)⟩):=rfl
@[simp,simp ↓] theorem zR2{n:Int}:mkI n=.v (.a (.int n)):=rfl
@[simp,simp ↓] theorem zSO{b:Bool}:mkB b=.v (.a (.bl b)):=rfl
@[simp] theorem zOG:dListRng da Γ=bnd (da Γ) (f:=⟨fun p=>omp (rngS p.1) (f:=⟨fun xs=>(.l xs,p.2)⟩)⟩):=rfl
@[simp] theorem zO5:dTupRng da Γ=bnd (da Γ) (f:=⟨fun p=>omp (rngS p.1) (f:=⟨fun xs=>(.v (.t xs),p.2)⟩)⟩):=rfl
theorem zA7(n:Nat)(h:n<=100000):rngS [.v (.a (.int (n:Int)))]=some (rngT 0 n):=by
 unfold rngS
 dsimp only
 rw[zC4 (by omega),Int.toNat_natCast,Bool.true_and,Nat.ble_eq_true_of_le (Nat.le_trans h (by decide)),if_pos rfl]
@[simp] theorem zP8:dRng1 da Γ=(da Γ).bind fun p=>if p.1.length=1 then (rngS p.1).map fun xs=>((xs,[]),p.2) else none:=by
 unfold dRng1
 congr 1
 funext p
 obtain⟨as,G⟩:=p
 match as with
 | []=>rfl
 | [a] =>
  match a with
  | .v (.a (.int j))=>simp only[rngS,List.length_singleton,if_true]; split <;> rfl
  | .v (.a .non)=>rfl
  | .v (.a (.bl _))=>rfl
  | .v (.a (.str _))=>rfl
  | .v (.a (.byt _))=>rfl
  | .v (.a (.flt _))=>rfl
  | .v (.a (.ref _))=>rfl
  | .v (.a (.ty _))=>rfl
  | .v (.t _)=>rfl
  | .v (.l _)=>rfl
  | .v (.f _)=>rfl
  | .v (.x _ _)=>rfl
  | .v (.m _ _)=>rfl
  | .l _=>rfl
  | .s _=>rfl
  | .d _=>rfl
 | a::b::r =>
  have:¬ (a::b::r).length=1:=by simp
  rw[if_neg this]
  dsimp only
  split
  ·rename_i h; simp at h
  ·rfl
@[simp,simp ↓] theorem zQI:dSeqI fa Γ=bnd (fa Γ) (f:=⟨fun p=>bnd (seqS p.2 p.1) (f:=⟨fun xs=>gd xs.length ((xs,srcS p.2 p.1),p.2)⟩)⟩):=rfl
@[simp,simp ↓] theorem zRK{xs:List T}:seqS Γ (.v (.t xs))=some xs:=rfl
@[simp,simp ↓] theorem zRm{xs:List T}:seqS Γ (.l xs)=some xs:=rfl
@[simp,simp ↓] theorem zRi{m:Nat}:seqS Γ (.s m)=sqlOf Γ (.s m):=rfl
@[simp,simp ↓] theorem zRn{t:T}:srcS Γ (.v t)=[]:=rfl
@[simp,simp ↓] theorem zRu{t:List T}:srcS Γ (.l t)=[]:=rfl
@[simp,simp ↓] theorem zRc{m:Nat}:srcS Γ (.s m)=match ixL Γ m with | some (some (.l _))=>[m] | _=>[]:=rfl
@[simp,simp ↓] theorem zQU:dYes Γ=some (true,Γ):=rfl
@[simp,simp ↓] theorem zQa:dTru fa Γ=bnd (fa Γ) (f:=⟨fun p=>omp (truS p.2 p.1) (f:=⟨fun b=>(b,p.2)⟩)⟩):=rfl
@[simp,simp ↓] theorem zR8{b:Bool}:truS Γ (.v (.a (.bl b)))=some b:=rfl
@[simp,simp ↓] theorem zSC{n:Int}:truS Γ (.v (.a (.int n)))=some (n != 0):=rfl
@[simp,simp ↓] theorem zR5{xs:List T}:truS Γ (.v (.t xs))=some (!xs.isEmpty):=rfl
@[simp,simp ↓] theorem zSS{m:Nat}:truS Γ (.s m)=omp (sqlOf Γ (.s m)) (f:=⟨fun xs=>!xs.isEmpty⟩):=rfl
@[simp,simp ↓] theorem zSY{xs:List T}:truS Γ (.l xs)=some (!xs.isEmpty):=rfl
@[simp] theorem zQK:dPar2 i j da Γ=bnd (da Γ) (f:=⟨fun p=>match p.1 with
  | [.v a,.v b]=>some (.nx ((p.2.set i (some (.v a))).set j (some (.v b))))
  | _=>none⟩):=rfl
@[simp] theorem zP7:dPar3 i j k da Γ=bnd (da Γ) (f:=⟨fun p=>match p.1 with
  | [.v a,.v b,.v c]=>some (.nx (((p.2.set i (some (.v a))).set j (some (.v b))).set k (some (.v c))))
  | _=>none⟩):=rfl
@[simp,simp ↓] theorem zQo{tg:En->T->Option En}:dUnp tg fa Γ=bnd (fa Γ) (f:=⟨fun p=>bnd p.1.tree (f:=⟨fun t=>omp (tg p.2 t) (f:=⟨.nx⟩)⟩)⟩):=rfl
@[simp,simp ↓] theorem zEv{t:T}:gdName i Γ t=some (Γ.set i (some (.v t))):=rfl
@[simp,simp ↓] theorem zP5:gdNil Γ []=some Γ:=rfl
@[simp,simp ↓] theorem zPJ{p:En->T->Option En}{q:En->List T->Option En}{t:T}{r:List T}:gdCons p q Γ (t::r)=bnd (p Γ t) (f:=⟨fun Γ1=>q Γ1 r⟩):=rfl
@[simp,simp ↓] theorem zQ4{q:En->List T->Option En}{ts:List T}:gdTup i q Γ (.t ts)=ifN ts.length i (q Γ ts) none:=rfl
@[simp,simp ↓] theorem zQ2{ip:Option Nat}{F:DF}:dCall ip F [] da Γ=bnd (da Γ) (f:=⟨fun p=>ifB (onceS ip p.1) (x:=⟨(bnd (argsG ip p.2 0 (apE p.1)) (f:=⟨fun gs=>omp (F gs) (f:=⟨fun q=>(toS q.1,backS ip p.2 p.1 q.2)⟩)⟩))⟩) (y:=⟨none⟩)⟩):=rfl
@[simp,simp ↓] theorem zPI{ip:Option Nat}:argsG ip Γ k []=some []:=rfl
@[simp high,simp ↓ high] theorem zPk{ip:Option Nat}{s:S}{r:List S}:argsG ip Γ 0 (s::r)=bnd (argG ip Γ 0 s) (f:=⟨fun g=>omp (argsG ip Γ 1 r) (f:=⟨fun gs=>g::gs⟩)⟩):=rfl
@[simp high,simp ↓ high] theorem zP9{ip:Option Nat}{s:S}{r:List S}:argsG ip Γ 1 (s::r)=bnd (argG ip Γ 1 s) (f:=⟨fun g=>omp (argsG ip Γ 2 r) (f:=⟨fun gs=>g::gs⟩)⟩):=rfl
@[simp high,simp ↓ high] theorem zQD{ip:Option Nat}{s:S}{r:List S}:argsG ip Γ 2 (s::r)=bnd (argG ip Γ 2 s) (f:=⟨fun g=>omp (argsG ip Γ 3 r) (f:=⟨fun gs=>g::gs⟩)⟩):=rfl
@[simp high,simp ↓ high] theorem zPe{ip:Option Nat}{s:S}{r:List S}:argsG ip Γ 3 (s::r)=bnd (argG ip Γ 3 s) (f:=⟨fun g=>omp (argsG ip Γ 4 r) (f:=⟨fun gs=>g::gs⟩)⟩):=rfl
@[simp high,simp ↓ high] theorem zPy{ip:Option Nat}{s:S}{r:List S}:argsG ip Γ 4 (s::r)=bnd (argG ip Γ 4 s) (f:=⟨fun g=>omp (argsG ip Γ 5 r) (f:=⟨fun gs=>g::gs⟩)⟩):=rfl
@[simp high,simp ↓ high] theorem zPt{ip:Option Nat}{s:S}{r:List S}:argsG ip Γ 5 (s::r)=bnd (argG ip Γ 5 s) (f:=⟨fun g=>omp (argsG ip Γ 6 r) (f:=⟨fun gs=>g::gs⟩)⟩):=rfl
@[simp high,simp ↓ high] theorem zPv{ip:Option Nat}{s:S}{r:List S}:argsG ip Γ 6 (s::r)=bnd (argG ip Γ 6 s) (f:=⟨fun g=>omp (argsG ip Γ 7 r) (f:=⟨fun gs=>g::gs⟩)⟩):=rfl
@[simp high,simp ↓ high] theorem zQE{ip:Option Nat}{s:S}{r:List S}:argsG ip Γ 7 (s::r)=bnd (argG ip Γ 7 s) (f:=⟨fun g=>omp (argsG ip Γ 8 r) (f:=⟨fun gs=>g::gs⟩)⟩):=rfl
@[simp,simp ↓] theorem zOb{ip:Option Nat}{s:S}{r:List S}:argsG ip Γ k (s::r)=bnd (argG ip Γ k s) (f:=⟨fun g=>omp (argsG ip Γ (k+1) r) (f:=⟨fun gs=>g::gs⟩)⟩):=rfl
@[simp,simp ↓] theorem zSM{ip:Option Nat}{t:T}:argG ip Γ k (.v t)=some (.v t):=rfl
@[simp,simp ↓] theorem zQu{ip:Option Nat}{xs:List T}:argG ip Γ k (.l xs)=some (ifO ip k (.l xs) (.r xs)):=rfl
@[simp,simp ↓] theorem zSW{ip:Option Nat}{m:Nat}:argG ip Γ k (.s m)=match ixL Γ m with
  | some (some (.l xs))=>some (ifO ip k (.l xs) (.r xs))
  | some (some (.r xs))=>ifO ip k none (some (.r xs))
  | some (some (.k xs))=>ifO ip k none (some (.k xs))
  | some (some (.d xs))=>ifO ip k none (some (.e xs))
  | some (some (.e xs))=>ifO ip k none (some (.e xs))
  | _=>none:=rfl
@[simp,simp ↓] theorem zRS{ip:Option Nat}{xs:Dk}:argG ip Γ k (.d xs)=if ip=some k then none else some (.e xs):=rfl
@[simp,simp ↓] theorem zSD{xs:Dk}:setS i (.d xs) Γ=some (Γ.set i (some (.d xs))):=rfl
@[simp,simp ↓] theorem zSc{xs:Dk}:isSl i (.d xs)=false:=rfl
@[simp,simp ↓] theorem zQY{xs:Dk}:isTmp (.d xs)=false:=rfl
@[simp,simp ↓] theorem zS3{xs:Dk}:toS (.d xs)=.d xs:=rfl
@[simp,simp ↓] theorem zSX{ip:Option Nat}{xs:Dk}:resG ip Γ (.d xs)=some (.d xs):=rfl
@[simp,simp ↓] theorem zQQ{ss:List S}:onceS none ss=true:=rfl
@[simp high,simp ↓ high] theorem zPZ{r:List S}:onceS (some 0) (.s i::r)=r.all fun s=>!isSl i s:=rfl
@[simp high,simp ↓ high] theorem zTN:(List.all ([]:List S) fun s=>!isSl i s)=true:=rfl
@[simp high,simp ↓ high] theorem zTB{t:T}{r:List S}:(List.all (.v t::r) fun s=>!isSl i s)=r.all fun s=>!isSl i s:=rfl
@[simp high,simp ↓ high] theorem zS5{t:List T}{r:List S}:(List.all (.l t::r) fun s=>!isSl i s)=r.all fun s=>!isSl i s:=rfl
@[simp,simp ↓] theorem zQV{ss:List S}:onceS (some k) ss=match ixL ss k with
  | some (.s i)=>(ss.eraseIdx k).all fun s=>!isSl i s
  | some (.l _)=>(ss.eraseIdx k).all fun s=>!isTmp s
  | _=>false:=rfl
@[simp,simp ↓] theorem zSJ{t:T}:isSl i (.v t)=false:=rfl
@[simp,simp ↓] theorem zRL{t:List T}:isSl i (.l t)=false:=rfl
@[simp,simp ↓] theorem zRk:isSl i (.s j)=(j == i):=rfl
@[simp,simp ↓] theorem zQ0{t:T}:isTmp (.v t)=false:=rfl
@[simp,simp ↓] theorem zQS:isTmp (.s j)=false:=rfl
@[simp,simp ↓] theorem zQw{ss:List S}{ys:List T}:backS none Γ ss ys=Γ:=rfl
@[simp high,simp ↓ high] theorem zQs{r:List S}{ys:List T}:backS (some 0) Γ (.s i::r) ys=Γ.set i (some (.l ys)):=rfl
@[simp,simp ↓] theorem zRE{ss:List S}{ys:List T}:backS (some k) Γ ss ys=match ixL ss k with | some (.s i)=>Γ.set i (some (.l ys)) | _=>Γ:=rfl
@[simp,simp ↓] theorem zSh{t:T}:toS (.v t)=.v t:=rfl
@[simp,simp ↓] theorem zTD{t:List T}:toS (.l t)=.l t:=rfl
@[simp,simp ↓] theorem zRJ:outl none Γ=[]:=rfl
@[simp,simp ↓] theorem zRo:outl (some k) Γ=match ixL Γ k with | some (some (.l xs))=>xs | _=>[]:=rfl
@[simp,simp ↓] theorem zR6{ip:Option Nat}{t:T}:resG ip Γ (.v t)=some (.v t):=rfl
@[simp,simp ↓] theorem zRN{ip:Option Nat}{t:List T}:resG ip Γ (.l t)=some (.l t):=rfl
@[simp,simp ↓] theorem zRI{ip:Option Nat}:resG ip Γ (.s i)=if ip=some i then none else match ixL Γ i with | some (some (.l xs))=>some (.l xs) | some (some (.d xs))=>some (.d xs) | _=>none:=rfl
@[simp,simp ↓] theorem zQq{t:T}:reprS Γ [.v t]=bnd (toD t) (f:=⟨fun d=>if d.showable=true/\d.hasDict=false/\d.depth<=100/\d.shown.length<=sizeLine then some (.v (.a (.str d.shown))) else none⟩):=rfl
@[simp,simp ↓] theorem zRh{xs:List T}:allS Γ [.l xs]=omp (boolsOf xs) (f:=⟨fun bs=>.v (.a (.bl (bs.all id)))⟩):=rfl
end
theorem zIu{m n:Int}(h:-(2 ^ 64) < m/\m < 2 ^ 64):CMul m n:=.inl h
theorem zA5{α:Type}{xs:List α}{n:Nat}:atI xs (n:Int)=xs[n]?:=by
 unfold atI ixN
 rw[if_pos (Int.natCast_nonneg n)]
 by_cases h:n < xs.length
 ·rw[if_pos (by omega)]; simp
 ·rw[if_neg (by omega),List.getElem?_eq_none (by omega)]; rfl
@[simp] theorem zOs{α:Type}{xs:List α}:atI xs 0=xs[0]?:=zA5 (n:=0)
@[simp] theorem zSq{α:Type}{xs:List α}:atI xs 1=xs[1]?:=zA5 (n:=1)
@[simp] theorem zTM{α:Type}{xs:List α}:atI xs 2=xs[2]?:=zA5 (n:=2)
theorem zL9{n j:Nat}(h:j < n):ixN n (j:Int)=some j:=by
 unfold ixN; rw[if_pos (by omega),if_pos (by omega)]; simp
theorem zAB{n:Nat}(h:n<=100000):n<=sizeLine:=Nat.le_trans h (by decide)
theorem zGt{n:Nat}(h:n<=100000):n < sizeLine:=Nat.lt_of_le_of_lt h (by decide)
@[simp] abbrev iT(n:Int):T:=.a (.int n)
@[simp] abbrev bT(b:Bool):T:=.a (.bl b)
theorem zFg(ns:List Int){i:Int}(h0:0<=i)(h1:i < ns.length):∃ z,atI (intsT ns) i=some (iT z):=by
 obtain⟨j,rfl⟩:∃ j:Nat,i=j:=⟨i.toNat,by omega⟩
 exact⟨ns[j]'(by omega),by rw[zA5,intsT,List.getElem?_map,List.getElem?_eq_getElem (by omega)]; rfl⟩
theorem zAu{c:DT}{b:DS}{n:Nat}{Γ:En}:dWhile c b (n+1) Γ=(c Γ).bind fun p=>if p.1=true then (b p.2).bind fun o=>match o with
   | .nx Γ'=>dWhile c b n Γ'
   | .ct Γ'=>dWhile c b n Γ'
   | .bk Γ'=>some (.nx Γ')
   | .rt s Γ'=>some (.rt s Γ')
  else some (.nx p.2):=(rfl)
theorem zAq{tg:En->T->Option En}{b:DS}{Γ:En}:forD tg b [] Γ=some (.nx Γ):=(rfl)
theorem zCl{tg:En->T->Option En}{b:DS}{t:T}{r:List T}{Γ:En}:forD tg b (t::r) Γ=(tg Γ t).bind fun Γ1=>(b Γ1).bind fun o=>match o with
  | .nx Γ'=>forD tg b r Γ'
  | .ct Γ'=>forD tg b r Γ'
  | .bk Γ'=>some (.nx Γ')
  | .rt s Γ'=>some (.rt s Γ'):=(rfl)
theorem zJy{tg:En->T->Option En}{dc:DT}{de:DE}{Γ:En}:compD tg dc de [] Γ=some ([],Γ):=(rfl)
theorem zA3{tg:En->T->Option En}{dc:DT}{de:DE}{t:T}{r:List T}{Γ:En}:compD tg dc de (t::r) Γ=(tg Γ t).bind fun Γ1=>(dc Γ1).bind fun p=>if p.1=true then (de p.2).bind fun q=>q.1.tree.bind fun t'=>(compD tg dc de r q.2).map fun z=>(t'::z.1,z.2) else compD tg dc de r p.2:=(rfl)
@[simp,simp ↓] theorem zQR{ix:List (Option Nat)}{di:DI}{tg:En->T->Option En}{dc:DT}{de:DE}{Γ:En}:dComp none ix di tg dc de Γ=bnd (di Γ) (f:=⟨fun p=>omp (compD tg dc de p.1.1 (pick none ix p.2)) (f:=⟨fun z=>(.l z.1,p.2)⟩)⟩):=rfl
@[simp,simp ↓] theorem zQO{i j:Nat}{ix:List (Option Nat)}{di:DI}{tg:En->T->Option En}{dc:DT}{de:DE}{Γ:En}:dComp (some (j,i)) ix di tg dc de Γ=bnd (di Γ) (f:=⟨fun p=>ifM i p.1.2 none (match ixL p.2 i with
  | some (some (.l _))=>omp (compD tg dc de p.1.1 (pick (some i) ix p.2)) (f:=⟨fun z=>(.l z.1,cback (some (j,i)) p.2 z.2)⟩)
  | _=>none)⟩):=rfl
@[simp,simp ↓] theorem zRy{ip:Option Nat}{di:DI}{tg:En->T->Option En}{b:DS}{Γ:En}:dFor ip di tg b Γ=bnd (di Γ) (f:=⟨fun p=>ifB (p.1.2.all fun i=>decide (ip≠some i)) (x:=⟨(forD tg b p.1.1 (frz p.2 p.1.2))⟩) (y:=⟨none⟩)⟩):=rfl
@[simp,simp ↓] theorem zQX{Γ:En}:frz Γ []=Γ:=rfl
@[simp,simp ↓] theorem zPl{Γ:En}{i:Nat}{r:List Nat}:frz Γ (i::r)=frz (frz1 Γ i) r:=rfl
@[simp,simp ↓] theorem zQH{mu:Option Nat}{Γ:En}:pick mu [] Γ=[]:=rfl
@[simp,simp ↓] theorem zRd{mu:Option Nat}{ix:List (Option Nat)}{Γ:En}:pick mu (none::ix) Γ=none::pick mu ix Γ:=rfl
@[simp,simp ↓] theorem zR4{mu:Option Nat}{k:Nat}{ix:List (Option Nat)}{Γ:En}:pick mu (some k::ix) Γ=pick1 mu k (ixL Γ k).join::pick mu ix Γ:=rfl
@[simp,simp ↓] theorem zQg{mu:Option Nat}{k:Nat}{t:T}:pick1 mu k (some (.v t))=some (.v t):=rfl
@[simp,simp ↓] theorem zQe{mu:Option Nat}{k:Nat}{t:List T}:pick1 mu k (some (.r t))=some (.r t):=rfl
@[simp,simp ↓] theorem zQj{mu:Option Nat}{k:Nat}{t:Dk}:pick1 mu k (some (.d t))=some (.e t):=rfl
@[simp,simp ↓] theorem zQf{mu:Option Nat}{k:Nat}{t:Dk}:pick1 mu k (some (.e t))=some (.e t):=rfl
@[simp,simp ↓] theorem zQp{mu:Option Nat}{k:Nat}{t:List T}:pick1 mu k (some (.k t))=some (.k t):=rfl
@[simp,simp ↓] theorem zQN{mu:Option Nat}{k:Nat}{t:List T}:pick1 mu k (some (.l t))=ifO mu k (some (.l t)) (some (.r t)):=rfl
@[simp,simp ↓] theorem zRB{mu:Option Nat}{k:Nat}:pick1 mu k none=none:=rfl
@[simp,simp ↓] theorem zRA{j i:Nat}{Γ Γo:En}:cback (some (j,i)) Γ Γo=match ixL Γo j with | some (some (.l xs))=>Γ.set i (some (.l xs)) | _=>Γ:=rfl
theorem zAc{α:Type}(f g:α->T){de:DE}{R:En}:∀ (is:List α),(∀ i∈is,de (some (.v (f i))::R)=some (.v (g i),some (.v (f i))::R))->∀ o,∃ o',compD (gdName 0) dYes de (is.map f) (o::R)=some (is.map g,o'::R)
 | [],_,o=>⟨o,rfl⟩
 | i::r,h,o=>by
  obtain⟨o',e⟩:=zAc f g r (fun j hj=>h j (List.mem_cons_of_mem _ hj)) (some (.v (f i)))
  refine⟨o',?_⟩
  rw[List.map_cons,zA3]
  simp[h i List.mem_cons_self,e]
theorem zGI{α:Type}(f g:α->T)(c:α->Bool){dc:DT}{de:DE}{R:En}:∀ (is:List α),(∀ i∈is,dc (some (.v (f i))::R)=some (c i,some (.v (f i))::R))->(∀ i∈is,c i=true->de (some (.v (f i))::R)=some (.v (g i),some (.v (f i))::R))->∀ o,∃ o',compD (gdName 0) dc de (is.map f) (o::R)=some ((is.filter c).map g,o'::R)
 | [],_,_,o=>⟨o,rfl⟩
 | i::r,h,h2,o=>by
  obtain⟨o',e⟩:=zGI f g c r (fun j hj=>h j (List.mem_cons_of_mem _ hj)) (fun j hj=>h2 j (List.mem_cons_of_mem _ hj)) (some (.v (f i)))
  refine⟨o',?_⟩
  rw[List.map_cons,zA3]
  cases hc:c i with
  | true=>simp[h i List.mem_cons_self,h2 i List.mem_cons_self hc,hc,e]
  | false=>simp[h i List.mem_cons_self,hc,e]
theorem zBv{α:Type}(f1 f2 g:α->T){de:DE}{R:En}:∀ (is:List α),(∀ i∈is,de (some (.v (f1 i))::some (.v (f2 i))::R)=some (.v (g i),some (.v (f1 i))::some (.v (f2 i))::R))->∀ o1 o2,∃ o1' o2',compD (gdTup 2 (gdCons (gdName 0) (gdCons (gdName 1) gdNil))) dYes de (is.map fun i=>.t [f1 i,f2 i]) (o1::o2::R)=some (is.map g,o1'::o2'::R)
 | [],_,o1,o2=>⟨o1,o2,rfl⟩
 | i::r,h,o1,o2=>by
  obtain⟨o1',o2',e⟩:=zBv f1 f2 g r (fun j hj=>h j (List.mem_cons_of_mem _ hj)) (some (.v (f1 i))) (some (.v (f2 i)))
  refine⟨o1',o2',?_⟩
  rw[List.map_cons,zA3]
  simp[h i List.mem_cons_self,e]
@[simp] theorem zOF{n:Nat}{b:Bool}:boolsOf (List.replicate n (.a (.bl b)))=some (List.replicate n b):=by
 induction n with
 | zero=>rfl
 | succ n ih=>rw[List.replicate_succ,List.replicate_succ]; simp only[boolsOf]; rw[ih]; rfl
theorem zGN{n m:Nat}(h:n < m):seqIndex? (n:Int) m=some n:=(zEE (zL9 h)).1
theorem zBZ{n:Int}:PyData.canLay0 (.int n)=true:=rfl
@[simp] theorem zR9{Γ:En}{m n:Int}:eqS Γ (.v (.a (.int m))) (.v (.a (.int n)))=some (.v (.a (.bl (decide (m=n))))):=by
 show ((some (mkB (decide (V.int m=V.int n)))).or _)=_
 simp
@[simp] theorem zRx{Γ:En}{m n:Int}:neS Γ (.v (.a (.int m))) (.v (.a (.int n)))=some (.v (.a (.bl (!decide (m=n))))):=by
 show ((some (mkB (!decide (V.int m=V.int n)))).or _)=_
 simp
@[simp] theorem zSe{Γ:En}{m n:Str}:eqS Γ (.v (.a (.str m))) (.v (.a (.str n)))=some (.v (.a (.bl (decide (m=n))))):=by
 show ((some (mkB (decide (V.str m=V.str n)))).or _)=_
 simp
@[simp] theorem zST{Γ:En}{m n:Bool}:eqS Γ (.v (.a (.bl m))) (.v (.a (.bl n)))=some (.v (.a (.bl (decide (m=n))))):=by
 show ((some (mkB (decide (V.bl m=V.bl n)))).or _)=_
 simp
@[simp] theorem zRT{Γ:En}{m n:Bool}:neS Γ (.v (.a (.bl m))) (.v (.a (.bl n)))=some (.v (.a (.bl (!decide (m=n))))):=by
 show ((some (mkB (!decide (V.bl m=V.bl n)))).or _)=_
 simp
@[simp] abbrev tvT(t:List Nat):List T:=t.map fun (k:Nat)=>iT (k:Int)
@[simp] abbrev tuT(t:List Nat):T:=.t (tvT t)
structure IsT(n:Nat)(t:List Nat):Prop where
 len:t.length=n
 lt:∀ k∈t,k < n
 nd:t.Nodup
theorem IsT.get{n:Nat}{t:List Nat}(h:IsT n t){i:Nat}(hi:i < n):∃ k,t[i]?=some k/\k < n:=by
 have hl:=h.len
 refine⟨t[i]'(by omega),by simp,h.lt _ (List.getElem_mem _)⟩
theorem zFh{α β:Type}{f:α->β}{l:List α}(h:∀ x∈l,∀ y∈l,f x=f y->x=y)(nd:l.Nodup):(l.map f).Nodup:=by
 induction l with
 | nil=>exact List.nodup_nil
 | cons a r ih =>
  obtain⟨h1,h2⟩:=List.nodup_cons.mp nd
  refine List.nodup_cons.mpr ⟨fun hm=>?_,ih (fun x hx y hy=>h x (List.mem_cons_of_mem _ hx) y (List.mem_cons_of_mem _ hy)) h2⟩
  obtain⟨y,hy,e⟩:=List.mem_map.mp hm
  have:=h y (List.mem_cons_of_mem _ hy) a List.mem_cons_self e
  subst this
  exact h1 hy
def thenL(a b:List Nat):List Nat:=a.map fun k=>b.getD k 0
theorem zEY{t:List Nat}{n:Nat}(h:IsT n t){i k:Nat}(e:t[i]?=some k):t.idxOf k=i:=by
 obtain⟨hi,e'⟩:=List.getElem?_eq_some_iff.mp e
 rw[← e']
 exact h.nd.idxOf_getElem i hi
theorem zIQ{n:Nat}{a b:List Nat}(ha:IsT n a)(hb:IsT n b):IsT n (thenL a b):=by
 refine⟨by simp[thenL,ha.len],fun k hk=>?_,?_⟩
 ·obtain⟨x,hx,rfl⟩:=List.mem_map.mp hk
  obtain⟨m,hm,hmn⟩:=hb.get (ha.lt x hx)
  simpa [hm] using hmn
 ·unfold thenL
  refine zFh ?_ ha.nd
  intro x hx y hy e
  obtain⟨m,hm,_⟩:=hb.get (ha.lt x hx)
  obtain⟨m',hm',_⟩:=hb.get (ha.lt y hy)
  simp[hm,hm']at e
  subst e
  exact (zEY hb hm).symm.trans (zEY hb hm')
theorem zIl(n:Nat):IsT n (List.range n):=⟨by simp,fun k hk=>by simpa using hk,List.nodup_range⟩
theorem zB7(n:Nat):rngT 0 n=tvT (List.range n):=by simp[rngT]
theorem zH5{fs ls:List Nat}{k z:Nat}(hk:ls[k]?=some z):((fs++[z])++ls.eraseIdx k).Perm (fs++ls):=by
 rw[List.append_assoc]
 refine List.Perm.append_left fs ?_
 obtain⟨hk1,hk2⟩:=List.getElem?_eq_some_iff.mp hk
 rw[List.eraseIdx_eq_take_drop_succ]
 have e:ls=ls.take k++z::ls.drop (k+1):=by
  rw[← hk2,List.getElem_cons_drop,List.take_append_drop]
 conv=>rhs; rw[e]
 show (z::(ls.take k++ls.drop (k+1))).Perm _
 exact List.perm_middle.symm
theorem zI1{α β:Type}(f:α->β)(t:List α)(k:Nat):(t.map f).eraseIdx k=(t.eraseIdx k).map f:=by
 rw[List.eraseIdx_eq_take_drop_succ,List.eraseIdx_eq_take_drop_succ]; simp
theorem zKj:∀ t:List Nat,atomsOf (tvT t)=some (t.map fun (k:Nat)=>V.int (k:Int))
 | []=>rfl
 | k::r=>by simp only[tvT,List.map_cons,atomsOf]; rw[show atomsOf (r.map fun (k:Nat)=>iT (k:Int))=_ from zKj r]; rfl
theorem zCH(xs:List T)(n:Nat):cutT xs none (some (n:Int))=xs.take n:=by
 unfold cutT
 rw[HT.sIx_none,HT.sIx_nat,List.drop_zero,Nat.sub_zero]
 by_cases h:n<=xs.length
 ·rw[Nat.min_eq_left h]
 ·rw[Nat.min_eq_right (by omega),List.take_of_length_le (Nat.le_refl _),List.take_of_length_le (by omega)]
theorem zCT(xs:List T)(n:Nat):cutT xs (some (n:Int)) none=xs.drop n:=by
 unfold cutT
 rw[HT.sIx_none,HT.sIx_nat]
 by_cases h:n<=xs.length
 ·rw[Nat.min_eq_left h,List.take_of_length_le (by simp)]
 ·rw[Nat.min_eq_right (by omega),Nat.sub_self,List.take_zero,List.drop_eq_nil_of_le (by omega)]
theorem zFN{t:List Nat}{i k:Nat}(h:t[i]?=some k):atI (tvT t) (i:Int)=some (iT (k:Int)):=by
 rw[zA5]; simp[h]
abbrev Stp:=Nat×List Nat×List Nat
@[simp] abbrev stT(s:Stp):T:=.t [iT (s.1:Int),tuT s.2.1,tuT s.2.2]
def StOk(n qs:Nat)(st:List Stp):Prop:=∀ s∈st,s.1 < qs/\IsT n s.2.1/\IsT n s.2.2
structure AnsOk(qs:Nat)(as:List Nat):Prop where
 len:as.length=qs
 lt:∀ x∈as,x < 2
def pickT(as:List Nat)(s:Stp):List Nat:=if as.getD s.1 0=1 then s.2.1 else s.2.2
theorem zJd{n qs:Nat}{as:List Nat}{s:Stp}(h:s.1 < qs/\IsT n s.2.1/\IsT n s.2.2):IsT n (pickT as s):=by
 unfold pickT; split
 ·exact h.2.1
 ·exact h.2.2
def scanL(as:List Nat):List Nat->List Stp->List (List Nat)
 | _,[]=>[]
 | c,s::r=>thenL c (pickT as s)::scanL as (thenL c (pickT as s)) r
def doneL(as:List Nat):List Nat->List Stp->List Nat
 | c,[]=>c
 | c,s::r=>doneL as (thenL c (pickT as s)) r
theorem zHA{qs:Nat}{as:List Nat}(h:AnsOk qs as){q:Nat}(hq:q < qs):as[q]?=some (as.getD q 0):=by
 have:=h.len
 rw[List.getD_eq_getElem?_getD,List.getElem?_eq_getElem (by omega)]; rfl
@[simp] abbrev prT(p:T×T):T:=.t [p.1,p.2]
def intsD(t:List Nat):List PyData:=t.map fun (k:Nat)=>PyData.int (k:Int)
theorem zEL:∀ t:List Nat,toDs (tvT t)=some (intsD t)
 | []=>by simp[toDs,intsD]
 | k::r=>by
  have:=zEL r
  simp only[tvT,iT,List.map_cons]at this ⊢
  rw[toDs,this]
  simp[toD,toDa,intsD]
theorem zBP:∀ t:List Nat,PyData.canLayAll0 (intsD t)=true
 | []=>by simp[intsD,PyData.canLayAll0]
 | k::r=>by
  have:=zBP r
  simp only[intsD,List.map_cons]at this ⊢
  simp[PyData.canLayAll0,PyData.canLay0,this]
theorem zBb:∀ t:List Nat,PyData.depthAll (intsD t)=0
 | []=>by simp[intsD,PyData.depthAll]
 | k::r=>by
  have:=zBb r
  simp only[intsD,List.map_cons]at this ⊢
  simp[PyData.depthAll,PyData.depth,this]
end D
namespace L2
open PySem PySem.Spec PyProof.Rows
section
variable {X:Cx}{pins:List (Addr×Obj)}{s:Shared}{σ:St}{H:Hp}{p:Addr}{vs:List V}
def minI:List Int->Int
 | []=>0
 | x::r=>r.foldl (fun a b=>if b < a then b else a) x
def maxI:List Int->Int
 | []=>0
 | x::r=>r.foldl (fun a b=>if a < b then b else a) x
end
end L2
namespace D
open PySem L2
def sumS:En->List S->Option S:=fun Γ as=>match as with
 | [a]=>(seqS Γ a).bind fun xs=>(intsOf xs).map fun ns=>.v (.a (.int ns.sum))
 | _=>none
def min1S:En->List S->Option S:=fun Γ as=>match as with
 | [a]=>(seqS Γ a).bind fun xs=>(intsOf xs).bind fun ns=>if 0 < ns.length then some (.v (.a (.int (minI ns)))) else none
 | _=>none
def max1S:En->List S->Option S:=fun Γ as=>match as with
 | [a]=>(seqS Γ a).bind fun xs=>(intsOf xs).bind fun ns=>if 0 < ns.length then some (.v (.a (.int (maxI ns)))) else none
 | _=>none
def anyS:En->List S->Option S:=fun Γ as=>match as with
 | [a]=>(sqlOf Γ a).bind fun xs=>(boolsOf xs).map fun bs=>.v (.a (.bl (bs.any id)))
 | _=>none
section
variable {Γ:En}
@[simp] theorem zQd{a:S}:sumS Γ [a]=bnd (seqS Γ a) (f:=⟨fun xs=>omp (intsOf xs) (f:=⟨fun ns=>.v (.a (.int ns.sum))⟩)⟩):=rfl
@[simp,simp ↓] theorem zPw{a:S}:min1S Γ [a]=bnd (seqS Γ a) (f:=⟨fun xs=>bnd (intsOf xs) (f:=⟨fun ns=>if 0 < ns.length then some (.v (.a (.int (minI ns)))) else none⟩)⟩):=rfl
@[simp,simp ↓] theorem zQJ{a:S}:max1S Γ [a]=bnd (seqS Γ a) (f:=⟨fun xs=>bnd (intsOf xs) (f:=⟨fun ns=>if 0 < ns.length then some (.v (.a (.int (maxI ns)))) else none⟩)⟩):=rfl
@[simp,simp ↓] theorem zQi{a:S}:anyS Γ [a]=bnd (sqlOf Γ a) (f:=⟨fun xs=>omp (boolsOf xs) (f:=⟨fun bs=>.v (.a (.bl (bs.any id)))⟩)⟩):=rfl
end
def dK(t:T):DE:=fun Γ=>some (.v t,Γ)
def KV(K:Fg)(mg:Str->Option Value)(x:Str)(t:T):Prop:=∃ v u,mg x=some u/\RelV v u/\∀ H:Hp,Im K H v t
section
variable {ι:Type}{K:Fg}{X:ι->Cx}{mg:Str->Option Value}{k:Nat}{pos:Pos}{x:Str}{t:T}
theorem zO0{v:V}(h:∀ H:Hp,Im K H v t):SimE K (tC v) (dK t):=by
 intro C w Γ σ H s Γ' Q R e k
 cases e
 exact k v H R .refl (h H) trivial
theorem ex_k(t:T)(M:Fm K mg k X)(c:KV K mg x t)(hg:∀ j,Gl (X j) x:=by intro _; rfl)(hd:(x == ("__debug__":Str))=false:=by decide):EX K X (.Name x pos) (dK t) :=
 let ⟨v,u,h1,h2,h3⟩:=c
 ⟨tC v,fun j=>zEI (hg j) (by rw[M.mg]; exact h1) h2 hd,zO0 h3⟩
end
theorem zL8{K:Fg}{mg:Str->Option Value}{x:Str}{p:Addr}{its:List Value}{n:Nat}{sl:Array (Option Value)}(ns:List Int)(h1:mg x=some (.ref p))(h2:K.lookup p=some ⟨.type "tuple",none,.seq its.toArray n,sl⟩)(h3:Vals (ns.map V.int) its)(h4:its.length<=sizeLine)(h5:cOk (ns.map V.int)=true:=by rfl):KV K mg x (.t ((ns.map V.int).map T.a)) :=
 ⟨.ref p,.ref p,h1,rfl,fun H=>by unfold Im; exact⟨p,ns.map V.int,rfl,.inr ⟨_,its.toArray,n,h2,rfl,rfl,rfl,by simpa using h4,by simpa using h3,h5⟩,Ims.atoms _⟩⟩
section
variable {Γ:En}
@[simp,simp ↓] theorem zTO{t:T}:dK t Γ=some (.v t,Γ):=rfl
end
end D
namespace D
open PySem L2
open PySem.SeqAt
theorem zGf{h:Heap}:∀ {vs:List Value} {ds:List PyData} {as:List Addr},ReadsAll h vs ds as->∀ (i:Nat) (v:Value),vs[i]?=some v->∃ d as',ds[i]?=some d/\Reads h v d as':=by
 intro vs ds as r
 induction ds generalizing vs as with
 | nil =>
  intro i v e
  cases r
  simp at e
 | cons d ds ih =>
  intro i v e
  cases r with
  | cons r1 r2 =>
   cases i with
   | zero=>simp at e; subst e; exact⟨d,_,rfl,r1⟩
   | succ i=>simpa using ih r2 i v (by simpa using e)
theorem zEq:∀ {ds:List PyData},PyData.canLayAll0 ds=true->∀ (i:Nat) (d:PyData),ds[i]?=some d->d.canLay0=true
 | [],_,i,d,e=>by simp at e
 | x::r,h,i,d,e=>by
  simp only[PyData.canLayAll0,Bool.and_eq_true]at h
  cases i with
  | zero=>simp at e; subst e; exact h.1
  | succ i=>exact zEq h.2 i d (by simpa using e)
noncomputable def eqOf (h:Heap) (dx:PyData) (y:Value):Bool:=@decide (∃ d as,Reads h y d as/\d.canLay0=true/\PyData.eqv d dx=true) (Classical.propDecidable _)
theorem zHH{h:Heap}{dx d:PyData}{y:Value}{as:List Addr}(r:Reads h y d as)(c:d.canLay0=true):eqOf h dx y=PyData.eqv d dx:=by
 unfold eqOf
 cases e:PyData.eqv d dx with
 | true=>exact @decide_eq_true _ (Classical.propDecidable _) ⟨d,as,r,c,e⟩
 | false =>
  refine @decide_eq_false _ (Classical.propDecidable _) ?_
  rintro ⟨d',as',r',c',e'⟩
  have:=Reads.unique d d' y as as' c r r'
  subst this
  rw[e]at e'; cases e'
def rLFind(K:Fg)(g:List PyData->PyData->Option Int):V->List V->Hp->VK->Prop:=fun x vs H Q=>∃ p us y ts t ds d j,x=.ref p/\vs=[y]/\SqL K H p us/\Ims K H us ts/\toDs ts=some ds/\Im K H y t/\toD t=some d/\PyData.canLayAll0 ds=true/\d.canLay0=true/\d.depth<=100/\g ds d=some j/\Q (.int j) H
def gCount(ds:List PyData)(d:PyData):Option Int:=some ((ds.countP fun z=>PyData.eqv z d:Nat):Int)
section
variable {X:Cx}{k:Nat}
theorem zMZ{pins:List (Addr×Obj)}{σ:St}{H:Hp}{s:Shared}{y:V}{v:Value}{its:List Value}{us:List V}{ts:List T}{t:T}{ds:List PyData}{d:PyData}(hr:Room k X.A)(I:Inv X pins σ H s)(rv:Vals us its)(hi:Ims X.K H us ts)(e1:toDs ts=some ds)(ry:RelV y v)(hy:Im X.K H y t)(e2:toD t=some d)(c1:PyData.canLayAll0 ds=true)(c2:d.canLay0=true)(dp:d.depth<=100) :
  (∀ u,u∈its.toArray->EqAt X.A.in1 s u v (eqOf s.heap d u))/\∀ (i:Nat) u,its[i]?=some u->∃ z,ds[i]?=some z/\eqOf s.heap d u=PyData.eqv z d:=by
 obtain⟨as1,ra⟩:=zAt I hi rv e1
 obtain⟨as2,rx⟩:=zDP I hy ry e2
 have each:∀ (i:Nat) u,its[i]?=some u->∃ z as,ds[i]?=some z/\Reads s.heap u z as/\z.canLay0=true:=fun i u e=>by
  obtain⟨z,as,e3,r3⟩:=zGf ra i u e
  exact⟨z,as,e3,r3,zEq c1 i z e3⟩
 refine⟨fun u hu=>?_,fun i u e=>?_⟩
 ·obtain⟨i,hi',rfl⟩:=List.getElem_of_mem (List.mem_toArray.mp hu)
  obtain⟨z,as,e3,r3,c3⟩:=each i its[i] (by simp[hi'])
  rw[zHH r3 c3]
  exact eqAt_reads z d X.A.in1 s _ v as as2 r3 rx c3 c2 (by have:=hr.un; show X.A.units+1+min z.depth d.depth < cLine; omega)
 ·obtain⟨z,as,e3,r3,c3⟩:=each i u e
  exact⟨z,e3,zHH r3 c3⟩
theorem zJB(hr:Room k X.A):MtM X "list.count" (rLFind X.K gCount):=by
 intro pins s σ H x vs v us Q I rx rv h
 obtain⟨p,ws,y,ts,t,ds,d,j,rfl,rfl,hq,hi,e1,hy,e2,c1,c2,dp,eg,q⟩:=h
 cases rx
 obtain⟨u,rfl,ru⟩:=rv.one
 obtain⟨its,rw',⟨⟨cls,dd,data,sl⟩,n,ho,hc,hdd,hd⟩,hz⟩:=I.list hq
 simp only at hc hd hdd
 subst hc hd
 cases eg
 obtain⟨E1,E2⟩:=zMZ hr I rw' hi e1 ru hy e2 c1 c2 dp
 obtain⟨as3,ra3⟩:=zAt I hi rw' e1
 have hl3:=ReadsAll.length ds its as3 ra3
 have cnt:∀ (a:List Value) (b:List PyData),a.length=b.length->(∀ (i:Nat) u,a[i]?=some u->∃ z,b[i]?=some z/\eqOf s.heap d u=PyData.eqv z d)->a.countP (eqOf s.heap d)=b.countP fun z=>PyData.eqv z d:=by
  intro a
  induction a with
  | nil=>intro b hb _; rw[List.length_eq_zero_iff.mp hb.symm]; rfl
  | cons x r ih =>
   intro b hb hh
   cases b with
   | nil=>cases hb
   | cons z b =>
    obtain⟨z',ez,e⟩:=hh 0 x rfl
    cases ez
    rw[List.countP_cons,List.countP_cons,e,ih b (by simpa using hb) fun i u hu=>by simpa using hh (i+1) u (by simpa using hu)]
 refine call_meets PySem.F.slot_list_count ⟨_,ho,rfl⟩ PySem.F.entry_list_count (PySem.F.args_list_count_2 _ _) (list_countAt p its.toArray n dd sl u (eqOf s.heap d)) ⟨ho,E1,?_⟩
 rw[show its.toArray.toList=its from rfl,cnt its ds hl3 E2]
 exact⟨.int _,H,I.tok _,⟨_,rfl⟩,q⟩
end
def dLFind(g:List PyData->PyData->Option Int)(fo:DE)(fa:DA):DE:=fun Γ=>(fo Γ).bind fun p=>if (sqlOf p.2 p.1).isSome=true then (fa p.2).bind fun q=>match q.1 with
 | [.v t]=>(sqlOf q.2 p.1).bind fun ts=>(toDs ts).bind fun ds=>(toD t).bind fun d=>if PyData.canLayAll0 ds=true/\d.canLay0=true/\d.depth<=100 then (g ds d).map fun j=>(mkI j,q.2) else none
 | _=>none
 else none
theorem zI2{K:Fg}{g:List PyData->PyData->Option Int}{to:TE}{ta:TA}{fo:DE}{fa:DA}(ho:SimE K to fo)(ha:SimA K ta fa):SimE K (tBM K "list" (rLFind K g) to ta) (dLFind g fo fa):=by
 intro C w Γ σ H s Γ' Q R e k
 obtain⟨⟨a,G1⟩,e1,e⟩:=bind_some e
 dsimp only at e
 split at e
 rotate_left
 ·cases e
 rename_i hs0
 obtain⟨ts0,hs0⟩:=Option.isSome_iff_exists.mp hs0
 obtain⟨⟨as,G2⟩,e2,e⟩:=bind_some e
 dsimp only at e
 split at e
 rotate_left
 ·cases e
 rename_i t
 obtain⟨ts,e3,e⟩:=bind_some e
 obtain⟨ds,e4,e⟩:=bind_some e
 obtain⟨d,e5,e⟩:=bind_some e
 split at e
 rotate_left
 ·cases e
 rename_i hh
 obtain⟨j,e6,e⟩:=map_some e
 cases e
 refine ho C w Γ σ H a G1 _ R e1 fun v H1 R1 ev1 o1 n1=>?_
 obtain⟨p0,vs0,rfl,q0,_⟩:=zAi R1 o1 hs0
 refine⟨.inl ⟨rfl,vs0,q0⟩,?_⟩
 refine ha C w G1 σ H1 [.v t] _ _ R1 e2 fun us H2 R2 ev2 o2 n2=>?_
 obtain⟨y,rfl,oy⟩:=soks1 o2
 obtain⟨p1,vs1,ep,q1,i1⟩:=zAi R2 (o1.evo ev2 R1.lst) e3
 cases ep
 exact⟨p0,vs1,y,ts,t,ds,d,j,rfl,rfl,q1,i1,e4,oy,e5,hh.1,hh.2.1,hh.2.2,e6,k _ H2 R2 (ev1.trans ev2) SOk.atom trivial⟩
section
variable {ι:Type}{K:Fg}{mg:Str->Option Value}{k:Nat}{X:ι->Cx}{o e:Expr}{es:List Expr}{fa:DE}{da:DA}
theorem zKO{g:List PyData->PyData->Option Int}{name:Str}{id:String}{apos cpos:Pos}(M:Fm K mg k X)(slot:Slot "list" name id)(hty:typeOf (.builtin id)=pure (.type "method_descriptor"))(hm:∀ j,MtM (X j) id (rLFind (X j).K g))(ho:EX K X o fa)(ha:AX K X (e::es) da)
  (hbase:∀ j,attributeBase o name (X j).env (eval o (X j).env)=eval o (X j).env:=by intro _; rfl)
  (hfew:∀ j,((backTo cpos (starEach (e::es) (X j).env)).all (fun x=>!x.1) && (backToKw cpos (keywordEach [] (X j).env)).all (fun x=>x.1.isSome) && decide ((e::es).length+([]:List Keyword).length+(if ([]:List Keyword).isEmpty then 0 else 1) < 30))=true:=by intro _; rfl)
  (hline:(apos.endLine == cpos.line)=true:=by rfl) (hs:∀ j,starEach (e::es) (X j).env=(false,eval e (X j).env)::starEach es (X j).env:=by intro _; rfl) (hplain:∀ j,(backTo cpos (starEach es (X j).env)).any (·.1)=false:=by intro _; rfl) :
  EX K X (.Call (.Attribute o name apos) (e::es) [] cpos) (dLFind g fa da) :=
 let ⟨t0,q0,u0⟩:=ho; let ⟨t,q,u⟩:=ha
 ⟨tBM K "list" (rLFind K g) t0 t,fun j=>by have:=zLP PySem.F.plainAttrs_list slot hty (hm j) (q0 j) (q j) (hbase j) (hfew j) hline (hs j) (hplain j); rw[M.K j]at this; exact this,zI2 u0 u⟩
@[simp] theorem zPW{g:List PyData->PyData->Option Int}{fo:DE}{fa:DA}{Γ:En}:dLFind g fo fa Γ=(fo Γ).bind fun p=>if (sqlOf p.2 p.1).isSome=true then (fa p.2).bind fun q=>match q.1 with
 | [.v t]=>(sqlOf q.2 p.1).bind fun ts=>(toDs ts).bind fun ds=>(toD t).bind fun d=>if PyData.canLayAll0 ds=true/\d.canLay0=true/\d.depth<=100 then (g ds d).map fun j=>(mkI j,q.2) else none
 | _=>none
 else none:=(rfl)
end
def dParLL(i j:Nat):DS:=fun Γ=>some (.nx ((Γ.set i (some (.l []))).set j (some (.l []))))
section
variable {ι:Type}{K:Fg}{mg:Str->Option Value}{k:Nat}{X:ι->Cx}{ip:Option Nat}{pos:Pos}
@[simp,simp ↓] theorem zPU{i j:Nat}{Γ:En}:dParLL i j Γ=some (.nx ((Γ.set i (some (.l []))).set j (some (.l [])))):=rfl
end
end D
namespace L2
open PySem PySem.Spec PyProof.Rows
section
variable {κ:Type} [DecidableEq κ]
def valV(kvs:List (κ×V))(k:κ):Option V:=(kvs.find? fun kv=>decide (kv.1=k)).map (·.2)
def putK(kvs:List (κ×V))(k:κ)(v:V):List (κ×V) :=
 if (kvs.any fun kv=>decide (kv.1=k))=true then kvs.map (fun kv=>if kv.1=k then (kv.1,v) else kv) else kvs++[(k,v)]
theorem zCU{p:κ×V}{r:List (κ×V)}{k:κ}(e:p.1=k):valV (p::r) k=some p.2:=by simp[valV,List.find?_cons,e]
theorem zCQ{p:κ×V}{r:List (κ×V)}{k:κ}(e:¬ p.1=k):valV (p::r) k=valV r k:=by simp[valV,List.find?_cons,e]
theorem zFl(k:κ):∀ kvs:List (κ×V),(kvs.any fun kv=>decide (kv.1=k))=(valV kvs k).isSome
 | []=>rfl
 | p::r=>by
  rw[List.any_cons]
  by_cases e:p.1=k
  ·simp only[zCU e,decide_eq_true e,Bool.true_or,Option.isSome_some]
  ·rw[zCQ e,decide_eq_false e,Bool.false_or]; exact zFl k r
theorem zDD(kvs:List (κ×V))(k:κ)(v:V):(putK kvs k v).length<=kvs.length+1:=by
 unfold putK
 split
 ·rw[List.length_map]; omega
 ·rw[List.length_append,List.length_cons,List.length_nil]; omega
theorem RelO.isSome_eq{o:Option V}{u:Option Value}(r:RelO o u):o.isSome=u.isSome:=by
 cases o with
 | none=>cases u with
  | none=>rfl
  | some _=>exact (show False from r).elim
 | some _=>cases u with
  | none=>exact (show False from r).elim
  | some _=>rfl
theorem RelO.getD{o:Option V}{u:Option Value}{d:V}{d':Value}(r:RelO o u)(rd:RelV d d'):RelV (o.getD d) (u.getD d'):=by
 cases o with
 | none=>cases u with
  | none=>exact rd
  | some _=>exact (show False from r).elim
 | some _=>cases u with
  | none=>exact (show False from r).elim
  | some _=>exact r
theorem KV.val{kvs:List (κ×V)}{vs:List (κ×Value)}(r:KV kvs vs)(k:κ):RelO (valV kvs k) (valueAt vs k):=by
 unfold KV at r
 induction r with
 | nil=>exact True.intro
 | @cons p q ps qs h t ih =>
  obtain⟨h1,h2⟩:=h
  by_cases e:p.1=k
  ·have e':q.1=k:=h1.symm.trans e
   have b:valueAt (q::qs) k=some q.2:=by simp[valueAt,List.find?_cons,e']
   rw[zCU e,b]; exact h2
  ·have e':¬ q.1=k:=fun z=>e (h1.trans z)
   have b:valueAt (q::qs) k=valueAt qs k:=by simp[valueAt,List.find?_cons,e']
   rw[zCQ e,b]; exact ih
theorem KV.any{kvs:List (κ×V)}{vs:List (κ×Value)}(r:KV kvs vs)(k:κ):(kvs.any fun kv=>decide (kv.1=k))=vs.any fun kv=>decide (kv.1=k):=by
 unfold KV at r
 induction r with
 | nil=>rfl
 | cons h t ih=>rw[List.any_cons,List.any_cons,ih,h.1]
theorem KV.repl{kvs:List (κ×V)}{vs:List (κ×Value)}(r:KV kvs vs)(k:κ){y:V}{u:Value}(ry:RelV y u) :
  KV (kvs.map fun kv=>if kv.1=k then (kv.1,y) else kv) (vs.map fun kv=>if kv.1=k then (kv.1,u) else kv):=by
 unfold KV at r ⊢
 induction r with
 | nil=>exact .nil
 | @cons p q ps qs h t ih =>
  rw[List.map_cons,List.map_cons]
  refine .cons ?_ ih
  obtain⟨h1,h2⟩:=h
  by_cases e:p.1=k
  ·rw[if_pos e,if_pos (h1.symm.trans e)]; exact⟨h1,ry⟩
  ·rw[if_neg e,if_neg (fun z=>e (h1.trans z))]; exact⟨h1,h2⟩
theorem KV.put{kvs:List (κ×V)}{vs:List (κ×Value)}(r:KV kvs vs)(k:κ){y:V}{u:Value}(ry:RelV y u):KV (putK kvs k y) (stored vs k u):=by
 unfold putK stored
 rw[r.any k]
 by_cases e:(vs.any fun kv=>decide (kv.1=k))=true
 ·rw[if_pos e,if_pos e]; exact r.repl k ry
 ·rw[if_neg e,if_neg e]; exact Paired.snoc r ⟨rfl,ry⟩
theorem KV.length{kvs:List (κ×V)}{vs:List (κ×Value)}(r:KV kvs vs):kvs.length=vs.length:=Paired.length r
end
theorem zDc{P:Program}{w:World}{k:Key}{u:Value}(r:RelV (kV k) u):(mixKind P w).is k u=true:=by
 cases k with
 | inl i=>obtain⟨t,e⟩:=(show ∃ t,u=Value.int i t from r); subst e; exact zBw P w i t
 | inr x=>obtain⟨t,e⟩:=(show ∃ t,u=Value.str x t from r); subst e; exact zGm P w x t
theorem zEc{P:Program}{w:World}:∀ {ks:List Key} {us:List Value},Vals (ks.map kV) us->ItemsAre (mixKind P w) ks us
 | [],_,r=>by rw[List.map_nil]at r; cases r; exact .nil
 | k::ks,_,r=>by
  rw[List.map_cons]at r
  cases r with
  | cons h t=>exact .cons (zDc h) (zEc t)
abbrev KT(H:Hp):List (List Key×V)->List (List Key×Addr×Value)->Prop:=Paired fun p q=>p.1=q.1/\H q.2.1=some (.tup (p.1.map kV))/\RelV p.2 q.2.2
theorem KT.val{H:Hp}{kvs:List (List Key×V)}{xs:List (List Key×Addr×Value)}(r:KT H kvs xs)(k:List Key):RelO (valV kvs k) ((atKey xs k).map (·.2)):=by
 induction r with
 | nil=>exact True.intro
 | @cons p q ps qs h t ih =>
  obtain⟨h1,_,h2⟩:=h
  by_cases e:p.1=k
  ·have e':q.1=k:=h1.symm.trans e
   have b:atKey (q::qs) k=some q.2:=by simp[atKey,List.find?_cons,e']
   rw[zCU e,b]; exact h2
  ·have e':¬ q.1=k:=fun z=>e (h1.trans z)
   have b:atKey (q::qs) k=atKey qs k:=by simp[atKey,List.find?_cons,e']
   rw[zCQ e,b]; exact ih
theorem KT.repl{H:Hp}{kvs:List (List Key×V)}{xs:List (List Key×Addr×Value)}(r:KT H kvs xs)(k:List Key){y:V}{u:Value}(ry:RelV y u) :
  KT H (kvs.map fun kv=>if kv.1=k then (kv.1,y) else kv) (xs.map (putAt k u)):=by
 induction r with
 | nil=>exact .nil
 | @cons p q ps qs h t ih =>
  rw[List.map_cons,List.map_cons]
  refine .cons ?_ ih
  obtain⟨h1,h2,h3⟩:=h
  unfold putAt
  by_cases e:p.1=k
  ·rw[if_pos e,if_pos (h1.symm.trans e)]; exact⟨h1,h2,ry⟩
  ·rw[if_neg e,if_neg (fun z=>e (h1.trans z))]; exact⟨h1,h2,h3⟩
theorem KT.put{H:Hp}{kvs:List (List Key×V)}{xs:List (List Key×Addr×Value)}(r:KT H kvs xs)(k:List Key){b:Addr}{y:V}{u:Value}(hb:H b=some (.tup (k.map kV)))(ry:RelV y u) :
  KT H (putK kvs k y) (storedH xs k b u):=by
 have e:(kvs.any fun kv=>decide (kv.1=k))=(atKey xs k).isSome:=by
  rw[zFl,(r.val k).isSome_eq,Option.isSome_map]
 unfold putK storedH
 rw[e]
 by_cases q:(atKey xs k).isSome=true
 ·rw[if_pos q,if_pos q]; exact r.repl k ry
 ·rw[if_neg q,if_neg q]; exact Paired.snoc r ⟨rfl,hb,ry⟩
theorem KT.keeps{H H':Hp}{kvs:List (List Key×V)}{xs:List (List Key×Addr×Value)}(r:KT H kvs xs)(ht:∀ b ys,H b=some (.tup ys)->H' b=some (.tup ys)):KT H' kvs xs :=
 Paired.mapP r fun _ _ z=>⟨z.1,ht _ _ z.2.1,z.2.2⟩
section
variable {P:Program}{w:World}{H:Hp}{h:Heap}{a:Addr}
theorem zLR{u:HO}(ok:HOk P w H h)(e:Rd H a u):ObjOk P w H h a u:=e.ok ok
theorem zDn{kvs:List (Key×V)}(ok:HOk P w H h)(e:Rd H a (.dK kvs)):kvs.length<=sizeLine/\(a == sysModules)=false/\∃ vs,KV kvs vs/\h.DictOf (mixKind P w) a vs :=
 show ObjOk P w H h a (.dK kvs) from zLR ok e
theorem zOM{kvs:List (Key×V)}(ok:HOk P w H h)(e:H a=some (.dK kvs)):kvs.length<=sizeLine/\(a == sysModules)=false/\∃ vs,KV kvs vs/\h.DictOf (mixKind P w) a vs:=zDn ok (.inl e)
theorem zDf{ks:List Key}(ok:HOk P w H h)(e:H a=some (.tup (ks.map kV))):(tupleKind (mixKind P w)).is h ks a:=by
 obtain⟨_,its,r,o,h1,h2,⟨n,h3⟩,_⟩:=(show ObjOk P w H h a (.tup (ks.map kV)) from ok a _ e)
 exact⟨o,its.toArray,n,h1,h2,h3,by simpa using zEc r⟩
theorem zCr{kvs:List (List Key×V)}(ok:HOk P w H h)(e:Rd H a (.dT kvs)):kvs.length<=sizeLine/\(a == sysModules)=false /\
  ∃ xs,KT H kvs xs/\h.DictOfH (tupleKind (mixKind P w)) a xs:=by
 obtain⟨z,y,xs,r,o,es,ep,h1,h2,h3,h4,h5⟩:=(show ObjOk P w H h a (.dT kvs) from zLR ok e)
 refine⟨z,y,xs,r,o,es,ep,h1,h2,h3,h4,fun x hx=>?_,h5⟩
 have all:∀ {l:List (List Key×V)} {m:List (List Key×Addr×Value)},KT H l m->∀ x∈m,(tupleKind (mixKind P w)).is h x.1 x.2.1:=by
  intro l m q
  induction q with
  | nil=>intro x hx; exact nomatch hx
  | @cons p q ps qs hq t ih =>
   intro x hx
   rcases List.mem_cons.mp hx with e | hx
   ·subst e
    exact zDf ok (by rw[← hq.1]; exact hq.2.1)
   ·exact ih x hx
 exact all r x hx
theorem zOz{kvs:List (List Key×V)}(ok:HOk P w H h)(e:H a=some (.dT kvs)):kvs.length<=sizeLine/\(a == sysModules)=false /\
  ∃ xs,KT H kvs xs/\h.DictOfH (tupleKind (mixKind P w)) a xs:=zCr ok (.inl e)
end
def DGet(H:Hp)(a:Addr)(y:V)(r:Option V):Prop :=
 (∃ kvs k,Rd H a (.dK kvs)/\y=kV k/\r=valV kvs k)\/∃ kvs k b,Rd H a (.dT kvs)/\y=.ref b/\H b=some (.tup (k.map kV))/\r=valV kvs k
def DPut(H:Hp)(a:Addr)(y v:V)(H':Hp):Prop :=
 (∃ kvs k,H a=some (.dK kvs)/\y=kV k/\kvs.length < sizeLine/\H'=upd H a (.dK (putK kvs k v))) \/
 ∃ kvs k b,H a=some (.dT kvs)/\y=.ref b/\H b=some (.tup (k.map kV))/\kvs.length < sizeLine/\H'=upd H a (.dT (putK kvs k v))
theorem DGet.k{H:Hp}{a:Addr}{kvs:List (Key×V)}{k:Key}(e:H a=some (.dK kvs)):DGet H a (kV k) (valV kvs k):=.inl ⟨kvs,k,.inl e,rfl,rfl⟩
theorem DGet.t{H:Hp}{a b:Addr}{kvs:List (List Key×V)}{k:List Key}(e:H a=some (.dT kvs))(eb:H b=some (.tup (k.map kV))):DGet H a (.ref b) (valV kvs k):=.inr ⟨kvs,k,b,.inl e,rfl,eb,rfl⟩
theorem DPut.k{H:Hp}{a:Addr}{kvs:List (Key×V)}{k:Key}{v:V}(e:H a=some (.dK kvs))(hl:kvs.length < sizeLine):DPut H a (kV k) v (upd H a (.dK (putK kvs k v))):=.inl ⟨kvs,k,e,rfl,hl,rfl⟩
theorem DPut.t{H:Hp}{a b:Addr}{kvs:List (List Key×V)}{k:List Key}{v:V}(e:H a=some (.dT kvs))(eb:H b=some (.tup (k.map kV)))(hl:kvs.length < sizeLine) :
  DPut H a (.ref b) v (upd H a (.dT (putK kvs k v))):=.inr ⟨kvs,k,b,e,rfl,eb,hl,rfl⟩
section
variable {X:Cx}{pins:List (Addr×Obj)}{σ:St}{H:Hp}{s:Shared}{a:Addr}{y v:V}{u r:Value}{o:Option V}{A:Around}{E:Value->Shared->Prop}
theorem Inv.big(I:Inv X pins σ H s):sysModules < s.heap.objs.size:=by
 have h:mainGlobals < s.heap.objs.size:=(I.mod.glob.keeps I.bk).lt
 exact Nat.lt_trans (by decide) h
theorem zI3{Q:Value->Shared->Prop}(hu:A.units+1 < cLine)(I:Inv X pins σ H s)(g:DGet H a y (some v))(ry:RelV y u)(h:∀ w' s',Inv X pins σ H s'->RelV v w'->Q w' s') :
  wpAny (model X.prog X.w) A (getItem (.ref a) u) Q E s:=by
 rcases g with ⟨kvs,k,e,ey,l⟩ | ⟨kvs,k,b,e,ey,eb,l⟩
 ·subst ey
  obtain⟨z,hd,vs,rel,dd⟩:=zDn I.hok e
  obtain⟨w',hw,rw'⟩:=RelO.some_of (v:=v) (o:=valueAt vs k) (by rw[l]; exact rel.val k)
  exact wpAny_getItem_of (zDc ry) dd.mapOf hw (h w' _ (I.tok _) rw')
 ·subst ey
  cases (show u=Value.ref b from ry)
  obtain⟨z,hd,xs,rel,dd⟩:=zCr I.hok e
  obtain⟨w',hw,rw'⟩:=RelO.some_of (v:=v) (o:=(atKey xs k).map (·.2)) (by rw[l]; exact rel.val k)
  obtain⟨p,hp,hp2⟩:=Option.map_eq_some_iff.mp hw
  refine wpAny_getItem_heap (tupleKind_room_in1 hu) (zDf I.hok eb) dd hp ?_
  rw[hp2]
  exact h w' _ (I.tok _) rw'
theorem zGv{h':Heap}{t':Nat}{ob:HO}(I:Inv X pins σ H s)(mu:Mut (H a))(hs:Heap.SameBut a s.heap h')(he:∃ q,h'.get? a=some q)(new:ObjOk X.prog X.w (upd H a ob) h' a ob) :
  Inv X pins σ (upd H a ob) { s with heap:=h',toks:=t' } :=
 I.write (x:=a) (e:=a) mu (.inl rfl) (fun b q hb z=>(hs.2 b hb).trans z) he new
theorem zNc{P:Program}{w:World}{H':Hp}{h':Heap}{kvs:List (Key×V)}{vs:List (Key×Value)}(z:kvs.length<=sizeLine)(hd:(a == sysModules)=false)(rel:KV kvs vs)(dd:h'.DictOf (mixKind P w) a vs) :
  ObjOk P w H' h' a (.dK kvs):=⟨z,hd,vs,rel,dd⟩
theorem zIU{H':Hp}{Q:Unit->Shared->Prop}(hu:A.units+1 < cLine)(I:Inv X pins σ H s)(g:DPut H a y v H')(ry:RelV y u)(rv:RelV v r)(h:∀ s',Inv X pins σ H' s'->Q () s') :
  wpAny (model X.prog X.w) A (setItem (.ref a) u r) Q E s:=by
 rcases g with ⟨kvs,k,e,ey,l,eH⟩ | ⟨kvs,k,b,e,ey,eb,l,eH⟩
 ·subst ey eH
  obtain⟨z,hd,vs,rel,dd⟩:=zOM I.hok e
  have hz:vs.length<=sizeLine:=by rw[← rel.length]; exact z
  have hl:(putK kvs k v).length<=sizeLine:=by have:=zDD kvs k v; omega
  refine wpAny_setItem_pairs (hsz:=hz) (zDc ry) dd fun h' dd' hs=>h _ ?_
  have he:∃ q,h'.get? a=some q:=let ⟨q,_,_,hq,_⟩:=dd'; ⟨q,hq⟩
  exact zGv I (by rw[e]; exact True.intro) hs he (zNc hl hd (rel.put k rv) dd')
 ·subst ey eH
  cases (show u=Value.ref b from ry)
  obtain⟨z,hd,xs,rel,dd⟩:=zOz I.hok e
  have hz:xs.length<=sizeLine:=by rw[← Paired.length rel]; exact z
  have hl:(putK kvs k v).length<=sizeLine:=by have:=zDD kvs k v; omega
  refine wpAny_setItem_heap (hsz:=hz) (tupleKind_room_in1 hu) (zDf I.hok eb) dd fun h' dd' hs=>h _ ?_
  obtain⟨q,es,ep,hq,h2,h3,h4,_,h5⟩:=dd'
  refine zGv I (by rw[e]; exact True.intro) hs ⟨q,hq⟩ ⟨hl,hd,_,(rel.put k eb rv).keeps fun c ys ec=>?_,q,es,ep,hq,h2,h3,h4,h5⟩
  rw[zAD (zOZ ec e (fun z=>nomatch z))]
  exact ec
end
def NoSl(i:Expr):Prop:=∀ ov iv,subscripted i false ov iv=operate [ov,iv] (getItem ov iv)
theorem zG9{prog:Program}{w:World}{A:Around}{E:Value->Shared->Prop}{s:Shared}{env:Env}{value slice:Expr}{pos:Pos}{T id:String}{Q:Value->Shared->Prop}
  (hl:typeLookup (.type T) "__getitem__"=pure (some (.builtin id))) (hs:NoSl slice)
  (h:wpAny (model prog w) A (eval value env) (fun o s₁=>wpAny (model prog w) A (eval slice env) (fun i s₂=>s₂.TypeIs o T/\wpAny (model prog w) A (getItem o i) Q E s₂) E s₁) E s) :
  wpAny (model prog w) A (eval (.Subscript value slice pos) env) Q E s:=by
 refine Subscript_ (wpAny_mono h (fun o s₁ h₁=>wpAny_mono h₁ (fun i s₂ h₂=>?_) fun _ _ x=>x) fun _ _ x=>x)
 obtain⟨hT,h₂⟩:=h₂
 unfold subscriptTail
 refine wpAny_bind ?_
 rw[getitemInPython_of_ne hT.not_modules]
 refine wpAny_bind (wpAny_specialOf hT hl ?_)
 have fin:wpAny (model prog w) A (subscripted slice false o i) (fun r s₃=>wpAny (model prog w) A (letTemporaryGo value o r >>= fun _=>pure r) Q E s₃) E s₂:=by
  rw[hs o i]
  exact wpAny_operating (wpAny_mono h₂ (fun r s₃ h₃=>wpAny_bind (wpAny_letTemporaryGo (wpAny_pure h₃))) fun _ _ x=>x)
 first
  | exact wpAny_pure (wpAny_bind fin)
  | exact wpAny_bind (wpAny_pure (wpAny_bind fin))
  | exact wpAny_bind fin
theorem zGd{X:Cx}{pins:List (Addr×Obj)}{σ:St}{H:Hp}{s:Shared}{a:Addr}{y:V}{o:Option V}(I:Inv X pins σ H s)(g:DGet H a y o):s.TypeIs (.ref a) "dict":=by
 rcases g with ⟨kvs,k,e,_,_⟩ | ⟨kvs,k,b,e,_,_,_⟩
 ·obtain⟨_,_,vs,_,dd⟩:=zDn I.hok e
  exact dd.typeIs
 ·obtain⟨_,_,xs,_,dd⟩:=zCr I.hok e
  exact dd.typeIs
def tDGet(td ty:TE):TE:=fun σ H Q=>td σ H fun x H1=>ty σ H1 fun y H2=>∃ a v,x=.ref a/\DGet H2 a y (some v)/\Q v H2
def sDPut(td ty tv:TE):TS:=fun D σ H=>tv σ H fun v H1=>td σ H1 fun x H2=>ty σ H2 fun y H3=>∃ a H4,x=.ref a/\DPut H3 a y v H4/\D.nx σ H4
section
variable {X:Cx}{o i e value:Expr}{pos pos' tpos:Pos}{td ty tv:TE}
theorem zMj(hu:X.A.units+1 < cLine)(ho:PE X o td)(hi:PE X i ty)(hs:NoSl i):PE X (.Subscript o i pos) (tDGet td ty):=by
 intro pins s σ H Q I h
 refine zG9 PySem.F.slot_dict_getitem.lookup hs (thn (ho pins s σ H _ I h) fun u s1 ⟨x,H1,I1,rx,q1⟩=>thn (hi pins s1 σ H1 _ I1 q1) fun iv s2 ⟨y,H2,I2,ry,a,v,ex,g,q2⟩=>?_)
 subst ex
 obtain rfl:u=Value.ref a:=rx
 exact⟨zGd I2 g,zI3 hu I2 g ry fun w' s3 I3 rw'=>⟨v,H2,I3,rw',q2⟩⟩
theorem zMV(hu:X.A.units+1 < cLine)(ho:PE X o td)(hi:PE X i ty)(hv:PE X value tv)(hs:swapsWith value (some (.Subscript o i pos')) pos.line X.env=pure false) :
  PS X (.Assign [.Subscript o i pos'] value pos) (sDPut td ty tv):=by
 intro pins s σ H D I h
 refine wpAny_Assign_Subscript (thn (hv pins s σ H _ I h) fun r s1 ⟨v,H1,I1,rv,q1⟩=>thn (ho pins s1 σ H1 _ I1 q1) fun u s2 ⟨x,H2,I2,rx,q2⟩=>thn (hi pins s2 σ H2 _ I2 q2) fun iv s3 ⟨y,H3,I3,ry,a,H4,ex,g,q3⟩=>?_) hs
 subst ex
 obtain rfl:u=Value.ref a:=rx
 exact zIU hu I3 g ry rv fun s4 I4=>⟨σ,H4,I4,q3⟩
end
theorem zK6{P:Program}{w:World}{H:Hp}(h:Heap)(hb:sysModules < h.objs.size):ObjOk P w H (h.push { cls:=.type "dict",data:=.dict #[] }) h.objs.size (.dT []) :=
 ⟨Nat.zero_le _,beq_eq_false_iff_ne.mpr (Ne.symm (Nat.ne_of_lt hb)),[],.nil,_,#[],0,Heap.get?_push_size _ rfl,⟨rfl,rfl,rfl⟩,rfl,rfl,List.nodup_nil⟩
def tDNewT:TE:=fun _ H Q=>∀ p,H p=none->Q (.ref p) (upd H p (.dT []))
section
variable {X:Cx}{pos:Pos}
theorem zKp:PE X (.Dict [] [] pos) tDNewT:=fun pins s σ H Q I h =>
 wpAny_Dict_empty ⟨.ref s.heap.objs.size,_,I.laid (a:=s.heap.objs.size) (o:=.dT []) (t':=s.toks) (fun _ _ q=>Heap.get?_push_of_some _ q) (Nat.le_refl _) (zK6 s.heap I.big),rfl,h _ (I.hok.fresh (Nat.le_refl _))⟩
end
abbrev VV:List (V×V)->List (Value×Value)->Prop:=Paired fun p q=>RelV p.1 q.1/\RelV p.2 q.2
structure M2(X:Cx)(o:Expr)(m:Str)(apos:Pos)(e f:Expr)(cpos:Pos):Prop where
 base:attributeBase o m X.env (eval o X.env)=eval o X.env
 few:((backTo cpos (starEach [e,f] X.env)).all (fun x=>!x.1) && (backToKw cpos (keywordEach [] X.env)).all (fun x=>x.1.isSome)
  && decide (([e,f]:List Expr).length+([]:List Keyword).length+(if ([]:List Keyword).isEmpty then 0 else 1) < 30))=true
 line:(apos.endLine == cpos.line)=true
 trees:backTo cpos (starEach [e,f] X.env)=[(false,eval e X.env),(false,eval f X.env)]
def IsD(H:Hp)(a:Addr):Prop:=(∃ kvs,Rd H a (.dK kvs))\/∃ kvs,Rd H a (.dT kvs)
theorem zNG{X:Cx}{pins:List (Addr×Obj)}{σ:St}{H:Hp}{s:Shared}{a:Addr}(I:Inv X pins σ H s)(d:IsD H a) :
  s.TypeIs (.ref a) "dict"/\(∀ b,Value.ref a=.ref b->∃ ob,s.heap.get? b=some ob/\ob.dict=none)/\(a == sysModules)=false:=by
 rcases d with ⟨kvs,e⟩ | ⟨kvs,e⟩
 ·obtain⟨_,hd,vs,_,dd⟩:=zDn I.hok e
  refine⟨dd.typeIs,fun b q=>?_,hd⟩
  cases q
  obtain⟨ob,_,_,h1,h2,_⟩:=dd
  exact⟨ob,h1,h2.2.1⟩
 ·obtain⟨_,hd,xs,_,dd⟩:=zCr I.hok e
  refine⟨dd.typeIs,fun b q=>?_,hd⟩
  cases q
  obtain⟨ob,_,_,h1,h2,_⟩:=dd
  exact⟨ob,h1,h2.2.1⟩
section
variable {X:Cx}{pins:List (Addr×Obj)}{σ:St}{H:Hp}{s:Shared}{a:Addr}{y d:V}{u r:Value}{o:Option V}{A:Around}{E:Value->Shared->Prop}
theorem zNE{Q:Value->Shared->Prop}(hu:A.units+1 < cLine)(I:Inv X pins σ H s)(g:DGet H a y o)(ry:RelV y u)(rd:RelV d r)(h:∀ w' s',Inv X pins σ H s'->RelV (o.getD d) w'->Q w' s') :
  wpAny (model X.prog X.w) A (call (.builtin "dict.get") [.ref a,u,r]) Q E s:=by
 rcases g with ⟨kvs,k,e,ey,l⟩ | ⟨kvs,k,b,e,ey,eb,l⟩
 ·subst ey
  obtain⟨z,hd,vs,rel,dd⟩:=zDn I.hok e
  refine call_meetsIn PySem.F.slot_dict_get dd.typeIs PySem.F.entry_dict_get (PySem.F.args_dict_get_3 _ _ _) (meets_dict_get_default (mixKind X.prog X.w) a (zDc ry) hd r) ⟨_,dd.mapOf,h _ _ (I.tok _) ?_⟩
  rw[l]
  exact (rel.val k).getD rd
 ·subst ey
  cases (show u=Value.ref b from ry)
  obtain⟨z,hd,xs,rel,dd⟩:=zCr I.hok e
  refine call_meetsIn PySem.F.slot_dict_get dd.typeIs PySem.F.entry_dict_get (PySem.F.args_dict_get_3 _ _ _) (meetsH_dict_get_default (tupleKind (mixKind X.prog X.w)) a b hd r) ⟨tupleKind_room_in1 hu,k,xs,zDf I.hok eb,dd,h _ _ (I.tok _) ?_⟩
  rw[l]
  exact (rel.val k).getD rd
end
def tDGet2(td ty tx:TE):TE:=fun σ H Q=>td σ H fun x H1=>∃ a,x=.ref a/\IsD H1 a/\ty σ H1 fun y H2=>tx σ H2 fun z H3=>∃ o,DGet H3 a y o/\Q (o.getD z) H3
section
variable {X:Cx}{o e f:Expr}{apos cpos:Pos}{td ty tx:TE}
theorem zK5(hu:X.A.units+1 < cLine)(ho:PE X o td)(he:PE X e ty)(hf:PE X f tx)(m:M2 X o "get" apos e f cpos):PE X (.Call (.Attribute o "get" apos) [e,f] [] cpos) (tDGet2 td ty tx):=by
 intro pins s σ H Q I h
 refine wpAny_Call_method m.base m.few m.line PySem.F.plainAttrs_dict PySem.F.slot_dict_get PySem.F.type_dict_get (thn (ho pins s σ H _ I h) fun u s1 ⟨x,H1,I1,rx,a,ex,d,q1⟩=>?_)
 subst ex
 obtain rfl:u=Value.ref a:=rx
 obtain⟨t1,t2,_⟩:=zNG I1 d
 refine⟨t1,t2,?_⟩
 rw[m.trees]
 refine Calls.callWith_builtin rfl (Calls.evalArgs_plain (Calls.spliced_cons (thn (he pins s1 σ H1 _ I1 q1) fun iv s2 ⟨y,H2,I2,ry,q2⟩ =>
  Calls.spliced_cons (thn (hf pins s2 σ H2 _ I2 q2) fun fv s3 ⟨z,H3,I3,rz,ov,g,q3⟩=>Calls.spliced_nil ?_))))
 exact zNE hu I3 g ry rz fun w' s4 I4 rw'=>⟨_,H3,I4,rw',q3⟩
end
end L2
namespace D
open PySem L2
def keyT:T->Option Key
 | .a (.int n)=>some (.inl n)
 | .a (.str x)=>some (.inr x)
 | _=>none
def keyTs:List T->Option (List Key)
 | []=>some []
 | t::r=>(keyT t).bind fun k=>(keyTs r).map fun ks=>k::ks
theorem zEJ{K:Fg}{H:Hp}{y:V}{t:T}{k:Key}(h:Im K H y t)(e:keyT t=some k):y=kV k:=by
 unfold keyT at e
 split at e
 ·cases e; exact h.inva
 ·cases e; exact h.inva
 ·cases e
theorem zGA{K:Fg}{H:Hp}:∀ {vs:List V} {ts:List T} {ks:List Key},Ims K H vs ts->keyTs ts=some ks->vs=ks.map kV
 | _,[],_,h,e=>by cases e; exact h.inv0
 | _,t::r,_,h,e=>by
  obtain⟨v,vs,rfl,h1,h2⟩:=h.inv
  obtain⟨k,e1,e⟩:=bind_some e
  obtain⟨ks,e2,e⟩:=map_some e
  subst e
  rw[zEJ h1 e1,zGA h2 e2]; rfl
def KC(K:Fg)(cs:List (List Key)):Prop:=∀ p ks,KT K p (ks.map kV)->ks∈cs
section
variable {κ:Type} [DecidableEq κ]
def valT(kvs:List (κ×T))(k:κ):Option T:=(kvs.find? fun kv=>decide (kv.1=k)).map (·.2)
def putT(kvs:List (κ×T))(k:κ)(t:T):List (κ×T) :=
 if (kvs.any fun kv=>decide (kv.1=k))=true then kvs.map (fun kv=>if kv.1=k then (kv.1,t) else kv) else kvs++[(k,t)]
def PR(K:Fg)(H:Hp)(l:List (κ×V))(kvs:List (κ×T)):Prop:=Paired (fun a b=>a.1=b.1/\Im K H a.2 b.2) l kvs
variable {K:Fg}{H:Hp}
theorem PR.val{l:List (κ×V)}{kvs:List (κ×T)}(h:PR K H l kvs)(k:κ):(valV l k=none/\valT kvs k=none)\/∃ v t,valV l k=some v/\valT kvs k=some t/\Im K H v t:=by
 induction h with
 | nil=>exact .inl ⟨rfl,rfl⟩
 | @cons a b l kvs hab _ ih =>
  by_cases e:a.1=k
  ·refine .inr ⟨a.2,b.2,zCU e,?_,hab.2⟩
   simp[valT,List.find?_cons,← hab.1,e]
  ·rw[zCQ e]
   have:valT (b::kvs) k=valT kvs k:=by simp[valT,List.find?_cons,← hab.1,e]
   rw[this]; exact ih
theorem PR.any{l:List (κ×V)}{kvs:List (κ×T)}(h:PR K H l kvs)(k:κ):(l.any fun kv=>decide (kv.1=k))=kvs.any fun kv=>decide (kv.1=k):=by
 induction h with
 | nil=>rfl
 | @cons a b l kvs hab _ ih=>rw[List.any_cons,List.any_cons,ih,hab.1]
theorem PR.app{l m:List (κ×V)}{kvs mvs:List (κ×T)}(h:PR K H l kvs)(h':PR K H m mvs):PR K H (l++m) (kvs++mvs):=by
 induction h with
 | nil=>exact h'
 | @cons a b l kvs hab _ ih=>exact .cons hab ih
theorem PR.put{l:List (κ×V)}{kvs:List (κ×T)}(h:PR K H l kvs)(k:κ){v:V}{t:T}(hv:Im K H v t):PR K H (putK l k v) (putT kvs k t):=by
 unfold putK putT
 rw[h.any k]
 split
 ·rename_i hx; clear hx
  induction h with
  | nil=>exact .nil
  | @cons a b l kvs hab _ ih =>
   rw[List.map_cons,List.map_cons]
   refine .cons ?_ ih
   by_cases e:a.1=k
   ·rw[if_pos e,if_pos (hab.1 ▸ e)]; exact⟨hab.1,hv⟩
   ·rw[if_neg e,if_neg (hab.1 ▸ e)]; exact hab
 ·exact h.app (.cons ⟨rfl,hv⟩ .nil)
theorem PR.len{l:List (κ×V)}{kvs:List (κ×T)}(h:PR K H l kvs):l.length=kvs.length:=Paired.length h
end
def dictOf(Γ:En):S->Option Dk
 | .d d=>some d
 | .s i=>match Γ[i]? with
  | some (some (.d d))=>some d
  | some (some (.e d))=>some d
  | _=>none
 | _=>none
def getX(cs:List (List Key))(d:Dk)(t:T):Option (Option T):=match d,t with
 | .inl kvs,t=>(keyT t).map fun k=>valT kvs k
 | .inr kvs,.t ts=>(keyTs ts).bind fun ks=>if (cs.any fun c=>decide (c=ks))=true then none else some (valT kvs ks)
 | _,_=>none
def putX(cs:List (List Key))(d:Dk)(t v:T):Option Dk:=match d,t with
 | .inl kvs,t=>(keyT t).bind fun k=>if kvs.length < sizeLine then some (.inl (putT kvs k v)) else none
 | .inr kvs,.t ts=>(keyTs ts).bind fun ks=>if (cs.any fun c=>decide (c=ks))=true then none else if kvs.length < sizeLine then some (.inr (putT kvs ks v)) else none
 | _,_=>none
section
variable {K:Fg}{C:Fr}{w:W}{Γ:En}{σ:St}{H:Hp}{cs:List (List Key)}
theorem zC3{x:V}{s:S}{d:Dk}(R:Rep K C w Γ σ H)(o:SOk K C w σ H x s)(e:dictOf Γ s=some d):∃ p ob,x=.ref p/\H p=some ob/\DOk K H ob d:=by
 cases s with
 | v t=>cases e
 | l _=>cases e
 | d d' =>
  cases e
  obtain⟨p,ob,rfl,_,_,_,h1,h2⟩:=o
  exact⟨p,ob,rfl,h1,h2⟩
 | s i =>
  unfold dictOf at e
  have o':σ[i]?=some (some x):=o
  dsimp only at e
  split at e
  ·rename_i d' hi
   cases e
   obtain⟨v,e1,p,ob,rfl,_,h1,h2⟩:=R.val i _ hi
   rw[o']at e1; cases e1
   exact⟨p,ob,rfl,h1,h2⟩
  ·rename_i d' hi
   cases e
   obtain⟨v,e1,p,ob,rfl,h2,h1,_⟩:=R.val i _ hi
   rw[o']at e1; cases e1
   exact⟨p,ob,rfl,h1,h2⟩
  ·cases e
theorem DOk.invK{ob:HO}{kvs:List (Key×T)}(h:DOk K H ob (.inl kvs)):∃ l,ob=.dK l/\PR K H l kvs:=by
 cases ob with
 | dK l=>exact⟨l,rfl,h⟩
 | _=>exact h.elim
theorem DOk.invT{ob:HO}{kvs:List (List Key×T)}(h:DOk K H ob (.inr kvs)):∃ l,ob=.dT l/\PR K H l kvs:=by
 cases ob with
 | dT l=>exact⟨l,rfl,h⟩
 | _=>exact h.elim
theorem DOk.isD{ob:HO}{p:Addr}{d:Dk}(h:DOk K H ob d)(hp:H p=some ob):IsD H p:=by
 cases d with
 | inl kvs=>obtain⟨l,rfl,_⟩:=h.invK; exact .inl ⟨l,.inl hp⟩
 | inr kvs=>obtain⟨l,rfl,_⟩:=h.invT; exact .inr ⟨l,.inl hp⟩
theorem zDB{ts:List T}{ks:List Key}{y:V}(hc:KC K cs)(h:Im K H y (.t ts))(e:keyTs ts=some ks)(n:¬ (cs.any fun c=>decide (c=ks))=true):∃ b,y=.ref b/\H b=some (.tup (ks.map kV)):=by
 obtain⟨b,vs,rfl,h1,h2⟩:=h.inv
 have:=zGA h2 e
 subst this
 rcases h1 with h1 | h1
 ·exact⟨b,rfl,h1⟩
 ·exact absurd (List.any_eq_true.mpr ⟨ks,hc b ks h1,decide_eq_true rfl⟩) n
theorem zIj{p:Addr}{ob:HO}{d:Dk}{y:V}{t:T}{r:Option T}(hc:KC K cs)(hp:H p=some ob)(hd:DOk K H ob d)(hy:Im K H y t)(e:getX cs d t=some r) :
  ∃ r',DGet H p y r'/\((r=none/\r'=none)\/∃ t' v',r=some t'/\r'=some v'/\Im K H v' t'):=by
 unfold getX at e
 split at e
 ·rename_i kvs t
  obtain⟨l,rfl,h1⟩:=hd.invK
  obtain⟨k,e1,e⟩:=map_some e
  subst e
  rw[zEJ hy e1]
  refine⟨_,DGet.k hp,?_⟩
  rcases h1.val k with ⟨a,b⟩ | ⟨v,t',a,b,c⟩
  ·exact .inl ⟨b,a⟩
  ·exact .inr ⟨t',v,b,a,c⟩
 ·rename_i kvs ts
  obtain⟨l,rfl,h1⟩:=hd.invT
  obtain⟨ks,e1,e⟩:=bind_some e
  split at e
  ·cases e
  ·rename_i n
   cases e
   obtain⟨b,rfl,h2⟩:=zDB hc hy e1 n
   refine⟨_,DGet.t hp h2,?_⟩
   rcases h1.val ks with ⟨a,b⟩ | ⟨v,t',a,b,c⟩
   ·exact .inl ⟨b,a⟩
   ·exact .inr ⟨t',v,b,a,c⟩
 ·cases e
theorem zN3{p:Addr}{ob:HO}{d d':Dk}{y v:V}{t tv:T}(hc:KC K cs)(hp:H p=some ob)(hd:DOk K H ob d)(hy:Im K H y t)(hv:Im K H v tv)(e:putX cs d t tv=some d') :
  ∃ ob',DPut H p y v (upd H p ob')/\DOk K H ob' d':=by
 unfold putX at e
 split at e
 ·rename_i kvs t
  obtain⟨l,rfl,h1⟩:=hd.invK
  obtain⟨k,e1,e⟩:=bind_some e
  split at e
  ·rename_i hl
   cases e
   rw[zEJ hy e1]
   exact⟨_,DPut.k hp (by rw[h1.len]; exact hl),h1.put k hv⟩
  ·cases e
 ·rename_i kvs ts
  obtain⟨l,rfl,h1⟩:=hd.invT
  obtain⟨ks,e1,e⟩:=bind_some e
  split at e
  ·cases e
  ·rename_i n
   split at e
   ·rename_i hl
    cases e
    obtain⟨b,rfl,h2⟩:=zDB hc hy e1 n
    exact⟨_,DPut.t hp h2 (by rw[h1.len]; exact hl),h1.put ks hv⟩
   ·cases e
 ·cases e
end
def getS(cs:List (List Key)):En->S->S->Option S:=fun Γ a b=>(dictOf Γ a).bind fun d=>match b with
 | .v t=>(getX cs d t).bind fun r=>r.map .v
 | _=>none
def rDGet:R2:=fun x y H Q=>∃ a v,x=.ref a/\DGet H a y (some v)/\Q v H
section
variable {K:Fg}{cs:List (List Key)}
theorem zHY(hc:KC K cs):SimR2 K rDGet (getS cs):=by
 intro C w Γ σ H x y a b s Q R ox oy e k
 obtain⟨d,e1,e⟩:=bind_some e
 split at e
 ·rename_i t
  obtain⟨r,e2,e⟩:=bind_some e
  obtain⟨p,ob,rfl,hp,hd⟩:=zC3 R ox e1
  obtain⟨r',g,z⟩:=zIj hc hp hd oy e2
  rcases z with ⟨z,_⟩ | ⟨t2,v2,z1,z2,z3⟩
  ·subst z; cases e
  ·subst z1 z2; cases e
   exact⟨p,v2,rfl,g,k _ H R .refl z3 trivial⟩
 ·cases e
def dDGet2(cs:List (List Key))(fo fk fx:DE):DE:=fun Γ=>(fo Γ).bind fun p=>if (dictOf p.2 p.1).isSome=true then (fk p.2).bind fun q=>(fx q.2).bind fun z=>(dictOf z.2 p.1).bind fun d=>match q.1,z.1 with
 | .v t,.v u=>(getX cs d t).map fun r=>(.v (r.getD u),z.2)
 | _,_=>none
 else none
theorem zIf(hc:KC K cs){td ty tx:TE}{fo fk fx:DE}(ho:SimE K td fo)(hk:SimE K ty fk)(hx:SimE K tx fx):SimE K (tDGet2 td ty tx) (dDGet2 cs fo fk fx):=by
 intro C w Γ σ H s Γ' Q R e k
 obtain⟨⟨a,G1⟩,e1,e⟩:=bind_some e
 dsimp only at e
 split at e
 rotate_left
 ·cases e
 rename_i hs0
 obtain⟨d0,hs0⟩:=Option.isSome_iff_exists.mp hs0
 obtain⟨⟨b,G2⟩,e2,e⟩:=bind_some e
 obtain⟨⟨c,G3⟩,e5,e⟩:=bind_some e
 obtain⟨d,e3,e⟩:=bind_some e
 dsimp only at e
 split at e
 rotate_left
 ·cases e
 rename_i t u hb hu
 obtain⟨r,e4,e⟩:=map_some e
 cases e
 refine ho C w Γ σ H a G1 _ R e1 fun v H1 R1 ev1 o1 n1=>?_
 obtain⟨p,ob,rfl,hp,hd⟩:=zC3 R1 o1 hs0
 refine⟨p,rfl,hd.isD hp,?_⟩
 refine hk C w G1 σ H1 _ _ _ R1 e2 fun y H2 R2 ev2 o2 n2=>?_
 refine hx C w G2 σ H2 _ _ _ R2 e5 fun z H3 R3 ev3 o3 n3=>?_
 obtain⟨p2,ob2,ep,hp2,hd2⟩:=zC3 R3 ((o1.evo ev2 R1.lst).evo ev3 R2.lst) e3
 cases ep
 have o2':Im K H3 y t:=Im.evo ev3 R2.lst o2
 obtain⟨r',g,z⟩:=zIj hc hp2 hd2 o2' e4
 refine⟨r',g,?_⟩
 rcases z with ⟨z1,z2⟩ | ⟨t2,v2,z1,z2,z3⟩
 ·subst z1 z2
  exact k _ H3 R3 ((ev1.trans ev2).trans ev3) o3 trivial
 ·subst z1 z2
  exact k _ H3 R3 ((ev1.trans ev2).trans ev3) z3 trivial
def dDNew(b:Bool):DE:=fun Γ=>some (.d (if b then .inr [] else .inl []),Γ)
theorem zJE:SimE K tDNewT (dDNew true):=by
 intro C w Γ σ H s Γ' Q R e k
 cases e
 exact fun p hp=>k _ _ (R.new hp) (Evo.new hp) (R.newd (kvs:=.inr []) hp (show Paired _ [] [] from .nil)) ⟨p,rfl,hp⟩
def isDs(Γ:En)(i:Nat):Bool:=match Γ[i]? with
 | some (some (.d _))=>true
 | _=>false
def dDPut(cs:List (List Key))(i:Nat)(fk fv:DE):DS:=fun Γ=>(fv Γ).bind fun p=>match p.1 with
 | .v tv=>if isDs p.2 i=true then (fk p.2).bind fun q=>match q.1,q.2[i]? with
  | .v tk,some (some (.d d))=>(putX cs d tk tv).map fun d'=>.nx (q.2.set i (some (.d d')))
  | _,_=>none
  else none
 | _=>none
theorem zJl(hc:KC K cs){ip:Option Nat}{i:Nat}{ty tv:TE}{fk fv:DE}(hk:SimE K ty fk)(hv:SimE K tv fv):SimS K ip (sDPut (tVar i) ty tv) (dDPut cs i fk fv):=by
 intro C w Γ σ H D o hpin R e k
 obtain⟨⟨a,G1⟩,e1,e⟩:=bind_some e
 dsimp only at e
 cases a with
 | l _=>cases e
 | s _=>cases e
 | d _=>cases e
 | v t1 =>
  dsimp only at e
  by_cases hl:isDs G1 i=true
  ·rw[if_pos hl]at e
   obtain⟨⟨b,G2⟩,e2,e⟩:=bind_some e
   dsimp only at e
   split at e
   rotate_left
   ·cases e
   rename_i tk d hi
   obtain⟨d',e3,e⟩:=map_some e
   subst e
   refine hv C w Γ σ H _ G1 _ R e1 fun v H1 R1 ev1 o1 n1=>?_
   obtain⟨d0,hd0⟩:∃ d0,G1[i]?=some (some (.d d0)):=by
    unfold isDs at hl
    split at hl
    ·rename_i d0 h0; exact⟨d0,h0⟩
    ·cases hl
   obtain⟨v0,s1,p,ob,rfl,m0,h0,q0⟩:=R1.val i _ hd0
   refine⟨.ref p,s1,?_⟩
   refine hk C w G1 σ H1 _ G2 _ R1 e2 fun y H2 R2 ev2 o2 n2=>?_
   obtain⟨v3,s3,p3,ob3,rfl,m3,h3,q3⟩:=R2.val i _ hi
   rw[s1]at s3; cases s3
   have o1':Im K H2 v t1:=Im.evo ev2 R1.lst o1
   obtain⟨ob',g,z⟩:=zN3 hc h3 q3 o2 o1' e3
   exact⟨p,_,rfl,g,k w σ _ (R2.putD hi s1 z).1⟩
  ·rw[if_neg hl]at e; cases e
end
section
variable {ι:Type}{K:Fg}{mg:Str->Option Value}{k:Nat}{X:ι->Cx}{cs:List (List Key)}{o i e f:Expr}{fo fk fx:DE}{pos apos cpos:Pos}{ip:Option Nat}
theorem un1(M:Fm K mg k X)(j:ι):(X j).A.units+1 < cLine:=by have:=(M.room j).un; omega
theorem zGs(M:Fm K mg k X)(hc:KC K cs)(ho:EX K X o fo)(hk:EX K X i fk)(hs:NoSl i:=by intro _ _; rfl):EX K X (.Subscript o i pos) (dOp (getS cs) fo fk) :=
 let ⟨_,p,s⟩:=ho; let ⟨_,q,u⟩:=hk; ⟨_,fun j=>zMj (un1 M j) (p j) (q j) hs,zCe (zHY hc) s u⟩
theorem zKR(M:Fm K mg k X)(hc:KC K cs)(ho:EX K X o fo)(hk:EX K X e fk)(hx:EX K X f fx)(m:∀ j,M2 (X j) o "get" apos e f cpos:=by intro _; exact⟨rfl,rfl,rfl,rfl⟩):EX K X (.Call (.Attribute o "get" apos) [e,f] [] cpos) (dDGet2 cs fo fk fx) :=
 let ⟨_,p,s⟩:=ho; let ⟨_,q,u⟩:=hk; let ⟨_,r,v⟩:=hx; ⟨_,fun j=>zK5 (un1 M j) (p j) (q j) (r j) (m j),zIf hc s u v⟩
theorem zKw:EX K X (.Dict [] [] pos) (dDNew true):=⟨_,fun _=>zKp,zJE⟩
theorem zMS(n:Nat)(M:Fm K mg k X)(hc:KC K cs){y:Str}{yp p2:Pos}(ho:∀ j,PE (X j) (.Name y yp) (tVar n))(hk:EX K X i fk)(hv:EX K X e fx)(hs:∀ j,swapsWith e (some (.Subscript (.Name y yp) i p2)) pos.line (X j).env=pure false:=by intro _; rfl) :
  SX K X ip (.Assign [.Subscript (.Name y yp) i p2] e pos) (dDPut cs n fk fx) :=
 let ⟨_,q,u⟩:=hk; let ⟨_,r,v⟩:=hv; ⟨_,fun j=>zMV (un1 M j) (ho j) (q j) (r j) (hs j),zJl hc u v⟩
end
section
variable {Γ:En}{cs:List (List Key)}{fo fk fx:DE}{i:Nat}
@[simp] theorem zPi:dictOf Γ (.s i)=match Γ[i]? with
  | some (some (.d d))=>some d
  | some (some (.e d))=>some d
  | _=>none:=(rfl)
@[simp] theorem zRX{a:S}{t:T}:getS cs Γ a (.v t)=(dictOf Γ a).bind fun d=>(getX cs d t).bind fun r=>r.map .v:=(rfl)
@[simp] theorem zP0{b:Bool}:dDNew b Γ=some (.d (if b then .inr [] else .inl []),Γ):=(rfl)
@[simp] theorem zQc:isDs Γ i=match Γ[i]? with
 | some (some (.d _))=>true
 | _=>false:=(rfl)
@[simp] theorem zQC{fv:DE}:dDPut cs i fk fv Γ=(fv Γ).bind fun p=>match p.1 with
 | .v tv=>if isDs p.2 i=true then (fk p.2).bind fun q=>match q.1,q.2[i]? with
  | .v tk,some (some (.d d))=>(putX cs d tk tv).map fun d'=>.nx (q.2.set i (some (.d d')))
  | _,_=>none
  else none
 | _=>none:=(rfl)
@[simp] theorem zPO:dDGet2 cs fo fk fx Γ=(fo Γ).bind fun p=>if (dictOf p.2 p.1).isSome=true then (fk p.2).bind fun q=>(fx q.2).bind fun z=>(dictOf z.2 p.1).bind fun d=>match q.1,z.1 with
 | .v t,.v u=>(getX cs d t).map fun r=>(.v (r.getD u),z.2)
 | _,_=>none
 else none:=(rfl)
end
end D
namespace L2
open PySem PySem.Spec PyProof.Rows
abbrev IsZO(h:Heap)(z TI TO T:Addr)(f:Bool):Prop :=
 h.get? z=some { cls:=.type "zip",dict:=none,data:=.fields #[rawInt T,.bool f,.bool false,.ref TI,.ref TO],slots:=#[] }
section
variable {prog:Program}{w:World}{A:Around}{E:Value->Shared->Prop}{s:Shared}
theorem zK1{a:Addr}{o:Obj}{Q:Option Obj->Shared->Prop}(ho:s.heap.get? a=some o)(h:Q (some o) s):wpAny (model prog w) A (loadIfAlive a) Q E s:=by
 exact PySem.W.kdx_alive ho h
variable {z TI TO i1 i2 l1 l2 T:Addr}{S1 S2:Nat->Heap->Prop}{xs ys:Array Value}{k:Nat}{f:Bool}{oT:Obj}
theorem zEe{Q:Bool->Shared->Prop}(hz:IsZO s.heap z TI TO T f)(hT:s.heap.get? T=some oT)
  (h:∀ h1,IsZO h1 z TI TO T true->Heap.SameBut z s.heap h1->Q false { s with heap:=h1 }):wpAny (model prog w) A (Builtin.SmallTypes.ownedTupleIsFree (.ref z)) Q E s:=by
 unfold Builtin.SmallTypes.ownedTupleIsFree
 refine wpAny_bind (wpAny_field hz rfl (x:=rawInt T) rfl ?_)
 show wpAny _ _ (loadIfAlive (T:Int).toNat >>= _) _ _ _
 rw[Int.toNat_natCast]
 refine wpAny_bind (zK1 hT ?_)
 simp only[Option.isNone_some,Bool.false_eq_true,if_false]
 refine wpAny_bind (wpAny_field hz rfl (x:=.bool f) rfl ?_)
 cases f with
 | true=>exact wpAny_pure (h _ hz (Heap.SameBut.refl _ _))
 | false =>
  refine wpAny_bind (wpAny_setField_rec hz (by simp) fun h1 z1 b1=>?_)
  exact wpAny_pure (h h1 z1 b1)
theorem zIm{x y:Value}{Q:Value->Shared->Prop}(D:ZAp z TI TO i1 i2 l1 l2)(D1:Drawer prog w i1 l1 xs S1)(D2:Drawer prog w i2 l2 ys S2)(hz:IsZO s.heap z TI TO T f)(hT:s.heap.get? T=some oT)(hTI:IsPair s.heap TI (.ref i1) (.ref i2))(st1:S1 k s.heap)(st2:S2 k s.heap)(hx:xs[k]?=some x)(hy:ys[k]?=some y)
  (hQ:∀ h',IsZO h' z TI TO T true->S1 (k+1) h'->S2 (k+1) h'->IsPair h' s.heap.objs.size x y ->
   (∀ c o,c≠z->c≠i1->c≠i2->s.heap.get? c=some o->h'.get? c=some o)->Q (.ref s.heap.objs.size) { s with heap:=h' }) :
  wpAny (model prog w) A (Builtin.«zip.__next__» ⟨[.ref z],[]⟩) (fun fin s'=>∃ v,fin=.done (.ret v)/\Q v s') E s:=by
 obtain⟨⟨TIz,TOz,i1z,i2z,TITO,TIi1,TIi2,TOi1,TOi2,i12,l1z,l1TO,l1i1,l1i2,l2z,l2TO,l2i1,l2i2⟩,_,_⟩:=D
 show wpAny _ _ (field (.ref z) 2 >>= _) _ _ _; refine wpAny_bind (wpAny_field hz rfl (x:=.bool false) rfl ?_)
 show wpAny _ _ (field (.ref z) 3 >>= _) _ _ _; refine wpAny_bind (wpAny_field hz rfl (x:=.ref TI) rfl (wpAny_bind (wpAny_seqItems hTI rfl ?_)))
 show wpAny _ _ (Builtin.SmallTypes.ownedTupleIsFree (.ref z) >>= _) _ _ _
 refine wpAny_bind (zEe hz hT fun h1 z1 b1=>?_)
 simp only[Bool.false_eq_true,if_false]
 refine wpAny_bind ?_
 rw[← Array.forIn_toList]
 simp only[List.forIn_cons,List.forIn_nil]
 refine wpAny_bind (wpAny_bind (wpAny_holding ?_)); show wpAny _ _ (Builtin.SmallTypes.nextOf (.ref i1) >>= _) _ _ _
 refine wpAny_bind (D1.item _ k _ x _ _ (D1.keep _ _ _ st1 (fun o e=>b1.extBut _ _ i1z e) fun o e=>b1.extBut _ _ l1z e) hx fun h2 t1 b2=>wpAny_pure ?_)
 refine wpAny_pure (wpAny_bind (wpAny_bind (wpAny_holding ?_))); show wpAny _ _ (Builtin.SmallTypes.nextOf (.ref i2) >>= _) _ _ _
 have s2':S2 k h2:=D2.keep _ _ _ st2 (fun o e=>b2.extBut _ _ i12.symm (b1.extBut _ _ i2z e)) fun o e=>b2.extBut _ _ l2i1 (b1.extBut _ _ l2z e)
 refine wpAny_bind (D2.item _ k _ y _ _ s2' hy fun h4 t2 b4=>wpAny_pure ?_)
 refine wpAny_pure (wpAny_pure ?_)
 refine wpAny_bind (wpAny_newTuple ?_ (by show 2<=sizeLine; decide))
 have hsz:h4.objs.size=s.heap.objs.size:=by rw[b4.1,b2.1,b1.1]
 have z4:IsZO h4 z TI TO T true:=b4.extBut _ _ i2z.symm (b2.extBut _ _ i1z.symm z1)
 have k4:∀ c o,c≠z->c≠i1->c≠i2->s.heap.get? c=some o->h4.get? c=some o:=fun c o c1 c3 c4 e=>b4.extBut _ _ c4 (b2.extBut _ _ c3 (b1.extBut _ _ c1 e))
 have t1':S1 (k+1) h4:=D1.keep _ _ _ t1 (fun o e=>b4.extBut _ _ i12 e) fun o e=>b4.extBut _ _ l1i2 e
 refine wpAny_pure ⟨_,rfl,?_⟩
 show Q (.ref h4.objs.size) _
 rw[hsz]
 have up:∀ c o,h4.get? c=some o->(h4.push { cls:=.type "tuple",data:=.seq #[x,y] }).get? c=some o:=fun c o e=>Heap.get?_push_of_some _ e
 refine hQ _ (up _ _ z4) (D1.keep _ _ _ t1' (fun o e=>up _ o e) fun o e=>up _ o e) (D2.keep _ _ _ t2 (fun o e=>up _ o e) fun o e=>up _ o e) ?_ fun c o c1 c2 c3 e=>up _ _ (k4 c o c1 c2 c3 e)
 rw[← hsz]
 exact Heap.get?_push_size _ rfl
theorem zK0{Q:Fin->Shared->Prop}(hh:A.handled=none)(D:ZAp z TI TO i1 i2 l1 l2)(D1:Drawer prog w i1 l1 xs S1)(hz:IsZO s.heap z TI TO T f)(hT:s.heap.get? T=some oT)(hTI:IsPair s.heap TI (.ref i1) (.ref i2))(st1:S1 k s.heap)(hx:xs[k]?=none)
  (hE:∀ h' e,(∀ c o,c≠z->c≠i1->s.heap.get? c=some o->h'.get? c=some o)->(∃ o,h'.get? e=some o/\o.cls=.type "StopIteration")->E (.ref e) { s with heap:=h' }) :
  wpAny (model prog w) A (Builtin.«zip.__next__» ⟨[.ref z],[]⟩) Q E s:=by
 obtain⟨⟨TIz,TOz,i1z,i2z,TITO,TIi1,TIi2,TOi1,TOi2,i12,l1z,l1TO,l1i1,l1i2,l2z,l2TO,l2i1,l2i2⟩,_,_⟩:=D
 show wpAny _ _ (field (.ref z) 2 >>= _) _ _ _; refine wpAny_bind (wpAny_field hz rfl (x:=.bool false) rfl ?_)
 show wpAny _ _ (field (.ref z) 3 >>= _) _ _ _; refine wpAny_bind (wpAny_field hz rfl (x:=.ref TI) rfl (wpAny_bind (wpAny_seqItems hTI rfl ?_)))
 show wpAny _ _ (Builtin.SmallTypes.ownedTupleIsFree (.ref z) >>= _) _ _ _
 refine wpAny_bind (zEe hz hT fun h1 z1 b1=>?_)
 simp only[Bool.false_eq_true,if_false]
 refine wpAny_bind ?_
 rw[← Array.forIn_toList]
 simp only[List.forIn_cons,List.forIn_nil]
 refine wpAny_bind (wpAny_bind (wpAny_holding ?_)); show wpAny _ _ (Builtin.SmallTypes.nextOf (.ref i1) >>= _) _ _ _
 refine wpAny_bind (D1.fini _ k _ _ _ hh (D1.keep _ _ _ st1 (fun o e=>b1.extBut _ _ i1z e) fun o e=>b1.extBut _ _ l1z e) hx fun h2 e b2 he=>?_)
 exact hE h2 e (fun c o c1 c2 q=>b2 _ _ c2 (b1.extBut _ _ c1 q)) he
end
end L2
namespace D
open PySem L2
end D
namespace L2
open PySem PySem.W PyProof.Rows
def runT{α:Type}(lt:Nat->Nat->Bool):KasT α->α
 | .ret a=>a
 | .ask i j k=>runT lt (k (lt i j))
def OkT{α:Type}(P:Nat->Prop)(R:α->Prop):KasT α->Prop
 | .ret a=>R a
 | .ask i j k=>P i/\P j/\∀ b,OkT P R (k b)
theorem OkT.bind{α β:Type}{P:Nat->Prop}{R:α->Prop}{R':β->Prop}{f:α->KasT β}:∀ {t:KasT α},OkT P R t->(∀ a,R a->OkT P R' (f a))->OkT P R' (t.bind f)
 | .ret a,h,hf=>hf a h
 | .ask i j k,h,hf=>⟨h.1,h.2.1,fun b=>(h.2.2 b).bind hf⟩
theorem OkT.run{α:Type}{P:Nat->Prop}{R:α->Prop}(lt:Nat->Nat->Bool):∀ {t:KasT α},OkT P R t->R (runT lt t)
 | .ret a,h=>h
 | .ask i j k,h=>(h.2.2 (lt i j)).run lt
theorem OkT.wp{α:Type}{P:Nat->Prop}{R:α->Prop}{cmp:Nat->Nat->(Bool->Shared->Prop)->Shared->Prop}{Q:α->Shared->Prop}{lt:Nat->Nat->Bool}{I:Shared->Prop}
  (hc:∀ i j (C:Bool->Shared->Prop) s,P i->P j->I s->(∀ s',I s'->C (lt i j) s')->cmp i j C s):∀ {t:KasT α},OkT P R t->∀ s,I s->(∀ s',I s'->Q (runT lt t) s')->t.kasWp cmp Q s
 | .ret a,_,s,hi,hq=>hq s hi
 | .ask i j k,h,s,hi,hq=>hc i j _ s h.1 h.2.1 hi fun s' hi'=>(h.2.2 (lt i j)).wp hc s' hi' hq
def Arr(n:Nat)(p:Array Nat):Prop:=p.toList.Perm (List.range n)
theorem Arr.lt{n:Nat}{p:Array Nat}(h:Arr n p)(h0:0 < n)(i:Nat):p.getD i 0 < n:=by
 by_cases hi:i < p.size
 ·have e:p.getD i 0=p[i]:=by simp[Array.getD,hi]
  rw[e]
  exact List.mem_range.mp (h.subset (by simp))
 ·have e:p.getD i 0=0:=by simp[Array.getD,hi]
  rw[e]; exact h0
theorem Arr.rev{n:Nat}{p:Array Nat}(h:Arr n p)(i j:Nat):Arr n (kas_rev p i j):=((mirror_perm p i j _).toList).trans h
theorem Arr.bub{n:Nat}{p:Array Nat}(h:Arr n p)(i j:Nat):Arr n (bubble p i j):=((bubble_perm p i j).toList).trans h
section
variable {n:Nat}(h0:0 < n)
include h0
theorem zFV{p:Array Nat}(h:Arr n p):∀ (f m:Nat),OkT (· < n) (fun _=>True) (kas_asc p f m)
 | 0,m=>trivial
 | f+1,m=>⟨h.lt h0 _,h.lt h0 _,fun b=>by
   cases b with
   | true=>exact trivial
   | false=>exact zFV h f (m+1)⟩
theorem zCw:∀ (f:Nat) {p:Array Nat},Arr n p->∀ (m q:Nat),OkT (· < n) (fun r:Array Nat×Nat×Nat=>Arr n r.1) (kas_desc f p m q)
 | 0,p,h,m,q=>h
 | f+1,p,h,m,q=>⟨h.lt h0 _,h.lt h0 _,fun b=>by
   cases b with
   | true =>
    show OkT _ _ (if q > 0 then _ else _)
    split
    ·exact zCw f (h.rev _ _) _ _
    ·exact zCw f h _ _
   | false =>
    exact⟨h.lt h0 _,h.lt h0 _,fun d=>by
     cases d with
     | true=>exact h
     | false=>exact zCw f h _ _⟩⟩
theorem zGE(m r:Nat){p:Array Nat}(h:Arr n p):OkT (· < n) (fun r:Nat×Array Nat=>Arr n r.2) (kas_tail3 m r p) :=
 (zFV h0 (h.rev 0 m) _ _).bind fun _ _=>h.rev 0 m
theorem zDF(m r:Nat){p:Array Nat}(h:Arr n p):OkT (· < n) (fun r:Nat×Array Nat=>Arr n r.2) (kas_descPart m r p) :=
 (zCw h0 _ h _ _).bind fun a ha=>by
  split
  ·exact zGE h0 _ _ (ha.rev _ _)
  ·exact zGE h0 _ _ ha
theorem zKn(r:Nat){p:Array Nat}(h:Arr n p):OkT (· < n) (fun r:Nat×Array Nat=>Arr n r.2) (kas_count r p) :=
 (zFV h0 h _ _).bind fun m _=>by
  split
  ·exact h
  ·split
   ·exact⟨h.lt h0 _,h.lt h0 _,fun b=>by
     cases b with
     | true=>exact h
     | false=>exact zDF h0 _ _ (h.rev _ _)⟩
   ·exact zDF h0 _ _ h
theorem zDS{p:Array Nat}(h:Arr n p)(k:Nat):∀ (f l r:Nat),OkT (· < n) (fun _=>True) (kas_place p k f l r)
 | 0,l,r=>trivial
 | f+1,l,r=>by
  unfold kas_place
  split
  ·exact trivial
  ·exact⟨h.lt h0 _,h.lt h0 _,fun b=>by
    cases b with
    | true=>exact zDS h k f _ _
    | false=>exact zDS h k f _ _⟩
theorem zJo:∀ (f:Nat) {p:Array Nat},Arr n p->∀ (k:Nat),OkT (· < n) (Arr n) (kas_bin f p k)
 | 0,p,h,k=>h
 | f+1,p,h,k=>(zDS h0 h k _ _ _).bind fun l _=>zJo f (h.bub _ _) _
theorem zBL:OkT (· < n) (Arr n) (kas_sort n) :=
 (zKn h0 n (p:=List.toArray (List.range n)) (by show (List.toArray (List.range n)).toList.Perm _; simp)).bind fun r hr=>by
  split
  ·exact zJo h0 _ hr _
  ·exact hr
end
open PySem PySem.W PyProof.Rows PySem.Calls
def outL(lt:Nat->Nat->Bool)(vs:List Value):List Value:=(runT lt (kas_sort vs.length)).toList.map fun i=>vs.getD i Value.none
def Cn(n:Nat)(lt:Nat->Nat->Bool):Prop:=n < 128/\(2<=n->∀ (prog:Program) (w:World) (A:Around) (E:Value->Shared->Prop) (s:Shared) (κ:SortKind) (vs:List Value),vs.length=n ->
 (∀ i j,i < n->j < n->∀ (C:Bool->Shared->Prop) tk,(∀ tk',C (lt i j) { s with toks:=tk' })->kas_ask prog w A κ vs i j C { s with toks:=tk }) ->
 wpAny (model prog w) A ((sortRuns').run (SortSt.mk' κ (vs.toArray.zip vs.toArray) #[] 7 none)) (fun r s'=>∃ p:Array Nat,p.size=n/\arrOf r.2=p.map (kas_item (vs.toArray.zip vs.toArray))/\failedOf r.2=none/\p=runT lt (kas_sort n)/\∃ tk,s'={ s with toks:=tk }) E s)
theorem zJ0{n:Nat}{lt:Nat->Nat->Bool}(h:n < 64):Cn n lt:=⟨by omega,fun h2 prog w A E s κ vs hl hlt=>by
 subst hl
 exact kat_run (Q:=fun st' s'=>∃ p:Array Nat,p.size=vs.length/\arrOf st'=p.map (kas_item (vs.toArray.zip vs.toArray))/\failedOf st'=none/\p=runT lt (kas_sort vs.length)/\∃ tk,s'={ s with toks:=tk })
  rfl h2 h (fun p' st' s' a1 a2 a3 a4=>⟨p',a1,a2,a3,a4⟩) ((zBL (n:=vs.length) (by omega)).wp (lt:=lt) (I:=fun s'=>∃ tk,s'={ s with toks:=tk }) (fun i j C s' hi hj hI hC=>by
   obtain⟨tk,rfl⟩:=hI
   exact hlt i j hi hj C tk fun tk'=>hC _ ⟨tk',rfl⟩) _ ⟨s.toks,rfl⟩ fun s' hI=>⟨rfl,hI⟩)⟩
section
variable {prog:Program}{w:World}{A:Around}{E:Value->Shared->Prop}{s:Shared}{a:Addr}{vs:List Value}{κ:SortKind}{lt:Nat->Nat->Bool}
theorem zFC{n:Nat}{P:PySem.Fin->Shared->Prop}(ho:s.heap.get? a=some (seqObj "list" vs.toArray n))(h2:2<=vs.length)(hcn:Cn vs.length lt)
  (hk:∀ h',(∀ b o,b≠a->s.heap.get? b=some o->h'.get? b=some o)->∀ C:SortKind->Shared->Prop,C κ { s with heap:=h' }->wpAny (model prog w) A (keyKind' vs.toArray) C (fun _ _=>False) { s with heap:=h' })
  (hlt:∀ h',(∀ b o,b≠a->s.heap.get? b=some o->h'.get? b=some o)->∀ i j,i < vs.length->j < vs.length->∀ (C:Bool->Shared->Prop) tk,(∀ tk',C (lt i j) { s with heap:=h',toks:=tk' })->kas_ask prog w A κ vs i j C { s with heap:=h',toks:=tk })
  (hP:∀ h'' tk c2,(∀ b o,b≠a->s.heap.get? b=some o->h''.get? b=some o)->h''.get? a=some (seqObj "list" (outL lt vs).toArray c2)->P (.done (.ret .none)) { s with heap:=h'',toks:=tk }) :
  wpAny (model prog w) A (Builtin.«list.sort» ⟨[.ref a],[]⟩) P E s:=by
 have ha:a < s.heap.objs.size:=Heap.lt_size ho
 have h64:vs.length < 128:=hcn.1
 have s1:=Heap.SameBut.update s.heap a (Obj.mapSeq fun _=>(#[]:Array Value))
 obtain⟨e1,ho1⟩:∃ e1,(s.heap.update a (Obj.mapSeq fun _=>(#[]:Array Value))).get? a=some (seqObj "list" #[] e1):=⟨_,get?_update_seq ho fun _=>#[]⟩
 have keep:∀ b o,b≠a->s.heap.get? b=some o->(((s.heap.update a (Obj.mapSeq fun _=>(#[]:Array Value))).push (seqObj "tuple" vs.toArray 0)).push (seqObj "list" #[] 0)).get? b=some o:=fun b o hb e =>
  Heap.get?_push_of_some _ (Heap.get?_push_of_some _ ((s1.2 b hb).trans e))
 rw[list_sort_plain]
 refine wpAny_bind (listItems_at ho rfl ?_)
 refine wpAny_bind (listUpdate_at ho rfl ?_ (by rw[List.size_toArray,sizeLine_eq]; omega) (Nat.zero_le _))
 refine wpAny_bind (seqEpoch_at ho1 rfl ?_)
 refine wpAny_bind (wpAny_newTuple ?_ (by show vs.length<=_; rw[sizeLine_eq]; omega))
 refine wpAny_bind (wpAny_newList ?_ (Nat.zero_le _))
 refine wpAny_holding ?_
 show wpAny (model prog w) A _ P E { s with heap:=((s.heap.update a (Obj.mapSeq fun _=>(#[]:Array Value))).push (seqObj "tuple" vs.toArray 0)).push (seqObj "list" #[] 0) }
 dsimp only
 have hn2:¬ vs.toArray.size < 2:=by rw[List.size_toArray]; omega
 rw[if_neg hn2,if_neg hn2]
 have ho3:=Heap.get?_push_of_some (o:=seqObj "list" #[] 0) (Heap.get?_push_of_some (o:=seqObj "tuple" vs.toArray 0) ho1)
 generalize hh3:((s.heap.update a (Obj.mapSeq fun _=>(#[]:Array Value))).push (seqObj "tuple" vs.toArray 0)).push (seqObj "list" #[] 0)=h3 at keep ho3 ⊢
 refine wpAny_bind (wpAny_mono (hk h3 keep (fun κ' s'=>κ'=κ/\s'={ s with heap:=h3 }) ⟨rfl,rfl⟩) (fun κ' s0 hq=>?_) fun _ _ x=>x.elim)
 obtain⟨rfl,rfl⟩:=hq
 refine wpAny_bind (wpAny_mono (hcn.2 h2 prog w A _ { s with heap:=h3 } κ' vs rfl fun i j hi hj C tk hC=>hlt h3 keep i j hi hj C tk hC) ?_ fun _ _ e=>e)
 rintro ⟨⟨⟩,st'⟩ s' ⟨p,hp,har,hf,rfl,tk,rfl⟩
 dsimp only
 have hout:=kat_snds rfl har
 have hsz:(outL lt vs).toArray.size=vs.length:=by rw[List.size_toArray]; unfold outL; rw[List.length_map,Array.length_toList,hp]
 have hout':(arrOf st').map (·.2)=(outL lt vs).toArray:=hout
 rw[hout']
 have s2:=Heap.SameBut.update h3 a (Obj.mapSeq fun _=>(outL lt vs).toArray)
 obtain⟨c2,hc2⟩:∃ c2,(h3.update a (Obj.mapSeq fun _=>(outL lt vs).toArray)).get? a=some (seqObj "list" (outL lt vs).toArray c2):=⟨_,get?_update_seq ho3 fun _=>(outL lt vs).toArray⟩
 refine wpAny_bind (seqEpoch_at ho3 rfl ?_)
 refine wpAny_bind (listUpdate_at ho3 rfl ?_ (Nat.zero_le _) (Nat.le_trans (Nat.le_of_eq hsz) (by rw[sizeLine_eq]; omega)))
 rw[hf]
 simp only[bne_self_eq_false,Bool.false_eq_true,if_false]
 exact wpAny_pure (hP _ tk c2 (fun b o hb e=>(s2.2 b hb).trans (keep b o hb e)) hc2)
end
section
variable {prog:Program}{w:World}{A:Around}{E:Value->Shared->Prop}{s:Shared}
theorem zEx{a b:Addr}{xs ys:Array Value}{ns ms:List Int}{Q:Bool->Shared->Prop}(p1:s.heap.IsTuple a xs)(p2:s.heap.IsTuple b ys)(i1:IntsAre xs.toList ns)(i2:IntsAre ys.toList ms)(hu:A.units < cLine)(h:Q (HT.lexLt ns ms) s) :
  wpAny (model prog w) A (oneLt' false (.ref a) (.ref b)) Q E s:=by
 rw[oneLt'_eq]
 simp only[Bool.false_eq_true,if_false]
 refine wpAny_bind ?_
 show wpAny _ _ (compareOp .Lt (.ref a) (.ref b)) _ _ _
 exact HT.lt_tupInts p1 p2 i1 i2 hu (wpAny_truthy_bool h)
end
open PySem PySem.W PyProof.Rows PySem.Calls PySem.SeqAt
def ltP(a b:List Int×Int):Bool:=if a.1=b.1 then decide (a.2 < b.2) else HT.lexLt a.1 b.1
section
variable {prog:Program}{w:World}{A:Around}{E:Value->Shared->Prop}{s:Shared}
theorem zKP{x y p q:Addr}{ox oy:Obj}{nx ny:Nat}{m m':Int}{t t':Tok}{xs ys:Array Value}{ns ms:List Int}{Q:Bool->Shared->Prop}(hx:s.heap.get? x=some ox)(dx:ox.data=.seq #[.ref p,.int m t] nx)(hy:s.heap.get? y=some oy)(dy:oy.data=.seq #[.ref q,.int m' t'] ny)
  (p1:s.heap.IsTuple p xs) (p2:s.heap.IsTuple q ys) (i1:IntsAre xs.toList ns) (i2:IntsAre ys.toList ms) (he:EqAt A s (.ref p) (.ref q) (decide (ns=ms))) (hu:A.units < cLine) (h:Q (ltP (ns,m) (ms,m')) s) :
  wpAny (model prog w) A (keyLt' (tuples' false) (.ref x) (.ref y)) Q E s:=by
 refine kat_lt hx dx hy dy ?_
 show KatLex _ _ _ _ _ _ [(Value.ref p,Value.ref q),(Value.int m t,Value.int m' t')] 0 s
 refine kat_cons (he _ _ _ _ ?_)
 unfold ltP at h
 by_cases hn:ns=ms
 ·rw[decide_eq_true hn]
  rw[if_pos hn]at h
  refine kat_yes (kat_cons ?_)
  refine wpAny_eqBool_int ?_
  by_cases hm:m=m'
  ·subst hm
   have e:(m == m)=true:=by simp
   rw[e]
   refine kat_yes (kat_nil ?_)
   have e2:decide (m < m)=false:=decide_eq_false (by omega)
   rw[e2]at h
   exact h
  ·have e:(m == m')=false:=by simpa using hm
   rw[e]
   refine kat_no ?_
   rw[Bool.false_and]
   exact kat_one _ _ (lt_int h)
 ·rw[decide_eq_false hn]
  rw[if_neg hn]at h
  exact kat_no (zEx p1 p2 i1 i2 hu h)
end
section
variable {prog:Program}{w:World}{A:Around}{E:Value->Shared->Prop}{s:Shared}{vs:List Value}{κ:SortKind}{lt:Nat->Nat->Bool}
theorem zDW{a:Addr}{n:Nat}{P:PySem.Fin->Shared->Prop}(ho:s.heap.get? a=some (seqObj "list" vs.toArray n))(h2:vs.length < 2)
  (hP:∀ h'' tk c2,(∀ b o,b≠a->s.heap.get? b=some o->h''.get? b=some o)->h''.get? a=some (seqObj "list" vs.toArray c2)->P (.done (.ret .none)) { s with heap:=h'',toks:=tk }) :
  wpAny (model prog w) A (Builtin.«list.sort» ⟨[.ref a],[]⟩) P E s:=by
 have s1:=Heap.SameBut.update s.heap a (Obj.mapSeq fun _=>(#[]:Array Value))
 obtain⟨e1,ho1⟩:∃ e1,(s.heap.update a (Obj.mapSeq fun _=>(#[]:Array Value))).get? a=some (seqObj "list" #[] e1):=⟨_,get?_update_seq ho fun _=>#[]⟩
 have keep:∀ b o,b≠a->s.heap.get? b=some o->(((s.heap.update a (Obj.mapSeq fun _=>(#[]:Array Value))).push (seqObj "tuple" vs.toArray 0)).push (seqObj "list" #[] 0)).get? b=some o:=fun b o hb e =>
  Heap.get?_push_of_some _ (Heap.get?_push_of_some _ ((s1.2 b hb).trans e))
 rw[list_sort_plain]
 refine wpAny_bind (listItems_at ho rfl ?_)
 refine wpAny_bind (listUpdate_at ho rfl ?_ (by rw[List.size_toArray,sizeLine_eq]; omega) (Nat.zero_le _))
 refine wpAny_bind (seqEpoch_at ho1 rfl ?_)
 refine wpAny_bind (wpAny_newTuple ?_ (by show vs.length<=_; rw[sizeLine_eq]; omega))
 refine wpAny_bind (wpAny_newList ?_ (Nat.zero_le _))
 refine wpAny_holding ?_
 show wpAny (model prog w) A _ P E { s with heap:=((s.heap.update a (Obj.mapSeq fun _=>(#[]:Array Value))).push (seqObj "tuple" vs.toArray 0)).push (seqObj "list" #[] 0) }
 dsimp only
 have hn2:vs.toArray.size < 2:=by rw[List.size_toArray]; omega
 rw[if_pos hn2,if_pos hn2]
 have ho3:=Heap.get?_push_of_some (o:=seqObj "list" #[] 0) (Heap.get?_push_of_some (o:=seqObj "tuple" vs.toArray 0) ho1)
 generalize hh3:((s.heap.update a (Obj.mapSeq fun _=>(#[]:Array Value))).push (seqObj "tuple" vs.toArray 0)).push (seqObj "list" #[] 0)=h3 at keep ho3 ⊢
 refine wpAny_bind (wpAny_pure ?_)
 refine wpAny_bind (wpAny_pure ?_)
 dsimp only
 have hout':(arrOf (SortSt.mk' general' (vs.toArray.zip vs.toArray) #[] 7 none)).map (·.2)=vs.toArray:=by
  show (vs.toArray.zip vs.toArray).map (·.2)=_
  apply Array.toList_inj.mp
  rw[Array.toList_map,Array.toList_zip]
  exact List.map_snd_zip (Nat.le_refl _)
 rw[hout']
 have s2:=Heap.SameBut.update h3 a (Obj.mapSeq fun _=>vs.toArray)
 obtain⟨c2,hc2⟩:∃ c2,(h3.update a (Obj.mapSeq fun _=>vs.toArray)).get? a=some (seqObj "list" vs.toArray c2):=⟨_,get?_update_seq ho3 fun _=>vs.toArray⟩
 refine wpAny_bind (seqEpoch_at ho3 rfl ?_)
 refine wpAny_bind (listUpdate_at ho3 rfl ?_ (Nat.zero_le _) (by rw[List.size_toArray,sizeLine_eq]; omega))
 simp only[bne_self_eq_false,Bool.false_eq_true,if_false]
 exact wpAny_pure (hP _ _ c2 (fun b o hb e=>(s2.2 b hb).trans (keep b o hb e)) hc2)
def outS(lt:Nat->Nat->Bool)(vs:List Value):List Value:=if vs.length < 2 then vs else outL lt vs
theorem zDs{it:Value}{Q:Value->Shared->Prop}(h64:Cn vs.length lt)
  (hcol:∀ (C:List Value->Shared->Prop) (F:Value->Shared->Prop),(∀ h1 tk,(∀ b o,s.heap.get? b=some o->h1.get? b=some o)->C vs { s with heap:=h1,toks:=tk })->wpAny (model prog w) A.in1 (collect it) C F s)
  (hk:2<=vs.length->∀ h' tk,(∀ b o,s.heap.get? b=some o->h'.get? b=some o)->∀ C:SortKind->Shared->Prop,C κ { s with heap:=h',toks:=tk }->wpAny (model prog w) A.in1.in1 (keyKind' vs.toArray) C (fun _ _=>False) { s with heap:=h',toks:=tk })
  (hlt:∀ h',(∀ b o,s.heap.get? b=some o->h'.get? b=some o)->∀ i j,i < vs.length->j < vs.length->∀ (C:Bool->Shared->Prop) tk,(∀ tk',C (lt i j) { s with heap:=h',toks:=tk' })->kas_ask prog w A.in1.in1 κ vs i j C { s with heap:=h',toks:=tk })
  (hQ:∀ (h1 h'':Heap) (tk c2:Nat),(∀ b o,s.heap.get? b=some o->h1.get? b=some o)->(∀ b o,h1.get? b=some o->h''.get? b=some o)->h''.get? h1.objs.size=some (seqObj "list" (outS lt vs).toArray c2)->Q (.ref h1.objs.size) { s with heap:=h'',toks:=tk }) :
  wpAny (model prog w) A (call (.builtin "sorted") [it]) Q E s:=by
 have h128:=h64.1
 refine Calls.call_function_entry kind_sorted plain_sorted entry_sorted (args_sorted1 _) ?_; unfold Builtin.«sorted»; refine wpAny_bind (m:=checkCount "sorted" 1 1 _) (wpAny_pure ?_)
 refine wpAny_bind (hcol _ _ fun h1 tk k1=>?_)
 refine wpAny_bind (wpAny_newList ?_ (by rw[sizeLine_eq]; omega))
 have hoL:(h1.push (seqObj "list" vs.toArray 0)).get? h1.objs.size=some (seqObj "list" vs.toArray 0):=Heap.get?_push_size _ rfl
 have k2:∀ b o,h1.get? b=some o->(h1.push (seqObj "list" vs.toArray 0)).get? b=some o:=fun b o q=>Heap.get?_push_of_some _ q
 have nb:∀ b o,h1.get? b=some o->b≠h1.objs.size:=fun b o q=>Nat.ne_of_lt (Heap.lt_size q)
 show wpAny _ _ _ _ _ { s with heap:=h1.push (seqObj "list" vs.toArray 0),toks:=tk }
 generalize hh2:h1.push (seqObj "list" vs.toArray 0)=h2 at hoL k2
 refine wpAny_bind (wpAny_holding (wpAny_call_entry slot_list_sort ⟨_,hoL,rfl⟩ entry_list_sort ?body (args_list_sort _)))
 case body =>
  by_cases hn:vs.length < 2
  ·refine zDW (s:={ s with heap:=h2,toks:=tk }) hoL hn fun h'' tk' c2 hkp hc=>?_
   refine⟨_,rfl,wpAny_pure ⟨_,rfl,hQ h1 h'' tk' c2 k1 (fun b o q=>hkp b o (nb b o q) (k2 b o q)) ?_⟩⟩
   unfold outS; rw[if_pos hn]; exact hc
  ·refine zFC (s:={ s with heap:=h2,toks:=tk }) (κ:=κ) (lt:=lt) hoL (by omega) h64 (fun h' hkp=>hk (by omega) h' tk fun b o q=>hkp b o (nb _ _ (k1 b o q)) (k2 _ _ (k1 b o q))) (fun h' hkp=>hlt h' fun b o q=>hkp b o (nb _ _ (k1 b o q)) (k2 _ _ (k1 b o q))) fun h'' tk' c2 hkp hc=>?_
   refine⟨_,rfl,wpAny_pure ⟨_,rfl,hQ h1 h'' tk' c2 k1 (fun b o q=>hkp b o (nb b o q) (k2 b o q)) ?_⟩⟩
   unfold outS; rw[if_neg hn]; exact hc
end
def TuI(h:Heap)(u:Value)(ns:List Int):Prop:=∃ a xs,u=.ref a/\IsTup h a xs/\IntsAre xs.toList ns
def TuQ(h:Heap)(u:Value)(p:List Int×Int):Prop:=∃ a q t,u=.ref a/\IsTup h a #[q,.int p.2 t]/\TuI h q p.1
theorem zDA{h h':Heap}(k:∀ b o,h.get? b=some o->h'.get? b=some o){a:Addr}{xs:Array Value}(x:IsTup h a xs):IsTup h' a xs:=by
 obtain⟨o,e,c,d⟩:=x; exact⟨o,k _ _ e,c,d⟩
theorem TuI.keeps{h h':Heap}(k:∀ b o,h.get? b=some o->h'.get? b=some o){u:Value}{ns:List Int}(x:TuI h u ns):TuI h' u ns:=by
 obtain⟨a,xs,e,i,j⟩:=x; exact⟨a,xs,e,zDA k i,j⟩
theorem TuQ.keeps{h h':Heap}(k:∀ b o,h.get? b=some o->h'.get? b=some o){u:Value}{p:List Int×Int}(x:TuQ h u p):TuQ h' u p:=by
 obtain⟨a,q,t,e,i,j⟩:=x; exact⟨a,q,t,e,zDA k i,j.keeps k⟩
theorem zCc{h:Heap}:∀ {vs:List Value} {ns:List Int},IntsAre vs ns->ReadsAll h vs (ns.map PyData.int) []
 | _,_,.nil=>.nil
 | _,_,.cons n t r=>ReadsAll.cons (as:=[]) (bs:=[]) (.int n t) (zCc r)
theorem TuI.reads{h:Heap}{u:Value}{ns:List Int}(x:TuI h u ns):Reads h u (.tuple (ns.map PyData.int)) []:=by
 obtain⟨a,xs,rfl,⟨o,e,c,n,d⟩,j⟩:=x
 exact .tuple e c d (zCc j)
theorem zBZ:∀ ns:List Int,PyData.canLayAll0 (ns.map PyData.int)=true
 | []=>by simp[PyData.canLayAll0]
 | n::r=>by have:=zBZ r; simp[PyData.canLayAll0,PyData.canLay0,this]
theorem zEb:∀ ns:List Int,PyData.depthAll (ns.map PyData.int)=0
 | []=>by simp[PyData.depthAll]
 | n::r=>by have:=zEb r; simp[PyData.depthAll,PyData.depth,this]
theorem zDq:∀ ns ms:List Int,PyData.eqvAll (ns.map PyData.int) (ms.map PyData.int)=decide (ns=ms)
 | [],[]=>by simp[PyData.eqvAll]
 | [],_::_=>by simp[PyData.eqvAll]
 | _::_,[]=>by simp[PyData.eqvAll]
 | n::r,m::s=>by
  have:=zDq r s
  simp only[List.map_cons,PyData.eqvAll,PyData.eqv,this]
  by_cases h:n=m
  ·subst h; simp
  ·simp[h]
theorem eqv_tup(ns ms:List Int):PyData.eqv (.tuple (ns.map PyData.int)) (.tuple (ms.map PyData.int))=decide (ns=ms):=by
 simp only[PyData.eqv,zDq]
theorem TuI.eqAt{A:Around}{s:Shared}{u v:Value}{ns ms:List Int}(x:TuI s.heap u ns)(y:TuI s.heap v ms)(hu:A.units+1 < cLine):EqAt A s u v (decide (ns=ms)):=by
 have:=eqAt_reads _ _ A s u v [] [] x.reads y.reads (by simp only[PyData.canLay0,zBZ]) (by simp only[PyData.canLay0,zBZ]) (by simp only[PyData.depth,zEb]; omega)
 rw[eqv_tup]at this
 exact this
section
variable {prog:Program}{w:World}{A:Around}{E:Value->Shared->Prop}{s:Shared}
theorem zH3{a b:Addr}{xs ys:Array Value}{ns ms:List Int}{Q:Bool->Shared->Prop}(p1:IsTup s.heap a xs)(p2:IsTup s.heap b ys)(i1:IntsAre xs.toList ns)(i2:IntsAre ys.toList ms)(hu:A.units < cLine)(h:Q (HT.lexLt ns ms) s) :
  wpAny (model prog w) A (oneLt' true (.ref a) (.ref b)) Q E s:=by
 rw[oneLt'_eq]
 simp only[if_true]
 refine wpAny_bind (wpAny_cRoomFor hu ?_)
 obtain⟨⟨cls,dd,data,sl⟩,ho,hc,n,hd⟩:=id p1
 obtain⟨⟨cls2,dd2,data2,sl2⟩,ho2,hc2,n2,hd2⟩:=id p2
 simp only at hc hd hc2 hd2
 subst hc hd hc2 hd2
 refine wpAny_bind (wpAny_callSpecialIfBound?_slot (T:="tuple") ⟨_,ho,rfl⟩ PySem.F.slot_tuple_lt (call_meets PySem.F.slot_tuple_lt ⟨_,ho,rfl⟩ PySem.F.entry_tuple_lt (PySem.F.args_tuple_lt_2 _ _) (HT.tuple_lt_ints a b xs ys n n2 dd dd2 sl sl2 ns ms i1 i2) ⟨ho,ho2,?_⟩))
 exact wpAny_truthy_bool h
theorem zIG{x y:Value}{ns ms:List Int}{Q:Bool->Shared->Prop}(p1:TuI s.heap x ns)(p2:TuI s.heap y ms)(hu:A.units < cLine)(h:Q (HT.lexLt ns ms) s):wpAny (model prog w) A (keyLt' general' x y) Q E s:=by
 obtain⟨a,xs,rfl,q1,i1⟩:=p1
 obtain⟨b,ys,rfl,q2,i2⟩:=p2
 show wpAny (model prog w) A (oneLt' false (.ref a) (.ref b)) Q E s
 exact zEx q1 q2 i1 i2 hu h
theorem zNs{x y:Value}{ns ms:List Int}{Q:Bool->Shared->Prop}(p1:TuI s.heap x ns)(p2:TuI s.heap y ms)(hu:A.units < cLine)(h:Q (HT.lexLt ns ms) s):wpAny (model prog w) A (keyLt' oneType' x y) Q E s:=by
 obtain⟨a,xs,rfl,q1,i1⟩:=p1
 obtain⟨b,ys,rfl,q2,i2⟩:=p2
 rw[keyLt'_oneType]
 exact zH3 q1 q2 i1 i2 hu h
theorem zFr{Q:Bool->Shared->Prop}{fin:Bool}:∀ {vs ws:List Value} {ns ms:List Int} (i:Nat),IntsAre vs ns->IntsAre ws ms->(∀ ns' ms':List Int,(ns'=[]\/ms'=[])->ns'.length+ms.length=ms'.length+ns.length->HT.lexLt ns' ms'=fin)->Q (HT.lexLt ns ms) s->KatLex prog w A true fin Q (vs.zip ws) i s
 | _,_,[],ms,i,.nil,iw,hf,h=>by
  rw[List.zip_nil_left]
  refine kat_nil ?_
  rw[← hf [] ms (.inl rfl) (by simp)]; exact h
 | _,_,ns,[],i,iv,.nil,hf,h=>by
  rw[List.zip_nil_right]
  refine kat_nil ?_
  rw[← hf ns [] (.inr rfl) (by simp)]; exact h
 | _,_,n::ns,m::ms,i,.cons _ t iv,.cons _ t' iw,hf,h=>by
  rw[List.zip_cons_cons]
  refine kat_cons (wpAny_eqBool_int ?_)
  rw[HT.lexLt_cons]at h
  by_cases e:n=m
  ·subst e
   rw[if_pos rfl]at h
   rw[show (n == n)=true from by simp]
   exact kat_yes (zFr (i+1) iv iw (fun ns' ms' c l=>hf ns' ms' c (by simp only[List.length_cons]; omega)) h)
  ·rw[if_neg e]at h
   rw[show (n == m)=false from by simpa using e]
   refine kat_no ?_
   by_cases hi:i=0
   ·subst hi
    exact oneLt_int h
   ·rw[show (true && i == 0)=false from by simpa using hi]
    exact kat_one _ _ (lt_int h)
theorem zJw{x y:Value}{ns ms:List Int}{Q:Bool->Shared->Prop}(p1:TuI s.heap x ns)(p2:TuI s.heap y ms)(h:Q (HT.lexLt ns ms) s):wpAny (model prog w) A (keyLt' (tuples' true) x y) Q E s:=by
 obtain⟨a,xs,rfl,⟨o,e,c,n,d⟩,i1⟩:=p1
 obtain⟨b,ys,rfl,⟨o2,e2,c2,n2,d2⟩,i2⟩:=p2
 refine kat_lt e d e2 d2 (zFr 0 i1 i2 (fun ns' ms' c l=>?_) h)
 have z1:xs.size=ns.length:=by rw[← i1.length]; simp
 have z2:ys.size=ms.length:=by rw[← i2.length]; simp
 rcases c with rfl | rfl
 ·cases ms' with
  | nil=>rw[HT.lexLt_nil_nil]; exact (decide_eq_false (by simp at l; omega)).symm
  | cons y r=>rw[HT.lexLt_nil_cons]; exact (decide_eq_true (by simp at l; omega)).symm
 ·cases ns' with
  | nil=>rw[HT.lexLt_nil_nil]; exact (decide_eq_false (by simp at l; omega)).symm
  | cons y r=>rw[HT.lexLt_cons_nil]; exact (decide_eq_false (by simp at l; omega)).symm
theorem zKs{x y:Value}{p q:List Int×Int}{Q:Bool->Shared->Prop}(p1:TuQ s.heap x p)(p2:TuQ s.heap y q)(hu:A.units+1 < cLine)(h:Q (ltP p q) s):wpAny (model prog w) A (keyLt' (tuples' false) x y) Q E s:=by
 obtain⟨a,u,t,rfl,⟨o,e,c,n,d⟩,i1⟩:=p1
 obtain⟨b,v,t',rfl,⟨o2,e2,c2,n2,d2⟩,i2⟩:=p2
 have he:=i1.eqAt i2 hu
 obtain⟨a',xs,rfl,q1,j1⟩:=i1
 obtain⟨b',ys,rfl,q2,j2⟩:=i2
 exact zKP e d e2 d2 q1 q2 j1 j2 he (by omega) h
end
inductive TuIs (h:Heap):List Value->List (List Int)->Prop
 | nil:TuIs h [] []
 | cons {v:Value} {ns:List Int} {vs:List Value} {nss:List (List Int)}:TuI h v ns->TuIs h vs nss->TuIs h (v::vs) (ns::nss)
inductive TuQs (h:Heap):List Value->List (List Int×Int)->Prop
 | nil:TuQs h [] []
 | cons {v:Value} {p:List Int×Int} {vs:List Value} {ps:List (List Int×Int)}:TuQ h v p->TuQs h vs ps->TuQs h (v::vs) (p::ps)
theorem TuIs.keeps{h h':Heap}(k:∀ b o,h.get? b=some o->h'.get? b=some o):∀ {vs:List Value} {nss:List (List Int)},TuIs h vs nss->TuIs h' vs nss
 | _,_,.nil=>.nil
 | _,_,.cons a r=>.cons (a.keeps k) (r.keeps k)
theorem TuQs.keeps{h h':Heap}(k:∀ b o,h.get? b=some o->h'.get? b=some o):∀ {vs:List Value} {nss:List (List Int×Int)},TuQs h vs nss->TuQs h' vs nss
 | _,_,.nil=>.nil
 | _,_,.cons a r=>.cons (a.keeps k) (r.keeps k)
theorem TuIs.at{h:Heap}:∀ {vs:List Value} {nss:List (List Int)},TuIs h vs nss->∀ i,i < vs.length->TuI h (vs.getD i Value.none) (nss.getD i [])
 | _,_,.nil,i,hi=>absurd hi (Nat.not_lt_zero _)
 | _,_,.cons a r,0,_=>a
 | _,_,.cons a r,i+1,hi=>by simpa using r.at i (by simpa using hi)
theorem TuQs.at{h:Heap}:∀ {vs:List Value} {nss:List (List Int×Int)},TuQs h vs nss->∀ i,i < vs.length->TuQ h (vs.getD i Value.none) (nss.getD i ([],0))
 | _,_,.nil,i,hi=>absurd hi (Nat.not_lt_zero _)
 | _,_,.cons a r,0,_=>a
 | _,_,.cons a r,i+1,hi=>by simpa using r.at i (by simpa using hi)
theorem TuIs.tups{h:Heap}:∀ {vs:List Value} {nss:List (List Int)},TuIs h vs nss->(∀ ns∈nss,ns≠[])->∃ fs,KatTups h vs fs/\fs.length=vs.length/\∀ v∈fs,∃ n t,v=Value.int n t
 | _,_,.nil,_=>⟨[],trivial,rfl,fun _ hv=>nomatch hv⟩
 | _,_,.cons (ns:=ns) hq r,hn=>by
  obtain⟨a,xs,rfl,⟨o,e,c,n,d⟩,j⟩:=hq
  obtain⟨fs,k,l,f⟩:=r.tups fun x hx=>hn x (List.mem_cons_of_mem _ hx)
  obtain⟨xs⟩:=xs
  cases j with
  | nil=>exact absurd rfl (hn [] List.mem_cons_self)
  | cons m t j'=>exact⟨.int m t::fs,⟨⟨a,o,_,n,rfl,e,c,d,by simp_all⟩,k⟩,by simp[l],fun v hv=>by
    rcases List.mem_cons.mp hv with z | z
    ·exact⟨m,t,z⟩
    ·exact f v z⟩
theorem TuQs.tups{h:Heap}:∀ {vs:List Value} {nss:List (List Int×Int)},TuQs h vs nss->∃ fs,KatTups h vs fs/\fs.length=vs.length/\∀ v∈fs,∃ a o,v=Value.ref a/\h.get? a=some o/\o.cls=.type "tuple"
 | _,_,.nil=>⟨[],trivial,rfl,fun _ hv=>nomatch hv⟩
 | _,_,.cons hq r=>by
  obtain⟨a,q,t,rfl,⟨o,e,c,n,d⟩,a',xs,eq,⟨o',e',c',_⟩,_⟩:=hq
  subst eq
  obtain⟨fs,k,l,f⟩:=r.tups
  exact⟨.ref a'::fs,⟨⟨a,o,_,n,rfl,e,c,d,by simp⟩,k⟩,by simp[l],fun v hv=>by
   rcases List.mem_cons.mp hv with z | z
   ·exact⟨a',o',z,e',c'⟩
   ·exact f v z⟩
noncomputable def kindI (nss:List (List Int)):SortKind:=if (nss.all fun ns=>!ns.isEmpty)=true then tuples' true else if (nss.headD []).isEmpty=true then oneType' else general'
section
variable {M:Model}{A:Around}{E:Value->Shared->Prop}{s:Shared}
theorem zDI{a:Addr}{o:Obj}(e:s.heap.get? a=some o)(c:o.cls=.type "tuple"):Looks M s.heap (typeOf (.ref a)) (.type "tuple"):=by
 rw[← c]
 exact (Looks.ld e).andThen .now
theorem zHp{vs:List Value}{ps:List (List Int×Int)}{Q:SortKind->Shared->Prop}(t:TuQs s.heap vs ps)(h2:2<=vs.length)(h:Q (tuples' false) s):wpAny M A (keyKind' vs.toArray) Q E s:=by
 obtain⟨fs,k,l,f⟩:=t.tups
 refine kat_kind (T:=.type "tuple") k (by omega) (fun v hv=>?_) rfl h
 obtain⟨a,o,rfl,e,c⟩:=f v hv
 exact zDI e c
def Fst:List (Option Value)->List (List Int)->Prop
 | [],[]=>True
 | f::fs,ns::nss=>(f.isSome=!ns.isEmpty)/\Fst fs nss
 | _,_=>False
theorem zE2:∀ {vs:List Value} {nss:List (List Int)},TuIs s.heap vs nss->∃ fs,Fst fs nss/\∀ (Q:List (Option Value)->Shared->Prop),Q fs s->wpAny M A (vs.mapM firstOfTuple') Q E s
 | _,_,.nil=>⟨[],trivial,fun Q h=>by rw[List.mapM_nil]; exact wpAny_pure h⟩
 | _,_,.cons (ns:=ns) hq r=>by
  obtain⟨a,xs,rfl,⟨o,e,c,n,d⟩,j⟩:=hq
  obtain⟨fs,k,f⟩:=zE2 r
  refine⟨xs[0]?::fs,⟨?_,k⟩,fun Q h=>?_⟩
  ·obtain⟨xs⟩:=xs
   cases j with
   | nil=>simp_all
   | cons m t j'=>simp_all
  ·rw[List.mapM_cons]
   refine wpAny_bind ?_
   rw[kas_first_eq]
   refine wpAny_bind ((zDI e c).here ?_)
   rw[if_neg (by decide)]
   exact wpAny_bind (listItems_at e d (wpAny_pure (wpAny_bind (f _ (wpAny_pure h)))))
theorem zHB:∀ {fs:List (Option Value)} {nss:List (List Int)},Fst fs nss->(fs.all fun x=>x.isSome)=nss.all fun ns=>!ns.isEmpty
 | [],[],_=>rfl
 | _::_,_::_,h=>by rw[List.all_cons,List.all_cons,h.1,zHB h.2]
 | [],_::_,h=>h.elim
 | _::_,[],h=>h.elim
theorem zIY{vs:List Value}{nss:List (List Int)}{Q:SortKind->Shared->Prop}(t:TuIs s.heap vs nss)(h2:2<=vs.length)(h:Q (kindI nss) s):wpAny M A (keyKind' vs.toArray) Q E s:=by
 unfold kindI at h
 split at h
 ·rename_i hall
  obtain⟨fs,k,l,f⟩:=t.tups fun ns hn e=>by have:=List.all_eq_true.mp hall ns hn; rw[e]at this; cases this
  refine kat_kind (T:=.type "int") k (by omega) (fun v hv=>?_) rfl h
  obtain⟨n,t,rfl⟩:=f v hv
  exact Looks.of_pure rfl
 ·rename_i hall
  rw[kat_kind_eq,List.mapM_toArray,map_eq_pure_bind]
  obtain⟨fs,k,f⟩:=zE2 (M:=M) (A:=A) (E:=E) t
  refine wpAny_bind (wpAny_bind (f _ (wpAny_pure ?_)))
  have e1:¬ ((fs.toArray.all fun x=>x.isSome)=true):=by rw[List.all_toArray,zHB k]; exact hall
  rw[if_neg e1]
  cases t with
  | nil=>exact absurd h2 (by decide)
  | @cons v1 n1 vs1 nss1 t1 t2 =>
   cases fs with
   | nil=>exact k.elim
   | cons f0 fs =>
    have hf:=k.1
    rw[List.headD_cons]at h
    split at h
    ·rename_i he
     rw[he]at hf
     have e2:¬ (((f0::fs).toArray[0]?.bind id).isSome=true):=by simp; simpa using hf
     rw[if_neg e2]
     have each:∀ v∈v1::vs1,Looks M s.heap (typeOf v) (.type "tuple"):=fun v hv=>by
      obtain⟨i,hi,rfl⟩:=List.getElem_of_mem hv
      obtain⟨a,xs,e,⟨o,e',c,_⟩,_⟩:=(TuIs.cons t1 t2).at i hi
      rw[List.getD_eq_getElem?_getD,List.getElem?_eq_getElem hi,Option.getD_some]at e
      rw[e]
      exact zDI e' c
     rw[oneTypeOnly'_eq,List.mapM_toArray,map_eq_pure_bind]
     refine wpAny_bind (wpAny_bind (wpAny_bind (kas_mapM (r:=.type "tuple") _ (fun v hv Q' hq=>(each v hv).here hq) (wpAny_pure ?_))))
     simp only[List.map_cons,List.getElem?_toArray,List.getElem?_cons_zero]
     refine wpAny_pure (wpAny_pure ?_)
     have e3:(((Value.type "tuple"::List.map (fun _=>Value.type "tuple") vs1).toArray.all fun x=>x == Value.type "tuple"))=true:=by
      simp only[List.all_toArray,List.all_cons,List.all_map,Bool.and_eq_true,List.all_eq_true]
      exact⟨rfl,fun _ _=>rfl⟩
     rw[e3]
     exact h
    ·rename_i he
     have e2:((f0::fs).toArray[0]?.bind id).isSome=true:=by simp; rw[hf]; simpa using he
     rw[if_pos e2]
     exact wpAny_pure h
end
end L2
namespace D
open PySem L2 PyProof.Rows
def tI(ns:List Int):T:=.t ((ns.map V.int).map T.a)
def tQ(p:List Int×Int):T:=.t [tI p.1,.a (.int p.2)]
def ltI(nss:List (List Int))(i j:Nat):Bool:=HT.lexLt (nss.getD i []) (nss.getD j [])
def ltQ(ps:List (List Int×Int))(i j:Nat):Bool:=ltP (ps.getD i ([],0)) (ps.getD j ([],0))
def sortBy{α:Type}(lt:Nat->Nat->Bool)(d:α)(xs:List α):List α:=if xs.length < 2 then xs else (runT lt (PySem.W.kas_sort xs.length)).toList.map fun i=>xs.getD i d
theorem zMf(lt:Nat->Nat->Bool)(vs:List Value):outS lt vs=sortBy lt Value.none vs:=rfl
theorem zIP{α:Type}(lt:Nat->Nat->Bool)(d:α)(xs:List α):(sortBy lt d xs).length=xs.length:=by
 unfold sortBy
 split
 ·rfl
 ·rename_i h
  have:=(zBL (n:=xs.length) (by omega)).run lt
  rw[List.length_map,List.Perm.length_eq this,List.length_range]
theorem zHX{α:Type}(lt:Nat->Nat->Bool)(d:α)(xs:List α):∃ is:List Nat,is.Perm (List.range xs.length)/\sortBy lt d xs=is.map fun i=>xs.getD i d:=by
 unfold sortBy
 split
 ·refine⟨List.range xs.length,.refl _,List.ext_getElem (by simp) fun i h1 h2=>?_⟩
  simp[List.getD_eq_getElem?_getD,h1]
 ·rename_i h
  exact⟨_,(zBL (n:=xs.length) (by omega)).run lt,rfl⟩
theorem zEQ{α:Type}(d:α)(xs:List α):((List.range xs.length).map fun i=>xs.getD i d)=xs:=by
 refine List.ext_getElem (by simp) fun i h1 h2=>?_
 simp[List.getD_eq_getElem?_getD,h2]
theorem zC7{α:Type}(lt:Nat->Nat->Bool)(d:α)(xs:List α):(sortBy lt d xs).Perm xs:=by
 obtain⟨is,p,e⟩:=zHX lt d xs
 rw[e]
 have:=p.map fun i=>xs.getD i d
 rw[zEQ]at this
 exact this
section
variable {X:Cx}{pins:List (Addr×Obj)}{σ:L2.St}{H:Hp}{s:Shared}
theorem zJm(I:Inv X pins σ H s){v:V}{u:Value}{ns:List Int}(h:Im X.K H v (tI ns))(r:RelV v u):TuI s.heap u ns:=by
 obtain⟨p,vs,rfl,h1,h2⟩:=h.inv
 cases (show u=Value.ref p from r)
 have:=h2.of_atoms
 subst this
 obtain⟨its,rv,pl,_⟩:=I.tuple h1.sq
 exact⟨p,its.toArray,rfl,pl,zHf rv⟩
theorem zHI(I:Inv X pins σ H s):∀ {vs:List V} {us:List Value} (nss:List (List Int)),Ims X.K H vs (nss.map tI)->Vals vs us->TuIs s.heap us nss
 | vs,us,[],h,r=>by have:=h.inv0; subst this; cases r; exact .nil
 | vs,us,ns::nss,h,r=>by
  obtain⟨v,r',rfl,h1,h2⟩:=h.inv
  cases r with
  | cons r1 r2=>exact .cons (zJm I h1 r1) (zHI I nss h2 r2)
theorem zNv(I:Inv X pins σ H s){v:V}{u:Value}{p:List Int×Int}(h:Im X.K H v (tQ p))(r:RelV v u):TuQ s.heap u p:=by
 obtain⟨a,vs,rfl,h1,h2⟩:=h.inv
 cases (show u=Value.ref a from r)
 obtain⟨v1,r1,rfl,i1,h3⟩:=h2.inv
 obtain⟨v2,r2,rfl,i2,h4⟩:=h3.inv
 have:=h4.inv0
 subst this
 have:=i2.inva
 subst this
 obtain⟨its,rv,pl,_⟩:=I.tuple h1.sq
 obtain⟨w1,w2,rfl,q1,q2⟩:=vals2 rv
 obtain⟨t,rfl⟩:=(show ∃ t,w2=Value.int p.2 t from q2)
 exact⟨a,w1,t,rfl,pl,zJm I i1 q1⟩
theorem zHG(I:Inv X pins σ H s):∀ {vs:List V} {us:List Value} (ps:List (List Int×Int)),Ims X.K H vs (ps.map tQ)->Vals vs us->TuQs s.heap us ps
 | vs,us,[],h,r=>by have:=h.inv0; subst this; cases r; exact .nil
 | vs,us,p::ps,h,r=>by
  obtain⟨v,r',rfl,h1,h2⟩:=h.inv
  cases r with
  | cons r1 r2=>exact .cons (zNv I h1 r1) (zHG I ps h2 r2)
theorem zFv{vs:List V}{us:List Value}(r:Vals vs us):∀ (is:List Nat),(∀ i∈is,i < vs.length)->Vals (is.map fun i=>vs.getD i .non) (is.map fun i=>us.getD i Value.none)
 | [],_=>.nil
 | i::is,h=>by
  have hi:=h i List.mem_cons_self
  obtain⟨u,e,q⟩:=r.get (i:=i) (x:=vs[i]) (by simp[hi])
  refine .cons ?_ (zFv r is fun j hj=>h j (List.mem_cons_of_mem _ hj))
  show RelV (vs.getD i .non) (us.getD i Value.none)
  rw[List.getD_eq_getElem?_getD,List.getElem?_eq_getElem hi,List.getD_eq_getElem?_getD,e]
  exact q
theorem zJO{vs:List V}{us:List Value}(r:Vals vs us)(lt:Nat->Nat->Bool):Vals (sortBy lt .non vs) (sortBy lt Value.none us):=by
 have hl:=r.length
 unfold sortBy
 rw[← hl]
 split
 ·exact r
 ·rename_i h
  refine zFv r _ fun i hi=>?_
  have:=((zBL (n:=vs.length) (by omega)).run lt).subset hi
  exact List.mem_range.mp this
theorem zGz{K:Fg}{H:Hp}{vs:List V}{ts:List T}(r:Ims K H vs ts):∀ (is:List Nat),(∀ i∈is,i < vs.length)->Ims K H (is.map fun i=>vs.getD i .non) (is.map fun i=>ts.getD i (.a .non))
 | [],_=>.nil
 | i::is,h=>by
  have hi:=h i List.mem_cons_self
  have hi':i < ts.length:=by rw[← r.len]; exact hi
  obtain⟨u,e,q⟩:=r.get (i:=i) (t:=ts[i]) (by simp[hi'])
  refine .cons ?_ (zGz r is fun j hj=>h j (List.mem_cons_of_mem _ hj))
  show Im K H (vs.getD i .non) (ts.getD i (.a .non))
  rw[List.getD_eq_getElem?_getD,e,List.getD_eq_getElem?_getD,List.getElem?_eq_getElem hi']
  exact q
theorem zGM{K:Fg}{H:Hp}{vs:List V}{ts:List T}(r:Ims K H vs ts)(lt:Nat->Nat->Bool):Ims K H (sortBy lt .non vs) (sortBy lt (.a .non) ts):=by
 have hl:=r.len
 unfold sortBy
 rw[← hl]
 split
 ·exact r
 ·rename_i h
  refine zGz r _ fun i hi=>?_
  have:=((zBL (n:=vs.length) (by omega)).run lt).subset hi
  exact List.mem_range.mp this
end
def Srt(ts:List T)(lt:Nat->Nat->Bool):Prop:=(∃ nss,ts=nss.map tI/\lt=ltI nss)\/∃ ps,ts=ps.map tQ/\lt=ltQ ps
def rSortT(K:Fg):List V->Hp->VK->Prop:=fun xs H Q=>∃ p us ts lt,xs=[.ref p]/\SqL K H p us/\Ims K H us ts/\Srt ts lt/\Cn ts.length lt/\∀ l,H l=none->Q (.ref l) (upd H l (.lst (sortBy lt .non us)))
theorem zFd{X:Cx}{k:Nat}(hr:Room k X.A){pins:List (Addr×Obj)}{σ:L2.St}{H:Hp}{s:Shared}{it:Value}{ws:List V}{its:List Value}{ts:List T}{lt:Nat->Nat->Bool}{Q:VK}(I:Inv X pins σ H s)(rv:Vals ws its)(hi:Ims X.K H ws ts)(hs:Srt ts lt)(hl:Cn ts.length lt)
  (hcol:∀ (C:List Value->Shared->Prop) (F:Value->Shared->Prop),(∀ h1 tk,(∀ b o,s.heap.get? b=some o->h1.get? b=some o)->C its { s with heap:=h1,toks:=tk })->wpAny (model X.prog X.w) X.A.in1 (collect it) C F s)
  (q:∀ l,H l=none->Q (.ref l) (upd H l (.lst (sortBy lt .non ws)))):wpAny (model X.prog X.w) X.A (call (.builtin "sorted") [it]) (EP X pins σ Q) X.xe s:=by
 have l1:=rv.length
 have l2:=hi.len
 have un:=hr.un
 have hlc:=hl.1
 rw[← l2,l1]at hl
 have fin:∀ (h1 h'':Heap) (tk c2:Nat),(∀ b o,s.heap.get? b=some o->h1.get? b=some o)->(∀ b o,h1.get? b=some o->h''.get? b=some o)->h''.get? h1.objs.size=some (seqObj "list" (outS lt its).toArray c2)->EP X pins σ Q (.ref h1.objs.size) { s with heap:=h'',toks:=tk }:=fun h1 h'' tk c2 k1 k2 e=>by
  have I1:Inv X pins σ H { s with heap:=h1 }:=I.kept (t':=s.toks) k1
  exact⟨.ref h1.objs.size,_,I1.laid (t':=tk) k2 (Nat.le_refl _) (show ObjOk X.prog X.w _ h'' _ (.lst (sortBy lt .non ws)) from ⟨by rw[zIP,sizeLine_eq]; omega,sortBy lt Value.none its,c2,zJO rv lt,by rw[zMf]at e; simpa [seqObj] using e⟩),rfl,q _ (I1.hok.fresh (Nat.le_refl _))⟩
 rcases hs with ⟨nss,rfl,rfl⟩ | ⟨ps,rfl,rfl⟩
 ·have t:=zHI I nss hi rv
  refine zDs (κ:=kindI nss) (lt:=ltI nss) hl hcol (fun h2 h' tk kp C hC=>zIY (s:={ s with heap:=h',toks:=tk }) (t.keeps kp) h2 hC) (fun h' kp i j hi hj C tk hC=>?_) fin
  have a:=(t.keeps kp).at i hi
  have b:=(t.keeps kp).at j hj
  have hu:X.A.in1.in1.units < cLine:=by show X.A.units+1+1 < cLine; omega
  unfold PySem.W.kas_ask kindI
  split
  ·exact zJw (s:={ s with heap:=h',toks:=tk }) a b (hC tk)
  ·split
   ·exact zNs (s:={ s with heap:=h',toks:=tk }) a b hu (hC tk)
   ·exact zIG (s:={ s with heap:=h',toks:=tk }) a b hu (hC tk)
 ·have t:=zHG I ps hi rv
  refine zDs (κ:=tuples' false) (lt:=ltQ ps) hl hcol (fun h2 h' tk kp C hC=>zHp (s:={ s with heap:=h',toks:=tk }) (t.keeps kp) h2 hC) (fun h' kp i j hi hj C tk hC=>?_) fin
  have a:=(t.keeps kp).at i hi
  have b:=(t.keeps kp).at j hj
  exact zKs (s:={ s with heap:=h',toks:=tk }) a b (by show X.A.units+1+1+1 < cLine; omega) (hC tk)
theorem zIF{X:Cx}{k:Nat}(hr:Room k X.A):CallR X (.builtin "sorted") (rSortT X.K):=by
 intro pins s σ H xs us Q I r h
 obtain⟨p,ws,ts,lt,rfl,hq,hi,hs,hl,q⟩:=h
 obtain⟨u,rfl,rx⟩:=vals1 r
 cases rx
 obtain⟨its,rv,pl,_⟩:=I.list hq
 obtain⟨o,ho,hc,n,hd⟩:=pl.isList
 have l1:=rv.length
 have l2:=hi.len
 have hlc:=hl.1
 exact zFd hr I rv hi hs hl (fun C F hC=>wpAny_collect_seq p (.inl rfl) ho hc hd (fun h1 k1=>hC h1 s.toks k1) (by rw[List.size_toArray,sizeLine_eq]; omega)) q
def asTI:T->Option (List Int)
 | .t xs=>intsOf xs
 | _=>none
def asTIs:List T->Option (List (List Int))
 | []=>some []
 | t::r=>(asTI t).bind fun ns=>(asTIs r).map fun nss=>ns::nss
def asTQ:T->Option (List Int×Int)
 | .t [a,.a (.int n)]=>(asTI a).map fun ns=>(ns,n)
 | _=>none
def asTQs:List T->Option (List (List Int×Int))
 | []=>some []
 | t::r=>(asTQ t).bind fun p=>(asTQs r).map fun ps=>p::ps
theorem zG4{t:T}{ns:List Int}(h:asTI t=some ns):t=tI ns:=by
 cases t with
 | a v=>cases h
 | l v=>cases h
 | f v=>cases h
 | x u v=>cases h
 | m u v=>cases h
 | t xs=>exact congrArg T.t (zEo h)
theorem zF1:∀ {ts:List T} {nss:List (List Int)},asTIs ts=some nss->ts=nss.map tI
 | [],_,h=>by cases h; rfl
 | t::r,_,h=>by
  obtain⟨ns,e1,h⟩:=bind_some h
  obtain⟨nss,e2,rfl⟩:=map_some h
  rw[zG4 e1,zF1 e2]; rfl
theorem zMl{t:T}{p:List Int×Int}(h:asTQ t=some p):t=tQ p:=by
 unfold asTQ at h
 split at h
 ·obtain⟨ns,e,rfl⟩:=map_some h
  rw[zG4 e]; rfl
 ·cases h
theorem zGK:∀ {ts:List T} {nss:List (List Int×Int)},asTQs ts=some nss->ts=nss.map tQ
 | [],_,h=>by cases h; rfl
 | t::r,_,h=>by
  obtain⟨ns,e1,h⟩:=bind_some h
  obtain⟨nss,e2,rfl⟩:=map_some h
  rw[zMl e1,zGK e2]; rfl
def srtT(ts:List T):Option (List T):=match asTIs ts with
 | some nss=>if nss.length < 64 then some (sortBy (ltI nss) (.a .non) ts) else none
 | none=>match asTQs ts with
  | some ps=>if ps.length < 64 then some (sortBy (ltQ ps) (.a .non) ts) else none
  | none=>none
theorem zGn{ts ys:List T}(h:srtT ts=some ys):∃ lt,Srt ts lt/\Cn ts.length lt/\ys=sortBy lt (.a .non) ts:=by
 unfold srtT at h
 split at h
 ·rename_i nss e
  split at h
  ·rename_i hl
   cases h
   have:=zF1 e
   exact⟨_,.inl ⟨nss,this,rfl⟩,zJ0 (by rw[this,List.length_map]; exact hl),rfl⟩
  ·cases h
 ·split at h
  ·rename_i ps e
   split at h
   ·rename_i hl
    cases h
    have:=zGK e
    exact⟨_,.inr ⟨ps,this,rfl⟩,zJ0 (by rw[this,List.length_map]; exact hl),rfl⟩
   ·cases h
  ·cases h
def sortTS:En->List S->Option S:=fun Γ as=>match as with
 | [a]=>(sqlOf Γ a).bind fun ts=>(srtT ts).map .l
 | _=>none
theorem zGh{K:Fg}:SimRs K (rSortT K) sortTS:=by
 intro C w Γ σ H vs as s Q R o e k
 unfold sortTS at e
 split at e
 ·obtain⟨ts,e1,e⟩:=bind_some e
  obtain⟨ys,e2,rfl⟩:=map_some e
  obtain⟨v,rfl,o1⟩:=soks1 o
  obtain⟨p,us,rfl,h1,i1⟩:=zAi R o1 e1
  obtain⟨lt,hs,hl,rfl⟩:=zGn e2
  exact⟨p,us,ts,lt,rfl,h1,i1,hs,hl,fun l hl'=>k _ _ (R.new hl') (Evo.new hl') (R.newl hl' (zGM i1 lt)) ⟨l,rfl,hl'⟩⟩
 ·cases e
section
variable {ι:Type}{K:Fg}{X:ι->Cx}{mg:Str->Option Value}{k:Nat}
theorem zGW(M:Fm K mg k X):CalR K X (.builtin "sorted") sortTS:=⟨_,fun j=>by have:=zIF (X:=X j) (M.room j); rw[M.K j]at this; exact this,zGh⟩
end
end D
namespace L2
open PySem PySem.Spec PyProof.Rows
section
variable {prog:Program}{w:World}{A:Around}{E:Value->Shared->Prop}
theorem zJX{h:Heap}{g:Array GenState}{dr:Drawn}{tk:Nat}{os:OsState}{it d:Addr}{i ep:Nat}{es:Array DictEntry}{od:Obj}{Q:Option Value->Shared->Prop}
  (hit:h.get? it=some { cls:=.type "dict_keyiterator",data:=.fields #[.ref d,.int i 0,.int es.size 0,.int ep 0] }) (hod:h.get? d=some od) (hdd:od.data=.dict es ep) (hi:i < es.size)
  (hQ:∀ h',h'.get? it=some { cls:=.type "dict_keyiterator",data:=.fields #[.ref d,.int ((i+1:Nat):Int) 0,.int es.size 0,.int ep 0] }->Heap.SameBut it h h'->Q (some es[i].key) ⟨h',g,dr,tk,os⟩) :
  wpAny (model prog w) A (pyNext (.ref it)) Q E ⟨h,g,dr,tk,os⟩:=by
 obtain⟨oc,odct,odat,osl⟩:=od
 simp only at hdd
 subst hdd
 have hT:(⟨h,g,dr,tk,os⟩:Shared).TypeIs (.ref it) "dict_keyiterator":=⟨_,hit,rfl⟩
 unfold pyNext
 refine wpAny_bind (wpAny_attempt (wpAny_callSpecial?_slot (name:=Str.ofString "__next__") hT PySem.F.slot_dict_keyiterator_next (wpAny_call_entry PySem.F.slot_dict_keyiterator_next hT PySem.F.entry_dict_keyiterator_next ?_ (PySem.F.args_dict_keyiterator_next_1 _))))
 repeat (any_goals (first | assumption | wp_step))
 have e0:(if (i:Int) < 0 then none else es[(i:Int).toNat]?)=some es[i]:=by rw[if_neg (by omega),Int.toNat_natCast,Array.getElem?_eq_getElem hi]
 rw[e0]
 repeat (any_goals (first | assumption | wp_step))
 refine⟨_,rfl,wpAny_pure (hQ _ ((Heap.get?_update_self _ hit rfl).trans (by kernel_rfl)) (Heap.SameBut.update ..))⟩
theorem zJ4{h:Heap}{g:Array GenState}{dr:Drawn}{tk:Nat}{os:OsState}{it d:Addr}{ep:Nat}{es:Array DictEntry}{od:Obj}{Q:Option Value->Shared->Prop}(hh:A.handled=none)
  (hit:h.get? it=some { cls:=.type "dict_keyiterator",data:=.fields #[.ref d,.int es.size 0,.int es.size 0,.int ep 0] }) (hod:h.get? d=some od) (hdd:od.data=.dict es ep)
  (hQ:∀ h',Heap.ExtBut it h h'->Q none ⟨h',g,dr,tk,os⟩) :
  wpAny (model prog w) A (pyNext (.ref it)) Q E ⟨h,g,dr,tk,os⟩:=by
 obtain⟨oc,odct,odat,osl⟩:=od
 simp only at hdd
 subst hdd
 have hT:(⟨h,g,dr,tk,os⟩:Shared).TypeIs (.ref it) "dict_keyiterator":=⟨_,hit,rfl⟩
 unfold pyNext
 refine wpAny_bind (wpAny_attempt (wpAny_callSpecial?_slot (name:=Str.ofString "__next__") hT PySem.F.slot_dict_keyiterator_next (wpAny_call_entry PySem.F.slot_dict_keyiterator_next hT PySem.F.entry_dict_keyiterator_next ?_ (PySem.F.args_dict_keyiterator_next_1 _))))
 repeat (any_goals (first | assumption | wp_step))
 have e0:(if (es.size:Int) < 0 then none else es[(es.size:Int).toNat]?)=none:=by rw[if_neg (by omega),Int.toNat_natCast]; simp
 rw[e0]
 repeat (any_goals (first | assumption | wp_step))
 unfold raiseNew
 refine wpAny_bind (wpAny_handled ?_)
 rw[show A.in1.handled=none from hh]
 refine wpAny_bind (wpAny_pure (wpAny_throw ?_))
 refine wpAny_bind (wpAny_isInstance (T:="StopIteration") (b:=true) ⟨_,Heap.get?_push_size _ rfl,rfl⟩ isSubtype_stop (wpAny_pure ?_))
 exact hQ _ (((Heap.SameBut.update ..).extBut.push _).push _)
end
open PySem PySem.Spec PyProof.Rows PySem.W
def RawD(h:Heap)(d:Addr)(es:Array DictEntry)(ep:Nat):Prop:=∃ o,h.get? d=some o/\o.ExactDict/\o.data=.dict es ep
theorem RawD.lt{h:Heap}{d:Addr}{es:Array DictEntry}{ep:Nat}(x:RawD h d es ep):d < h.objs.size:=let ⟨_,e,_⟩:=x; Heap.lt_size e
theorem RawD.typeIs{s:Shared}{d:Addr}{es:Array DictEntry}{ep:Nat}(x:RawD s.heap d es ep):s.TypeIs (.ref d) "dict":=let ⟨o,e,c,_⟩:=x; ⟨o,e,c.1⟩
theorem RawD.keep{h h':Heap}{d:Addr}{es:Array DictEntry}{ep:Nat}(x:RawD h d es ep)(k:∀ o,h.get? d=some o->h'.get? d=some o):RawD h' d es ep:=let ⟨o,e,c⟩:=x; ⟨o,k o e,c⟩
abbrev keyIt(d:Addr)(i n ep:Nat):Obj:={ cls:=.type "dict_keyiterator",data:=.fields #[.ref d,.int i 0,.int n 0,.int ep 0] }
section
variable {prog:Program}{w:World}{A:Around}{E:Value->Shared->Prop}{s:Shared}{d:Addr}{es:Array DictEntry}{ep:Nat}
theorem zIE{Q:Value->Shared->Prop}(hd:(d == sysModules)=false)(hm:RawD s.heap d es ep)(hQ:Q (.ref s.heap.objs.size) { s with heap:=s.heap.push (keyIt d 0 es.size ep) }):wpAny (model prog w) A (pyIter (.ref d)) Q E s:=by
 have hT:=hm.typeIs
 obtain⟨o,ho,hc,hdat⟩:=hm
 refine wpAny_pyIter_slot hT PySem.F.slot_dict_iter (wpAny_call_entry PySem.F.slot_dict_iter hT PySem.F.entry_dict_iter ?_ (PySem.F.args_dict_iter_1 _)); unfold Builtin.«dict.__iter__»
 refine wpAny_bind ?_; unfold Builtin.Dict.dictSlotNone; refine wpAny_bind (wpAny_notOrdered_dict hT ?_)
 show wpAny _ _ (pure (Value.ref d)) _ _ s
 refine wpAny_pure ?_; show wpAny _ _ (Builtin.Dict.showsAll d >>= _) _ _ s
 unfold Builtin.Dict.showsAll; rw[if_neg (by rw[hd]; exact Bool.false_ne_true)]
 refine wpAny_bind (wpAny_pure ?_); refine wpAny_bind (wpAny_dictEntries ho hdat (wpAny_bind (wpAny_dictEpoch ho hdat ?_)))
 refine wpAny_bind (wpAny_newObj_type (wpAny_pure ⟨_,rfl,"dict_keyiterator",_,⟨_,Heap.get?_push_size _ rfl,rfl⟩,PySem.F.slot_dict_keyiterator_next.lookup,?_⟩))
 exact hQ
theorem zGi(hh:A.handled=none)(it:Addr)(hne:d≠it):Walks prog w A it [it,d] [it] es.size (fun i v=>∃ e,es[i]?=some e/\v=e.key) (fun i h=>h.get? it=some (keyIt d i es.size ep)/\RawD h d es ep) where
 sub:=fun b hb=>List.mem_cons.mpr (.inl (List.mem_singleton.mp hb))
 frame:=fun i h h' st k=>⟨k it List.mem_cons_self _ st.1,st.2.keep fun o e=>k d (List.mem_cons_of_mem _ List.mem_cons_self) o e⟩
 item:=fun i s Q E hi st hQ=>by
  obtain⟨h,g,dr,tk,os⟩:=s
  obtain⟨o,ho,hc,hdat⟩:=st.2
  refine zJX (d:=d) (ep:=ep) (es:=es) st.1 ho hdat hi fun h' e1 e2=>?_
  refine hQ _ h' tk ⟨es[i],by simp[hi],rfl⟩ ⟨e1,⟨o,(e2.2 d hne).trans ho,hc,hdat⟩⟩ fun b o' hb e=>(e2.2 b (fun z=>hb (List.mem_singleton.mpr z))).trans e
 done:=fun s Q E st hQ=>by
  obtain⟨h,g,dr,tk,os⟩:=s
  obtain⟨o,ho,hc,hdat⟩:=st.2
  exact zJ4 (d:=d) (ep:=ep) (es:=es) hh st.1 ho hdat fun h' e=>hQ h' tk fun b o' hb e'=>e b o' (fun z=>hb (List.mem_singleton.mpr z)) e'
 self:=fun i s Q E st hQ=>wpAny_pyIter_keyiter ⟨_,st.1,rfl,rfl⟩ hQ
theorem zJQ(lo:(d == sysModules)=false):KdlSrc prog w "dict" d d es.size (fun i v=>∃ e,es[i]?=some e/\v=e.key) (fun h=>RawD h d es ep) where
 type:=fun _ hm=>hm.typeIs
 there:=fun _ hm=>⟨hm.lt,hm.lt⟩
 keep:=fun _ _ hm hk=>hm.keep fun o e=>hk d (.inl rfl) o e
 notList:=by decide
 notTuple:=by decide
 hint:=fun _ _ _ _ hm hq=>kdl_hint_dict hm.typeIs hq
 iter:=fun A s hh hm=>⟨_,_,(fun _ _ hq=>zIE lo hm hq),zGi hh _ (Nat.ne_of_lt hm.lt),⟨Heap.get?_push_size _ rfl,hm.keep fun o e=>Heap.get?_push_of_some _ e⟩⟩
end
theorem zDv{α β:Type}{R:α->β->Prop}:∀ {xs:List α} {ys:List β},Paired R xs ys->xs.length=ys.length
 | _,_,.nil=>rfl
 | _,_,.cons _ t=>by simp[zDv t]
end L2
namespace D
open PySem L2
def keyTup(k:List Key):T:=.t ((k.map kV).map T.a)
def itemsT(kvs:List (List Key×T)):List T:=kvs.map fun kv=>.t [keyTup kv.1,kv.2]
def dItems(fo:DE):DE:=fun Γ=>(fo Γ).bind fun p=>(dictOf p.2 p.1).bind fun d=>match d with
 | .inr kvs=>some (.l (itemsT kvs),p.2)
 | .inl _=>none
theorem zNr{K:Fg}{H:Hp}{b:Addr}{k:List Key}(h:H b=some (.tup (k.map kV))):Im K H (.ref b) (keyTup k):=Im.tup h (Ims.atoms _)
def keysT(kvs:List (List Key×T)):List T:=kvs.map fun kv=>keyTup kv.1
def rSortD(K:Fg):List V->Hp->VK->Prop:=fun xs H Q=>∃ p kvs lt,xs=[.ref p]/\Rd H p (.dT kvs)/\Srt (kvs.map fun kv=>keyTup kv.1) lt/\Cn kvs.length lt/\∀ l us,H l=none->Ims K H us (kvs.map fun kv=>keyTup kv.1)->Q (.ref l) (upd H l (.lst (sortBy lt .non us)))
theorem zHl{X:Cx}{k:Nat}(hr:Room k X.A):CallR X (.builtin "sorted") (rSortD X.K):=by
 intro pins s σ H xs us Q I r h
 obtain⟨p,kvs,lt,rfl,hq,hs,hl,q⟩:=h
 obtain⟨u,rfl,rx⟩:=vals1 r
 cases rx
 obtain⟨hz,hsm,xs,hk,o',es,ep,e1,e2,e3,e4,_,_⟩:=zCr I.hok hq
 have hm:RawD s.heap p es ep:=⟨o',e1,e2,e3⟩
 have rv:∀ xs:List (List Key×Addr×Value),Vals (xs.map fun x=>V.ref x.2.1) (xs.map fun x=>Value.ref x.2.1):=fun xs=>by
  induction xs with
  | nil=>exact .nil
  | cons a r ih=>exact .cons rfl ih
 have hi:∀ {kvs:List (List Key×V)} {xs:List (List Key×Addr×Value)},L2.KT H kvs xs->Ims X.K H (xs.map fun x=>V.ref x.2.1) (kvs.map fun kv=>keyTup kv.1):=by
  intro kvs xs h
  induction h with
  | nil=>exact .nil
  | @cons a b l m h t ih=>exact .cons (zNr h.2.1) ih
 have hn:es.size=xs.length:=by rw[← Array.length_toList,e4,List.length_map]
 have hx:xs.length=kvs.length:=(zDv hk).symm
 refine zFd hr I (rv xs) (hi hk) hs (by rw[List.length_map]; exact hl) (fun C F hC=>?_) fun l hl'=>q l _ hl' (hi hk)
 refine PySem.W.kdu_collect (zJQ (es:=es) (ep:=ep) hsm) (by exact hr.hd) hm (by omega) fun h' tk acc kp ha=>?_
 have:acc.toList=xs.map fun x=>Value.ref x.2.1:=by
  refine List.ext_getElem (by rw[Array.length_toList,ha.1,hn,List.length_map]) fun j h1 h2=>?_
  have hj:j < acc.size:=by simpa using h1
  obtain⟨e,he,hv⟩:=ha.2 j acc[j] (by simp[hj])
  rw[← Array.getElem?_toList,e4,List.getElem?_map]at he
  have hjx:j < xs.length:=by simpa using h2
  rw[List.getElem?_eq_getElem hjx]at he
  cases he
  simp only[Array.getElem_toList,List.getElem_map]
  exact hv
 rw[this]
 exact hC h' tk kp
def sortDS:En->List S->Option S:=fun Γ as=>match as with
 | [a]=>(dictOf Γ a).bind fun d=>match d with
  | .inr kvs=>(srtT (keysT kvs)).map .l
  | .inl _=>none
 | _=>none
theorem zMk{K:Fg}{H:Hp}{l:List (List Key×V)}{kvs:List (List Key×T)}(h:Paired (fun (a:List Key×V) (b:List Key×T)=>a.1=b.1/\Im K H a.2 b.2) l kvs):(l.map fun kv=>keyTup kv.1)=keysT kvs:=by
 induction h with
 | nil=>rfl
 | @cons a b l m h t ih=>simp only[List.map_cons,keysT]at ih ⊢; rw[h.1,ih]
theorem zGX{K:Fg}:SimRs K (rSortD K) sortDS:=by
 intro C w Γ σ H vs as s Q R o e k
 unfold sortDS at e
 split at e
 ·obtain⟨d,e1,e⟩:=bind_some e
  split at e
  ·rename_i kvs
   obtain⟨ys,e2,rfl⟩:=map_some e
   obtain⟨v,rfl,o1⟩:=soks1 o
   obtain⟨p,ob,rfl,hp,hd⟩:=zC3 R o1 e1
   obtain⟨l,rfl,h1⟩:=hd.invT
   obtain⟨lt,hs,hl,rfl⟩:=zGn e2
   have hkk:=zMk h1
   refine⟨p,l,lt,rfl,.inl hp,by rw[hkk]; exact hs,?_,fun l' us hl' hu=>?_⟩
   ·have:=congrArg List.length hkk
    rw[List.length_map]at this
    rw[this]; exact hl
   ·rw[hkk]at hu
    exact k _ _ (R.new hl') (Evo.new hl') (R.newl hl' (zGM hu lt)) ⟨l',rfl,hl'⟩
  ·cases e
 ·cases e
section
variable {ι:Type}{K:Fg}{X:ι->Cx}{mg:Str->Option Value}{k:Nat}{o:Expr}{fo:DE}{Γ:En}
theorem zJ2(M:Fm K mg k X):CalR K X (.builtin "sorted") sortDS:=⟨_,fun j=>by have:=zHl (X:=X j) (M.room j); rw[M.K j]at this; exact this,zGX⟩
@[simp] theorem zPE{a:S}:sortDS Γ [a]=(dictOf Γ a).bind fun d=>match d with
  | .inr kvs=>(srtT (keysT kvs)).map .l
  | .inl _=>none:=(rfl)
@[simp] theorem zPM{a:S}:sortTS Γ [a]=(sqlOf Γ a).bind fun ts=>(srtT ts).map .l:=(rfl)
end
end D
namespace L2
open PySem PySem.W PyProof.Rows
def atA(p:Array Nat)(i:Nat):Nat:=p.getD i 0
theorem zAz(p:Array Nat)(i:Nat):atA p i=(p[i]?).getD 0:=by unfold atA; rw[Array.getD_eq_getD_getElem?]
theorem zA9{α β:Type}(lt:Nat->Nat->Bool){f:α->KasT β}:∀ t:KasT α,runT lt (t.bind f)=runT lt (f (runT lt t))
 | .ret a=>rfl
 | .ask i j k=>zA9 lt (k (lt i j))
structure Tot(n:Nat)(lt:Nat->Nat->Bool):Prop where
 tot:∀ i j,i < n->j < n->i≠j->lt i j=false->lt j i=true
 asy:∀ i j,i < n->j < n->lt i j=true->lt j i=false
 tr:∀ i j k,i < n->j < n->k < n->lt i j=true->lt j k=true->lt i k=true
theorem Arr.size{n:Nat}{p:Array Nat}(h:Arr n p):p.size=n:=by
 have:=List.Perm.length_eq h
 simpa using this
theorem Arr.inj{n:Nat}{p:Array Nat}(h:Arr n p){i j:Nat}(hi:i < n)(hj:j < n)(e:atA p i=atA p j):i=j:=by
 have nd:p.toList.Nodup:=(List.Perm.nodup_iff h).mpr List.nodup_range
 have hs:=h.size
 rw[zAz,zAz,Array.getElem?_eq_getElem (by omega),Array.getElem?_eq_getElem (by omega),Option.getD_some,Option.getD_some]at e
 have pw:=List.pairwise_iff_getElem.mp nd
 have hi':i < p.toList.length:=by rw[Array.length_toList]; omega
 have hj':j < p.toList.length:=by rw[Array.length_toList]; omega
 have e':p.toList[i]=p.toList[j]:=e
 rcases Nat.lt_trichotomy i j with z | z | z
 ·exact absurd e' (pw i j hi' hj' z)
 ·exact z
 ·exact absurd e'.symm (pw j i hj' hi' z)
theorem Arr.atlt{n:Nat}{p:Array Nat}(h:Arr n p)(h0:0 < n)(i:Nat):atA p i < n:=h.lt h0 i
theorem zEd{p:Array Nat}{k l:Nat}(hk:k < p.size)(hl:l<=k)(i:Nat):atA (bubble p k (k - l)) i=if i=l then atA p k else if l < i/\i<=k then atA p (i - 1) else atA p i:=by
 have e:=getElem?_bubble hk (k - l) (by omega) i
 rw[show k - (k - l)=l from by omega]at e
 rw[zAz,e]
 split
 ·rw[zAz]
 ·split
  ·rw[zAz]
  ·rw[zAz]
theorem zJP{p:Array Nat}{m:Nat}(hm:m<=p.size)(i:Nat):atA (kas_rev p 0 m) i=if i < m then atA p (m - 1 - i) else atA p i:=by
 have e:=getElem?_mirror_all (xs:=p) (i:=0) hm i
 unfold kas_rev
 rw[zAz,e]
 by_cases h:i < m
 ·rw[if_pos ⟨Nat.zero_le _,h⟩,if_pos h,Nat.zero_add,zAz]
 ·rw[if_neg (fun z=>h z.2),if_neg h,zAz]
section
variable {n:Nat}{lt:Nat->Nat->Bool}
def Asc(lt:Nat->Nat->Bool)(p:Array Nat)(k:Nat):Prop:=∀ i j,i < j->j < k->lt (atA p i) (atA p j)=true
def Dsc(lt:Nat->Nat->Bool)(p:Array Nat)(k:Nat):Prop:=∀ i j,i < j->j < k->lt (atA p j) (atA p i)=true
theorem Asc.more(T:Tot n lt){p:Array Nat}(h:Arr n p){m:Nat}(a:Asc lt p m)(hm:1<=m)(hmn:m < n)(hc:lt (atA p (m - 1)) (atA p m)=true):Asc lt p (m+1):=fun i j hij hj=>by
 by_cases e:j=m
 ·subst e
  by_cases e2:i=j - 1
  ·subst e2; exact hc
  ·exact T.tr _ _ _ (h.atlt (by omega) _) (h.atlt (by omega) _) (h.atlt (by omega) _) (a i (j - 1) (by omega) (by omega)) hc
 ·exact a i j hij (by omega)
theorem Dsc.more(T:Tot n lt){p:Array Nat}(h:Arr n p){m:Nat}(a:Dsc lt p m)(hm:1<=m)(hmn:m < n)(hc:lt (atA p m) (atA p (m - 1))=true):Dsc lt p (m+1):=fun i j hij hj=>by
 by_cases e:j=m
 ·subst e
  by_cases e2:i=j - 1
  ·subst e2; exact hc
  ·exact T.tr _ _ _ (h.atlt (by omega) _) (h.atlt (by omega) _) (h.atlt (by omega) _) hc (a i (j - 1) (by omega) (by omega))
 ·exact a i j hij (by omega)
theorem zEF(T:Tot n lt){p:Array Nat}(h:Arr n p):∀ (f m:Nat),1<=m->m+f<=n->Asc lt p m->m<=runT lt (kas_asc p f m)/\runT lt (kas_asc p f m)<=m+f/\Asc lt p (runT lt (kas_asc p f m))/\(runT lt (kas_asc p f m) < m+f->lt (atA p (runT lt (kas_asc p f m))) (atA p (runT lt (kas_asc p f m) - 1))=true)
 | 0,m,_,_,a=>⟨Nat.le_refl _,Nat.le_refl _,a,fun z=>absurd z (Nat.lt_irrefl _)⟩
 | f+1,m,h1,h2,a=>by
  have e:runT lt (kas_asc p (f+1) m)=runT lt (if lt (atA p m) (atA p (m - 1))=true then .ret m else kas_asc p f (m+1)):=rfl
  rw[e]
  by_cases hc:lt (atA p m) (atA p (m - 1))=true
  ·rw[if_pos hc]
   exact⟨Nat.le_refl _,Nat.le_add_right _ _,a,fun _=>hc⟩
  ·rw[if_neg hc]
   have hne:atA p m≠atA p (m - 1):=fun z=>by have:=h.inj (by omega) (by omega) z; omega
   have:=T.tot _ _ (h.atlt (by omega) _) (h.atlt (by omega) _) hne (by simpa using hc)
   obtain⟨b1,b2,b3,b4⟩:=zEF T h f (m+1) (by omega) (by omega) (a.more T h h1 (by omega) this)
   exact⟨by omega,by omega,b3,fun z=>b4 (by omega)⟩
theorem zGD(T:Tot n lt){p:Array Nat}(h:Arr n p):∀ (f m:Nat),1<=m->m+f<=n->Dsc lt p m->∃ m',m<=m'/\m'<=m+f/\Dsc lt p m'/\runT lt (kas_desc f p m 0)=(p,m',0)
 | 0,m,_,_,a=>⟨m,Nat.le_refl _,Nat.le_refl _,a,rfl⟩
 | f+1,m,h1,h2,a=>by
  have e:runT lt (kas_desc (f+1) p m 0)=runT lt (if lt (atA p m) (atA p (m - 1))=true then (if 0 > 0 then kas_desc f (kas_rev p (m - (0+1)) m) (m+1) 0 else kas_desc f p (m+1) 0) else .ask (atA p (m - 1)) (atA p m) fun d=>if d=true then .ret (p,m,0) else kas_desc f p (m+1) (0+1)):=rfl
  rw[e]
  by_cases hc:lt (atA p m) (atA p (m - 1))=true
  ·rw[if_pos hc,if_neg (Nat.lt_irrefl _)]
   obtain⟨m',b1,b2,b3,b4⟩:=zGD T h f (m+1) (by omega) (by omega) (a.more T h h1 (by omega) hc)
   exact⟨m',by omega,by omega,b3,b4⟩
  ·rw[if_neg hc]
   have hne:atA p m≠atA p (m - 1):=fun z=>by have:=h.inj (by omega) (by omega) z; omega
   have:=T.tot _ _ (h.atlt (by omega) _) (h.atlt (by omega) _) hne (by simpa using hc)
   refine⟨m,Nat.le_refl _,Nat.le_add_right _ _,a,?_⟩
   show runT lt (if lt (atA p (m - 1)) (atA p m)=true then _ else _)=_
   rw[if_pos this]; rfl
theorem zIq(T:Tot n lt){p:Array Nat}(h:Arr n p){m:Nat}(h1:1<=m)(h2:m<=n)(a:Dsc lt p m):∃ m' p',runT lt (kas_tail3 m n p)=(m',p')/\1<=m'/\m'<=n/\Asc lt p' m'/\Arr n p':=by
 have hs:=h.size
 have ha:Asc lt (kas_rev p 0 m) m:=fun i j hij hj=>by
  rw[zJP (by omega),zJP (by omega),if_pos (by omega),if_pos hj]
  exact a _ _ (by omega) (by omega)
 obtain⟨b1,b2,b3,_⟩:=zEF T (h.rev 0 m) (n - m) m h1 (by omega) ha
 refine⟨_,kas_rev p 0 m,?_,by omega,by omega,b3,h.rev 0 m⟩
 unfold kas_tail3
 rw[zA9]; rfl
theorem zJR(T:Tot n lt){p:Array Nat}(h:Arr n p)(hn:1<=n):∃ m' p',runT lt (kas_count n p)=(m',p')/\1<=m'/\m'<=n/\Asc lt p' m'/\Arr n p':=by
 obtain⟨b1,b2,b3,b4⟩:=zEF T h (n - 1) 1 (Nat.le_refl _) (by omega) (fun i j hij hj=>by omega)
 unfold kas_count
 rw[zA9]
 generalize runT lt (kas_asc p (n - 1) 1)=m at *
 by_cases e:m=n
 ·rw[if_pos (by simpa using e)]
  exact⟨m,p,rfl,b1,by omega,b3,h⟩
 ·rw[if_neg (by simpa using e)]
  by_cases e1:m > 1
  ·rw[if_pos e1]
   have:=b3 0 (m - 1) (by omega) (by omega)
   refine⟨m,p,?_,b1,by omega,b3,h⟩
   show runT lt (if lt (atA p 0) (atA p (m - 1))=true then _ else _)=_
   rw[if_pos this]; rfl
  ·rw[if_neg e1]
   have em:m=1:=by omega
   subst em
   have hc:=b4 (by omega)
   unfold kas_descPart
   rw[zA9]
   obtain⟨m',c1,c2,c3,c4⟩:=zGD T h (n - 2) 2 (by omega) (by omega) (fun i j hij hj=>by
    have:i=0/\j=1:=by omega
    rw[this.1,this.2]; exact hc)
   rw[show n - (1+1)=n - 2 from rfl,show (1+1:Nat)=2 from rfl,c4,if_neg (by simp)]
   dsimp only
   exact zIq T h (by omega) (by omega) c3
theorem zCp(T:Tot n lt){p:Array Nat}(h:Arr n p){k:Nat}(hk:k < n)(a:Asc lt p k):∀ (f l r:Nat),r<=k->l<=r->r - l<=f->(∀ i,i < l->lt (atA p i) (atA p k)=true)->(∀ i,r<=i->i < k->lt (atA p k) (atA p i)=true) ->
  runT lt (kas_place p k f l r)<=k/\(∀ i,i < runT lt (kas_place p k f l r)->lt (atA p i) (atA p k)=true)/\∀ i,runT lt (kas_place p k f l r)<=i->i < k->lt (atA p k) (atA p i)=true
 | 0,l,r,h1,h2,h3,h4,h5=>⟨by show l<=k; omega,h4,fun i hi hik=>h5 i (by have:l<=i:=hi; omega) hik⟩
 | f+1,l,r,h1,h2,h3,h4,h5=>by
  unfold kas_place
  by_cases hlr:l ≥ r
  ·rw[if_pos hlr]
   exact⟨by show l<=k; omega,h4,fun i hi hik=>h5 i (by have:l<=i:=hi; omega) hik⟩
  ·rw[if_neg hlr]
   have e:runT lt (.ask (p.getD k 0) (p.getD ((l+r) / 2) 0) fun c=>if c=true then kas_place p k f l ((l+r) / 2) else kas_place p k f ((l+r) / 2+1) r)=runT lt (if lt (atA p k) (atA p ((l+r) / 2))=true then kas_place p k f l ((l+r) / 2) else kas_place p k f ((l+r) / 2+1) r):=rfl
   rw[e]
   have lts:=fun i=>h.atlt (show 0 < n by omega) i
   by_cases hc:lt (atA p k) (atA p ((l+r) / 2))=true
   ·rw[if_pos hc]
    refine zCp T h hk a f l ((l+r) / 2) (by omega) (by omega) (by omega) h4 fun i hi hik=>?_
    by_cases ei:i=(l+r) / 2
    ·subst ei; exact hc
    ·exact T.tr _ _ _ (lts _) (lts _) (lts _) hc (a _ _ (by omega) hik)
   ·rw[if_neg hc]
    have hne:atA p k≠atA p ((l+r) / 2):=fun z=>by have:=h.inj hk (by omega) z; omega
    have hc':=T.tot _ _ (lts _) (lts _) hne (by simpa using hc)
    refine zCp T h hk a f ((l+r) / 2+1) r h1 (by omega) (by omega) (fun i hi=>?_) h5
    by_cases ei:i=(l+r) / 2
    ·subst ei; exact hc'
    ·exact T.tr _ _ _ (lts _) (lts _) (lts _) (a _ _ (by omega) (by omega)) hc'
theorem zG0(T:Tot n lt):∀ (f k:Nat) {p:Array Nat},Arr n p->Asc lt p k->k+f=n->Asc lt (runT lt (kas_bin f p k)) n
 | 0,k,p,h,a,e=>by
  rw[Nat.add_zero]at e; subst e; exact a
 | f+1,k,p,h,a,e=>by
  unfold kas_bin
  rw[zA9]
  have hk:k < n:=by omega
  obtain⟨c1,c2,c3⟩:=zCp T h hk a k 0 k (Nat.le_refl _) (Nat.zero_le _) (by omega) (fun i hi=>absurd hi (Nat.not_lt_zero _)) (fun i hi hik=>absurd hik (Nat.not_lt.mpr hi))
  generalize runT lt (kas_place p k k 0 k)=l at *
  refine zG0 T f (k+1) (h.bub k (k - l)) (fun i j hij hj=>?_) (by omega)
  have hs:=h.size
  rw[zEd (by omega) c1,zEd (by omega) c1]
  by_cases ei:i=l
  ·rw[if_pos ei,if_neg (by omega),if_pos (by omega)]
   exact c3 _ (by omega) (by omega)
  ·rw[if_neg ei]
   by_cases ej:j=l
   ·rw[if_pos ej,if_neg (by omega)]
    exact c2 _ (by omega)
   ·rw[if_neg ej]
    by_cases hi2:l < i/\i<=k
    ·rw[if_pos hi2,if_pos (by omega)]
     exact a _ _ (by omega) (by omega)
    ·rw[if_neg hi2]
     by_cases hj2:l < j/\j<=k
     ·rw[if_pos hj2]
      exact a _ _ (by omega) (by omega)
     ·rw[if_neg hj2]
      exact a _ _ hij (by omega)
theorem zKc(T:Tot n lt)(hn:1<=n):Asc lt (runT lt (kas_sort n)) n:=by
 have h0:Arr n (List.toArray (List.range n)):=by show (List.toArray (List.range n)).toList.Perm _; simp
 obtain⟨m,p,e,h1,h2,a,h⟩:=zJR T h0 hn
 unfold kas_sort
 rw[zA9,e]
 dsimp only
 split
 ·rename_i hlt
  rw[show max m 1=m from by omega]
  exact zG0 T _ _ h a (by omega)
 ·rename_i hge
  have:m=n:=by omega
  subst this; exact a
end
end L2
namespace D
open PySem L2
theorem zE7{α:Type}{lt:Nat->Nat->Bool}{d:α}{xs:List α}(T:Tot xs.length lt)(R:α->α->Prop)(hR:∀ i j,i < xs.length->j < xs.length->lt i j=true->R (xs.getD i d) (xs.getD j d)):(sortBy lt d xs).Pairwise R:=by
 unfold sortBy
 split
 ·rename_i h
  match xs,h with
  | [],_=>exact .nil
  | [a],_=>exact List.pairwise_singleton _ _
  | _::_::_,h=>simp at h; omega
 ·rename_i h
  have hA:=zKc T (by omega)
  have hp:Arr xs.length (runT lt (PySem.W.kas_sort xs.length)):=(zBL (n:=xs.length) (by omega)).run lt
  have hs:=hp.size
  refine List.pairwise_map.mpr (List.pairwise_iff_getElem.mpr fun i j hi hj hij=>?_)
  have hi':i < xs.length:=by rw[Array.length_toList,hs]at hi; exact hi
  have hj':j < xs.length:=by rw[Array.length_toList,hs]at hj; exact hj
  have ei:(runT lt (PySem.W.kas_sort xs.length)).toList[i]=atA (runT lt (PySem.W.kas_sort xs.length)) i:=by
   rw[zAz,Array.getElem?_eq_getElem (by omega)]; simp
  have ej:(runT lt (PySem.W.kas_sort xs.length)).toList[j]=atA (runT lt (PySem.W.kas_sort xs.length)) j:=by
   rw[zAz,Array.getElem?_eq_getElem (by omega)]; simp
  rw[ei,ej]
  exact hR _ _ (hp.atlt (by omega) _) (hp.atlt (by omega) _) (hA i j hij hj')
def ltTS:En->S->S->Option S:=fun _ a b=>match a,b with
 | .v s,.v t=>(asTI s).bind fun ns=>(asTI t).map fun ms=>mkB (HT.lexLt ns ms)
 | _,_=>none
section
variable {ι:Type}{K:Fg}{X:ι->Cx}{mg:Str->Option Value}{k:Nat}{Γ:En}
@[simp,simp ↓] theorem zRG{s t:T}:ltTS Γ (.v s) (.v t)=bnd (asTI s) (f:=⟨fun ns=>omp (asTI t) (f:=⟨fun ms=>mkB (HT.lexLt ns ms)⟩)⟩):=rfl
end
def keyI:List Value->Option (List Key)
 | []=>some []
 | .int i _::r=>(keyI r).map fun ks=>.inl i::ks
 | _=>none
theorem zEm:∀ {ks:List Key} {us:List Value},Vals (ks.map kV) us->∀ {js:List Key},keyI us=some js->js=ks
 | [],_,.nil,js,e=>by cases e; rfl
 | .inl m::r,_,.cons r1 r2,js,e=>by
  obtain⟨t,rfl⟩:=r1
  obtain⟨js',e1,rfl⟩:=map_some (show (keyI _).map (fun ks=>Sum.inl m::ks)=some js from e)
  rw[zEm r2 e1]
 | .inr x::r,_,.cons r1 r2,js,e=>by
  obtain⟨t,rfl⟩:=r1
  cases e
def kcC(cs:List (List Key))(o:Obj):Bool:=match o.cls with
 | .type n=>if n="tuple" then (match o.data with
  | .seq its _=>match its.toList with
   | .int i t::r=>match keyI (.int i t::r) with
    | some ks=>cs.any fun c=>decide (c=ks)
    | none=>false
   | [.str x _]=>!(decide (x="yes") || decide (x="no")) || cs.any fun c=>decide (c=[.inr x])
   | _=>true
  | _=>true) else true
 | _=>true
theorem zM4{K:Fg}{cs:List (List Key)}(h:(K.all fun q=>kcC cs q.2)=true):KC K cs:=by
 intro p ks hk
 obtain⟨o,its,n,h1,h2,h3,h4,h5,h6,h7⟩:=hk
 have hm:∀ {l:Fg},l.lookup p=some o->(p,o)∈l:=by
  intro l
  induction l with
  | nil=>intro e; cases e
  | cons x r ih =>
   intro e
   obtain⟨a,b⟩:=x
   rw[List.lookup_cons]at e
   split at e
   ·rename_i hb
    cases e
    rw[eq_of_beq hb]; exact List.mem_cons_self
   ·exact List.mem_cons_of_mem _ (ih e)
 have hz:=List.all_eq_true.mp h _ (hm h1)
 simp only[kcC,h2,h4,if_true]at hz
 cases ks with
 | nil=>cases h7
 | cons k r =>
  cases k with
  | inr x =>
   cases r with
   | cons _ _=>cases h7
   | nil =>
    generalize its.toList=L at h6 hz
    cases h6 with
    | cons r1 r2 =>
     obtain⟨t,rfl⟩:=r1
     cases r2
     have h8:(decide (x="yes") || decide (x="no"))=true:=h7
     dsimp only at hz
     rw[h8]at hz
     obtain⟨c,hc,e2⟩:=List.any_eq_true.mp hz
     rw[← of_decide_eq_true e2]; exact hc
  | inl m =>
   generalize its.toList=L at h6 hz
   cases h6 with
   | cons r1 r2 =>
    obtain⟨t,rfl⟩:=r1
    dsimp only at hz
    split at hz
    ·rename_i ks' e
     obtain⟨c,hc,e2⟩:=List.any_eq_true.mp hz
     have e3:=of_decide_eq_true e2
     have:=zEm (ks:=.inl m::r) (.cons ⟨t,rfl⟩ r2) e
     rw[← this,← e3]; exact hc
    ·cases hz
end D
namespace L2
open PySem PySem.Spec PyProof.Rows
def KdE(K:PySem.W.Frag)(p:Addr)(vs:List (Int×Value)):Prop:=∃ (es:List DictEntry) (ep:Nat),K.lookup p=some ⟨.type "dict",none,.dict es.toArray ep,#[]⟩/\(vs.map (·.1)).Nodup/\Paired (fun (e:DictEntry) (kv:Int×Value)=>(∃ t,e.key=.int kv.1 t)/\e.val=kv.2/\e.hash=(Sum.elim id (fun _=>0) (Sum.inl kv.1:Int ⊕ Unit))) es vs
theorem zOR{P:Program}{w:World}{K:PySem.W.Frag}{p:Addr}{vs:List (Int×Value)}{h:Heap}(hk:KdE K p vs)(hin:∀ o,K.lookup p=some o->h.get? p=some o)(hh:∀ kv∈vs,(mixKind P w).hash (.inl kv.1)=kv.1):h.DictOf (mixKind P w) p (vs.map fun kv=>(.inl kv.1,kv.2)):=by
 obtain⟨es,ep,h1,h2,h3⟩:=hk
 refine⟨_,es.toArray,ep,hin _ h1,⟨rfl,rfl,rfl⟩,rfl,?_,?_,?_⟩
 ·intro e he
  have he':e∈es:=by simpa using he
  have gen:∀ {es:List DictEntry} {vs:List (Int×Value)},Paired (fun (e:DictEntry) (kv:Int×Value)=>(∃ t,e.key=.int kv.1 t)/\e.val=kv.2/\e.hash=(Sum.elim id (fun _=>0) (Sum.inl kv.1:Int ⊕ Unit))) es vs->(∀ kv∈vs,(mixKind P w).hash (.inl kv.1)=kv.1)->∀ e∈es,∃ k,(mixKind P w).is k e.key=true/\e.hash=(mixKind P w).hash k:=by
   intro es vs q
   induction q with
   | nil=>intro _ e he; exact nomatch he
   | @cons a b es vs hab _ ih =>
    intro hh e he
    rcases List.mem_cons.mp he with z | z
    ·subst z
     obtain⟨⟨t,e1⟩,_,e3⟩:=hab
     exact⟨.inl b.1,by rw[e1]; exact zBw P w _ _,by rw[e3,hh b List.mem_cons_self]; rfl⟩
    ·exact ih (fun kv hkv=>hh kv (List.mem_cons_of_mem _ hkv)) e z
  exact gen h3 hh e he'
 ·show Pairs (mixKind P w) es.toArray.toList _
  rw[List.toList_toArray]
  clear h1 h2 hh hin
  induction h3 with
  | nil=>exact .nil
  | @cons a b es vs hab _ ih =>
   obtain⟨⟨t,e1⟩,e2,_⟩:=hab
   exact .cons (by rw[e1]; exact zBw P w _ _) e2 ih
 ·rw[List.map_map]
  have:((fun (x:Key×Value)=>x.1) ∘ fun (kv:Int×Value)=>((Sum.inl kv.1:Key),kv.2))=(fun i:Int=>(Sum.inl i:Key)) ∘ (fun kv:Int×Value=>kv.1):=rfl
  rw[this,← List.map_map]
  exact List.Pairwise.map _ (fun a b hab e=>hab (Sum.inl.inj e)) h2
def tKd(vs:List (Int×V))(ti:TE):TE:=fun σ H Q=>ti σ H fun y H1=>∃ n v,y=.int n/\(vs.find? fun kv=>decide (kv.1=n))=some (n,v)/\Q v H1
theorem zOQ{X:Cx}{o i:Expr}{ti:TE}{pos:Pos}{p:Addr}{vs:List (Int×V)}{ws:List (Int×Value)}(ho:PE X o (tC (.ref p)))(hi:PE X i ti)(hs:NoSl i)(hd:KdE X.K p ws)(hr:Paired (fun (a:Int×V) (b:Int×Value)=>a.1=b.1/\RelV a.2 b.2) vs ws)(hh:∀ kv∈ws,(mixKind X.prog X.w).hash (.inl kv.1)=kv.1):PE X (.Subscript o i pos) (tKd vs ti):=by
 intro pins s σ H Q I h
 refine zG9 PySem.F.slot_dict_getitem.lookup hs (thn (ho pins s σ H (fun x H1=>x=.ref p/\ti σ H1 fun y H2=>∃ n v,y=.int n/\(vs.find? fun kv=>decide (kv.1=n))=some (n,v)/\Q v H2) I ⟨rfl,h⟩) fun u s1 ⟨x,H1,I1,rx,ex,q1⟩=>thn (hi pins s1 σ H1 _ I1 q1) fun iv s2 ⟨y,H2,I2,ry,n,v,ey,hf,q2⟩=>?_)
 subst ex ey
 obtain rfl:u=Value.ref p:=rx
 have dd:=zOR (P:=X.prog) (w:=X.w) (h:=s2.heap) hd (fun o e=>I2.kIn p o e) hh
 have val:∀ {vs:List (Int×V)} {ws:List (Int×Value)},Paired (fun (a:Int×V) (b:Int×Value)=>a.1=b.1/\RelV a.2 b.2) vs ws->(vs.find? fun kv=>decide (kv.1=n))=some (n,v)->∃ u,valueAt (ws.map fun kv=>((Sum.inl kv.1:Key),kv.2)) (Sum.inl n)=some u/\RelV v u:=by
  intro vs ws q
  induction q with
  | nil=>intro e; cases e
  | @cons a b vs ws hab _ ih =>
   intro e
   rw[List.find?_cons]at e
   by_cases h1:a.1=n
   ·rw[decide_eq_true h1]at e
    have:a=(n,v):=by simpa using e
    subst this
    refine⟨b.2,?_,hab.2⟩
    have hb:b.1=n:=hab.1.symm
    simp[valueAt,hb]
   ·rw[decide_eq_false h1]at e
    obtain⟨u,e1,r1⟩:=ih e
    refine⟨u,?_,r1⟩
    have hb:¬ b.1=n:=fun z=>h1 (hab.1.trans z)
    rw[← e1]
    simp[valueAt,hb]
 obtain⟨u,hu,ru⟩:=val hr hf
 refine⟨?_,wpAny_getItem_of (k:=.inl n) (zDc (k:=.inl n) ry) dd.mapOf hu ⟨v,H2,I2.tok _,ru,q2⟩⟩
 exact dd.typeIs
end L2
namespace D
open PySem L2
def dKd(tb:List (Int×T))(fi:DE):DE:=fun Γ=>(fi Γ).bind fun p=>match p.1 with
 | .v (.a (.int n))=>(tb.find? fun kv=>decide (kv.1=n)).map fun kv=>(.v kv.2,p.2)
 | _=>none
def KDV(K:Fg)(mg:Str->Option Value)(x:Str)(tb:List (Int×T)):Prop:=∃ (p:Addr) (vs:List (Int×V)) (ws:List (Int×Value)),mg x=some (.ref p)/\KdE K p ws/\Paired (fun (a:Int×V) (b:Int×Value)=>a.1=b.1/\RelV a.2 b.2) vs ws/\(∀ (P:Program) (w:World),∀ kv∈ws,(mixKind P w).hash (.inl kv.1)=kv.1)/\∀ H:Hp,Paired (fun (a:Int×V) (b:Int×T)=>a.1=b.1/\Im K H a.2 b.2) vs tb
theorem zNk{K:Fg}{vs:List (Int×V)}{tb:List (Int×T)}{ti:TE}{fi:DE}(hi:SimE K ti fi)(h:∀ H:Hp,Paired (fun (a:Int×V) (b:Int×T)=>a.1=b.1/\Im K H a.2 b.2) vs tb):SimE K (tKd vs ti) (dKd tb fi):=by
 intro C w Γ σ H s Γ' Q R e k
 obtain⟨⟨s1,G1⟩,e1,e⟩:=bind_some e
 dsimp only at e
 split at e
 ·rename_i n
  obtain⟨kv,e2,e⟩:=map_some e
  cases e
  refine hi C w Γ σ H _ _ _ R e1 fun v H1 R1 ev1 o1 n1=>?_
  have o1':Im K H1 v (.a (.int n)):=o1
  have hv:v=.int n:=o1'.inva
  subst hv
  have go:∀ {vs:List (Int×V)} {tb:List (Int×T)},Paired (fun (a:Int×V) (b:Int×T)=>a.1=b.1/\Im K H1 a.2 b.2) vs tb->(tb.find? fun kv=>decide (kv.1=n))=some kv->∃ u,(vs.find? fun kv=>decide (kv.1=n))=some (n,u)/\Im K H1 u kv.2:=by
   intro vs tb q
   induction q with
   | nil=>intro e; cases e
   | @cons a b vs tb hab _ ih =>
    intro e
    rw[List.find?_cons]at e ⊢
    by_cases h1:b.1=n
    ·rw[decide_eq_true h1]at e
     have:b=kv:=by simpa using e
     subst this
     have ha:a.1=n:=hab.1.trans h1
     rw[decide_eq_true ha]
     exact⟨a.2,by rw[← ha],hab.2⟩
    ·rw[decide_eq_false h1]at e
     have ha:¬ a.1=n:=fun z=>h1 (hab.1.symm.trans z)
     rw[decide_eq_false ha]
     exact ih e
  obtain⟨u,hu,iu⟩:=go (h H1) e2
  exact⟨n,u,rfl,hu,k _ H1 R1 ev1 iu trivial⟩
 ·cases e
theorem zM5{K:Fg}{mg:Str->Option Value}{x:Str}{p p1 p2:Addr}{n1 n2 ep:Nat}{t1 t2:Tok}{i1 i2:List Value}{s1 s2:Array (Option Value)}(k1 k2:Int)(ns1 ns2:List Int)(hk:k1≠k2)(h1:mg x=some (.ref p))(h2:K.lookup p=some ⟨.type "dict",none,.dict [⟨k1,.int k1 t1,.ref p1⟩,⟨k2,.int k2 t2,.ref p2⟩].toArray ep,#[]⟩)
  (h3:K.lookup p1=some ⟨.type "tuple",none,.seq i1.toArray n1,s1⟩) (h4:K.lookup p2=some ⟨.type "tuple",none,.seq i2.toArray n2,s2⟩) (v1:Vals (ns1.map V.int) i1) (v2:Vals (ns2.map V.int) i2) (l1:i1.length<=sizeLine) (l2:i2.length<=sizeLine) (hh:∀ (P:Program) (w:World),(mixKind P w).hash (.inl k1)=k1/\(mixKind P w).hash (.inl k2)=k2) (c1:cOk (ns1.map V.int)=true:=by rfl) (c2:cOk (ns2.map V.int)=true:=by rfl) :
  KDV K mg x [(k1,.t ((ns1.map V.int).map T.a)),(k2,.t ((ns2.map V.int).map T.a))] :=
 ⟨p,[(k1,.ref p1),(k2,.ref p2)],[(k1,.ref p1),(k2,.ref p2)],h1,⟨_,ep,h2,by simp[hk],.cons ⟨⟨t1,rfl⟩,rfl,rfl⟩ (.cons ⟨⟨t2,rfl⟩,rfl,rfl⟩ .nil)⟩,.cons ⟨rfl,rfl⟩ (.cons ⟨rfl,rfl⟩ .nil),fun P w kv hkv=>by
  rcases List.mem_cons.mp hkv with z | z
  ·subst z; exact (hh P w).1
  ·have:=List.mem_singleton.mp z; subst this; exact (hh P w).2,
  fun H=>.cons ⟨rfl,by unfold Im; exact⟨p1,ns1.map V.int,rfl,.inr ⟨_,i1.toArray,n1,h3,rfl,rfl,rfl,by simpa using l1,by simpa using v1,c1⟩,Ims.atoms _⟩⟩ (.cons ⟨rfl,by unfold Im; exact⟨p2,ns2.map V.int,rfl,.inr ⟨_,i2.toArray,n2,h4,rfl,rfl,rfl,by simpa using l2,by simpa using v2,c2⟩,Ims.atoms _⟩⟩ .nil)⟩
example (P:Program) (w:World):(mixKind P w).hash (.inl 1)=1/\(mixKind P w).hash (.inl 2)=2:=⟨by rfl,by rfl⟩
section
variable {ι:Type}{K:Fg}{X:ι->Cx}{mg:Str->Option Value}{k:Nat}{pos pos0:Pos}{x:Str}{i:Expr}{fi:DE}{Γ:En}
theorem zPB(tb:List (Int×T))(M:Fm K mg k X)(c:KDV K mg x tb)(hi:EX K X i fi)(hs:NoSl i:=by intro _ _; rfl)(hg:∀ j,Gl (X j) x:=by intro _; rfl)(hd:(x == ("__debug__":Str))=false:=by decide):EX K X (.Subscript (.Name x pos0) i pos) (dKd tb fi) :=
 let ⟨p,vs,ws,h1,h2,h3,h4,h5⟩:=c
 let ⟨t,q,u⟩:=hi
 ⟨tKd vs t,fun j=>zOQ (p:=p) (ws:=ws) (zEI (hg j) (by rw[M.mg]; exact h1) rfl hd) (q j) hs (by rw[M.K]; exact h2) h3 (h4 _ _),zNk u h5⟩
@[simp] theorem zRU{tb:List (Int×T)}:dKd tb fi Γ=(fi Γ).bind fun p=>match p.1 with
 | .v (.a (.int n))=>(tb.find? fun kv=>decide (kv.1=n)).map fun kv=>(.v kv.2,p.2)
 | _=>none:=(rfl)
end
end D
namespace L2
open PySem PySem.Spec PyProof.Rows PySem.W
structure Kds(prog:Program)(w:World)(T:String)(r d:Addr)(n:Nat)(P:Nat->Value->Prop)(St:Nat->Heap->Prop):Prop where
 type:∀ s:Shared,St 0 s.heap->s.TypeIs (.ref r) T
 there:∀ h:Heap,St 0 h->r < h.objs.size/\d < h.objs.size
 notList:(Value.type T == Value.type "list")=false
 notTuple:(Value.type T == Value.type "tuple")=false
 hint:∀ (A:Around) (E:Value->Shared->Prop) (s:Shared) (Q:Bool->Shared->Prop),St 0 s.heap->(∀ b tk,Q b { s with toks:=tk })->wpAny (model prog w) A (Builtin.List.listLengthHint (.ref r)) Q E s
 iter:∀ (A:Around) (E:Value->Shared->Prop) (s:Shared) (Q:Value->Shared->Prop),St 0 s.heap->Q (.ref r) s->wpAny (model prog w) A (pyIter (.ref r)) Q E s
 walks:∀ (A:Around),A.handled=none->Walks prog w A r [r,d] [r] n P St
section
variable {prog:Program}{w:World}{A:Around}{E:Value->Shared->Prop}{s:Shared}{T:String}{r d:Addr}{n:Nat}{P:Nat->Value->Prop}{St:Nat->Heap->Prop}
theorem zH7{R:Result->Shared->Prop}(K:Kds prog w T r d n P St)(hh:A.handled=none)(hok:St 0 s.heap)(S:Addr)(hSr:S≠r)(hSd:S≠d)(res:Value)(c₀:Nat)(hS:s.heap.get? S=some { cls:=.type "list",data:=.seq #[] c₀ })
  (hR:∀ h' tk acc' c',(∀ b o,b≠S->b≠r->s.heap.get? b=some o->h'.get? b=some o)->h'.get? S=some { cls:=.type "list",dict:=none,data:=.seq acc' c',slots:=#[] }->ItemsOf P acc' n->R (.ok (.ret res)) { s with heap:=h',toks:=tk }) (hn:n<=sizeLine) :
  wpAny (model prog w) A.in1 (Builtin.List.listExtendWith (.ref S) (.ref r) res)
   (fun fin s'=>match fin with | .done f=>R (.ok f) s' | .again c'=>c'.quiet=true/\codeAny (model prog w) A c' R s') (fun e s'=>R (.error e) s') s:=by
 have hSf:S∉[r,d]:=by simp only[List.mem_cons,List.not_mem_nil,or_false,not_or]; exact⟨hSr,hSd⟩
 have W:=K.walks A.in1 hh
 have key:∀ (h:Heap) (c₁ tk:Nat),St 0 h->(∀ b o,b≠S->b≠r->s.heap.get? b=some o->h.get? b=some o) ->
   h.get? S=some { cls:=.type "list",data:=.seq #[] c₁ }->codeAny (model prog w) A (.builtin "list.extend.loop" ⟨[.ref S,.ref r,res],[]⟩) R { s with heap:=h,toks:=tk }:=by
  intro h c₁ tk hst hk hS₁
  refine codeAny_extend_loopS W.toS hn S hSf res n 0 _ #[] c₁ rfl (Nat.zero_le _) hst hS₁ (ItemsOf.nil _) fun s' acc' c' hm hS' hacc=>?_
  rw[Moved.eq_with hm]
  refine hR s'.heap s'.toks acc' c' (fun b o hb hb2 e=>hm.heap b o (fun hmem=>?_) (hk b o hb hb2 e)) hS' hacc
  rcases List.mem_cons.mp hmem with e' | hmem
  ·exact hb e'
  ·exact hb2 (List.mem_singleton.mp hmem)
 unfold Builtin.List.listExtendWith
 refine wpAny_bind (wpAny_typeOf (T:=T) (K.type s hok) ?_)
 have h1:Builtin.List.listSameRef (.ref S) (.ref r)=false:=by simp[Builtin.List.listSameRef,hSr]
 simp only[h1,K.notList,K.notTuple,Bool.or_false,Bool.false_eq_true,if_false]
 refine wpAny_bind (K.iter _ _ _ _ hok ?_)
 refine wpAny_bind (wpAny_holding (K.hint _ _ _ _ hok fun b tk=>?_))
 refine wpAny_ite_split (fun _=>?_) (fun _=>wpAny_pure ⟨plainId_quiet PySem.F.plain_extend_loop _,key _ c₀ _ hok (fun b o _ _ e=>e) hS⟩)
 refine wpAny_bind (wpAny_rule ?_)
 refine wpAny_bind ?_
 show wpAny _ _ (updateSeq S (·.push .none) >>= fun _=>updateSeq S (·.pop)) _ _ _
 refine wpAny_bind (wpAny_updateSeq hS rfl ?_)
 have hS₂:=Heap.get?_update_self (Obj.mapSeq (·.push Value.none)) hS rfl
 refine wpAny_updateSeq (hz:=by seq_fits) hS₂ rfl ?_
 have hS₃:=Heap.get?_update_self (Obj.mapSeq (·.pop)) hS₂ rfl
 refine wpAny_pure ⟨plainId_quiet PySem.F.plain_extend_loop _,key _ _ _ ?_ (fun b o hb _ e=>?_) hS₃⟩
 ·refine W.frame 0 _ _ hok fun b hb o e=>?_
  have hbS:b≠S:=fun h=>hSf (h ▸ hb)
  exact (Heap.get?_update_other _ _ (Ne.symm hbS)).trans ((Heap.get?_update_other _ _ (Ne.symm hbS)).trans e)
 ·exact (Heap.get?_update_other _ _ (Ne.symm hb)).trans ((Heap.get?_update_other _ _ (Ne.symm hb)).trans e)
theorem zLF{R:Result->Shared->Prop}(K:Kds prog w T r d n P St)(hh:A.handled=none)(hok:St 0 s.heap)(S:Addr)(hSr:S≠r)(hSd:S≠d)(hS:s.heap.get? S=some { cls:=.type "list",data:=.seq #[] })
  (hR:∀ h' tk acc' c',(∀ b o,b≠S->b≠r->s.heap.get? b=some o->h'.get? b=some o)->h'.get? S=some { cls:=.type "list",dict:=none,data:=.seq acc' c',slots:=#[] }->ItemsOf P acc' n->R (.ok (.ret .none)) { s with heap:=h',toks:=tk }) (hn:n<=sizeLine) :
  wpAny (model prog w) A.in1 (Builtin.«list.__init__» ⟨[.ref S,.ref r],[]⟩)
   (fun fin s'=>match fin with | .done f=>R (.ok f) s' | .again c'=>c'.quiet=true/\codeAny (model prog w) A c' R s') (fun e s'=>R (.error e) s') s:=by
 show wpAny _ _ (do let old ← Builtin.List.listItems (.ref S); Builtin.List.listUpdate (.ref S) (fun _=>#[]); letGo old.toList.reverse; Builtin.List.listExtendWith (.ref S) (.ref r) .none) _ _ s
 refine wpAny_bind ?_
 unfold Builtin.List.listItems
 refine wpAny_bind (wpAny_seqItems hS rfl (wpAny_pure ?_))
 show wpAny _ _ (updateSeq S (fun _=>#[]) >>= fun _=>letGo (#[]:Array Value).toList.reverse >>= fun _=>Builtin.List.listExtendWith (.ref S) (.ref r) .none) _ _ s
 refine wpAny_bind (wpAny_updateSeq hS rfl ?_)
 have hS₂:=Heap.get?_update_self (Obj.mapSeq (fun _=>(#[]:Array Value))) hS rfl
 have oth:∀ b o,b≠S->s.heap.get? b=some o->(s.heap.update S (Obj.mapSeq (fun _=>(#[]:Array Value)))).get? b=some o :=
  fun b o hb e=>(Heap.get?_update_other _ _ (Ne.symm hb)).trans e
 refine wpAny_bind (wpAny_letGo ?_)
 refine zH7 K hh ((K.walks A hh).frame 0 _ _ hok fun b hb o e=>oth b o (fun z=>by
  subst z
  simp only[List.mem_cons,List.not_mem_nil,or_false]at hb
  rcases hb with q | q
  ·exact hSr q
  ·exact hSd q) e) S hSr hSd .none _ hS₂ (fun h' tk acc' c' hk hS' hacc=>?_) hn
 exact hR h' tk acc' c' (fun b o hb hb2 e=>hk b o hb hb2 (oth b o hb e)) hS' hacc
theorem zF3{Q:Value->Shared->Prop}(K:Kds prog w T r d n P St)(hh:A.handled=none)(hok:St 0 s.heap)(hn:n<=sizeLine)
  (hQ:∀ h' tk acc' c',(∀ b o,b≠r->s.heap.get? b=some o->h'.get? b=some o)->h'.get? s.heap.objs.size=some { cls:=.type "list",dict:=none,data:=.seq acc' c',slots:=#[] }->ItemsOf P acc' n->Q (.ref s.heap.objs.size) { s with heap:=h',toks:=tk }) :
  wpAny (model prog w) A (call (.type "list") [.ref r]) Q E s:=by
 refine callType_codes (Q₁:=fun obj s₁=>obj=.ref s.heap.objs.size/\s₁={ s with heap:=s.heap.push { cls:=.type "list",data:=.seq #[] } }) PySem.F.called_list (PySem.F.typeCall_list_1 _) PySem.F.entry_list_init
  (code_list_new _ ⟨rfl,rfl⟩) fun obj s₁ h₁=>?_
 obtain⟨rfl,rfl⟩:=h₁
 have hS:(s.heap.push { cls:=.type "list",data:=.seq #[] }).get? s.heap.objs.size=some { cls:=.type "list",data:=.seq #[] }:=Heap.get?_push_size _ rfl
 have hlt:=K.there _ hok
 refine⟨⟨_,hS,rfl⟩,PySem.F.args_list_init_2 _ _,zLF (A:=A.in1) K hh ((K.walks A hh).frame 0 _ _ hok fun b _ o e=>Heap.get?_push_of_some _ e) _ (Nat.ne_of_gt hlt.1) (Nat.ne_of_gt hlt.2) hS (fun h' tk acc' c' hk hS' hacc=>?_) hn⟩
 exact⟨rfl,hQ h' tk acc' c' (fun b o hb e=>hk b o (Nat.ne_of_lt (Heap.lt_size e)) hb (Heap.get?_push_of_some _ e)) hS' hacc⟩
end
section
variable {prog:Program}{w:World}{A:Around}{E:Value->Shared->Prop}{s:Shared}
theorem zK8{r:Addr}{Q:Bool->Shared->Prop}(hT:s.TypeIs (.ref r) "list_reverseiterator")(h:Q false s):wpAny (model prog w) A (Builtin.List.listLengthHint (.ref r)) Q E s:=by
 unfold Builtin.List.listLengthHint
 refine wpAny_bind (wpAny_specialOf (r:=none) hT (by rw[typeLookup_type,builtinLookup_eq_fast]; kernel_rfl) ?_)
 wp_delta
 refine wpAny_bind (wpAny_specialOf (r:=some (.builtin "list_reverseiterator.__length_hint__")) hT (by rw[typeLookup_type,builtinLookup_eq_fast]; kernel_rfl) ?_)
 generalize hid:("list_reverseiterator.__length_hint__":String)=id0
 wp_delta
 rw[show splitId id0=some ("list_reverseiterator","__length_hint__") from by subst hid; decide +kernel]
 subst hid
 refine wpAny_bind (wpAny_isInstance (T:="list_reverseiterator") (b:=true) hT (by rw[isSubtype_type]; kernel_rfl) ?_)
 refine wpAny_ite_split (fun hab=>absurd hab (by decide)) (fun _=>?_)
 refine wpAny_ite_split (fun _=>?_) (fun hab=>absurd (by decide +kernel) hab)
 refine wpAny_ite_split (fun hab=>absurd hab (by decide +kernel)) (fun _=>?_)
 exact wpAny_pure h
theorem zGw:Slot "reversed" "__length_hint__" "reversed.__length_hint__" :=
 .of (owner:="reversed") (n:="__length_hint__") (by rw[typeLookup_type,builtinLookup_eq_fast]; kernel_rfl) (by decide +kernel) (by decide +kernel) (by decide +kernel)
  (by first | exact .inl (by decide +kernel) | exact .inr (by decide +kernel)) (by rw[isSubtype_type]; kernel_rfl)
theorem zE6:entryFor table "reversed.__length_hint__"=some Builtin.«reversed.__length_hint__»:=entryFor_of_tree (by kernel_rfl)
theorem zFf(a:Value):argsOk "reversed.__length_hint__" ⟨[a],[]⟩:=by
 unfold argsOk; rw[signature?_of (id:="reversed.__length_hint__") (n:=['_','_','t','n','i','h','_','h','t','g','n','e','l','_','_']) (o:=['d','e','s','r','e','v','e','r']) (by kernel_rfl) zDJ]; kernel_rfl
theorem zMT{r l:Addr}{i:Nat}{xs:Array Value}{Q:Bool->Shared->Prop}(he:IsRv s.heap r l ((i:Int) - 1))(hl:s.heap.IsTuple l xs)(hz:xs.size<=sizeLine)(hi:i<=xs.size)(h:∀ b tk,Q b { s with toks:=tk }):wpAny (model prog w) A (Builtin.List.listLengthHint (.ref r)) Q E s:=by
 have hT:s.TypeIs (.ref r) "reversed":=⟨_,he,rfl⟩
 unfold Builtin.List.listLengthHint
 refine wpAny_bind (wpAny_specialOf (r:=none) hT (by rw[typeLookup_type,builtinLookup_eq_fast]; kernel_rfl) ?_)
 wp_delta
 refine wpAny_bind (wpAny_specialOf (r:=some (.builtin "reversed.__length_hint__")) hT (by rw[typeLookup_type,builtinLookup_eq_fast]; kernel_rfl) ?_)
 generalize hid:("reversed.__length_hint__":String)=id0
 wp_delta
 rw[show splitId id0=some ("reversed","__length_hint__") from by subst hid; decide +kernel]
 subst hid
 refine wpAny_bind (wpAny_isInstance (T:="reversed") (b:=true) hT (by rw[isSubtype_type]; kernel_rfl) ?_)
 refine wpAny_ite_split (fun hab=>absurd hab (by decide)) (fun _=>?_)
 refine wpAny_ite_split (fun hab=>absurd hab (by decide +kernel)) (fun _=>?_)
 refine wpAny_bind (wpAny_rule ?_)
 refine wpAny_bind (wpAny_of_eq (zGw.bind _) ?_)
 try dsimp only
 refine wpAny_bind (wpAny_attempt (wpAny_call_entry zGw hT zE6 ?_ (zFf _)))
 unfold Builtin.«reversed.__length_hint__»
 refine wpAny_bind (wpAny_of_eq (a:=Value.ref r) rfl ?_)
 try dsimp only
 refine wpAny_bind (wpAny_field he rfl (x:=.ref l) rfl ?_)
 have h62:(sizeLine:Int) < 2 ^ 62:=by decide
 refine wpAny_ite_split (fun hab=>absurd (show false=true from hab) (by decide)) (fun _=>?_)
 refine wpAny_bind (len_tuple hl (by have:=hz; rw[sizeLine_eq]at this; omega) ?_)
 refine wpAny_bind (wpAny_of_eq (a:=some (xs.size:Int)) (by first | rfl | kernel_rfl) ?_)
 try dsimp only
 refine wpAny_bind (wpAny_field he rfl (x:=rawInt ((i:Int) - 1)) rfl ?_)
 try dsimp only[rawInt]
 refine wpAny_ite_split (fun hab=>?_) (fun _=>?_)
 ·exact absurd hab (by omega)
 ·unfold retInt
  refine wpAny_bind (wpAny_mkInt ?_)
  refine wpAny_pure ⟨_,rfl,?_⟩
  refine wpAny_bind (wpAny_of_eq (a:=some ((i:Int) - 1+1)) (by first | rfl | kernel_rfl) ?_)
  try dsimp only
  have e1:(i:Int) - 1+1=i:=by omega
  rw[e1]
  have e2:Builtin.List.listFitsIndex (i:Int)=true:=by
   unfold Builtin.List.listFitsIndex
   rw[Bool.and_eq_true]
   exact⟨decide_eq_true (by omega),decide_eq_true (by omega)⟩
  have e3:Builtin.List.listTooLong (i:Int).toNat=false:=by
   unfold Builtin.List.listTooLong
   exact decide_eq_false (by rw[Int.toNat_natCast]; omega)
  rw[if_neg (by rw[e2]; decide),if_neg (by omega),if_neg (by rw[e3]; decide)]
  exact wpAny_pure (h _ _)
end
section
variable {prog:Program}{w:World}{r l:Addr}
theorem zKb(hne:l≠r)(items:Array Value):Kds prog w "list_reverseiterator" r l items.size (fun i v=>items[items.size - 1 - i]?=some v) (fun i h=>i<=items.size/\h.IsRevIter r l ((items.size:Int) - 1 - (i:Int))/\h.IsList l items) where
 type:=fun s st=>st.2.1.typeIs
 there:=fun h st=>by
  obtain⟨_,⟨o,e,_⟩,⟨o2,e2,_⟩⟩:=st
  exact⟨Heap.lt_size e,Heap.lt_size e2⟩
 notList:=by decide
 notTuple:=by decide
 hint:=fun A E s Q st h=>zK8 st.2.1.typeIs (h false s.toks)
 iter:=fun A E s Q st h=>wpAny_pyIter_revIter st.2.1 h
 walks:=fun A hh=>Walks.listRev hh r l hne items
theorem zMm(hne:l≠r)(items:Array Value)(hz:items.size<=sizeLine):Kds prog w "reversed" r l items.size (fun i v=>items[items.size - 1 - i]?=some v) (fun i h=>i<=items.size/\IsRv h r l ((items.size:Int) - 1 - (i:Int))/\h.IsTuple l items) where
 type:=fun s st=>⟨_,st.2.1,rfl⟩
 there:=fun h st=>by
  obtain⟨_,e,⟨o2,e2,_⟩⟩:=st
  exact⟨Heap.lt_size e,Heap.lt_size e2⟩
 notList:=by decide
 notTuple:=by decide
 hint:=fun A E s Q st h=>by
  have:=st.2.1
  simp only[Int.natCast_zero,Int.sub_zero]at this
  exact zMT this st.2.2 hz (Nat.le_refl _) h
 iter:=fun A E s Q st h=>zEW st.2.1 h
 walks:=fun A hh=>{
  sub:=fun b hb=>by simp at hb; simp[hb]
  frame:=fun i h h' x hk=>⟨x.1,hk r (by simp) _ x.2.1,by
   obtain⟨o,e,q⟩:=x.2.2
   exact⟨o,hk l (by simp) _ e,q⟩⟩
  item:=fun i s Q E hi x hQ=>by
   have e:(items.size:Int) - 1 - (i:Int)=((items.size - 1 - i:Nat):Int):=by omega
   have hit:=x.2.1
   rw[e]at hit
   have hx:items[items.size - 1 - i]?=some (items[items.size - 1 - i]'(by omega)):=Array.getElem?_eq_getElem (by omega)
   refine zLt hit x.2.2 hz hx fun h' tk hit' hs'=>?_
   have e2:((items.size - 1 - i:Nat):Int) - 1=(items.size:Int) - 1 - ((i+1:Nat):Int):=by omega
   rw[e2]at hit'
   refine hQ _ h' tk hx ⟨hi,hit',?_⟩ fun b o hb eo=>hs'.extBut b o (fun h=>hb (by simp[h])) eo
   obtain⟨o,eo,q⟩:=x.2.2
   exact⟨o,(hs'.2 l hne).trans eo,q⟩
  done:=fun s Q E x hQ=>by
   have e:(items.size:Int) - 1 - (items.size:Int)=-1:=by omega
   have hit:=x.2.1
   rw[e]at hit
   exact zNV hh hit fun h' he'=>hQ h' s.toks fun b o hb eo=>he' b o (fun h=>hb (by simp[h])) eo
  self:=fun _ _ _ _ x hQ=>zEW x.2.1 hQ }
end
theorem zEu{items:List Value}{acc:Array Value}(h:ItemsOf (fun i v=>items.toArray[items.toArray.size - 1 - i]?=some v) acc items.toArray.size):acc.toList=items.reverse:=by
 have h1:acc.size=items.length:=by have:=h.1; simpa using this
 refine List.ext_getElem? fun i=>?_
 rcases Nat.lt_or_ge i items.length with hi | hi
 ·have hi':i < acc.size:=by omega
  have:=h.2 i acc[i] (by simp[hi'])
  rw[List.getElem?_reverse hi]
  simp only[List.size_toArray,List.getElem?_toArray]at this
  rw[this]
  simp[hi']
 ·rw[List.getElem?_eq_none (by simpa using by omega),List.getElem?_eq_none (by simpa using hi)]
theorem Vals.rev:∀ {xs:List V} {us:List Value},Vals xs us->Vals xs.reverse us.reverse
 | _,_,.nil=>.nil
 | _,_,.cons r t=>by
  simp only[List.reverse_cons]
  exact (Vals.rev t).append (.cons r .nil)
section
variable {X:Cx}
def tLRev(K:PySem.W.Frag)(ta:TA):TE:=fun σ H Q=>ta σ H fun vs H1=>∃ (a:Addr) (xs:List V),vs=[.ref a]/\(SqL K H1 a xs\/SqT K H1 a xs)/\∀ l,H1 l=none->Q (.ref l) (upd H1 l (.lst xs.reverse))
theorem zL4{e1:Expr}{ta:TA}{p0 p1 pos0 pos1:Pos}(hr:X.A.handled=none)(hg0:Gl X "list")(hm0:X.mg "list"=none)(hg1:Gl X "reversed")(hm1:X.mg "reversed"=none)(ha:PA X [e1] ta)
  (hs:starEach [e1] X.env=[(false,eval e1 X.env)]:=by rfl)
  (hs3:starEach [.Call (.Name "reversed" p1) [e1] [] pos1] X.env=[(false,eval (.Call (.Name "reversed" p1) [e1] [] pos1) X.env)]:=by rfl) :
  PE X (.Call (.Name "list" p0) [.Call (.Name "reversed" p1) [e1] [] pos1] [] pos0) (tLRev X.K ta):=by
 intro pins s σ H Q I h
 refine Call_ (zA4 I hg0 hm0 PyProof.Rows.boot_list (PyProof.Rows.callWith_type1 ?_ hs3 rfl))
 rw[hs3]
 refine Calls.spliced_cons ?_
 refine Call_ (zA4 I hg1 hm1 boot_reversed (PyProof.Rows.callWith_type1 (thn (ha pos1 pins s σ H _ I h) fun us s1 ⟨vs,H1,I1,r1,q1⟩=>?_) (by rw[hs]; rfl) (by rfl)))
 obtain⟨a,xs,e,hq,q⟩:=q1
 subst e
 obtain⟨u1,e,r⟩:=r1.one
 subst e
 cases r
 have fin:∀ (s2:Shared) (its:List Value) (h':Heap) (tk:Nat) (acc:Array Value) (c:Nat),s2.heap.objs.size=s1.heap.objs.size+1->s2={ s1 with heap:=s2.heap,toks:=s2.toks }->(∀ b o,s1.heap.get? b=some o->s2.heap.get? b=some o)->Vals xs its->xs.length<=sizeLine ->
   (∀ b o,b≠s1.heap.objs.size->s2.heap.get? b=some o->h'.get? b=some o)->h'.get? s2.heap.objs.size=some { cls:=.type "list",dict:=none,data:=.seq acc c,slots:=#[] }->acc.toList=its.reverse ->
   EP X pins σ Q (.ref s2.heap.objs.size) { s2 with heap:=h',toks:=tk }:=fun s2 its h' tk acc c hz he k12 rv hl kp hS ea=>by
  have kk:∀ b o,s1.heap.get? b=some o->h'.get? b=some o:=fun b o e=>kp b o (Nat.ne_of_lt (Heap.lt_size e)) (k12 b o e)
  have hf:H1 s2.heap.objs.size=none:=I1.hok.fresh (by omega)
  refine⟨.ref s2.heap.objs.size,upd H1 s2.heap.objs.size (.lst xs.reverse),?_,rfl,q _ hf⟩
  rw[he]
  refine I1.laid (t':=tk) kk (by show s1.heap.objs.size<=s2.heap.objs.size; omega) ⟨by simpa using hl,its.reverse,c,rv.rev,?_⟩
  rw[← ea,Array.toArray_toList]
  exact hS
 rcases hq with h1 | h1
 ·obtain⟨its,rv,pl,z⟩:=I1.list h1
  have l1:=rv.length
  have hlist:s1.heap.IsList a its.toArray:=pl.isList
  have lt1:a < s1.heap.objs.size:=by obtain⟨o,e,_⟩:=hlist; exact Heap.lt_size e
  refine call_reversed_list hlist (Calls.spliced_nil ?_)
  refine zF3 (s:={ s1 with heap:=s1.heap.push (revObj a ((its.toArray.size:Int) - 1)) }) (zKb (Nat.ne_of_lt lt1) its.toArray) hr ⟨Nat.zero_le _,⟨_,Heap.get?_push_size _ rfl,rfl,by simp[revObj]⟩,hlist.at fun o e=>Heap.get?_push_of_some _ e⟩ (by rw[List.size_toArray]; omega) fun h' tk acc c kp hS hacc=>?_
  exact fin { s1 with heap:=s1.heap.push (revObj a ((its.toArray.size:Int) - 1)) } its h' tk acc c (Heap.size_push _ _) rfl (fun b o e=>Heap.get?_push_of_some _ e) rv (by omega) kp hS (zEu hacc)
 ·obtain⟨its,rv,pl,z⟩:=I1.tuple h1
  have l1:=rv.length
  have htup:s1.heap.IsTuple a its.toArray:=pl
  have lt1:a < s1.heap.objs.size:=by obtain⟨o,e,_⟩:=htup; exact Heap.lt_size e
  refine callType_new zIR (by decide) (F.typeCall_reversed_1 _) (F.newCall_reversed_1 _) (fun obj=>F.args_object_init_2 obj _) F.entry_reversed_new (zIw a its.toArray (by rw[List.size_toArray]; omega)) ⟨htup,?_⟩
  have g:=Heap.get?_push_size s1.heap (o:={ cls:=.type "reversed",data:=.fields #[.ref a,rawInt ((its.toArray.size:Int) - 1)] }) rfl
  refine⟨⟨_,g,rfl⟩,Calls.spliced_nil ?_⟩
  refine zF3 (zMm (Nat.ne_of_lt lt1) its.toArray (by rw[List.size_toArray]; omega)) hr ⟨Nat.zero_le _,by simpa using g,by
   obtain⟨o,e,q⟩:=htup
   exact⟨o,Heap.get?_push_of_some _ e,q⟩⟩ (by rw[List.size_toArray]; omega) fun h' tk acc c kp hS hacc=>?_
  exact fin _ its h' tk acc c (Heap.size_push _ _) rfl (fun b o e=>Heap.get?_push_of_some _ e) rv (by omega) kp hS (zEu hacc)
end
end L2
namespace D
open PySem L2
def dLRev(fa:DA):DE:=fun Γ=>(fa Γ).bind fun p=>match p.1 with
 | [a]=>(seqS p.2 a).map fun xs=>(.l xs.reverse,p.2)
 | _=>none
theorem zKq{K:Fg}{ta:TA}{fa:DA}(ha:SimA K ta fa):SimE K (tLRev K ta) (dLRev fa):=by
 intro C w Γ σ H s Γ' Q R e k
 obtain⟨⟨as,G1⟩,e1,e⟩:=bind_some e
 dsimp only at e
 split at e
 ·obtain⟨xs,e2,e⟩:=map_some e
  cases e
  refine ha C w Γ σ H _ _ _ R e1 fun vs H1 R1 ev1 o1 n1=>?_
  obtain⟨v,rfl,o2⟩:=soks1 o1
  obtain⟨p,us,rfl,h1,i1⟩:=zI0 R1 o2 e2
  exact⟨p,us,rfl,h1,fun l hl=>k _ _ (R1.new hl) (ev1.trans (Evo.new hl)) (R1.newl hl i1.rev) ⟨l,rfl,zAa ev1 R1.lst hl⟩⟩
 ·cases e
section
variable {ι:Type}{K:Fg}{X:ι->Cx}{mg:Str->Option Value}{k:Nat}{a:Expr}{da:DA}{Γ:En}
theorem zMG{p0 p1 pos0 pos1:Pos}(M:Fm K mg k X)(hm0:mg "list"=none)(hm1:mg "reversed"=none)(ha:AX K X [a] da)(hg0:∀ j,Gl (X j) "list":=by intro _; rfl)(hg1:∀ j,Gl (X j) "reversed":=by intro _; rfl)
  (hs:∀ j,starEach [a] (X j).env=[(false,eval a (X j).env)]:=by intro _; rfl)
  (hs3:∀ j,starEach [.Call (.Name "reversed" p1) [a] [] pos1] (X j).env=[(false,eval (.Call (.Name "reversed" p1) [a] [] pos1) (X j).env)]:=by intro _; rfl) :
  EX K X (.Call (.Name "list" p0) [.Call (.Name "reversed" p1) [a] [] pos1] [] pos0) (dLRev da) :=
 let ⟨t,q,u⟩:=ha; ⟨tLRev K t,fun j=>by have:=zL4 (p0:=p0) (p1:=p1) (pos0:=pos0) (pos1:=pos1) (M.room j).hd (hg0 j) (by rw[M.mg]; exact hm0) (hg1 j) (by rw[M.mg]; exact hm1) (q j) (hs j) (hs3 j); rw[M.K j]at this; exact this,zKq u⟩
@[simp] theorem zP6:dLRev da Γ=(da Γ).bind fun p=>match p.1 with
 | [a]=>(seqS p.2 a).map fun xs=>(.l xs.reverse,p.2)
 | _=>none:=(rfl)
end
end D
namespace L2
open PySem PySem.Spec PyProof.Rows
def Itw(K:PySem.W.Frag)(a1:Addr)(n:Nat):It :=
 ⟨fun i H=>∃ xs x,SqL K H a1 xs/\xs.length=n/\i < n/\xs[n - 1 - i]?=some x,
  fun i H v H'=>H'=H/\∀ xs,SqL K H a1 xs->xs[n - 1 - i]?=some v,
  fun i H=>i=n⟩
theorem zKB{P:Program}{w:World}{K:PySem.W.Frag}{tg:Expr}{e a1:Addr}(n:Nat)(hle:a1≠e) :
  Turn P w K tg (Itw K a1 n) [e] e (fun i h=>h.IsRevIter e a1 ((n:Int) - 1 - (i:Int))) where
 mem:=by simp
 obj:=fun i h st b hb=>by
  have q:b=e:=by simpa using hb
  subst q
  obtain⟨o,e,c,d⟩:=st
  exact⟨o,e,fun v z=>by rw[d]at z; cases z⟩
 keep:=fun i h h' st k=>st.at fun o q=>k e (by simp) o q
 item:=by
  intro X hP hw hK hc i pins s σ H E I hf st hg
  subst hP hw hK
  obtain⟨xs,x,h1,hn,hi,hx⟩:=hg
  obtain⟨its1,v1,o1,z1⟩:=I.list h1
  obtain⟨u1,e1,r1⟩:=v1.get hx
  have l1:=v1.length
  have ei:(n:Int) - 1 - (i:Int)=((n - 1 - i:Nat):Int):=by omega
  have st':s.heap.IsRevIter e a1 ((n - 1 - i:Nat):Int):=by rw[← ei]; exact st
  obtain⟨f0,f1,f2,f3,f4,f5⟩:=hf e (by simp)
  refine wpAny_pyNext_rev_item (items:=its1.toArray) st' o1.isList (x:=u1) (by simpa using e1) fun h' he sb=>?_
  have I1:Inv X pins σ H { s with heap:=h' }:=I.turned (t':=s.toks) (fun b o hb q=>(sb.2 b hb).trans q) f0 f1 f3 f4 f5
  have he':h'.IsRevIter e a1 ((n:Int) - 1 - ((i+1:Nat):Int)):=by
   have:(n:Int) - 1 - ((i+1:Nat):Int)=((n - 1 - i:Nat):Int) - 1:=by omega
   rw[this]; exact he
  obtain⟨o,q1,q2,q3⟩:=id he'
  exact⟨u1,rfl,zFI (s:={ s with heap:=h' }) q1 q2 q3 (by decide) ⟨x,H,I1,r1,⟨rfl,fun ys hy=>by rw[I.list_inj hy h1]; exact hx⟩,he',fun b hb=>(hf b hb).1⟩⟩
 done:=by
  intro X hP hw hK hc i pins s σ H E I hf st hg
  subst hP hw hK
  have hg:i=n:=hg
  subst hg
  obtain⟨f0,f1,f2,f3,f4,f5⟩:=hf e (by simp)
  have st':s.heap.IsRevIter e a1 (-1):=by
   have:(i:Int) - 1 - (i:Int)=-1:=by omega
   rw[← this]; exact st
  exact wpAny_pyNext_rev_end (I.ok.hd hc) st' fun h' eb=>⟨rfl,I.turned (t':=s.toks) (fun b o hb q=>eb b o hb q) f0 f1 f3 f4 f5⟩
 self:=fun _ _ _ _ _ st h=>wpAny_pyIter_revIter st h
section
variable {X:Cx}{tg:Expr}
def iRevL(K:PySem.W.Frag)(ta:TA):TI:=fun σ H R=>ta σ H fun vs H1=>∃ (a1:Addr) (xs:List V),vs=[.ref a1]/\SqL K H1 a1 xs/\R (Itw K a1 xs.length) H1
theorem zLz{e1:Expr}{ta:TA}{p pos:Pos}(hg:Gl X "reversed")(hm:X.mg "reversed"=none)(ha:PA X [e1] ta)(hs:starEach [e1] X.env=[(false,eval e1 X.env)]:=by rfl) :
  PI X tg (.Call (.Name "reversed" p) [e1] [] pos) (iRevL X.K ta):=by
 intro pins s σ H R I h
 refine Call_ (zA4 I hg hm boot_reversed (PyProof.Rows.callWith_type1 (thn (ha pos pins s σ H _ I h) fun us s1 ⟨vs,H1,I1,r1,q1⟩=>?_) (by rw[hs]; rfl) (by rfl)))
 obtain⟨a1,xs,e,h1,q⟩:=q1
 subst e
 obtain⟨u1,e,r⟩:=r1.one
 subst e
 cases r
 obtain⟨its1,v1,o1,z1⟩:=I1.list h1
 have l1:=v1.length
 have hlist:s1.heap.IsList a1 its1.toArray:=o1.isList
 have lt1:a1 < s1.heap.objs.size:=by obtain⟨o,e,_⟩:=hlist; exact Heap.lt_size e
 refine call_reversed_list hlist ?_
 have st':(s1.heap.push (revObj a1 ((its1.toArray.size:Int) - 1))).IsRevIter s1.heap.objs.size a1 ((xs.length:Int) - 1 - ((0:Nat):Int)):=by
  have:((xs.length:Int) - 1 - ((0:Nat):Int))=(its1.toArray.size:Int) - 1:=by rw[List.size_toArray]; omega
  rw[this]
  exact⟨_,Heap.get?_push_size _ rfl,rfl,rfl⟩
 refine wpAny_pyIter_revIter st' ?_
 refine⟨_,_,_,_,H1,rfl,I1.kept (t':=s1.toks) fun b o e=>Heap.get?_push_of_some _ e,zKB xs.length (Nat.ne_of_lt lt1),st',fun c hc=>?_,q⟩
 have e:c=s1.heap.objs.size:=by simpa using hc
 subst e
 exact I1.fpOk (Nat.le_refl _) (I1.hok.fresh (Nat.le_refl _))
end
end L2
namespace D
open PySem L2
def dRevL(fa:DA):DI:=fun Γ=>(fa Γ).bind fun p=>match p.1 with
 | [a]=>(sqlOf p.2 a).bind fun xs=>gd xs.length ((xs.reverse,srcS p.2 a),p.2)
 | _=>none
section
variable {K:Fg}
theorem zI9{ta:TA}{fa:DA}(ha:SimA K ta fa):SimI K (iRevL K ta) (dRevL fa):=by
 intro C w Γ σ H its src Γ' R Rp e k
 obtain⟨⟨as,G1⟩,e1,e⟩:=bind_some e
 dsimp only at e
 split at e
 ·obtain⟨xs,e2,e⟩:=bind_some e
  obtain⟨hz,e⟩:=zBG e
  cases e
  refine ha C w Γ σ H _ _ _ Rp e1 fun vs H1 R1 ev1 o1 n1=>?_
  obtain⟨v,rfl,o2⟩:=soks1 o1
  obtain⟨p,us,rfl,h1,i1,st⟩:=zBm R1 o2 e2
  refine⟨p,us,rfl,h1,k _ H1 R1 ev1 ⟨by simpa using hz,fun L' hs av H2 ev=>?_⟩⟩
  have hL:LL L' H1:=fun q hq=>R1.lst q (hs q hq)
  have h2:=st L' hs av H2 ev
  have i2:=i1.evo ev hL
  have l2:=i2.len
  refine⟨fun i t e=>?_,by show _=_; simp[l2]⟩
  have hi:i < xs.length:=by simpa using (List.getElem?_eq_some_iff.mp e).1
  rw[List.getElem?_reverse hi]at e
  obtain⟨v,e3,hv⟩:=i2.get e
  refine⟨⟨us,v,h2,rfl,by omega,by rw[l2]; exact e3⟩,fun x H3 y=>?_⟩
  obtain⟨rfl,k1⟩:=y
  have q1:=k1 us h2
  rw[l2,e3]at q1; cases q1
  exact⟨fun b o e=>e,hv⟩
 ·cases e
end
section
variable {ι:Type}{K:Fg}{X:ι->Cx}{mg:Str->Option Value}{k:Nat}{a:Expr}{da:DA}{p pos:Pos}{Γ:En}
theorem zMO{tg:Expr}(M:Fm K mg k X)(hm:mg "reversed"=none)(ha:AX K X [a] da)(hg:∀ j,Gl (X j) "reversed":=by intro _; rfl)(hs:∀ j,starEach [a] (X j).env=[(false,eval a (X j).env)]:=by intro _; rfl) :
  IX K X tg (.Call (.Name "reversed" p) [a] [] pos) (dRevL da) :=
 let ⟨t,q,u⟩:=ha; ⟨iRevL K t,fun j=>by have:=zLz (tg:=tg) (p:=p) (pos:=pos) (hg j) (by rw[M.mg]; exact hm) (q j) (hs j); rw[M.K j]at this; exact this,zI9 u⟩
@[simp] theorem zP3:dRevL da Γ=(da Γ).bind fun p=>match p.1 with
 | [a]=>(sqlOf p.2 a).bind fun xs=>gd xs.length ((xs.reverse,srcS p.2 a),p.2)
 | _=>none:=(rfl)
end
@[simp high,simp ↓ high] theorem zSH{α:Type}{x y:α}:ifO (some 1) 1 x y=x:=rfl
@[simp high,simp ↓ high] theorem zR3{α:Type}{x y:α}:ifO (some 2) 2 x y=x:=rfl
@[simp high,simp ↓ high] theorem zSd{α:Type}{x y:α}:ifO (some 3) 3 x y=x:=rfl
@[simp high,simp ↓ high] theorem zSV{α:Type}{x y:α}:ifO (some 4) 4 x y=x:=rfl
@[simp high,simp ↓ high] theorem zRr{α:Type}{x y:α}:ifO (some 5) 5 x y=x:=rfl
@[simp high,simp ↓ high] theorem zSb{α:Type}{x y:α}:ifO (some 6) 6 x y=x:=rfl
@[simp high,simp ↓ high] theorem zRW{α:Type}{x y:α}:ifO (some 7) 7 x y=x:=rfl
@[simp high,simp ↓ high] theorem zRq{α:Type}{x y:α}:ifO (some 8) 8 x y=x:=rfl
@[simp high,simp ↓ high] theorem zRY{α:Type}{x y:α}:ifO (some 9) 9 x y=x:=rfl
@[simp high,simp ↓ high] theorem zPf{α:Type}{x y:α}:ifO (some 10) 10 x y=x:=rfl
end D
namespace L2
open PySem PySem.Spec PyProof.Rows
section
variable {X:Cx}{x:Str}{p pos:Pos}{e:Expr}{es:List Expr}{t:TA}{k:Nat}
def tCallV(i:Nat)(C:Addr->Sp->Prop)(t:TA):TE:=fun σ H Q=>∃ f sp,σ[i]?=some (some (.ref f))/\C f sp/\t σ H fun vs H1=>sp (vs++[]) H1 Q E0
theorem zF6{i:Nat}{C:Addr->Sp->Prop}(hC:Mod X.K X.mg X.base->∀ f sp,C f sp->∃ fd ps,FnOk X.prog X.w X.K X.mg X.base CX0 k f fd ps sp/\PySem.W.keepIn X.K (.ref f)=true/\Binds X.K fd ps [])
  (hr:Room k X.A) (hN:X.N[i]?=some x) (hv:Vis X.env.scope x) (ha:PA X (e::es) t) (hd:(x == ("__debug__":Str))=false:=by decide) (hcd:(x == ("__classdict__":Str))=false:=by decide)
  (he:starEach (e::es) X.env=(false,eval e X.env)::starEach es X.env:=by rfl) (hpl:(backTo pos (starEach es X.env)).any (·.1)=false:=by rfl) :
  PE X (.Call (.Name x p) (e::es) [] pos) (tCallV i C t):=by
 intro pins s σ H Q I h
 obtain⟨f,sp,e1,c,h⟩:=h
 obtain⟨fd,ps,F,hk,hb⟩:=hC I.mod f sp c
 refine wpAny_Call_Name_kw ?_
 refine thn (zCm (X:=X) (i:=i) (x:=x) (pos:=p) hN hv hd hcd pins s σ H (fun v H'=>v=.ref f/\H'=H) I ⟨.ref f,e1,rfl,rfl⟩) fun u s1 ⟨v,H1,I1,r1,q1⟩=>?_
 obtain⟨rfl,rfl⟩:=q1
 obtain rfl:u=Value.ref f:=r1
 refine PySem.W.callWith_K (h₀:=X.base) I1.ok.mod.kin hk (thn (ha pos pins s1 σ _ _ I1 h) fun us s2 ⟨vs,H2,I2,r,q⟩=>⟨I2.kIn,?_⟩) he hpl
 exact zIy F hr hb .nil pass0 I2 r q
end
end L2
namespace D
open PySem L2
abbrev Tb:=List (Str×Nat×DF)
def TbOk(P:Program)(wd:World)(K:Fg)(mg:Str->Option Value)(base:Heap)(k:Nat)(tb:Tb):Prop:=∀ q∈tb,FD P wd K mg base k q.1 none q.2.1 q.2.2
section
variable {P:Program}{wd:World}{K:Fg}{mg:Str->Option Value}{base:Heap}{k:Nat}
theorem FD.mono{k':Nat}{x:Str}{ip:Option Nat}{n:Nat}{F:DF}(D0:FD P wd K mg base k' x ip n F)(h:k'<=k):FD P wd K mg base k x ip n F:=by
 obtain⟨f,fd,ps,h1,h2⟩:=D0.ex
 exact⟨⟨f,fd,ps,h1.mono h,h2⟩,D0.len⟩
theorem zFb:TbOk P wd K mg base k []:=fun _ h=>nomatch h
theorem zHP{k':Nat}{x:Str}{n:Nat}{F:DF}{tb:Tb}(D0:FD P wd K mg base k' x none n F)(r:TbOk P wd K mg base k tb)(h:k'<=k:=by first | exact Nat.le_refl _ | decide | omega):TbOk P wd K mg base k ((x,n,F)::tb):=fun q hq=>by
 rcases List.mem_cons.mp hq with rfl | hq
 ·exact D0.mono h
 ·exact r q hq
end
def dFn(n:Str):DE:=fun Γ=>some (.v (.f n),Γ)
def dCallV(i:Nat)(tb:Tb)(fa:DA):DE:=fun Γ=>match Γ[i]? with
 | some (some (.v (.f n)))=>match tb.find? fun q=>decide (q.1=n) with
  | some q=>dCall none q.2.2 [] fa Γ
  | none=>none
 | _=>none
def NK(K:Fg)(mg:Str->Option Value)(n:Str):Prop:=∃ f,PySem.W.nsIn K mainGlobals n=some (some (.ref f))/\mg n=some (.ref f)
theorem zNZ{K:Fg}{n:Str}{f:Addr}(h:PySem.W.nsIn K mainGlobals n=some (some (.ref f))):SimE K (tC (.ref f)) (dFn n):=by
 intro C w Γ σ H s Γ' Q R e k
 cases e
 exact k _ H R .refl (show Im K H _ (.f n) from Im.fn ⟨f,rfl,h⟩) trivial
def CallC(K:Fg)(tb:Tb)(f:Addr)(sp:Sp):Prop:=∃ q∈tb,PySem.W.nsIn K mainGlobals q.1=some (some (.ref f))/\sp=spD K none q.2.1 q.2.2
theorem zEl{K:Fg}{i:Nat}{tb:Tb}{t:TA}{fa:DA}(hl:∀ q∈tb,∀ gs r,q.2.2 gs=some r->gs.length=q.2.1)(ha:SimA K t fa):SimE K (tCallV i (CallC K tb) t) (dCallV i tb fa):=by
 intro C w Γ σ H s Γ' Q R e k
 unfold dCallV at e
 split at e
 ·rename_i n hn
  split at e
  ·rename_i q hq
   obtain⟨v,e1,hv⟩:=R.val i _ hn
   obtain⟨f,rfl,hf⟩:=(show Im K H v (.f n) from hv).invf
   have hm:=List.mem_of_find?_eq_some hq
   have hqn:q.1=n:=by simpa using List.find?_some hq
   exact⟨f,spD K none q.2.1 q.2.2,e1,⟨q,hm,by rw[hqn]; exact hf,rfl⟩,zFY (hl q hm) ha C w Γ σ H s Γ' Q R e k⟩
  ·cases e
 ·cases e
section
variable {ι:Type}{P:Program}{wd:World}{base:Heap}{K:Fg}{mg:Str->Option Value}{k k' n:Nat}{X:ι->Cx}{e:Expr}{es:List Expr}{pos p:Pos}{da:DA}{x:Str}{tb:Tb}{Γ:En}
theorem zOl(M:Fm K mg k X)(h:NK K mg x)(hg:∀ j,Gl (X j) x:=by intro _; rfl)(hd:(x == ("__debug__":Str))=false:=by decide):EX K X (.Name x pos) (dFn x):=by
 obtain⟨f,h1,h2⟩:=h
 exact⟨_,fun j=>zEI (v:=.ref f) (hg j) (by rw[M.mg]; exact h2) rfl hd,zNZ h1⟩
theorem zFQ(i:Nat)(M:Fm K mg k X)(B:Fb P wd base X)(T0:TbOk P wd K mg base k' tb)(ha:AX K X (e::es) da)(hk:k'<=k:=by first | exact Nat.le_refl _ | decide | omega)
  (hN:∀ j,(X j).N[i]?=some x:=by intro _; rfl) (hv:∀ j,Vis (X j).env.scope x:=by intro _; first | exact Or.inl rfl | exact Or.inr (Or.inl rfl) | exact Or.inr (Or.inr rfl)) (hd:(x == ("__debug__":Str))=false:=by decide) (hcd:(x == ("__classdict__":Str))=false:=by decide)
  (he:∀ j,starEach (e::es) (X j).env=(false,eval e (X j).env)::starEach es (X j).env:=by intro _; rfl) (hpl:∀ j,(backTo pos (starEach es (X j).env)).any (·.1)=false:=by intro _; rfl) :
  EX K X (.Call (.Name x p) (e::es) [] pos) (dCallV i tb da):=by
 obtain⟨t,q,u⟩:=ha
 refine⟨tCallV i (CallC K tb) t,fun j=>?_,zEl (fun q hq=>(T0 q hq).len) u⟩
 refine zF6 (k:=k') (fun hm f sp hc=>?_) ((M.room j).mono hk) (hN j) (hv j) (q j) hd hcd (he j) (hpl j)
 obtain⟨q,hq,h1,rfl⟩:=hc
 obtain⟨f',fd,ps,g1,g2,g3,g4⟩:=(T0 q hq).ex
 have hm':Mod K mg base:=by rw[← M.K j,← M.mg j,← B.b j]; exact hm
 have e:=PySem.W.mg_of hm'.kin hm'.glob h1
 rw[g2]at e
 cases e
 exact⟨fd,ps,by rw[B.P,B.w,M.K,M.mg,B.b]; exact g1,by rw[M.K]; exact g3,by rw[M.K]; exact g4⟩
@[simp,simp ↓] theorem zSB{n:Str}:dFn n Γ=some (.v (.f n),Γ):=rfl
end
def fuelX:Nat:=100000
theorem zDL:fuelX=100000:=rfl
inductive Rs where
 | mk (e v:T) (ks:List Rs)
def Rs.e:Rs->T | .mk e _ _=>e
def Rs.v:Rs->T | .mk _ v _=>v
mutual
def Rs.pre:Rs->List Rs
 | .mk e v ks=>.mk e v ks::pres ks
def pres:List Rs->List Rs
 | []=>[]
 | r::rs=>r.pre++pres rs
end
theorem zAY:pres []=[]:=by unfold pres; rfl
theorem zAP(r:Rs)(rs:List Rs):pres (r::rs)=r.pre++pres rs:=by rw[pres]
theorem zAf(e v:T)(ks:List Rs):(Rs.mk e v ks).pre=.mk e v ks::pres ks:=by rw[Rs.pre]
theorem zDT:∀ (a b:List Rs),pres (a++b)=pres a++pres b
 | [],b=>by rw[zAY]; rfl
 | r::a,b=>by rw[List.cons_append,zAP,zAP,zDT a b,List.append_assoc]
mutual
def Rs.In(ins:DF):Rs->Prop
 | .mk e _ ks=>(ins [.v e]=some (.v (.t (ks.map Rs.e)),[])\/ins [.v e]=some (.l (ks.map Rs.e),[]))/\Ins ins ks
def Ins(ins:DF):List Rs->Prop
 | []=>True
 | r::rs=>r.In ins/\Ins ins rs
end
theorem zAR{ins:DF}{r:Rs}{rs:List Rs}:Ins ins (r::rs) ↔ r.In ins/\Ins ins rs:=by rw[Ins]
theorem zBO{ins:DF}{e v:T}{ks:List Rs}:(Rs.mk e v ks).In ins ↔ (ins [.v e]=some (.v (.t (ks.map Rs.e)),[])\/ins [.v e]=some (.l (ks.map Rs.e),[]))/\Ins ins ks:=by rw[Rs.In]
theorem zA1{ins:DF}:Ins ins []:=by unfold Ins; trivial
theorem zGr{ins:DF}:∀ {a b:List Rs},Ins ins a->Ins ins b->Ins ins (a++b)
 | [],_,_,h=>h
 | _::_,_,h,h'=>zAR.mpr ⟨(zAR.mp h).1,zGr (zAR.mp h).2 h'⟩
theorem zE3{i:Nat}{tb:Tb}{fa:DA}{Γ:En}{n:Str}{a:Nat}{F:DF}(h:Γ[i]?=some (some (.v (.f n))))(hf:tb.find? (fun q=>decide (q.1=n))=some (n,a,F)):dCallV i tb fa Γ=dCall none F [] fa Γ:=by
 unfold dCallV
 rw[h]
 dsimp only
 rw[hf]
def awC:DT:=dTru (jV 3)
def awB(tb:Tb):DS:=dSeq (dSet 4 (dMut 3 hPop qQ)) (dSeq (dDrop (dMut 2 hAppend (jW (jV 4) qQ))) (dDrop (dMut 3 hExtend (jW (dLRev (jW (dCallV 1 tb (jW (jV 4) qQ)) qQ)) qQ))))
def awD(tb:Tb):DS:=dSeq (dSet 2 (dLst qQ)) (dSeq (dSet 3 (dLst (jW (jV 0) qQ))) (dSeq (dWhile awC (awB tb) fuelX) (dRet (jV 2))))
@[simp] theorem zJV{Γ:En}{xs ys:List T}(h:xs.length+ys.length<=sizeLine):hExtend Γ xs [.l ys]=some (.a .non,xs++ys):=by
 unfold hExtend
 dsimp only
 simp[zML,gd,h]
section
variable {tb:Tb}{n:Str}{ka:Nat}{ins:DF}
theorem zLe(hf:tb.find? (fun q=>decide (q.1=n))=some (n,ka,ins)):∀ (m:Nat) (st:List Rs) (acc:List T) (w:T) (p4:Option G) (fuel:Nat),(pres st).length=m->m < fuel->acc.length+m<=90000->st.length<=90000->Ins ins st ->
  ∃ p4',dWhile awC (awB tb) fuel [some (.v w),some (.v (.f n)),some (.l acc),some (.l (st.reverse.map Rs.e)),p4]=some (.nx [some (.v w),some (.v (.f n)),some (.l (acc++(pres st).map Rs.e)),some (.l []),p4']):=by
 intro m
 induction m with
 | zero =>
  intro st acc w p4 fuel hm hfu hb hs hi
  cases st with
  | nil =>
   obtain⟨f,rfl⟩:∃ f,fuel=f+1:=⟨fuel - 1,by omega⟩
   exact⟨p4,by rw[zAu]; simp[awC,zAY]⟩
  | cons r rs =>
   cases r with
   | mk e v ks=>rw[zAP,zAf]at hm; simp at hm
 | succ m ih =>
  intro st acc w p4 fuel hm hfu hb hs hi
  obtain⟨f,rfl⟩:∃ f,fuel=f+1:=⟨fuel - 1,by omega⟩
  cases st with
  | nil=>rw[zAY]at hm; cases hm
  | cons r rs =>
   cases r with
   | mk e v ks =>
    obtain⟨h1,h2⟩:=zAR.mp hi
    obtain⟨h3,h4⟩:=zBO.mp h1
    rw[zAP,zAf]at hm
    have hlen:∀ l:List Rs,l.length<=(pres l).length:=fun l=>by
     induction l with
     | nil=>simp
     | cons x l ih =>
      cases x with
      | mk a b c=>rw[zAP,zAf]; simp; omega
    have hk:=hlen ks
    have hr:=hlen rs
    simp only[List.cons_append,List.length_cons,List.length_append]at hm
    obtain⟨p4',e4⟩:=ih (ks++rs) (acc++[e]) w (some (.v e)) f (by rw[zDT,List.length_append]; omega) (by omega) (by simp; omega) (by simp; omega) (zGr h4 h2)
    refine⟨p4',?_⟩
    have hl1:acc.length < sizeLine:=Nat.lt_of_lt_of_le (show acc.length < 100000 by omega) (by decide)
    have hl2:rs.length+ks.length<=sizeLine:=Nat.le_trans (show rs.length+ks.length<=100000 by omega) (by decide)
    have e0:(List.map Rs.e (Rs.mk e v ks::rs).reverse)=List.map Rs.e rs.reverse++[e]:=by simp[Rs.e]
    have pop:(awB tb) [some (.v w),some (.v (.f n)),some (.l acc),some (.l (List.map Rs.e rs.reverse++[e])),p4]=some (.nx [some (.v w),some (.v (.f n)),some (.l (acc++[e])),some (.l (List.map Rs.e rs.reverse++(ks.map Rs.e).reverse)),some (.v e)]):=by
     have cv:dCallV 1 tb (jW (jV 4) qQ) [some (.v w),some (.v (.f n)),some (.l (acc++[e])),some (.l (List.map Rs.e rs.reverse)),some (.v e)]=dCall none ins [] (jW (jV 4) qQ) [some (.v w),some (.v (.f n)),some (.l (acc++[e])),some (.l (List.map Rs.e rs.reverse)),some (.v e)]:=zE3 rfl hf
     have ex:∀ Γ,hExtend Γ (List.map Rs.e rs.reverse) [.l (ks.map Rs.e).reverse]=some (.a .non,List.map Rs.e rs.reverse++(ks.map Rs.e).reverse):=fun Γ=>zJV (by simpa using hl2)
     have hs':rs.length+1<=sizeLine:=Nat.le_trans (show rs.length+1<=100000 by simp at hs; omega) (by decide)
     have hq:(List.map Rs.e rs.reverse).length+1<=sizeLine:=by simpa using hs'
     have hl0:acc.length<=sizeLine:=Nat.le_of_lt hl1
     generalize List.map Rs.e rs.reverse=RR at cv ex hq ⊢
     have hq':RR.length<=sizeLine:=by omega
     rcases h3 with h3 | h3
     ·simp[awB,cv,h3,hl1,ex,gd,hq,hq',hl0]
     ·simp[awB,cv,h3,hl1,ex,gd,hq,hq',hl0]
    rw[zAu,e0]
    have tr:awC [some (.v w),some (.v (.f n)),some (.l acc),some (.l (List.map Rs.e rs.reverse++[e])),p4]=some (true,[some (.v w),some (.v (.f n)),some (.l acc),some (.l (List.map Rs.e rs.reverse++[e])),p4]):=by
     simp[awC]
    rw[tr,Option.bind_some,if_pos rfl,pop,Option.bind_some]
    dsimp only
    have e5:List.map Rs.e rs.reverse++(ks.map Rs.e).reverse=List.map Rs.e (ks++rs).reverse:=by simp
    rw[e5,e4,zDT]
    rw[zAP,zAf]
    simp[Rs.e]
theorem zE9(hf:tb.find? (fun q=>decide (q.1=n))=some (n,ka,ins))(r:Rs)(h:r.In ins)(hb:r.pre.length<=80000):fnD none 2 5 (awD tb) [.v r.e,.v (.f n)]=some (.l (r.pre.map Rs.e),[]):=by
 have hp:pres [r]=r.pre:=by rw[zAP,zAY,List.append_nil]
 obtain⟨p4',e⟩:=zLe hf r.pre.length [r] [] r.e none fuelX (by rw[hp]) (by rw[zDL]; omega) (by simp; omega) (by simp) (zAR.mpr ⟨h,zA1⟩)
 rw[hp]at e
 simp only[List.reverse_cons,List.reverse_nil,List.nil_append,List.map_cons,List.map_nil]at e
 have g1:(1:Nat)<=sizeLine:=by decide
 simp[fnD,awD,gd,e,g1]
end
def fwE:DE:=dMut 1 hPop qQ
theorem zI7:∀ (es vs t0:List T) (o:Option G),es.length=vs.length->t0.length+vs.length<=100000->∃ o',compD (gdName 0) dYes fwE es [o,some (.l (t0++vs.reverse))]=some (vs,[o',some (.l t0)])
 | [],[],t0,o,_,_=>⟨o,by simp[zJy]⟩
 | [],_::_,_,_,h,_=>by cases h
 | _::_,[],_,_,h,_=>by cases h
 | e::es,v::vs,t0,o,h,hb=>by
  obtain⟨o',h2⟩:=zI7 es vs t0 (some (.v e)) (by simpa using h) (by simp at hb; omega)
  refine⟨o',?_⟩
  have e1:t0++(v::vs).reverse=(t0++vs.reverse)++[v]:=by simp
  have hq:(t0++vs.reverse).length+1<=sizeLine:=Nat.le_trans (show _<=100001 by simp at hb ⊢; omega) (by decide)
  rw[e1,zA3]
  generalize t0++vs.reverse=RR at h2 hq ⊢
  unfold fwE at h2 ⊢
  simp[gd,hq,h2]
def dDispK(ks:List Key)(fa:DA):DE:=fun Γ=>(fa Γ).bind fun p=>(trees p.1).bind fun ts=>if ks.length<=15/\ks.Nodup then some (.d (.inl (ks.zip ts)),p.2) else none
section
variable {ι:Type}{K:Fg}{mg:Str->Option Value}{k:Nat}{X:ι->Cx}{fa:DA}{pos:Pos}{Γ:En}
@[simp,simp ↓] theorem zPK{ks:List Key}:dDispK ks fa Γ=bnd (fa Γ) (f:=⟨fun p=>bnd (trees p.1) (f:=⟨fun ts=>if ks.length<=15/\ks.Nodup then some (.d (.inl (ks.zip ts)),p.2) else none⟩)⟩):=rfl
end
end D
namespace D
open PySem L2
def maxDS(d:Int):En->List S->Option S:=fun Γ as=>match as with
 | [a]=>(seqS Γ a).bind fun xs=>(intsOf xs).map fun ns=>.v (.a (.int (if ns=[] then d else maxI ns)))
 | _=>none
@[simp,simp ↓] theorem zPh{Γ:En}{d:Int}{a:S}:maxDS d Γ [a]=bnd (seqS Γ a) (f:=⟨fun xs=>omp (intsOf xs) (f:=⟨fun ns=>.v (.a (.int (if ns=[] then d else maxI ns)))⟩)⟩):=rfl
end D
namespace D
open PySem L2
variable {K:Fg}
end D
namespace D
open PySem L2
open PySem.SeqAt
end D
namespace D
open PySem L2
section
variable {K:Fg}
theorem zKE{C:Fr}{w:W}{Γ1:En}{σ:St}{H1:Hp}{vs:List V}{ss:List S}{gs:List G}(R1:Rep K C w Γ1 σ H1)(o1:SOks K C w σ H1 vs ss)(e2:argsG none Γ1 0 ss=some gs) :
  Rep K ⟨H1,[],[]⟩ ⟨[],fun q=>∃ o,H1 q=some o⟩ (gs.map some) (vs.map some) H1:=by
 have hl:=o1.len
 have hgl:=zBk e2
 refine⟨by simp[hl,hgl],fun j g h=>?_,fun i j p ga gb ma mb h1 h2 h3 h4=>?_,fun p hp=>(nomatch hp),fun p hp=>(nomatch hp),fun p hp=>hp,fun p hp=>nofun,fun b o h _=>h,R1.tab,fun q hq=>(nomatch hq)⟩
 ·rw[List.getElem?_map]at h
  obtain⟨g',h',h⟩:=map_some h
  cases h
  obtain⟨s,a1,a2⟩:=zAp e2 h'
  obtain⟨v,b1,b2⟩:=o1.get a1
  refine⟨v,by rw[List.getElem?_map,b1]; rfl,?_⟩
  cases s with
  | v t=>cases a2; exact b2
  | l xs =>
   simp only[argG,reduceCtorEq,if_false,Option.some.injEq]at a2
   subst a2
   obtain⟨p,us,rfl,n1,n2,ow,h1,h2⟩:=b2
   exact⟨p,us,rfl,h2,h1,nofun,⟨_,h1⟩⟩
  | d xs =>
   simp only[argG,reduceCtorEq,if_false,Option.some.injEq]at a2
   subst a2
   obtain⟨p,us,rfl,n1,n2,ow,h1,h2⟩:=b2
   exact⟨p,us,rfl,h2,h1,nofun,⟨_,h1⟩⟩
  | s i =>
   have b2':σ[i]?=some (some v):=b2
   unfold argG at a2
   dsimp only at a2
   split at a2
   ·rename_i xs hx
    simp only[reduceCtorEq,if_false,Option.some.injEq]at a2
    subst a2
    obtain⟨v',c1,p,us,rfl,c2,c3,c4⟩:=R1.val i _ hx
    rw[b2']at c1; cases c1
    exact⟨p,us,rfl,c4,c3,nofun,⟨_,c3⟩⟩
   ·rename_i xs hx
    simp only[reduceCtorEq,if_false,Option.some.injEq]at a2
    subst a2
    obtain⟨v',c1,p,us,rfl,c2,c3⟩:=R1.val i _ hx
    rw[b2']at c1; cases c1
    exact⟨p,us,rfl,c2,c3.1,nofun,R1.ra p c3.2.2⟩
   ·rename_i xs hx
    simp only[reduceCtorEq,if_false,Option.some.injEq]at a2
    subst a2
    obtain⟨v',c1,c2⟩:=R1.val i _ hx
    rw[b2']at c1; cases c1
    exact c2
   ·rename_i xs hx
    simp only[reduceCtorEq,if_false,Option.some.injEq]at a2
    subst a2
    obtain⟨v',c1,p,us,rfl,c2,c3,c4⟩:=R1.val i _ hx
    rw[b2']at c1; cases c1
    exact⟨p,us,rfl,c4,c3,nofun,⟨_,c3⟩⟩
   ·rename_i xs hx
    simp only[reduceCtorEq,if_false,Option.some.injEq]at a2
    subst a2
    obtain⟨v',c1,p,us,rfl,c2,c3⟩:=R1.val i _ hx
    rw[b2']at c1; cases c1
    exact⟨p,us,rfl,c2,c3.1,nofun,R1.ra p c3.2.2⟩
   ·cases a2
 ·rw[List.getElem?_map]at h1
  obtain⟨g',h',h⟩:=map_some h1
  cases h
  obtain⟨s,a1,a2⟩:=zAp e2 h'
  cases s with
  | v t=>cases a2; cases ma
  | l xs=>simp[argG]at a2; subst a2; cases ma
  | d xs=>simp[argG]at a2; subst a2; cases ma
  | s i =>
   unfold argG at a2
   dsimp only at a2
   split at a2 <;> simp at a2 <;> (subst a2; cases ma)
end
abbrev EE:=Value->Shared->Prop
end D
namespace D
open PySem L2
@[simp low] theorem zS2{α:Type}{b:Bool}{x y:α}:ifB b (x:=⟨x⟩) (y:=⟨y⟩)=if b=true then x else y:=rfl
@[simp low] theorem zTF{α:Type}{p:Option Nat}{k:Nat}{x y:α}:ifO p k x y=if p=some k then x else y:=rfl
@[simp low] theorem zSr{α:Type}{m k:Nat}{x y:α}:ifN m k x y=if m=k then x else y:=rfl
@[simp low] theorem zTP{α:Type}{k:Nat}{l:List Nat}{x y:α}:ifM k l x y=if k∈l then x else y:=rfl
end D
namespace L2
open PySem PySem.Spec PyProof.Rows
def rmH(H:Hp)(c:Addr):Hp:=fun b=>if b=c then none else H b
section
variable {P:Program}{w:World}{H:Hp}{h:Heap}{b c:Addr}{φ:Heap->Prop}
theorem zBy:rmH H c c=none:=if_pos rfl
theorem zAj(h:b≠c):rmH H c b=H b:=if_neg h
theorem zLj{o:HO}(h:rmH H c b=some o):b≠c/\H b=some o:=by
 by_cases e:b=c
 ·subst e; rw[zBy]at h; cases h
 ·rw[zAj e]at h; exact⟨e,h⟩
theorem zBc(h:H b=none):rmH H c b=none:=by
 by_cases e:b=c
 ·subst e; exact zBy
 ·rw[zAj e]; exact h
theorem HOk.rm(x:HOk P w H h)(hc:H c=some (.ext φ)):HOk P w (rmH H c) h:=fun b o e=>by
 obtain⟨hb,e⟩:=zLj e
 exact (x b o e).stay (fun _ _ _ q=>q) (fun d q=>by rw[zAj (fun z=>by rw[z,hc]at q; cases q)]; exact q) (fun d xs q=>by rw[zAj (fun z=>by rw[z,hc]at q; cases xs <;> cases q)]; exact q)
theorem HOk.re{o':HO}(x:HOk P w H h)(hc:H c=none)(new:ObjOk P w (upd H c o') h c o'):HOk P w (upd H c o') h:=fun b o e=>by
 by_cases hb:b=c
 ·subst hb; rw[zAN]at e; cases e; exact new
 ·rw[zAD hb]at e
  exact (x b o e).stay (fun _ _ _ q=>q) (fun d q=>by rw[zAD (zAI q hc)]; exact q) (fun d xs q=>by rw[zAD (zAI q hc)]; exact q)
end
end L2
namespace D
open PySem PySem.Spec PyProof.Rows L2
theorem zFX{P:Program}{w:World}{H:Hp}{h:Heap}{c:Addr}{v:V}{o:Obj}(x:cellO c v o h):ObjOk P w H h c (.ext (cellO c v o)):=by
 refine⟨x,⟨o,x.1⟩,fun h1 h2 y k=>⟨k o y.1,y.2⟩⟩
theorem zMg{P:Program}{w:World}{H:Hp}{h:Heap}{L:Lam}{f c c':Addr}(x:lamO L f c c' h):ObjOk P w H h f (.ext (lamO L f c c')):=by
 refine⟨x,?_,fun h1 h2 y k=>?_⟩
 ·obtain⟨pm,ct,e⟩:=x; exact⟨_,e⟩
 ·obtain⟨pm,ct,e⟩:=y; exact⟨pm,ct,k _ e⟩
structure LamScope(L:Lam)(p1 p2:Str):Prop where
 kind:L.scope.kind=.function
 co:L.scope.isCoroutine=false
 gen:L.scope.isGenerator=false
 nocell:∀ y∈L.scope.names,y.2≠.cell
 l1:L.scope.names.lookup p1=some .local
 l2:L.scope.names.lookup p2=some .local
 fr:L.scope.names.lookup L.x=some .free
 only:∀ y,L.scope.names.lookup y=some .free->y=L.x
 n12:p1≠p2
 bind:∀ (cl:List (Str×Addr)) (pm cd ct a b:Value),bindArgs (PySem.W.kla_fn "<lambda>" L.qual L.params L.body L.scope cl pm cd ct) ⟨[a,b],[]⟩=pure [(p1,a),(p2,b)]
def cxLam(P:Program)(w:World)(K:Fg)(mg:Str->Option Value)(base:Heap)(L:Lam)(p1 p2:Str)(f:Addr)(cd:Value)(c:Addr)(A:Around)(outer:List Env)(s:Shared)(H:Hp):Cx where
 prog:=P
 w:=w
 K:=K
 mg:=mg
 base:=base
 A:=A.deeper (PySem.W.envX L.qual L.scope s.heap.objs.size f cd [(L.x,c)])
 N:=[p1,p2,L.x]
 s₀:=s
 H₀:=H
 env:=PySem.W.envX L.qual L.scope s.heap.objs.size f cd [(L.x,c)]
 outer:=outer
 stack:=PySem.W.envX L.qual L.scope s.heap.objs.size f cd [(L.x,c)]::outer
 ex:=[]
 calm:=true
 fn:=fun _=>false
 pn:=[]
 xe:=fun _ _=>False
section
variable {P:Program}{w:World}{K:Fg}{mg:Str->Option Value}{base:Heap}{k:Nat}{L:Lam}{p1 p2:Str}{f c c':Addr}
theorem look1{c:Addr}{x y:Str}{d:Addr}(h:([(x,c)]:List (Str×Addr)).lookup y=some d):y=x/\d=c:=by
 rw[List.lookup_cons]at h
 by_cases e:y=x
 ·subst e; simp at h; exact⟨rfl,h.symm⟩
 ·have:(y == x)=false:=by simpa using e
  rw[this]at h; cases h
theorem zL0(S:LamScope L p1 p2){A:Around}{outer:List Env}{s:Shared}{H:Hp}{a1 a2 va:V}{u1 u2:Value}{Q:VK}{E:XK}(hr:Room (k+1) A)(e0:Env0 P w K mg base A outer s H)
  (hf:H f=some (.ext (lamO L f c c'))) {oc:Obj} (hc:H c=some (.ext (cellO c va oc))) (hd:H c'=some (.cod L.qual)) (r1:RelV a1 u1) (r2:RelV a2 u2)
  (hbody:Room k (A.deeper (PySem.W.envX L.qual L.scope s.heap.objs.size f (.ref c') [(L.x,c)]))->∃ t,PE (cxLam P w K mg base L p1 p2 f (.ref c') c A outer s (rmH H c)) L.body t/\t [some a1,some a2,some va] (rmH H c) fun v H'=>Q v (upd H' c (.ext (cellO c va oc)))) :
  codeAny (model P w) A (.call (.ref f) ⟨[u1,u2],[]⟩) (CR CX0 outer P w H s Q E) s:=by
 obtain⟨⟨pm,ct,ho⟩,_,_⟩:=(show ObjOk P w H s.heap f (.ext (lamO L f c c')) from e0.hok f _ hf)
 obtain⟨⟨ec,uc,rc,dc⟩,_,_⟩:=(show ObjOk P w H s.heap c (.ext (cellO c va oc)) from e0.hok c _ hc)
 obtain⟨od,vs,td,ed,dd,qd⟩:=(show ObjOk P w H s.heap c' (.cod L.qual) from e0.hok c' _ hd)
 have lim:s.heap.NoLimit:=e0.mod.nolimit.keeps fun b o e=>(e0.bs b o e).1
 refine PySem.W.kla_callFunE hr.depth ho rfl S.co S.gen rfl ⟨c',od,vs,td,rfl,ed,dd,qd⟩ ?_
 rw[S.bind]
 refine wpAny_pure (wpAny_newFunctionEnv S.nocell (fun y hy=>?_) (fun h1 hns hsb=>⟨lim.fresh _ hsb,?_⟩) S.kind)
 ·rcases List.mem_cons.mp hy with z | z
  ·rw[z]; exact S.l1
  ·rw[List.mem_singleton.mp z]; exact S.l2
 show codeAny _ _ (.expr L.body (PySem.W.envX L.qual L.scope s.heap.objs.size f (.ref c') [(L.x,c)])) _ _
 have hk:∀ b o,s.heap.get? b=some o->h1.get? b=some o:=fun b o e=>hsb.extBut b o (Nat.ne_of_lt (Heap.lt_size e)) (Heap.get?_push_of_some _ e)
 have hcb:c < s.heap.objs.size:=Heap.lt_size ec
 obtain⟨t,ht,hq⟩:=hbody (hr.deeper _)
 have hok1:=e0.hok.rm hc
 have I:Inv (cxLam P w K mg base L p1 p2 f (.ref c') c A outer s (rmH H c)) [] [some a1,some a2,some va] (rmH H c) { s with heap:=h1,toks:=s.toks+[(p1,u1),(p2,u2)].length }:=by
  refine⟨⟨e0.mod,S.kind,rfl,rfl,Nat.le_refl _,fun y z d q1 q2=>?_,fun y hy=>?_,(fun _ _ z=>nomatch z),fun _=>hr.hd,Around.frames_deeper e0.frames,.inr ⟨rfl,rfl⟩,(fun b z=>nomatch z),fun b o e=>⟨(e0.bs b o e).1,zBc (e0.bs b o e).2⟩,e0.bsz,(fun b _ _ z=>nomatch z),(fun b z=>nomatch z),e0.funs,fun b hb=>zBc (e0.frf b hb)⟩,
   rfl,e0.bare,Un.kept hk,⟨_,hns,fun i y v q1 q2 q3=>?_⟩,fun y d q=>?_,zBc (e0.hok.fresh (Nat.le_refl _)),fun y d q=>?_,(fun p hp=>nomatch hp),hok1.kept hk,rfl⟩
  ·rw[(look1 q1).1,(look1 q2).1]
  ·have hy:L.scope.names.lookup y=some .cell\/L.scope.names.lookup y=some .free:=hy
   rcases hy with z | z
   ·exact absurd rfl (S.nocell _ (PySem.mem_of_lookup z))
   ·rw[S.only y z]
    exact⟨c,by show ([(L.x,c)]:List (Str×Addr)).lookup L.x=_; simp⟩
  ·match i,q1,q2 with
   | 0,q1,q2 =>
    cases q1; cases q2
    refine⟨u1,r1,.inl ⟨S.l1,?_⟩⟩
    show ([(p1,u1),(p2,u2)]:List (Str×Value)).reverse.lookup p1=_
    have:(p1 == p2)=false:=by simpa using S.n12
    simp[List.lookup_cons,this]
   | 1,q1,q2 =>
    cases q1; cases q2
    refine⟨u2,r2,.inl ⟨S.l2,?_⟩⟩
    show ([(p1,u1),(p2,u2)]:List (Str×Value)).reverse.lookup p2=_
    simp[List.lookup_cons]
   | 2,q1,q2 =>
    cases q1; cases q2
    exact⟨uc,rc,.inr ⟨.inr S.fr,c,by show ([(L.x,c)]:List (Str×Addr)).lookup L.x=_; simp,oc,hk _ _ ec,dc⟩⟩
   | i+3,q1,q2=>cases q1
  ·rw[(look1 q).2]; exact⟨_,oc,hk _ _ ec,dc⟩
  ·rw[(look1 q).2]; exact zBy
 refine PySem.W.kla_codeExpr (wpAny_mono (ht [] _ _ _ _ I hq) (fun u s' hs=>?_) fun _ _ z=>z.elim)
 obtain⟨v,H',J,rv,q⟩:=hs
 have hcn:H' c=none:=J.freeC L.x c (by show ([(L.x,c)]:List (Str×Addr)).lookup L.x=_; simp)
 have un:=J.base
 have cfs:c∉frs outer:=fun z=>by have:=e0.frf c z; rw[hc]at this; cases this
 have ec':s'.heap.get? c=some oc:=un.keep c oc ec zBy cfs (by simp[cxLam])
 have nof:(cxLam P w K mg base L p1 p2 f (.ref c') c A outer s (rmH H c)).ex=[]:=rfl
 refine⟨v,_,J.os,J.bare,?_,J.hok.re hcn (zFX ⟨ec',uc,rc,dc⟩),rv,q⟩
 exact {
  keep:=fun b o e n hb hx=>un.keep b o e (zBc n) hb hx
  slot:=fun b o e n hb hx=>un.slot b o e (zBc n) hb hx
  free:=fun b o e n hx=>by
   have hbc:b≠c:=fun z=>by rw[z,hc]at n; cases n
   rw[zAD hbc]; exact un.free b o e (zBc n) hx
  there:=fun b o e hx=>un.there b o e hx
  tups:=fun b xs e=>by
   have hbc:b≠c:=fun z=>by rw[z,hc]at e; cases e
   rw[zAD hbc]; exact un.tups b xs ((zAj hbc).trans e)
  frzs:=fun b o u e=>by
   have hbc:b≠c:=fun z=>by rw[z,hc]at e; cases e
   rw[zAD hbc]; exact un.frzs b o u ((zAj hbc).trans e)
  tbls:=fun b ps e=>by
   have hbc:b≠c:=fun z=>by rw[z,hc]at e; cases e
   rw[zAD hbc]; exact un.tbls b ps ((zAj hbc).trans e) }
end
theorem zFc{a b:Int}{t u:Tok}{c:Value}(l:List Value)(h:TriplesOk l):TriplesOk (l++[.int a t,.int b u,c]):=by
 fun_induction TriplesOk l with
 | case1=>simp[TriplesOk]
 | case2 _ _ _ _ _ r ih=>simp only[List.cons_append,TriplesOk]; exact ih h
 | case3=>exact h.elim
theorem zHo{pos:Pos}{a b:Int}{t u:Tok}{c cv:Value}(l:List Value)(h:TriplesOk l)(e:codeAmong pos (l++[.int a t,.int b u,c])=some cv):codeAmong pos l=some cv\/cv=c:=by
 fun_induction TriplesOk l with
 | case1 =>
  simp only[List.nil_append,codeAmong]at e
  split at e
  ·cases e; exact .inr rfl
  ·cases e
 | case2 _ _ _ _ _ r ih =>
  simp only[List.cons_append,codeAmong]at e ⊢
  split at e
  ·rename_i z; rw[if_pos z]; exact .inl e
  ·rename_i z; rw[if_neg z]; exact ih h e
 | case3=>exact h.elim
section
variable {X:Cx}{L:Lam}{pos:Pos}{c0 P0:Addr}
theorem zGx{pins:List (Addr×Obj)}{σ:L2.St}{H:Hp}{s:Shared}{h':Heap}{P c' c:Addr}{q:Str}{tk:Tok}{pm ct:Value}(I:Inv X pins σ H s)(hP:H P=some (.tbq q))(hq:q=L.qual)(hx:∀ b o,b≠P->s.heap.get? b=some o->h'.get? b=some o)(hs:s.heap.objs.size<=h'.objs.size)
  (hc:(H c'=some (.cod q))\/(s.heap.objs.size<=c'/\c' < h'.objs.size/\h'.CodeRec (.ref c') q)) (hp:∃ ps:Array Value,h'.get? P=some { cls:=.none,data:=.fields ps }/\TriplesOk ps.toList/\∀ pos cv,codeAmong pos ps.toList=some cv->∃ d,cv=.ref d/\(d=c'\/H d=some (.cod q))) :
  ∃ H1,Inv X pins σ H1 { s with heap:=h'.push (PySem.W.kla_obj "<lambda>" L.qual L.params L.body L.scope [(L.x,c)] pm c' ct),toks:=tk }/\(∀ b o,H b=some o->H1 b=some o)/\H1 h'.objs.size=some (.ext (lamO L h'.objs.size c c'))/\H1 c'=some (.cod q):=by
 subst hq
 have hn:∀ {b},s.heap.objs.size<=b->H b=none:=fun hb=>I.hok.fresh hb
 have hfn:H h'.objs.size=none:=hn hs
 have hcf:c'≠h'.objs.size:=by
  rcases hc with z | ⟨_,z,_⟩
  ·exact fun e=>by rw[e,hfn]at z; cases z
  ·exact Nat.ne_of_lt z
 let H1:Hp:=upd (upd H c' (.cod L.qual)) h'.objs.size (.ext (lamO L h'.objs.size c c'))
 have e1:H1 h'.objs.size=some (.ext (lamO L h'.objs.size c c')):=zAN
 have e2:H1 c'=some (.cod L.qual):=by show upd _ _ _ _=_; rw[zAD hcf]; exact zAN
 have old:∀ b o,H b=some o->H1 b=some o:=fun b o e=>by
  show upd _ _ _ _=_
  rw[zAD (zAI e hfn)]
  by_cases hb:b=c'
  ·subst hb
   rcases hc with z | ⟨z,_,_⟩
   ·rw[z]at e; cases e; exact zAN
   ·rw[hn z]at e; cases e
  ·rw[zAD hb]; exact e
 have get:∀ b o,b≠P->s.heap.get? b=some o->(h'.push (PySem.W.kla_obj "<lambda>" L.qual L.params L.body L.scope [(L.x,c)] pm c' ct)).get? b=some o:=fun b o n e=>Heap.get?_push_of_some _ (hx b o n e)
 have nP:∀ b,H b=none->b≠P:=fun b n z=>by rw[z,hP]at n; cases n
 obtain⟨ps,hp1,hp2,hp3⟩:=hp
 refine⟨H1,I.un ?_ ?_,old,e1,e2⟩
 ·exact {
   keep:=fun b o e n _ _=>get b o (nP b n) e
   slot:=fun b o e n _ _=>⟨o.slots,get b o (nP b n) e⟩
   free:=fun b o e n _=>by
    have hb:=Heap.lt_size e
    show upd _ _ _ _=_
    have h1:b≠h'.objs.size:=Nat.ne_of_lt (Nat.lt_of_lt_of_le hb hs)
    have h2:b≠c':=fun z=>by
     rcases hc with y | ⟨y,_,_⟩
     ·rw[← z,n]at y; cases y
     ·rw[← z]at y; exact absurd hb (Nat.not_lt.mpr y)
    rw[zAD h1,zAD h2]; exact n
   there:=fun b o e _=>by
    by_cases hb:b=P
    ·subst hb; exact⟨_,Heap.get?_push_of_some _ hp1⟩
    ·exact⟨o,get b o hb e⟩
   tups:=fun b xs e=>old b _ e
   frzs:=fun b o u e=>old b _ e
   tbls:=fun b ps e=>⟨#[],by rw[old b _ e]; simp⟩ }
 ·intro b o e
  by_cases hb:b=h'.objs.size
  ·subst hb
   rw[e1]at e; cases e
   exact zMg ⟨pm,ct,Heap.get?_push_size _ rfl⟩
  ·by_cases hb2:b=c'
   ·subst hb2
    rw[e2]at e; cases e
    rcases hc with z | ⟨z,z2,z3⟩
    ·obtain⟨o,vs,t,q1,q2⟩:=(show ObjOk X.prog X.w H s.heap b (.cod L.qual) from I.hok b _ z)
     exact⟨o,vs,t,get b o (fun y=>by rw[y,hP]at z; cases z) q1,q2⟩
    ·obtain⟨_,o,vs,t,q0,q1,q2,q3⟩:=z3
     cases q0
     exact⟨o,vs,t,Heap.get?_push_of_some _ q1,q2,q3⟩
   ·have e':H b=some o:=by
     have e:upd _ _ _ _=_:=e
     rw[zAD hb,zAD hb2]at e; exact e
    by_cases hb3:b=P
    ·subst hb3
     rw[hP]at e'; cases e'
     refine⟨ps,Heap.get?_push_of_some _ hp1,hp2,fun pos cv z=>?_⟩
     obtain⟨d,hd,z⟩:=hp3 pos cv z
     refine⟨d,hd,?_⟩
     rcases z with z | z
     ·rw[z]; exact e2
     ·exact old _ _ z
    ·exact (I.hok b o e').stay (fun d u z q=>get d u (fun y=>by
      rcases z with z | z
      ·exact hb3 (z ▸ y)
      ·rw[y,hP]at z; cases z) q) (fun d q=>old _ _ q) (fun d xs q=>old _ _ q)
theorem zNK(hcode:X.env.code=.ref c0)(hH:PySem.W.codeHdIn X.K c0 P0=true)(hg:X.env.globals=mainGlobals)
  (hcl:∀ c,X.env.cells.lookup L.x=some c->closureFor L.scope X.env=pure [(L.x,c)]) (hq:X.env.qual++"<lambda>"=L.qual) (hdef:defaultsOf L.params X.env=([],[])) :
  PE X (.Lambda L.params L.body L.scope pos) (fun σ H Q=>∃ c,X.env.cells.lookup L.x=some c/\H P0=some (.tbq L.qual)/\∀ f c' H1,(∀ b o,H b=some o->H1 b=some o)->H1 f=some (.ext (lamO L f c c'))->H1 c'=some (.cod L.qual)->Q (.ref f) H1):=by
 intro pins s σ H Q I h
 obtain⟨c,hc,hP,h⟩:=h
 refine PySem.W.kla_eval hdef ?_
 rw[hq]
 have hm:=I.mod
 have hns:s.heap.Ns mainGlobals X.mg:=hm.glob.keeps I.bk
 have C:=PySem.W.codeHd_of_K I.kIn hH
 obtain⟨ps,g1,g2,g3⟩:=(show ObjOk X.prog X.w H s.heap P0 (.tbq L.qual) from I.hok P0 _ hP)
 have hnb:∀ b o,X.base.get? b=some o->b≠P0:=fun b o e z=>by
  have:=(I.bs b o e).2
  rw[z,hP]at this; cases this
 have hgP:mainGlobals≠P0:=by
  obtain⟨o,es,ep,e,_⟩:=hm.glob
  exact hnb _ _ e
 obtain⟨bm,ob,b1,b2,b3,b4,b5,b6⟩:=hm.bmod
 have hbG:bm≠mainGlobals:=fun z=>by
  obtain⟨o,es,ep,e,hd,_⟩:=hm.glob
  rw[← z,b3]at e; cases e
  rw[b6]at hd; cases hd
 have hb:s.heap.BuiltinsAt X.mg P0:=⟨bm,ob,b1,b2,hbG,hnb _ _ b3,I.bk _ _ b3,b4,b5,b6⟩
 cases hca:codeAmong pos ps.toList with
 | none =>
  refine PySem.W.kla_makeFunction (hcl c hc) hg hns hcode C g1 g2 hca hgP hb fun c' ctv h' tk hx hge hlt hrec htb=>?_
  obtain⟨H1,J,k1,k2,k3⟩:=zGx (L:=L) (c:=c) (pm:=(X.mg "__name__").getD .none) (ct:=ctv) (tk:=tk) I hP rfl (fun b o n e=>hx b o n e) (by omega) (.inr ⟨hge,hlt,hrec⟩) ⟨_,htb,by
   rw[Array.toList_append]; exact zFc _ g2,fun pos cv z=>by
   rw[Array.toList_append]at z
   rcases zHo _ g2 z with z | z
   ·obtain⟨d,z1,z2⟩:=g3 pos cv z; exact⟨d,z1,.inr z2⟩
   ·exact⟨c',z,.inl rfl⟩⟩
  exact⟨.ref h'.objs.size,H1,J,rfl,h _ _ _ k1 k2 k3⟩
 | some cv =>
  obtain⟨c',rfl,hc'⟩:=g3 pos cv hca
  refine PySem.W.kla_makeFunctionHit (hcl c hc) hg hns hcode C g1 g2 hca hb fun ctv h' tk hk hsz=>?_
  obtain⟨H1,J,k1,k2,k3⟩:=zGx (L:=L) (c:=c) (pm:=(X.mg "__name__").getD .none) (ct:=ctv) (tk:=tk) I hP rfl (fun b o _ e=>hk b o e) hsz (.inl hc') ⟨ps,hk _ _ g1,g2,fun pos cv z=>by
   obtain⟨d,z1,z2⟩:=g3 pos cv z; exact⟨d,z1,.inr z2⟩⟩
  exact⟨.ref h'.objs.size,H1,J,rfl,h _ _ _ k1 k2 k3⟩
end
mutual
def T.pl:T->Bool
 | .a _=>true
 | .t ts=>T.pls ts
 | .l ts=>T.pls ts
 | .f _=>true
 | .x _ _=>false
 | .m _ _=>false
def T.pls:List T->Bool
 | []=>true
 | y::r=>T.pl y && T.pls r
end
theorem pl_a{v:V}:T.pl (.a v)=true:=by unfold T.pl; rfl
theorem pl_t{ts:List T}:T.pl (.t ts)=T.pls ts:=by rw[T.pl]
theorem pl_l{ts:List T}:T.pl (.l ts)=T.pls ts:=by rw[T.pl]
theorem zA2:T.pls []=true:=by unfold T.pls; rfl
theorem zAk{t:T}{ts:List T}:T.pls (t::ts)=(t.pl && T.pls ts):=by rw[T.pls]
theorem zEV:∀ {ts:List T},(∀ t∈ts,t.pl=true)->T.pls ts=true
 | [],_=>zA2
 | _::_,h=>by rw[zAk,h _ List.mem_cons_self,zEV fun t ht=>h t (List.mem_cons_of_mem _ ht)]; rfl
def G.pl:G->Bool
 | .v t=>t.pl
 | .r ts=>T.pls ts
 | .k ts=>T.pls ts
 | _=>false
section
variable {K:Fg}{H:Hp}{c:Addr}{φ:Heap->Prop}
theorem Tp.rm{p:Addr}{vs:List V}(hc:H c=some (.ext φ))(h:Tp K H p vs):Tp K (rmH H c) p vs:=by
 rcases h with h | h
 ·exact .inl ((zAj fun z=>by rw[z,hc]at h; cases h).trans h)
 ·exact .inr h
theorem KF.rm{p:Addr}{vs:List V}(hc:H c=some (.ext φ))(h:KF K H p vs):KF K (rmH H c) p vs:=by
 rcases h with ⟨o,h⟩ | h
 ·exact .inl ⟨o,(zAj fun z=>by rw[z,hc]at h; cases h).trans h⟩
 ·exact .inr h
mutual
theorem Im.rm(hc:H c=some (.ext φ)):∀ {v:V} {t:T},t.pl=true->Im K H v t->Im K (rmH H c) v t
 | _,.a _,_,h=>h
 | _,.t _,q,h=>by
  rw[pl_t]at q
  unfold Im at h ⊢
  obtain⟨p,vs,rfl,hs,hi⟩:=h
  exact⟨p,vs,rfl,hs.rm hc,Ims.rm hc q hi⟩
 | _,.l _,q,h=>by
  rw[pl_l]at q
  unfold Im at h ⊢
  obtain⟨p,vs,rfl,hs,hi⟩:=h
  exact⟨p,vs,rfl,hs.rm hc,Ims.rm hc q hi⟩
 | _,.f _,_,h=>by unfold Im at h ⊢; exact h
 | _,.x _ _,q,_=>by unfold T.pl at q; cases q
 | _,.m _ _,q,_=>by unfold T.pl at q; cases q
theorem Ims.rm(hc:H c=some (.ext φ)):∀ {vs:List V} {ts:List T},T.pls ts=true->Ims K H vs ts->Ims K (rmH H c) vs ts
 | _,[],_,h=>h
 | _,_::_,q,h=>by
  rw[zAk,Bool.and_eq_true]at q
  unfold Ims at h ⊢
  obtain⟨v,r,rfl,h1,h2⟩:=h
  exact⟨v,r,rfl,Im.rm hc q.1 h1,Ims.rm hc q.2 h2⟩
end
theorem TabOk.rm(hc:H c=some (.ext φ))(h:TabOk K H):TabOk K (rmH H c):=fun a P z=>(zAj fun e=>by have:=h a P z; rw[e,hc]at this; cases this).trans (h a P z)
theorem GOk.rm{v:V}{g:G}{w:W}(hc:H c=some (.ext φ))(q:g.pl=true)(h:GOk K w H v g):GOk K ⟨[],fun b=>∃ o,rmH H c b=some o⟩ (rmH H c) v g:=by
 cases g with
 | v t=>exact Im.rm hc q h
 | r ts =>
  obtain⟨p,vs,rfl,hi,h1,_⟩:=h
  have e:rmH H c p=some (.lst vs):=(zAj fun z=>by rw[z,hc]at h1; cases h1).trans h1
  exact⟨p,vs,rfl,Ims.rm hc q hi,e,nofun,⟨_,e⟩⟩
 | k ts =>
  obtain⟨p,vs,rfl,hi,h1⟩:=h
  exact⟨p,vs,rfl,Ims.rm hc q hi,h1.rm hc⟩
 | l _=>cases q
 | d _=>cases q
 | e _=>cases q
theorem zNA{g:G}(h:g.pl=true):isMut g=false:=by cases g <;> first | rfl | cases h
theorem zLh{C:Fr}{w:W}{Γ1:En}{σ:L2.St}{a1 a2 va:V}{ss:List S}{g1 g2:G}{ta:T}(hc:H c=some (.ext φ))(R1:Rep K C w Γ1 σ H)(o1:SOks K C w σ H [a1,a2] ss)(e2:argsG none Γ1 0 ss=some [g1,g2])(q1:g1.pl=true)(q2:g2.pl=true)(q3:ta.pl=true)(ha:Im K H va ta) :
  Rep K ⟨rmH H c,[],[]⟩ ⟨[],fun b=>∃ o,rmH H c b=some o⟩ [some g1,some g2,some (.v ta)] [some a1,some a2,some va] (rmH H c):=by
 have R:=zKE R1 o1 e2
 have get:∀ (i:Nat) (g:G),([some g1,some g2,some (.v ta)]:En)[i]?=some (some g)->g.pl=true/\∃ v,([some a1,some a2,some va]:L2.St)[i]?=some (some v)/\GOk K ⟨[],fun b=>∃ o,rmH H c b=some o⟩ (rmH H c) v g:=fun i g h=>by
  match i,h with
  | 0,h=>cases h; obtain⟨v,e,z⟩:=R.val 0 g1 rfl; cases e; exact⟨q1,_,rfl,z.rm hc q1⟩
  | 1,h=>cases h; obtain⟨v,e,z⟩:=R.val 1 g2 rfl; cases e; exact⟨q2,_,rfl,z.rm hc q2⟩
  | 2,h=>cases h; exact⟨q3,_,rfl,Im.rm hc q3 ha⟩
  | i+3,h=>cases h
 refine⟨rfl,fun i g h=>(get i g h).2,fun i j p g g' m _ h _ _ _=>?_,fun p hp=>(nomatch hp),fun p hp=>(nomatch hp),fun p hp=>hp,fun p hp=>nofun,fun b o h _=>h,R1.tab.rm hc,fun q hq=>(nomatch hq)⟩
 rw[zNA (get i g h).1]at m; cases m
end
def lamF(dl:DE)(ta:T)(gs:List G):Option V:=match gs with
 | [g1,g2]=>if g1.pl && g2.pl && ta.pl then match dl [some g1,some g2,some (.v ta)] with
  | some (.v (.a u),_)=>some u
  | _=>none
  else none
 | _=>none
def LD(P:Program)(wd:World)(K:Fg)(mg:Str->Option Value)(base:Heap)(k:Nat)(L:Lam)(dl:DE):Prop:=∃ p1 p2,LamScope L p1 p2/\∀ (f c:Addr) (cd:Value) (A:Around) (outer:List Env) (s:Shared) (H:Hp),
 Room k (A.deeper (PySem.W.envX L.qual L.scope s.heap.objs.size f cd [(L.x,c)]))->∃ t,PE (cxLam P wd K mg base L p1 p2 f cd c A outer s H) L.body t/\SimE K t dl
end D
namespace L2
open PySem PySem.Spec PyProof.Rows D
section
variable {X:Cx}{x:Str}{p pos:Pos}{e:Expr}{es:List Expr}{t:TA}{k:Nat}
def tCallL(K:Fg)(i:Nat)(L:Lam)(dl:DE)(t:TA):TE:=fun σ H Q=>∃ f c c' va oc,σ[i]?=some (some (.ref f))/\H f=some (.ext (lamO L f c c'))/\t σ H fun vs H1=>∃ a1 a2,vs=[a1,a2] /\
 H1 f=some (.ext (lamO L f c c'))/\H1 c=some (.ext (cellO c va oc))/\H1 c'=some (.cod L.qual)/\∀ t':TE,SimE K t' dl->t' [some a1,some a2,some va] (rmH H1 c) fun v H'=>Q v (upd H' c (.ext (cellO c va oc)))
theorem zHF{P:Program}{w:World}{H:Hp}{h:Heap}{L:Lam}{f c c':Addr}(x:HOk P w H h)(e:H f=some (.ext (lamO L f c c'))):PySem.W.FnAt f h:=by
 obtain⟨⟨pm,ct,ho⟩,_,_⟩:=(show ObjOk P w H h f (.ext (lamO L f c c')) from x f _ e)
 exact⟨_,_,_,_,ho⟩
theorem zKF{i:Nat}{L:Lam}{dl:DE}(D0:LD X.prog X.w X.K X.mg X.base k L dl)
  (hr:Room (k+1) X.A) (hN:X.N[i]?=some x) (hv:Vis X.env.scope x) (ha:PA X (e::es) t) (hd:(x == ("__debug__":Str))=false:=by decide) (hcd:(x == ("__classdict__":Str))=false:=by decide)
  (he:starEach (e::es) X.env=(false,eval e X.env)::starEach es X.env:=by rfl) (hpl:(backTo pos (starEach es X.env)).any (·.1)=false:=by rfl) :
  PE X (.Call (.Name x p) (e::es) [] pos) (tCallL X.K i L dl t):=by
 intro pins s σ H Q I h
 obtain⟨f,c,c',va,oc,e1,e2,h⟩:=h
 obtain⟨p1,p2,S,B⟩:=D0
 refine wpAny_Call_Name_kw ?_
 refine thn (zCm (X:=X) (i:=i) (x:=x) (pos:=p) hN hv hd hcd pins s σ H (fun v H'=>v=.ref f/\H'=H) I ⟨.ref f,e1,rfl,rfl⟩) fun u s1 ⟨v,H1,I1,r1,q1⟩=>?_
 obtain⟨rfl,rfl⟩:=q1
 obtain rfl:u=Value.ref f:=r1
 refine PySem.W.callWith_F (zHF I1.hok e2) (thn (ha pos pins s1 σ _ _ I1 h) fun us s2 ⟨vs,H2,I2,r,q⟩=>?_) he hpl
 obtain⟨a1,a2,rfl,f1,f2,f3,q⟩:=q
 refine⟨zHF I2.hok f1,?_⟩
 cases r with
 | cons r1 r =>
  cases r with
  | cons r2 r =>
   cases r
   refine wpAny_call (codeAny_mono (zL0 (E:=E0) (Q:=Q) S hr I2.env0 f1 f2 f3 r1 r2 fun hr'=>?_) fun r s' hq=>?_)
   ·obtain⟨t',ht,hs⟩:=B f c (.ref c') X.A X.stack s2 (rmH H2 c) hr'
    exact⟨t',ht,q t' hs⟩
   ·cases r with
    | error e=>exact pass0 pins σ H2 s2 e s' I2 hq
    | ok fl =>
     cases fl with
     | ret u=>exact I2.after hq
     | next=>exact False.elim hq
     | brk=>exact False.elim hq
     | cont=>exact False.elim hq
end
end L2
namespace D
open PySem L2
open Classical in
noncomputable def dCallM (i:Nat) (tb:Tb) (L:Lam) (dl:DE) (fa:DA):DE:=fun Γ=>match Γ[i]? with
 | some (some (.v (.f n)))=>match tb.find? fun q=>decide (q.1=n) with
  | some q=>dCall none q.2.2 [] fa Γ
  | none=>none
 | some (some (.v (.m L' [ta])))=>if L'=L then (fa Γ).bind fun p=>(argsG none p.2 0 p.1).bind fun gs=>(lamF dl ta gs).map fun u=>(.v (.a u),p.2) else none
 | _=>none
def tCallM(K:Fg)(i:Nat)(C:Addr->Sp->Prop)(L:Lam)(dl:DE)(t:TA):TE:=fun σ H Q=>tCallV i C t σ H Q\/tCallL K i L dl t σ H Q
theorem zIg{dl:DE}{ta:T}{gs:List G}{u:V}(h:lamF dl ta gs=some u):∃ g1 g2 Γ',gs=[g1,g2]/\g1.pl=true/\g2.pl=true/\ta.pl=true/\dl [some g1,some g2,some (.v ta)]=some (.v (.a u),Γ'):=by
 unfold lamF at h
 split at h
 ·rename_i g1 g2
  split at h
  ·rename_i hq
   simp only[Bool.and_eq_true]at hq
   split at h
   ·rename_i z
    cases h
    exact⟨g1,g2,_,rfl,hq.1.1,hq.1.2,hq.2,z⟩
   ·cases h
  ·cases h
 ·cases h
theorem zJs{K:Fg}{i:Nat}{tb:Tb}{L:Lam}{dl:DE}{t:TA}{fa:DA}(hl:∀ q∈tb,∀ gs r,q.2.2 gs=some r->gs.length=q.2.1)(ha:SimA K t fa):SimE K (tCallM K i (CallC K tb) L dl t) (dCallM i tb L dl fa):=by
 intro C w Γ σ H s Γ' Q R e k
 unfold dCallM at e
 split at e
 ·rename_i n hn
  refine .inl (zEl hl ha C w Γ σ H s Γ' Q R ?_ k)
  unfold dCallV
  rw[hn]
  exact e
 ·rename_i L' ta hn
  split at e
  ·rename_i hL
   subst hL
   obtain⟨⟨ss,Γ1⟩,e1,e⟩:=bind_some e
   obtain⟨gs,e2,e⟩:=bind_some e
   obtain⟨u,e3,e⟩:=map_some e
   cases e
   obtain⟨g1,g2,Γ2,rfl,q1,q2,q3,e4⟩:=zIg e3
   obtain⟨v,s1,hv⟩:=R.val i _ hn
   obtain⟨f,vs,rfl,hk,hi⟩:=(show Im K H v (.m _ [ta]) from hv).invm
   obtain⟨c,c',va,oc,rfl,f1,f2,f3⟩:=id hk
   obtain⟨_,_,hz,him,_⟩:=hi.inv
   cases hz
   refine .inr ⟨f,c,c',va,oc,s1,f1,ha C w Γ σ H ss Γ1 _ R e1 fun vs H1 R1 ev o1 nw=>?_⟩
   have hl2:=o1.len
   have hl3:=zBk e2
   obtain⟨a1,a2,rfl⟩:∃ a1 a2,vs=[a1,a2]:=by
    have:vs.length=2:=by simp at hl3; omega
    match vs,this with
    | [a,b],_=>exact⟨a,b,rfl⟩
   have n:∀ {b o},H b=some o->¬ Mu o->b∉w.L:=fun {b o} q m z=>by
    obtain⟨u,q',m'⟩:=R.lst b z
    rw[q]at q'; cases q'; exact m m'
   have f1':=ev _ _ f1 (n f1 id)
   have f2':=ev _ _ f2 (n f2 id)
   have f3':=ev _ _ f3 (n f3 id)
   refine⟨a1,a2,rfl,f1',f2',f3',fun t' hs=>?_⟩
   refine hs _ _ _ _ _ _ _ _ (zLh f2' R1 o1 e2 q1 q2 q3 (him.evo ev R.lst)) e4 fun v H' R' ev' so _=>?_
   have hv':v=u:=so.inva
   subst hv'
   have old:∀ b o,H1 b=some o->upd H' c (.ext (cellO c va oc)) b=some o:=fun b o h=>by
    by_cases hb:b=c
    ·subst hb; rw[f2']at h; cases h; exact zAN
    ·rw[zAD hb]; exact ev' b o ((zAj hb).trans h) nofun
   exact k _ _ (R1.evo0 old) (ev.trans fun b o h _=>old b o h) .atom trivial
  ·cases e
 ·cases e
section
variable {ι:Type}{P:Program}{wd:World}{base:Heap}{K:Fg}{mg:Str->Option Value}{k k' n:Nat}{X:ι->Cx}{e:Expr}{es:List Expr}{pos p:Pos}{da:DA}{x:Str}{tb:Tb}{Γ:En}{L:Lam}{dl:DE}
theorem LD.mono(D0:LD P wd K mg base k' L dl)(h:k'<=k):LD P wd K mg base k L dl:=by
 obtain⟨p1,p2,S,B⟩:=D0
 exact⟨p1,p2,S,fun f c cd A outer s H hr=>B f c cd A outer s H (hr.mono h)⟩
theorem zKQ(i:Nat)(M:Fm K mg k X)(B:Fb P wd base X)(T0:TbOk P wd K mg base k' tb)(D0:LD P wd K mg base k' L dl)(ha:AX K X (e::es) da)(hk:k'+1<=k:=by first | exact Nat.le_refl _ | decide | omega)
  (hN:∀ j,(X j).N[i]?=some x:=by intro _; rfl) (hv:∀ j,Vis (X j).env.scope x:=by intro _; first | exact Or.inl rfl | exact Or.inr (Or.inl rfl) | exact Or.inr (Or.inr rfl)) (hd:(x == ("__debug__":Str))=false:=by decide) (hcd:(x == ("__classdict__":Str))=false:=by decide)
  (he:∀ j,starEach (e::es) (X j).env=(false,eval e (X j).env)::starEach es (X j).env:=by intro _; rfl) (hpl:∀ j,(backTo pos (starEach es (X j).env)).any (·.1)=false:=by intro _; rfl) :
  EX K X (.Call (.Name x p) (e::es) [] pos) (dCallM i tb L dl da):=by
 obtain⟨t,q,u⟩:=ha
 refine⟨tCallM K i (CallC K tb) L dl t,fun j=>?_,zJs (fun q hq=>(T0 q hq).len) u⟩
 intro pins s σ H Q I h
 rcases h with h | h
 ·refine zF6 (k:=k') (fun hm f sp hc=>?_) ((M.room j).mono (by omega)) (hN j) (hv j) (q j) hd hcd (he j) (hpl j) pins s σ H Q I h
  obtain⟨q,hq,h1,rfl⟩:=hc
  obtain⟨f',fd,ps,g1,g2,g3,g4⟩:=(T0 q hq).ex
  have hm':Mod K mg base:=by rw[← M.K j,← M.mg j,← B.b j]; exact hm
  have e:=PySem.W.mg_of hm'.kin hm'.glob h1
  rw[g2]at e
  cases e
  exact⟨fd,ps,by rw[B.P,B.w,M.K,M.mg,B.b]; exact g1,by rw[M.K]; exact g3,by rw[M.K]; exact g4⟩
 ·have D1:LD (X j).prog (X j).w (X j).K (X j).mg (X j).base k' L dl:=by rw[B.P,B.w,M.K,M.mg,B.b]; exact D0
  rw[← M.K j]at h
  exact zKF D1 ((M.room j).mono hk) (hN j) (hv j) (q j) hd hcd (he j) (hpl j) pins s σ H Q I h
end
open PySem PySem.Spec L2
def TabAt(K:Fg)(fd:FuncData):Prop:=∃ c0 P0,fd.code=.ref c0/\PySem.W.tabIn K "is_so"=some (c0,P0)/\PySem.W.codeHdIn K c0 P0=true
def tHand(sp:Sp)(L:Lam)(P0:Addr):TE:=fun σ H Q=>∃ v0 va,σ[0]?=some (some v0)/\σ[1]?=some (some va)/\H P0=some (.tbq L.qual)/\∀ f c c' oc H2,H c=none->(∀ b o,H b=some o->H2 b=some o)->H2 f=some (.ext (lamO L f c c'))->H2 c=some (.ext (cellO c va oc)) ->
 H2 c'=some (.cod L.qual)->sp [v0,.ref f] H2 (fun v H'=>H' c=some (.ext (cellO c va oc))/\Q v (rmH H' c)) E0
section
variable {X:Cx}{L:Lam}{pos lp p p':Pos}{c0 P0 f:Addr}{x y:Str}{k:Nat}{fd:FuncData}{ps:List Str}{sp:Sp}
theorem zMp(F:FnOk X.prog X.w X.K X.mg X.base CX0 k f fd ps sp)(hr:Room k X.A)(hgl:Gl X x)(hm:X.mg x=some (.ref f))(hk:PySem.W.keepIn X.K (.ref f)=true)(hb:Binds X.K fd ps [])
  (hcode:X.env.code=.ref c0) (hH:PySem.W.codeHdIn X.K c0 P0=true) (hg:X.env.globals=mainGlobals)
  (hcl:∀ c,X.env.cells.lookup L.x=some c->closureFor L.scope X.env=pure [(L.x,c)]) (hq:X.env.qual++"<lambda>"=L.qual) (hdef:defaultsOf L.params X.env=([],[]))
  (h0:PE X (.Name y p') (tVar 0)) (hN:X.N[1]?=some L.x) (hkd:X.env.kindOf L.x=some .cell) (hvis:Vis X.env.scope L.x) (hfn:X.fn L.x=true) (hdb:(x == ("__debug__":Str))=false:=by decide)
  (he:starEach [.Name y p',.Lambda L.params L.body L.scope lp] X.env=(false,eval (.Name y p') X.env)::starEach [.Lambda L.params L.body L.scope lp] X.env:=by rfl)
  (he2:starEach [.Lambda L.params L.body L.scope lp] X.env=(false,eval (.Lambda L.params L.body L.scope lp) X.env)::starEach [] X.env:=by rfl)
  (hpl:(backTo pos (starEach [.Lambda L.params L.body L.scope lp] X.env)).any (·.1)=false:=by rfl) :
  PE X (.Call (.Name x p) [.Name y p',.Lambda L.params L.body L.scope lp] [] pos) (tHand sp L P0):=by
 intro pins s σ H Q I h
 obtain⟨v0,va,e0,e1,hP,h⟩:=h
 obtain⟨c,hc⟩:=I.ok.has L.x (.inl hkd)
 refine wpAny_Call_Name_kw (zD8 I hgl hm ?_ hdb)
 have A0:=zB3 h0 (zB3 (zNK (pos:=lp) hcode hH hg hcl hq hdef) zDx he2) he
 refine PySem.W.callWith_K (h₀:=X.base) I.ok.mod.kin hk (thn (A0 pos pins s σ H (fun vs H1=>∃ f c',vs=[v0,.ref f]/\(∀ b o,H b=some o->H1 b=some o)/\H1 f=some (.ext (lamO L f c c'))/\H1 c'=some (.cod L.qual)) I ?_) fun us s1 ⟨vs,H1,I1,r,q⟩=>⟨I1.kIn,?_⟩) he hpl
 ·exact⟨v0,e0,c,hc,hP,fun f c' H1 k1 k2 k3=>⟨f,c',rfl,k1,k2,k3⟩⟩
 obtain⟨f',c',rfl,k1,k2,k3⟩:=q
 have hcn:H c=none:=I.freeC _ _ hc
 have hc1:H1 c=none:=I1.freeC _ _ hc
 obtain⟨m,hm1,hl⟩:=I1.loc
 obtain⟨u,ru,lk⟩:=hl 1 L.x va hN e1 hvis
 obtain⟨oc,ec,dc⟩:∃ oc,s1.heap.get? c=some oc/\oc.data=.cell (some u):=by
  rcases lk with ⟨z,_⟩ | ⟨_,c2,z1,oc,z2,z3⟩
  ·rw[hkd]at z; cases z
  ·rw[hc]at z1; cases z1; exact⟨oc,z2,z3⟩
 have cO:cellO c va oc s1.heap:=⟨ec,u,ru,dc⟩
 have cab:=I1.ok.cab L.x c hfn hc
 have ne2:∀ {b o},H1 b=some o->upd H1 c (.ext (cellO c va oc)) b=some o:=fun {b o} e=>by
  rw[zAD (zAI e hc1)]; exact e
 have no2:∀ {b},b≠c->H1 b=none->upd H1 c (.ext (cellO c va oc)) b=none:=fun {b} n e=>by rw[zAD n]; exact e
 have z1:=I1.env0
 have fsn:∀ b∈frs X.stack,b≠c:=fun b hb z=>by
  rcases List.mem_cons.mp (I1.stkSub b hb) with e | e
  ·exact I1.cne _ _ hc (z.symm.trans e)
  ·obtain⟨_,o,ho,_⟩:=I1.ok.funs.mem e
   rw[z]at ho
   exact absurd (Heap.lt_size ho) (Nat.not_lt.mpr cab)
 have z2:Env0 X.prog X.w X.K X.mg X.base X.A X.stack s1 (upd H1 c (.ext (cellO c va oc))):=⟨z1.frames,z1.mod,fun b o e=>⟨(z1.bs b o e).1,no2 (fun z=>by
   rw[z]at e
   exact absurd (Heap.lt_size e) (Nat.not_lt.mpr (Nat.le_trans I1.ok.bsz cab))) (z1.bs b o e).2⟩,z1.bsz,z1.funs,fun b hb=>no2 (fsn b hb) (z1.frf b hb),z1.hok.re hc1 (zFX cO),z1.bare⟩
 have hsp:=h f' c c' oc (upd H1 c (.ext (cellO c va oc))) hcn (fun b o e=>ne2 (k1 b o e)) (ne2 k2) zAN (ne2 k3)
 have hl:(us++[]).length=ps.length:=by rw[List.append_nil,← r.length]; exact F.len _ _ _ _ hsp
 have hbs:=hb s1 us I1.kIn hl
 rw[List.append_nil]at hbs
 refine wpAny_call (codeAny_mono (F.run X.A X.stack s1 _ ⟨us,[]⟩ us [v0,.ref f'] _ E0 hr z2 hbs r hsp) fun r s' hq=>?_)
 cases r with
 | error e=>exact pass0 pins σ H1 s1 e s' I1 hq
 | ok fl =>
  cases fl with
  | ret u =>
   obtain⟨v,H',os,bare,un,hok,rv,hcc,hQ⟩:=hq
   have gc:s'.heap.get? c=some oc:=(show ObjOk X.prog X.w H' s'.heap c (.ext (cellO c va oc)) from hok c _ hcc).1.1
   refine I1.after ⟨v,rmH H' c,os,bare,?_,hok.rm hcc,rv,hQ⟩
   exact {
    keep:=fun b o e n hb hx=>by
     by_cases z:b=c
     ·subst z; rw[ec]at e; cases e; exact gc
     ·exact un.keep b o e (no2 z n) hb hx
    slot:=fun b o e n hb hx=>un.slot b o e (no2 (fsn b hb) n) hb hx
    free:=fun b o e n hx=>by
     by_cases z:b=c
     ·subst z; exact zBy
     ·rw[zAj z]; exact un.free b o e (no2 z n) hx
    there:=un.there
    tups:=fun b xs e=>by
     have z:b≠c:=zAI e hc1
     rw[zAj z]; exact un.tups b xs (ne2 e)
    frzs:=fun b o w e=>by
     have z:b≠c:=zAI e hc1
     rw[zAj z]; exact un.frzs b o w (ne2 e)
    tbls:=fun b ps e=>by
     have z:b≠c:=zAI e hc1
     rw[zAj z]; exact un.tbls b ps (ne2 e) }
  | next=>exact False.elim hq
  | brk=>exact False.elim hq
  | cont=>exact False.elim hq
end
def dHand(F:DF)(L:Lam):DE:=fun Γ=>match Γ with
 | [some (.v t0),some (.v ta)]=>match F [.v t0,.v (.m L [ta])] with
  | some (.v (.a u),[])=>some (.v (.a u),Γ)
  | _=>none
 | _=>none
section
variable {K:Fg}{F:DF}{L:Lam}{c0 P0:Addr}
theorem zKV(hT:PySem.W.tabIn K "is_so"=some (c0,P0))(hq:L.qual="is_so.<locals>.<lambda>"):SimE K (tHand (spD K none 2 F) L P0) (dHand F L):=by
 intro C w Γ σ H s Γ' Q R e k
 unfold dHand at e
 split at e
 ·rename_i t0 ta
  split at e
  ·rename_i u eF
   cases e
   obtain⟨v0,s0,i0⟩:=R.val 0 _ rfl
   obtain⟨va,s1,i1⟩:=R.val 1 _ rfl
   refine⟨v0,va,s0,s1,by rw[hq]; exact R.tab c0 P0 hT,fun f c c' oc H2 hcn old f1 f2 f3=>?_⟩
   have ev:Evo [] H H2:=fun b o h _=>old b o h
   have hL:LL ([]:List Addr) H:=fun p hp=>nomatch hp
   have j0:Im K H2 v0 t0:=Im.evo ev hL i0
   have j1:Im K H2 (.ref f) (.m L [ta]):=Im.lam ⟨c,c',va,oc,rfl,f1,f2,f3⟩ (.one (Im.evo ev hL i1))
   refine⟨rfl,⟨[],fun b=>∃ o,H2 b=some o⟩,[.v t0,.v (.m L [ta])],.v (.a u),[],eF,?_,rfl,(fun p hp=>nomatch hp),fun v H' ev2 _ ro=>⟨ev2 _ _ f2 nofun,?_⟩⟩
   ·refine⟨rfl,fun i g h=>?_,fun i j p g g' m _ h _ _ _=>?_,fun p hp=>(nomatch hp),fun p hp=>(nomatch hp),fun p hp=>hp,fun p hp=>nofun,fun b o h _=>h,fun c P z=>old _ _ (R.tab c P z),fun q hq=>(nomatch hq)⟩
    ·match i,h with
     | 0,h=>cases h; exact⟨_,rfl,j0⟩
     | 1,h=>cases h; exact⟨_,rfl,j1⟩
     | i+2,h=>cases h
    ·match i,h with
     | 0,h=>cases h; cases m
     | 1,h=>cases h; cases m
     | i+2,h=>cases h
   ·obtain rfl:v=u:=(show Im K H' v (.a u) from ro).inva
    have old2:∀ b o,H b=some o->rmH H' c b=some o:=fun b o h=>by
     rw[zAj (zAI h hcn)]; exact ev2 b o (old b o h) nofun
    exact k _ _ (R.evo0 old2) (fun b o h _=>old2 b o h) .atom trivial
  ·cases e
 ·cases e
end
section
variable {P:Program}{wd:World}{base:Heap}{K:Fg}{mg:Str->Option Value}{k k':Nat}
theorem zM8{x:Str}{st:Stmt}{f:Addr}{fd:FuncData}{N ps:List Str}{ip:Option Nat}{g:DS}(F:Fun K x x st f fd)(S:FnScope N ps (defScope st))
  (body:∀ (cdv:Value) (A:Around) (outer:List Env) (s:Shared) (H:Hp) (E:XK),fd.code=cdv->Fm K mg k (cx1 P wd K mg base N x (defScope st) f cdv A outer s H E)->Fb P wd base (cx1 P wd K mg base N x (defScope st) f cdv A outer s H E)->BX K (cx1 P wd K mg base N x (defScope st) f cdv A outer s H E) ip (defBody st) g) :
  FnOk P wd K mg base CX0 (k+1) f fd ps (spD K ip ps.length (fnD ip ps.length N.length g)):=by
 obtain⟨oc,od,kV,doc,pm,an,cdv,ct,osl,rfl,lk,hcd⟩:=F.ex
 refine zLU lk hcd S (fun vs H Q E h=>h.1) fun A outer s H vs Q E hr hsp=>?_
 obtain⟨t,p,u⟩:=body cdv A outer s H E rfl ⟨fun _=>rfl,fun _=>rfl,fun _=>rfl,fun _=>hr⟩ ⟨fun _=>rfl,fun _=>rfl,fun _=>rfl⟩
 exact⟨t,(p ()).nox,zD9 u hsp⟩
end
section
variable {ι:Type}{P:Program}{wd:World}{base:Heap}{K:Fg}{mg:Str->Option Value}{k k':Nat}{X:ι->Cx}{F:DF}{L:Lam}{pos lp p p':Pos}{x y:Str}{fd:FuncData}{cdv:Value}
theorem zMt(M:Fm K mg k X)(B:Fb P wd base X)(D0:FD P wd K mg base k' x none 2 F)(hT:TabAt K fd)(hc:fd.code=cdv)(hcode:∀ j,(X j).env.code=cdv)(hk:k'<=k:=by first | exact Nat.le_refl _ | decide | omega)
  (hg:∀ j,(X j).env.globals=mainGlobals:=by intro _; rfl) (hcl:∀ j c,(X j).env.cells.lookup L.x=some c->closureFor L.scope (X j).env=pure [(L.x,c)]) (hq:∀ j,(X j).env.qual++"<lambda>"=L.qual:=by intro _; rfl) (hdef:∀ j,defaultsOf L.params (X j).env=([],[]):=by intro _; rfl)
  (h0:∀ j,PE (X j) (.Name y p') (tVar 0)) (hN:∀ j,(X j).N[1]?=some L.x:=by intro _; rfl) (hkd:∀ j,(X j).env.kindOf L.x=some .cell:=by intro _; rfl) (hfn:∀ j,(X j).fn L.x=true:=by intro _; rfl) (hqq:L.qual="is_so.<locals>.<lambda>":=by rfl)
  (hgl:∀ j,Gl (X j) x:=by intro _; rfl) (hdb:(x == ("__debug__":Str))=false:=by decide)
  (he:∀ j,starEach [.Name y p',.Lambda L.params L.body L.scope lp] (X j).env=(false,eval (.Name y p') (X j).env)::starEach [.Lambda L.params L.body L.scope lp] (X j).env:=by intro _; rfl)
  (he2:∀ j,starEach [.Lambda L.params L.body L.scope lp] (X j).env=(false,eval (.Lambda L.params L.body L.scope lp) (X j).env)::starEach [] (X j).env:=by intro _; rfl)
  (hpl:∀ j,(backTo pos (starEach [.Lambda L.params L.body L.scope lp] (X j).env)).any (·.1)=false:=by intro _; rfl) :
  EX K X (.Call (.Name x p) [.Name y p',.Lambda L.params L.body L.scope lp] [] pos) (dHand F L):=by
 obtain⟨c0,P0,t1,t2,t3⟩:=hT
 obtain⟨f,fd',ps,g1,g2,g3,g4⟩:=D0.ex
 refine⟨tHand (spD K none 2 F) L P0,fun j=>?_,zKV t2 hqq⟩
 have hkj:=hkd j
 exact zMp (k:=k') (by rw[B.P,B.w,M.K,M.mg,B.b]; exact g1) ((M.room j).mono hk) (hgl j) (by rw[M.mg]; exact g2) (by rw[M.K]; exact g3) (by rw[M.K]; exact g4) (by rw[hcode j,← hc]; exact t1) (by rw[M.K]; exact t3) (hg j) (hcl j) (hq j) (hdef j) (h0 j) (hN j) hkj (.inr (.inl hkj)) (hfn j) hdb (he j) (he2 j) (hpl j)
end
open PySem PySem.Spec PyProof.Rows L2
theorem zIa{P:Program}{w:World}{K:PySem.W.Frag}{mg mb:Str->Option Value}{k:Nat}{fa a c0 P0:Addr}{fd:FuncData}{x:Str}{sp:Sp}{s₁:Shared}{vs:List Value}{ns:List Int}
  (KX:K.In s₁.heap) (hns:s₁.heap.Ns mainGlobals mg) (hb:s₁.heap.Ns builtinsNs mb) (hbb:∀ x:Str,x≠"__name__"->mb x=bootBuiltins x) (hlim:s₁.heap.NoLimit) (hg:s₁.gens=#[])
  (hbm:∃ bm ob,mg "__builtins__"=some (.ref bm)/\bm≠builtinsNs/\s₁.heap.get? bm=some ob/\ob.cls=.type "module"/\ob.dict=some builtinsNs/\ob.data=.plain)
  (hT:PySem.W.tabIn K "is_so"=some (c0,P0)) (hH:PySem.W.codeHdIn K c0 P0=true) (hNT:PySem.W.noTabs K=true) (hP:s₁.heap.get? P0=some { cls:=.none,data:=.fields #[] })
  (ha:s₁.heap.get? a=some { cls:=.type "list",data:=.seq vs.toArray }) (hi:IntsAre vs ns) (hl:ns.length<=sizeLine) (hr:Room k callerA)
  (F:∀ base:Heap,K.In base->base.Ns mainGlobals mg->FnOk P w K mg base CX0 k fa fd [x] sp) (hbind:∀ (s:Shared) (u:Value),BindsTo s fd ⟨[u],[]⟩ [(x,u)])
  (hsp:∀ H:Hp,(∀ us,H a≠some (.lst us))->TabOk K H->SqL K H a (ns.map V.int)->sp [.ref a] H (fun v H'=>v=.bl true/\∀ b o,H b=some o->H' b=some o) fun _ _ _=>False) :
  codeAny (model P w) callerA (.call (.ref fa) ⟨[.ref a],[]⟩) (fun r s'=>r=.ok (.ret (.bool true))/\OldK s₁.heap s'.heap/\s'.os=s₁.os/\AllBare s'.gens) s₁:=by
 have rv:=zEj hi
 have lenV:=hi.length
 have haP:a≠P0:=fun z=>by rw[z,hP]at ha; cases ha
 have core:∀ H:Hp,(∀ b,H b=none\/(∃ o xs,H b=some (.frz o (.lst xs)))\/b=P0)->H P0=some (.tbq "is_so.<locals>.<lambda>")->SqL K H a (ns.map V.int)->HOk P w H s₁.heap->(∀ b,H b≠none->b=a\/b=P0)->(H a≠none->K.lookup a=none) ->
   codeAny (model P w) callerA (.call (.ref fa) ⟨[.ref a],[]⟩) (fun r s'=>r=.ok (.ret (.bool true))/\OldK s₁.heap s'.heap/\s'.os=s₁.os/\AllBare s'.gens) s₁:=by
  intro H hO hHP hS hok hA hK
  have base_of:∀ {b:Addr} {o:Obj},s₁.heap.get? b=some o->H b=none->(hidT s₁.heap H).get? b=some o:=fun e n=>zKl e n
  have noA:∀ {b:Addr} {o:Obj},s₁.heap.get? b=some o->(∀ its n,o.data≠.seq its n)->(∀ ps,o.data≠.fields ps)->H b=none:=fun {b o} e d1 d2=>by
   cases q:H b with
   | none=>rfl
   | some u =>
    rcases hA b (by rw[q]; simp) with e' | e'
    ·subst e'
     rw[ha]at e; cases e
     exact absurd rfl (d1 _ _)
    ·subst e'
     rw[hP]at e; cases e
     exact absurd rfl (d2 _)
  have nsK:∀ {b:Addr} {m:Str->Option Value},s₁.heap.Ns b m->(hidT s₁.heap H).Ns b m:=fun {b m} ⟨o,es,ep,e,d,r⟩=>⟨o,es,ep,base_of e (noA e (fun _ _ z=>by rw[d]at z; cases z) (fun _ z=>by rw[d]at z; cases z)),d,r⟩
  have hKb:K.In (hidT s₁.heap H):=fun b o e=>base_of (KX b o e) (by
   cases q:H b with
   | none=>rfl
   | some u =>
    rcases hA b (by rw[q]; simp) with e' | e'
    ·subst e'
     rw[hK (by rw[q]; simp)]at e; cases e
    ·subst e'
     have h2:=List.all_eq_true.mp hNT (b,o) (PySem.W.mem_of_lookupK e)
     have e3:=KX b o e
     rw[hP]at e3; cases e3
     exact absurd (show false=true from h2) Bool.false_ne_true)
  have hM:Mod K mg (hidT s₁.heap H):=⟨hKb,nsK hns,⟨mb,nsK hb,hbb⟩,let ⟨mc,h1,h2⟩:=hlim; ⟨mc,nsK h1,h2⟩,by
   obtain⟨bm,ob,b1,b2,b3,b4,b5,b6⟩:=hbm
   exact⟨bm,ob,b1,b2,base_of b3 (noA b3 (fun _ _ z=>by rw[b6]at z; cases z) (fun _ z=>by rw[b6]at z; cases z)),b4,b5,b6⟩⟩
  have e0:Env0 P w K mg (hidT s₁.heap H) callerA [] s₁ H:=⟨rfl,hM,fun b o e=>zLg e,Nat.le_of_eq (zJM _ _),trivial,fun b hb=>absurd (show b∈([]:List Addr) from hb) (by simp),hok,.of_eq hg⟩
  have hLs:∀ us,H a≠some (.lst us):=fun us z=>by
   rcases hO a with y | ⟨o,xs,y⟩ | y
   ·rw[z]at y; cases y
   ·rw[z]at y; cases y
   ·exact haP y
  have hTb:TabOk K H:=fun c P z=>by rw[hT]at z; cases z; exact hHP
  refine codeAny_mono ((F _ hKb (nsK hns)).run callerA [] s₁ H ⟨[.ref a],[]⟩ [.ref a] [.ref a] _ _ hr e0 (hbind s₁ (.ref a)) (.cons rfl .nil) (hsp H hLs hTb hS)) fun r s' h=>?_
  cases r with
  | error e=>exact False.elim h
  | ok fl =>
   cases fl with
   | next=>exact False.elim h
   | brk=>exact False.elim h
   | cont=>exact False.elim h
   | ret u =>
    obtain⟨v,H',os,bare,un,hok',r',q,ev⟩:=h
    subst q
    obtain rfl:u=Value.bool true:=r'
    have keep:∀ b o,b≠P0->s₁.heap.get? b=some o->s'.heap.get? b=some o:=fun b o n e=>by
     cases q:H b with
     | none=>exact un.keep b o e q (by intro z; exact absurd (show b∈([]:List Addr) from z) (by simp)) (by simp)
     | some u =>
      rcases hO b with z | ⟨ob,xs,z⟩ | z
      ·rw[q]at z; cases z
      ·have z2:=un.frzs b ob _ z
       obtain⟨e1,_⟩:=hok b _ z
       obtain⟨e2,_⟩:=hok' b _ z2
       rw[e]at e1; cases e1
       exact e2
      ·exact absurd z n
    obtain⟨ps,p1,_⟩:=(show ObjOk P w H' s'.heap P0 (.tbq "is_so.<locals>.<lambda>") from hok' P0 _ (ev _ _ hHP))
    have C:=PySem.W.codeHd_of_K KX hH
    refine⟨rfl,⟨fun b o e=>?_,fun b o e=>?_⟩,os,bare⟩
    ·by_cases z:b=P0
     ·subst z
      rw[hP]at e; cases e
      exact .inr (.inl ⟨(C.tab hP).isCodeTable,rfl,#[],ps,rfl,by rw[Array.empty_append]; exact p1⟩)
     ·exact .inl (keep b o z e)
    ·by_cases z:b=P0
     ·subst z; exact⟨_,p1⟩
     ·exact⟨o,keep b o z e⟩
 have tbo:∀ {H:Hp},H P0=some (.tbq "is_so.<locals>.<lambda>")->ObjOk P w H s₁.heap P0 (.tbq "is_so.<locals>.<lambda>"):=fun _=>⟨#[],hP,trivial,fun pos cv z=>by cases z⟩
 cases hk:K.lookup a with
 | some o =>
  have e:=KX a o hk
  rw[ha]at e
  cases e
  refine core (fun b=>if b=P0 then some (.tbq "is_so.<locals>.<lambda>") else none) (fun b=>?_) (if_pos rfl) (.inr ⟨_,vs.toArray,_,hk,rfl,rfl,rfl,by rw[List.size_toArray,lenV]; exact hl,by simpa using rv⟩) (fun b u z=>?_) (fun b z=>?_) fun z=>absurd (if_neg haP) z
  ·by_cases hb:b=P0
   ·exact .inr (.inr hb)
   ·exact .inl (if_neg hb)
  ·by_cases hb:b=P0
   ·have z':=(if_pos hb).symm.trans z
    cases z'
    subst hb
    exact tbo z
   ·have z':=(if_neg hb).symm.trans z
    cases z'
  ·by_cases hb:b=P0
   ·exact .inr hb
   ·exact absurd (if_neg hb) z
 | none =>
  refine core (fun b=>if b=P0 then some (.tbq "is_so.<locals>.<lambda>") else if b=a then some (.frz { cls:=.type "list",data:=.seq vs.toArray } (.lst (ns.map V.int))) else none) (fun b=>?_) (if_pos rfl) (.inl (.inr ⟨{ cls:=.type "list",data:=.seq vs.toArray },(if_neg haP).trans (if_pos rfl)⟩)) (fun b u z=>?_) (fun b z=>?_) fun _=>hk
  ·by_cases hb:b=P0
   ·exact .inr (.inr hb)
   ·by_cases hb2:b=a
    ·exact .inr (.inl ⟨_,_,(if_neg hb).trans (if_pos hb2)⟩)
    ·exact .inl ((if_neg hb).trans (if_neg hb2))
  ·by_cases hb:b=P0
   ·have z':=(if_pos hb).symm.trans z
    cases z'
    subst hb
    exact tbo z
   ·by_cases hb2:b=a
    ·have z':=((if_neg hb).trans (if_pos hb2)).symm.trans z
     cases z'
     subst hb2
     exact⟨ha,by rw[List.length_map]; exact hl,vs,_,rv,ha⟩
    ·have z':=((if_neg hb).trans (if_neg hb2)).symm.trans z
     cases z'
  ·by_cases hb:b=P0
   ·exact .inr hb
   ·by_cases hb2:b=a
    ·exact .inl hb2
    ·exact absurd ((if_neg hb).trans (if_neg hb2)) z
theorem zKu{K:Fg}{F:DF}{H:Hp}{a:Addr}{ns:List Int}(hO:∀ us,H a≠some (.lst us))(hT:TabOk K H)(hS:SqL K H a (ns.map V.int))(h:F [.k (intsT ns)]=some (.v (.a (.bl true)),[])):spD K none 1 F [.ref a] H (fun v H'=>v=.bl true/\∀ b o,H b=some o->H' b=some o) fun _ _ _=>False:=by
 have hK:KF K H a (ns.map V.int):=KF.of hS hO
 refine⟨rfl,⟨[],fun _=>False⟩,_,_,_,h,⟨rfl,fun i g e=>?_,fun i j p ga gb ma mb e=>?_,fun p hp=>(nomatch hp),fun p hp=>(nomatch hp),fun p hp=>hp.elim,fun p hp=>hp.elim,fun b o e _=>e,hT,fun q hq=>(nomatch hq)⟩,rfl,(fun p hp=>nomatch hp),fun v H' ev _ hr=>⟨?_,fun b o e=>ev b o e nofun⟩⟩
 ·match i,e with
  | 0,e =>
   cases e
   refine⟨_,rfl,a,ns.map V.int,rfl,?_,hK⟩
   have:intsT ns=(ns.map V.int).map T.a:=by simp[intsT]
   rw[this]
   exact Ims.atoms _
  | i+1,e=>simp at e
 ·match i,e with
  | 0,e=>cases e; cases ma
  | i+1,e=>simp at e
 ·exact (show Im K H' v (.a (.bl true)) from hr).inva
theorem walk_ofL{l:PySem.W.OpenLaw}{n k:Nat}{q:Program}{loose:List Str}{XP:(Str->Option Value)->Heap->Prop}{YP:World->Heap->Prop}{d:DefRec}{K:Params->PySem.W.Frag}{sp:PySem.W.Frag->Sp}{x:Str}{c0 P0:Addr}
  (hn:l.most=some n) (hn2:n<=sizeLine) (hdf:d.params.defaults=[]) (hr:Room k callerA)
  (hY:∀ (w:World) (h:Heap),YP w h->(K w.params).In h) (hYP:∀ (w:World) (h:Heap),YP w h->h.get? P0=some { cls:=.none,data:=.fields #[] })
  (hT:∀ w:World,PySem.W.tabIn (K w.params) "is_so"=some (c0,P0)) (hH:∀ w:World,PySem.W.codeHdIn (K w.params) c0 P0=true) (hNT:∀ w:World,PySem.W.noTabs (K w.params)=true)
  (F:∀ (w:World) (mg:Str->Option Value) (fa:Addr) (h:Heap),(K w.params).In h->h.Ns mainGlobals mg->mg d.name=some (.ref fa) ->
   ∃ fd:FuncData,(∀ (s:Shared) (u:Value),BindsTo s fd ⟨[u],[]⟩ [(x,u)]) /\
    ∀ base:Heap,(K w.params).In base->base.Ns mainGlobals mg->FnOk l.prog w (K w.params) mg base CX0 k fa fd [x] (sp (K w.params)))
  (hsp:∀ (K:PySem.W.Frag) (H:Hp) (a:Addr) (ns:List Int),ns.length<=n->(∀ us,H a≠some (.lst us))->TabOk K H->SqL K H a (ns.map V.int)->sp K [.ref a] H (fun v H'=>v=.bl true/\∀ b o,H b=some o->H' b=some o) fun _ _ _=>False) :
  PySem.W.WalkO q loose XP YP l.row.toRowW d [] (fun f vs=>PySem.call f vs):=by
 refine Att.attach_call hn hdf fun w s₀ s₁ mg mb fa o pm cd doc a vs ns G Y ho hd hcd hmg hobj hints hlen hg=>?_
 have KX:=hY w _ Y
 obtain⟨fd,hb,hF⟩:=F w mg fa _ KX G.T.g hmg
 exact zIa KX G.T.g G.T.b G.T.builtins G.T.nolimit hg G.T.bmain (hT w) (hH w) (hNT w) (hYP w _ Y) hobj hints (Nat.le_trans hlen hn2) hr hF hb fun H h1 h2 h3=>hsp _ H a ns hlen h1 h2 h3
mutual
def Rs.PutP(PP:T->List T->T->Prop):Rs->Prop
 | .mk e v ks=>PP e (ks.map Rs.v) v/\PutsP PP ks
def PutsP(PP:T->List T->T->Prop):List Rs->Prop
 | []=>True
 | r::rs=>r.PutP PP/\PutsP PP rs
end
theorem zAU{PP:T->List T->T->Prop}{r:Rs}{rs:List Rs}:PutsP PP (r::rs) ↔ r.PutP PP/\PutsP PP rs:=by rw[PutsP]
theorem zA0{PP:T->List T->T->Prop}{e v:T}{ks:List Rs}:(Rs.mk e v ks).PutP PP ↔ PP e (ks.map Rs.v) v/\PutsP PP ks:=by rw[Rs.PutP]
theorem zAn{PP:T->List T->T->Prop}:PutsP PP []:=by unfold PutsP; trivial
def fwBM(tb1:Tb)(dp:DE):DS:=dSeq (dSet 5 (dComp (some (1,3)) [none,some 3] (dSeqI (dCallV 1 tb1 (jW (jV 4) qQ))) (gdName 0) dYes fwE))
 (dDrop (dMut 3 hAppend (jW dp qQ)))
def fwDM(FA:DF)(tb1:Tb)(dp:DE):DS:=dSeq (dSet 3 (dLst qQ))
 (dSeq (dFor none (dRevL (jW (dCall none FA [] (jW (jV 0) (jW (jV 1) qQ))) qQ)) (gdName 4) (fwBM tb1 dp))
 (dRet (dOp ixS (jV 3) (dC (.int 0)))))
section
variable {tb1:Tb}{dp:DE}{pv:T}{PP:T->List T->T->Prop}{n:Str}{ka:Nat}{ins:DF}
def PutOk(n:Str)(dp:DE)(pv:T)(PP:T->List T->T->Prop):Prop:=∀ (w e v:T) (t0 vs:List T),PP e vs v->dp [some (.v w),some (.v (.f n)),some (.v pv),some (.l t0),some (.v e),some (.l vs)]=some (.v v,[some (.v w),some (.v (.f n)),some (.v pv),some (.l t0),some (.v e),some (.l vs)])
theorem zLK(hf:tb1.find? (fun q=>decide (q.1=n))=some (n,ka,ins))(hg:PutOk n dp pv PP){e v:T}{ks:List Rs}{t0:List T}{w:T}{p5:Option G}(h1:ins [.v e]=some (.v (.t (ks.map Rs.e)),[])\/ins [.v e]=some (.l (ks.map Rs.e),[]))
  (h2:PP e (ks.map Rs.v) v) (hb:t0.length+ks.length<=90000) :
  fwBM tb1 dp [some (.v w),some (.v (.f n)),some (.v pv),some (.l (t0++(ks.map Rs.v).reverse)),some (.v e),p5]=some (.nx [some (.v w),some (.v (.f n)),some (.v pv),some (.l (t0++[v])),some (.v e),some (.l (ks.map Rs.v))]):=by
 obtain⟨o',hc⟩:=zI7 (ks.map Rs.e) (ks.map Rs.v) t0 none (by simp) (by simp; omega)
 have cv:dCallV 1 tb1 (jW (jV 4) qQ) [some (.v w),some (.v (.f n)),some (.v pv),some (.l (t0++(ks.map Rs.v).reverse)),some (.v e),p5]=dCall none ins [] (jW (jV 4) qQ) [some (.v w),some (.v (.f n)),some (.v pv),some (.l (t0++(ks.map Rs.v).reverse)),some (.v e),p5]:=zE3 rfl hf
 have cw:=hg w e v t0 _ h2
 have hz:(ks.map Rs.e).length<=sizeLine:=Nat.le_trans (show (ks.map Rs.e).length<=100000 by simp; omega) (by decide)
 have ht:t0.length < sizeLine:=Nat.lt_of_lt_of_le (show t0.length < 100000 by omega) (by decide)
 have ht':t0.length<=sizeLine:=Nat.le_of_lt ht
 generalize t0++(ks.map Rs.v).reverse=RR at hc cv ⊢
 generalize ks.map Rs.e=EE at h1 hc hz ⊢
 generalize ks.map Rs.v=VV at h2 hc cw ⊢
 rcases h1 with h1 | h1
 ·simp[fwBM,cv,h1,hc,cw,gd,hz,ht,ht']
 ·simp[fwBM,cv,h1,hc,cw,gd,hz,ht,ht']
mutual
theorem zHN(hf:tb1.find? (fun q=>decide (q.1=n))=some (n,ka,ins))(hg:PutOk n dp pv PP)(w:T):∀ (r:Rs) (t0 more:List T) (p4 p5:Option G),r.In ins->r.PutP PP->t0.length+r.pre.length<=90000 ->
  ∃ p4' p5',forD (gdName 4) (fwBM tb1 dp) (r.pre.reverse.map Rs.e++more) [some (.v w),some (.v (.f n)),some (.v pv),some (.l t0),p4,p5]=forD (gdName 4) (fwBM tb1 dp) more [some (.v w),some (.v (.f n)),some (.v pv),some (.l (t0++[r.v])),p4',p5']
 | .mk e v ks,t0,more,p4,p5,hi,hp,hb=>by
  obtain⟨h1,h2⟩:=zBO.mp hi
  obtain⟨h3,h4⟩:=zA0.mp hp
  rw[zAf]at hb ⊢
  simp only[List.length_cons]at hb
  have hlen:∀ l:List Rs,l.length<=(pres l).length:=fun l=>by
   induction l with
   | nil=>simp
   | cons x l ih =>
    cases x with
    | mk a b c=>rw[zAP,zAf]; simp; omega
  have hk:=hlen ks
  obtain⟨q4,q5,e1⟩:=zG7 hf hg w ks t0 (e::more) p4 p5 h2 h4 (by omega)
  refine⟨some (.v e),some (.l (ks.map Rs.v)),?_⟩
  rw[List.reverse_cons,List.map_append,List.append_assoc,List.map_cons,List.map_nil]
  show forD _ _ (List.map Rs.e (pres ks).reverse++(e::more)) _=_
  rw[e1,zCl]
  simp only[zEv]
  rw[show (List.set [some (G.v w),some (.v (.f n)),some (.v pv),some (.l (t0++(ks.map Rs.v).reverse)),q4,q5] 4 (some (.v e)))=[some (.v w),some (.v (.f n)),some (.v pv),some (.l (t0++(ks.map Rs.v).reverse)),some (.v e),q5] from rfl]
  rw[Option.bind_some,zLK hf hg h1 h3 (by omega),Option.bind_some]
  rfl
theorem zG7(hf:tb1.find? (fun q=>decide (q.1=n))=some (n,ka,ins))(hg:PutOk n dp pv PP)(w:T):∀ (ks:List Rs) (t0 more:List T) (p4 p5:Option G),Ins ins ks->PutsP PP ks->t0.length+(pres ks).length<=90000 ->
  ∃ p4' p5',forD (gdName 4) (fwBM tb1 dp) ((pres ks).reverse.map Rs.e++more) [some (.v w),some (.v (.f n)),some (.v pv),some (.l t0),p4,p5]=forD (gdName 4) (fwBM tb1 dp) more [some (.v w),some (.v (.f n)),some (.v pv),some (.l (t0++(ks.map Rs.v).reverse)),p4',p5']
 | [],t0,more,p4,p5,_,_,_=>⟨p4,p5,by simp[zAY]⟩
 | r::rs,t0,more,p4,p5,hi,hp,hb=>by
  obtain⟨h1,h2⟩:=zAR.mp hi
  obtain⟨h3,h4⟩:=zAU.mp hp
  rw[zAP]at hb ⊢
  simp only[List.length_append]at hb
  have hlen:∀ l:List Rs,l.length<=(pres l).length:=fun l=>by
   induction l with
   | nil=>simp
   | cons x l ih =>
    cases x with
    | mk a b c=>rw[zAP,zAf]; simp; omega
  have hk:=hlen rs
  obtain⟨q4,q5,e1⟩:=zG7 hf hg w rs t0 (r.pre.reverse.map Rs.e++more) p4 p5 h2 h4 (by omega)
  obtain⟨q6,q7,e2⟩:=zHN hf hg w r (t0++(rs.map Rs.v).reverse) more q4 q5 h1 h3 (by simp; omega)
  refine⟨q6,q7,?_⟩
  rw[List.reverse_append,List.map_append,List.append_assoc,e1,e2]
  simp
end
theorem zDb(hf:tb1.find? (fun q=>decide (q.1=n))=some (n,ka,ins))(hg:PutOk n dp pv PP)(r:Rs)(h1:r.In ins)(h2:r.PutP PP)(hb:r.pre.length<=80000) :
  fnD none 3 6 (fwDM (fnD none 2 5 (awD tb1)) tb1 dp) [.v r.e,.v (.f n),.v pv]=some (.v r.v,[]):=by
 have ha:=zE9 hf r h1 hb
 obtain⟨q4,q5,e⟩:=zHN hf hg r.e r [] [] none none h1 h2 (by simp; omega)
 rw[List.append_nil,zAq]at e
 have hz:(r.pre.map Rs.e).length<=sizeLine:=Nat.le_trans (show (r.pre.map Rs.e).length<=100000 by simp; omega) (by decide)
 have e2:(List.map Rs.e r.pre).reverse=List.map Rs.e r.pre.reverse:=by simp
 generalize fnD none 2 5 (awD tb1)=FA at ha ⊢
 generalize r.pre.map Rs.e=EE at ha hz e2
 rw[← e2]at e
 simp[fnD,fwDM,ha,gd,hz,e]
end
theorem zMF{tb2:Tb}{L:Lam}{dl:DE}{ta:T}{n:Str}:PutOk n (dCallM 2 tb2 L dl (jW (jV 4) (jW (jV 5) qQ))) (.m L [ta]) (fun e vs v=>∃ u,v=.a u/\lamF dl ta [.v e,.r vs]=some u):=by
 rintro w e v t0 vs ⟨u,rfl,h⟩
 unfold dCallM
 have fa:jW (jV 4) (jW (jV 5) qQ) [some (.v w),some (.v (.f n)),some (.v (.m L [ta])),some (.l t0),some (.v e),some (.l vs)]=some ([.v e,.s 5],[some (.v w),some (.v (.f n)),some (.v (.m L [ta])),some (.l t0),some (.v e),some (.l vs)]):=rfl
 have ag:argsG none [some (.v w),some (.v (.f n)),some (.v (.m L [ta])),some (.l t0),some (.v e),some (.l vs)] 0 [.v e,.s 5]=some [.v e,.r vs]:=rfl
 refine (if_pos rfl).trans ?_
 rw[fa,Option.bind_some,ag,Option.bind_some,h]
 rfl
def addLQ:En->S->S->Option S:=fun Γ a b=>(sqlOf Γ a).bind fun xs=>(sqlOf Γ b).bind fun ys=>gd (xs.length+ys.length) (.l (xs++ys))
section
variable {ι:Type}{K:Fg}{mg:Str->Option Value}{k:Nat}{X:ι->Cx}{ip:Option Nat}{a b:Expr}{pos:Pos}{fa fb:DE}{st:Stmt}{g:DS}
@[simp] theorem zPb{Γ:En}{xs ys:List T}:addLQ Γ (.v (.l xs)) (.l ys)=gd (xs.length+ys.length) (.l (xs++ys)):=rfl
end
end D
namespace L2
open PySem PySem.Spec PyProof.Rows PySem.W
structure ZQ(z TI TO i1 i2 a1 a2 d:Addr)(xs ys:Array Value)(k:Nat)(h:Heap):Prop where
 zz:(IsZip h z TI TO .none/\∃ a b,IsPair h TO a b)\/∃ T oT f,IsZO h z TI TO T f/\h.get? T=some oT/\T≠z/\T≠i1/\T≠i2/\T≠d
 ti:IsPair h TI (.ref i1) (.ref i2)
 s1:h.IsListIter i1 a1 k/\h.IsList a1 xs
 s2:h.IsListIter i2 a2 k/\h.IsList a2 ys
section
variable {prog:Program}{w:World}{A:Around}{E:Value->Shared->Prop}{s:Shared}{z TI TO i1 i2 a1 a2 d:Addr}{xs ys:Array Value}{k:Nat}
theorem ZQ.type{h:Heap}(st:ZQ z TI TO i1 i2 a1 a2 d xs ys k h):∃ o,h.get? z=some o/\o.cls=.type "zip":=by
 rcases st.zz with ⟨q,_⟩ | ⟨T,oT,f,q,_⟩
 ·exact⟨_,q,rfl⟩
 ·exact⟨_,q,rfl⟩
theorem ZQ.keep{h h':Heap}(st:ZQ z TI TO i1 i2 a1 a2 d xs ys k h)(n1:z≠d)(n2:TI≠d)(n3:TO≠d)(n4:i1≠d)(n5:i2≠d)(n6:a1≠d)(n7:a2≠d)(kp:∀ c o,c≠d->h.get? c=some o->h'.get? c=some o):ZQ z TI TO i1 i2 a1 a2 d xs ys k h' where
 zz:=by
  rcases st.zz with ⟨q,a,b,q2⟩ | ⟨T,oT,f,q,q2,q3,q4,q5,q6⟩
  ·exact .inl ⟨kp _ _ n1 q,a,b,kp _ _ n3 q2⟩
  ·exact .inr ⟨T,oT,f,kp _ _ n1 q,kp _ _ q6 q2,q3,q4,q5,q6⟩
 ti:=kp _ _ n2 st.ti
 s1:=⟨st.s1.1.at fun o e=>kp _ _ n4 e,st.s1.2.at fun o e=>kp _ _ n6 e⟩
 s2:=⟨st.s2.1.at fun o e=>kp _ _ n5 e,st.s2.2.at fun o e=>kp _ _ n7 e⟩
theorem zLu{x y:Value}{Q:Option Value->Shared->Prop}(D:ZAp z TI TO i1 i2 a1 a2)(hd:d < s.heap.objs.size)(st:ZQ z TI TO i1 i2 a1 a2 d xs ys k s.heap)(hx:xs[k]?=some x)(hy:ys[k]?=some y)
  (hQ:∀ h',ZQ z TI TO i1 i2 a1 a2 d xs ys (k+1) h'->IsPair h' s.heap.objs.size x y->(∀ c o,c≠z->c≠TO->c≠i1->c≠i2->s.heap.get? c=some o->h'.get? c=some o)->Q (some (.ref s.heap.objs.size)) { s with heap:=h' }) :
  wpAny (model prog w) A (pyNext (.ref z)) Q E s:=by
 have hT:s.TypeIs (.ref z) "zip":=st.type
 have lz:z < s.heap.objs.size:=by obtain⟨o,e,_⟩:=st.type; exact Heap.lt_size e
 have l1:i1 < s.heap.objs.size:=by obtain⟨o,e,_⟩:=st.s1.1; exact Heap.lt_size e
 have l2:i2 < s.heap.objs.size:=by obtain⟨o,e,_⟩:=st.s2.1; exact Heap.lt_size e
 have lT:TI < s.heap.objs.size:=Heap.lt_size st.ti
 unfold pyNext
 refine wpAny_bind (wpAny_attempt (wpAny_callSpecial?_slot (name:=Str.ofString "__next__") hT F.slot_zip_next (wpAny_call_entry F.slot_zip_next hT F.entry_zip_next ?_ (F.args_zip_next_1 _))))
 rcases st.zz with ⟨q,a,b,q2⟩ | ⟨T,oT,f,q,q2,q3,q4,q5,q6⟩
 ·refine zDo D (zAe i1 a1 xs D.a.l1i1) (zAe i2 a2 ys D.a.l2i2) ⟨q,st.ti,⟨a,b,q2⟩,st.s1,st.s2⟩ hx hy fun h' st' hp hk=>wpAny_pure ?_
  exact hQ h' ⟨.inr ⟨_,_,false,st'.z,hp,Nat.ne_of_gt lz,Nat.ne_of_gt l1,Nat.ne_of_gt l2,Nat.ne_of_gt hd⟩,st'.ti,st'.s1,st'.s2⟩ hp hk
 ·refine zIm D (zAe i1 a1 xs D.a.l1i1) (zAe i2 a2 ys D.a.l2i2) q q2 st.ti st.s1 st.s2 hx hy fun h' z' t1 t2 hp hk=>wpAny_pure ?_
  exact hQ h' ⟨.inr ⟨T,oT,true,z',hk _ _ q3 q4 q5 q2,q3,q4,q5,q6⟩,hk _ _ D.a.TIz D.a.TIi1 D.a.TIi2 st.ti,t1,t2⟩ hp fun c o c1 _ c3 c4 e=>hk c o c1 c3 c4 e
theorem zN0{Q:Option Value->Shared->Prop}(hh:A.handled=none)(D:ZAp z TI TO i1 i2 a1 a2)(st:ZQ z TI TO i1 i2 a1 a2 d xs ys k s.heap)(hx:xs[k]?=none)
  (hQ:∀ h',(∀ c o,c≠z->c≠TO->c≠i1->c≠i2->s.heap.get? c=some o->h'.get? c=some o)->Q none { s with heap:=h' }) :
  wpAny (model prog w) A (pyNext (.ref z)) Q E s:=by
 have hT:s.TypeIs (.ref z) "zip":=st.type
 unfold pyNext
 refine wpAny_bind (wpAny_attempt (wpAny_callSpecial?_slot (name:=Str.ofString "__next__") hT F.slot_zip_next (wpAny_call_entry F.slot_zip_next hT F.entry_zip_next ?_ (F.args_zip_next_1 _))))
 rcases st.zz with ⟨q,a,b,q2⟩ | ⟨T,oT,f,q,q2,q3,q4,q5,q6⟩
 ·refine zEw hh D (zAe i1 a1 xs D.a.l1i1) (zAe i2 a2 ys D.a.l2i2) ⟨q,st.ti,⟨a,b,q2⟩,st.s1,st.s2⟩ (.inl hx) fun h' e hk he=>?_
  obtain⟨o,ho,hcl⟩:=he
  exact wpAny_bind (wpAny_isInstance (T:="StopIteration") (b:=true) ⟨o,ho,hcl⟩ isSubtype_stop (wpAny_pure (hQ h' hk)))
 ·refine zK0 hh D (zAe i1 a1 xs D.a.l1i1) q q2 st.ti st.s1 hx fun h' e hk he=>?_
  obtain⟨o,ho,hcl⟩:=he
  exact wpAny_bind (wpAny_isInstance (T:="StopIteration") (b:=true) ⟨o,ho,hcl⟩ isSubtype_stop (wpAny_pure (hQ h' fun c o c1 _ c3 _ e=>hk c o c1 c3 e)))
structure Tps(ts:List Addr)(xs ys:Array Value)(lo:Nat)(h:Heap):Prop where
 nd:ts.Nodup
 at_:∀ (i:Nat) t,ts[i]?=some t->lo<=t/\∃ x y,xs[i]?=some x/\ys[i]?=some y/\IsPair h t x y
theorem zMH{R:Result->Shared->Prop}(hh:A.handled=none)(D:ZAp z TI TO i1 i2 a1 a2)(n1:z≠d)(n2:TI≠d)(n3:TO≠d)(n4:i1≠d)(n5:i2≠d)(n6:a1≠d)(n7:a2≠d){n:Nat}(hx:xs.size=n)(hy:ys.size=n)(hsz:n<=sizeLine)(res:Value){s0:Shared}{lo:Nat}
  (lz:z < lo) (lT:TO < lo) (l1:i1 < lo) (l2:i2 < lo) (ld:d < lo)
  (hR:∀ h' tk ts c,ts.length=n->Tps ts xs ys lo h'->h'.get? d=some { cls:=.type "list",data:=.seq (ts.map Value.ref).toArray c }->(∀ c o,c≠z->c≠TO->c≠i1->c≠i2->c≠d->s0.heap.get? c=some o->h'.get? c=some o)->R (.ok (.ret res)) { s0 with heap:=h',toks:=tk }) :
  ∀ (m k:Nat) (h:Heap) (tk:Nat) (ts:List Addr) (c:Nat),n - k=m->k<=n->lo<=h.objs.size->ZQ z TI TO i1 i2 a1 a2 d xs ys k h->ts.length=k->Tps ts xs ys lo h->h.get? d=some { cls:=.type "list",data:=.seq (ts.map Value.ref).toArray c }->(∀ c o,c≠z->c≠TO->c≠i1->c≠i2->c≠d->s0.heap.get? c=some o->h.get? c=some o) ->
   codeAny (model prog w) A (.builtin "list.extend.loop" ⟨[.ref d,.ref z,res],[]⟩) R { s0 with heap:=h,toks:=tk }:=by
 have nn:∀ {t b:Addr},b < lo->lo<=t->t≠b:=fun {t b} q1 q2 e=>absurd (Nat.lt_of_lt_of_le q1 q2) (by rw[e]; exact Nat.lt_irrefl _)
 intro m
 induction m with
 | zero =>
  intro k h tk ts c hm hk hlo st hl hts hd hkp
  have hkn:k=n:=by omega
  subst hkn
  refine codeAny_builtin F.entry_extend_loop ?_
  rw[Around.under_plainId F.plain_extend_loop _]
  show wpAny _ A.in1 (pyNext (.ref z) >>= _) _ _ _
  refine wpAny_bind (zN0 (s:={ s0 with heap:=h,toks:=tk }) (A:=A.in1) hh D st (Array.getElem?_eq_none (by omega)) fun h' hk'=>?_)
  refine wpAny_pure (hR h' tk ts c hl ⟨hts.nd,fun i t e=>?_⟩ (hk' _ _ n1.symm n3.symm n4.symm n5.symm hd) fun c o c1 c2 c3 c4 c5 e=>hk' c o c1 c2 c3 c4 (hkp c o c1 c2 c3 c4 c5 e))
  obtain⟨q1,x,y,q2,q3,q4⟩:=hts.at_ i t e
  exact⟨q1,x,y,q2,q3,hk' _ _ (nn lz q1) (nn lT q1) (nn l1 q1) (nn l2 q1) q4⟩
 | succ m ih =>
  intro k h tk ts c hm hk hlo st hl hts hd hkp
  have hlt:k < n:=by omega
  have ex:xs[k]?=some xs[k]:=by simp
  have ey:ys[k]?=some ys[k]:=by simp
  refine codeAny_builtin F.entry_extend_loop ?_
  rw[Around.under_plainId F.plain_extend_loop _]
  show wpAny _ A.in1 (pyNext (.ref z) >>= _) _ _ _
  refine wpAny_bind (zLu (s:={ s0 with heap:=h,toks:=tk }) (A:=A.in1) D (show d < h.objs.size from Nat.lt_of_lt_of_le ld hlo) st ex ey fun h' st' hp hk'=>?_)
  have hd':=hk' _ _ n1.symm n3.symm n4.symm n5.symm hd
  have hp:IsPair h' h.objs.size xs[k] ys[k]:=hp
  show wpAny _ A.in1 (updateSeq d (·.push (.ref h.objs.size)) >>= _) _ _ _
  refine wpAny_bind ?_
  have oth:∀ b o,b≠d->h'.get? b=some o->(h'.update d (Obj.mapSeq (·.push (Value.ref h.objs.size)))).get? b=some o:=fun b o nb e=>(Heap.get?_update_other _ _ (Ne.symm nb)).trans e
  have hsz2:(h'.update d (Obj.mapSeq (·.push (Value.ref h.objs.size)))).objs.size=h'.objs.size:=Heap.size_update _ _ _
  have hlt2:h.objs.size < h'.objs.size:=Heap.lt_size hp
  refine wpAny_updateSeq hd' rfl (wpAny_pure ⟨plainId_quiet F.plain_extend_loop _,?_⟩) (by simp[hl]; omega) (by show ((ts.map Value.ref).toArray.push _).size<=sizeLine+1; simp[hl]; omega)
  have key:=ih (k+1) (h'.update d (Obj.mapSeq (·.push (Value.ref h.objs.size)))) tk (ts++[h.objs.size]) (c+1) (by omega) (by omega) (by omega) (st'.keep n1 n2 n3 n4 n5 n6 n7 fun c o nc e=>oth c o nc e) (by simp[hl]) ⟨?_,fun i t e=>?_⟩ ?_ (fun c o c1 c2 c3 c4 c5 e=>oth c o c5 (hk' c o c1 c2 c3 c4 (hkp c o c1 c2 c3 c4 c5 e)))
  ·exact key
  ·rw[List.nodup_append]
   refine⟨hts.nd,by simp,fun a ha b hb=>?_⟩
   rw[List.mem_singleton.mp hb]
   obtain⟨i,hi⟩:=List.getElem?_of_mem ha
   obtain⟨_,x,y,_,_,q⟩:=hts.at_ i a hi
   exact Nat.ne_of_lt (Heap.lt_size q)
  ·rcases Nat.lt_trichotomy i k with hi | hi | hi
   ·rw[List.getElem?_append_left (by omega)]at e
    obtain⟨q1,x,y,q2,q3,q4⟩:=hts.at_ i t e
    exact⟨q1,x,y,q2,q3,oth _ _ (nn ld q1) (hk' _ _ (nn lz q1) (nn lT q1) (nn l1 q1) (nn l2 q1) q4)⟩
   ·subst hi
    rw[List.getElem?_append_right (by omega),hl]at e
    simp at e
    subst e
    exact⟨hlo,_,_,ex,ey,oth _ _ (nn ld hlo) hp⟩
   ·rw[List.getElem?_eq_none (by simp; omega)]at e; cases e
  ·have:=Heap.get?_update_self (Obj.mapSeq (·.push (Value.ref h.objs.size))) hd' rfl
   rw[this]
   simp[Obj.mapSeq]
end
section
variable {prog:Program}{w:World}{A:Around}{E:Value->Shared->Prop}{s:Shared}{z TI TO i1 i2 a1 a2 d:Addr}{xs ys:Array Value}{n:Nat}
theorem zKa{r:Addr}{Q:Bool->Shared->Prop}(hT:s.TypeIs (.ref r) "zip")(h:Q true s):wpAny (model prog w) A (Builtin.List.listLengthHint (.ref r)) Q E s:=by
 unfold Builtin.List.listLengthHint
 refine wpAny_bind (wpAny_specialOf (r:=none) hT (by rw[typeLookup_type,builtinLookup_eq_fast]; kernel_rfl) ?_)
 wp_delta
 refine wpAny_bind (wpAny_specialOf (r:=none) hT (by rw[typeLookup_type,builtinLookup_eq_fast]; kernel_rfl) ?_)
 exact wpAny_pure h
structure ZNew(z TI TO i1 i2 a1 a2:Addr)(xs ys:Array Value)(h:Heap):Prop where
 z:IsZip h z TI TO .none
 to:∃ a b,IsPair h TO a b
 ti:IsPair h TI (.ref i1) (.ref i2)
 s1:h.IsListIter i1 a1 0/\h.IsList a1 xs
 s2:h.IsListIter i2 a2 0/\h.IsList a2 ys
theorem ZNew.zq{h:Heap}(st:ZNew z TI TO i1 i2 a1 a2 xs ys h):ZQ z TI TO i1 i2 a1 a2 d xs ys 0 h:=⟨.inl ⟨st.z,st.to⟩,st.ti,st.s1,st.s2⟩
theorem ZNew.keep{h h':Heap}(st:ZNew z TI TO i1 i2 a1 a2 xs ys h)(n1:z≠d)(n2:TI≠d)(n3:TO≠d)(n4:i1≠d)(n5:i2≠d)(n6:a1≠d)(n7:a2≠d)(kp:∀ c o,c≠d->h.get? c=some o->h'.get? c=some o):ZNew z TI TO i1 i2 a1 a2 xs ys h' :=
 ⟨kp _ _ n1 st.z,(let ⟨a,b,e⟩:=st.to; ⟨a,b,kp _ _ n3 e⟩),kp _ _ n2 st.ti,⟨st.s1.1.at fun o e=>kp _ _ n4 e,st.s1.2.at fun o e=>kp _ _ n6 e⟩,⟨st.s2.1.at fun o e=>kp _ _ n5 e,st.s2.2.at fun o e=>kp _ _ n7 e⟩⟩
theorem zJN{R:Result->Shared->Prop}(hh:A.handled=none)(D:ZAp z TI TO i1 i2 a1 a2)(n1:z≠d)(n2:TI≠d)(n3:TO≠d)(n4:i1≠d)(n5:i2≠d)(n6:a1≠d)(n7:a2≠d)(hx:xs.size=n)(hy:ys.size=n)(hsz:n<=sizeLine)(res:Value)(c₀:Nat)
  (st:ZNew z TI TO i1 i2 a1 a2 xs ys s.heap) (hS:s.heap.get? d=some { cls:=.type "list",data:=.seq #[] c₀ })
  (hR:∀ h' tk ts c,ts.length=n->Tps ts xs ys s.heap.objs.size h'->h'.get? d=some { cls:=.type "list",data:=.seq (ts.map Value.ref).toArray c }->(∀ c o,c≠z->c≠TO->c≠i1->c≠i2->c≠d->s.heap.get? c=some o->h'.get? c=some o)->R (.ok (.ret res)) { s with heap:=h',toks:=tk }) :
  wpAny (model prog w) A.in1 (Builtin.List.listExtendWith (.ref d) (.ref z) res)
   (fun fin s'=>match fin with | .done f=>R (.ok f) s' | .again c'=>c'.quiet=true/\codeAny (model prog w) A c' R s') (fun e s'=>R (.error e) s') s:=by
 have lz:z < s.heap.objs.size:=Heap.lt_size st.z
 have lT:TO < s.heap.objs.size:=by obtain⟨a,b,e⟩:=st.to; exact Heap.lt_size e
 have l1:i1 < s.heap.objs.size:=by obtain⟨o,e,_⟩:=st.s1.1; exact Heap.lt_size e
 have l2:i2 < s.heap.objs.size:=by obtain⟨o,e,_⟩:=st.s2.1; exact Heap.lt_size e
 have ld:d < s.heap.objs.size:=Heap.lt_size hS
 have key:∀ (h:Heap) (c₁ tk:Nat),h.objs.size=s.heap.objs.size->ZNew z TI TO i1 i2 a1 a2 xs ys h->(∀ b o,b≠d->s.heap.get? b=some o->h.get? b=some o) ->
   h.get? d=some { cls:=.type "list",data:=.seq #[] c₁ }->codeAny (model prog w) A (.builtin "list.extend.loop" ⟨[.ref d,.ref z,res],[]⟩) R { s with heap:=h,toks:=tk }:=by
  intro h c₁ tk hz hst hk hS₁
  exact zMH (lo:=s.heap.objs.size) hh D n1 n2 n3 n4 n5 n6 n7 hx hy hsz res lz lT l1 l2 ld hR n 0 h tk [] c₁ rfl (Nat.zero_le _) (Nat.le_of_eq hz.symm) hst.zq rfl ⟨List.nodup_nil,fun i t e=>by simp at e⟩ hS₁ fun c o _ _ _ _ c5 e=>hk c o c5 e
 have ty:s.TypeIs (.ref z) "zip":=⟨_,st.z,rfl⟩
 unfold Builtin.List.listExtendWith
 refine wpAny_bind (wpAny_typeOf (T:="zip") ty ?_)
 have h1:Builtin.List.listSameRef (.ref d) (.ref z)=false:=by simp[Builtin.List.listSameRef,n1.symm]
 have h2:(Value.type "zip" == Value.type "list")=false:=by decide
 have h3:(Value.type "zip" == Value.type "tuple")=false:=by decide
 simp only[h1,h2,h3,Bool.or_false,Bool.false_eq_true,if_false]
 refine wpAny_bind (wpAny_pyIter_zip st.z ?_)
 refine wpAny_bind (wpAny_holding (zKa ty ?_))
 refine wpAny_ite_split (fun _=>?_) (fun _=>wpAny_pure ⟨plainId_quiet PySem.F.plain_extend_loop _,key _ c₀ _ rfl st (fun b o _ e=>e) hS⟩)
 refine wpAny_bind (wpAny_rule ?_)
 refine wpAny_bind ?_
 show wpAny _ _ (updateSeq d (·.push .none) >>= fun _=>updateSeq d (·.pop)) _ _ _
 refine wpAny_bind (wpAny_updateSeq hS rfl ?_)
 have hS₂:=Heap.get?_update_self (Obj.mapSeq (·.push Value.none)) hS rfl
 refine wpAny_updateSeq (hz:=by seq_fits) hS₂ rfl ?_
 have hS₃:=Heap.get?_update_self (Obj.mapSeq (·.pop)) hS₂ rfl
 have oth:∀ b o,b≠d->s.heap.get? b=some o->((s.heap.update d (Obj.mapSeq (·.push Value.none))).update d (Obj.mapSeq (·.pop))).get? b=some o:=fun b o hb e=>(Heap.get?_update_other _ _ (Ne.symm hb)).trans ((Heap.get?_update_other _ _ (Ne.symm hb)).trans e)
 exact wpAny_pure ⟨plainId_quiet PySem.F.plain_extend_loop _,key _ _ _ (by rw[Heap.size_update,Heap.size_update]) (st.keep n1 n2 n3 n4 n5 n6 n7 fun c o hc e=>oth c o hc e) oth hS₃⟩
theorem zLp{R:Result->Shared->Prop}(hh:A.handled=none)(D:ZAp z TI TO i1 i2 a1 a2)(n1:z≠d)(n2:TI≠d)(n3:TO≠d)(n4:i1≠d)(n5:i2≠d)(n6:a1≠d)(n7:a2≠d)(hx:xs.size=n)(hy:ys.size=n)(hsz:n<=sizeLine)
  (st:ZNew z TI TO i1 i2 a1 a2 xs ys s.heap) (hS:s.heap.get? d=some { cls:=.type "list",data:=.seq #[] })
  (hR:∀ h' tk ts c,ts.length=n->Tps ts xs ys s.heap.objs.size h'->h'.get? d=some { cls:=.type "list",data:=.seq (ts.map Value.ref).toArray c }->(∀ c o,c≠z->c≠TO->c≠i1->c≠i2->c≠d->s.heap.get? c=some o->h'.get? c=some o)->R (.ok (.ret .none)) { s with heap:=h',toks:=tk }) :
  wpAny (model prog w) A.in1 (Builtin.«list.__init__» ⟨[.ref d,.ref z],[]⟩)
   (fun fin s'=>match fin with | .done f=>R (.ok f) s' | .again c'=>c'.quiet=true/\codeAny (model prog w) A c' R s') (fun e s'=>R (.error e) s') s:=by
 show wpAny _ _ (do let old ← Builtin.List.listItems (.ref d); Builtin.List.listUpdate (.ref d) (fun _=>#[]); letGo old.toList.reverse; Builtin.List.listExtendWith (.ref d) (.ref z) .none) _ _ s
 refine wpAny_bind ?_
 unfold Builtin.List.listItems
 refine wpAny_bind (wpAny_seqItems hS rfl (wpAny_pure ?_))
 show wpAny _ _ (updateSeq d (fun _=>#[]) >>= fun _=>letGo (#[]:Array Value).toList.reverse >>= fun _=>Builtin.List.listExtendWith (.ref d) (.ref z) .none) _ _ s
 refine wpAny_bind (wpAny_updateSeq hS rfl ?_)
 have hS₂:=Heap.get?_update_self (Obj.mapSeq (fun _=>(#[]:Array Value))) hS rfl
 have oth:∀ b o,b≠d->s.heap.get? b=some o->(s.heap.update d (Obj.mapSeq (fun _=>(#[]:Array Value)))).get? b=some o :=
  fun b o hb e=>(Heap.get?_update_other _ _ (Ne.symm hb)).trans e
 refine wpAny_bind (wpAny_letGo ?_)
 refine zJN hh D n1 n2 n3 n4 n5 n6 n7 hx hy hsz .none _ (st.keep n1 n2 n3 n4 n5 n6 n7 fun c o hc e=>oth c o hc e) hS₂ fun h' tk ts c hl ht hd hk=>?_
 exact hR h' tk ts c hl ⟨ht.nd,fun i t e=>by have:=ht.at_ i t e; rw[Heap.size_update]at this; exact this⟩ hd fun c o c1 c2 c3 c4 c5 e=>hk c o c1 c2 c3 c4 c5 (oth c o c5 e)
theorem zMD{Q:Value->Shared->Prop}(hh:A.handled=none)(D:ZAp z TI TO i1 i2 a1 a2)(hx:xs.size=n)(hy:ys.size=n)(hsz:n<=sizeLine)(st:ZNew z TI TO i1 i2 a1 a2 xs ys s.heap)
  (hQ:∀ h' tk ts c,ts.length=n->Tps ts xs ys (s.heap.objs.size+1) h'->h'.get? s.heap.objs.size=some { cls:=.type "list",data:=.seq (ts.map Value.ref).toArray c }->(∀ c o,c≠z->c≠TO->c≠i1->c≠i2->s.heap.get? c=some o->h'.get? c=some o)->Q (.ref s.heap.objs.size) { s with heap:=h',toks:=tk }) :
  wpAny (model prog w) A (call (.type "list") [.ref z]) Q E s:=by
 refine callType_codes (Q₁:=fun obj s₁=>obj=.ref s.heap.objs.size/\s₁={ s with heap:=s.heap.push { cls:=.type "list",data:=.seq #[] } }) PySem.F.called_list (PySem.F.typeCall_list_1 _) PySem.F.entry_list_init
  (code_list_new _ ⟨rfl,rfl⟩) fun obj s₁ h₁=>?_
 obtain⟨rfl,rfl⟩:=h₁
 have hS:(s.heap.push { cls:=.type "list",data:=.seq #[] }).get? s.heap.objs.size=some { cls:=.type "list",data:=.seq #[] }:=Heap.get?_push_size _ rfl
 have up:∀ c o,s.heap.get? c=some o->(s.heap.push { cls:=.type "list",data:=.seq #[] }).get? c=some o:=fun c o e=>Heap.get?_push_of_some _ e
 have lt:∀ {b:Addr} {o:Obj},s.heap.get? b=some o->b≠s.heap.objs.size:=fun e=>Nat.ne_of_lt (Heap.lt_size e)
 have m1:=lt st.z
 have m2:=lt st.ti
 have m3:TO≠s.heap.objs.size:=by obtain⟨a,b,e⟩:=st.to; exact lt e
 have m4:i1≠s.heap.objs.size:=by obtain⟨o,e,_⟩:=st.s1.1; exact lt e
 have m5:i2≠s.heap.objs.size:=by obtain⟨o,e,_⟩:=st.s2.1; exact lt e
 have m6:a1≠s.heap.objs.size:=by obtain⟨o,e,_⟩:=st.s1.2; exact lt e
 have m7:a2≠s.heap.objs.size:=by obtain⟨o,e,_⟩:=st.s2.2; exact lt e
 refine⟨⟨_,hS,rfl⟩,PySem.F.args_list_init_2 _ _,zLp (A:=A.in1) hh D m1 m2 m3 m4 m5 m6 m7 hx hy hsz (st.keep m1 m2 m3 m4 m5 m6 m7 fun c o _ e=>up c o e) hS fun h' tk ts c hl ht hd hk=>?_⟩
 refine⟨rfl,hQ h' tk ts c hl ⟨ht.nd,fun i t e=>by have:=ht.at_ i t e; rw[Heap.size_push]at this; exact this⟩ hd fun c o c1 c2 c3 c4 e=>hk c o c1 c2 c3 c4 (lt e) (up c o e)⟩
end
open PySem PySem.Spec PyProof.Rows
section
variable {X:Cx}
def tLZip(K:PySem.W.Frag)(ta:TA):TE:=fun σ H Q=>ta σ H fun vs H1=>∃ (a1 a2:Addr) (xs ys:List V),vs=[.ref a1,.ref a2]/\SqL K H1 a1 xs/\SqL K H1 a2 ys/\xs.length=ys.length /\
 ∀ (l:Addr) (ts:List Addr) (H2:Hp),H1 l=none->(∀ b o,H1 b=some o->H2 b=some o)->ts.length=xs.length->(∀ (i:Nat) t x y,ts[i]?=some t->xs[i]?=some x->ys[i]?=some y->H2 t=some (.tup [x,y]))->H2 l=some (.lst (ts.map V.ref))->Q (.ref l) H2
theorem zDH{β:Type}:∀ (ts:List Addr) (zs:List β) (i:Nat) (t:Addr) (z:β),ts.Nodup->ts[i]?=some t->zs[i]?=some z->(ts.zip zs).lookup t=some z
 | [],_,_,_,_,_,e,_=>by simp at e
 | _::_,[],_,_,_,_,_,e=>by simp at e
 | a::ts,b::zs,0,t,z,_,e,e'=>by simp at e e'; subst e e'; simp
 | a::ts,b::zs,i+1,t,z,nd,e,e'=>by
  rw[List.getElem?_cons_succ]at e e'
  have nd':=List.nodup_cons.mp nd
  have ne:t≠a:=fun q=>nd'.1 (q ▸ List.mem_of_getElem? e)
  have:(t == a)=false:=by simpa using ne
  rw[List.zip_cons_cons,List.lookup_cons,this]
  exact zDH ts zs i t z nd'.2 e e'
theorem zBQ{β:Type}:∀ (ts:List Addr) (zs:List β) (t:Addr) (z:β),(ts.zip zs).lookup t=some z->∃ i:Nat,ts[i]?=some t/\zs[i]?=some z
 | [],_,_,_,e=>by simp at e
 | _::_,[],_,_,e=>by simp at e
 | a::ts,b::zs,t,z,e=>by
  rw[List.zip_cons_cons,List.lookup_cons]at e
  by_cases h:t=a
  ·subst h; simp at e; subst e; exact⟨0,rfl,rfl⟩
  ·have:(t == a)=false:=by simpa using h
   rw[this]at e
   obtain⟨i,h1,h2⟩:=zBQ ts zs t z e
   exact⟨i+1,by simpa using h1,by simpa using h2⟩
theorem zDw:∀ ts:List Addr,Vals (ts.map V.ref) (ts.map Value.ref)
 | []=>.nil
 | _::r=>.cons rfl (zDw r)
theorem zMU{e1 e2:Expr}{ta:TA}{p0 p1 pos0 pos1:Pos}(hr:X.A.handled=none)(hg0:Gl X "list")(hm0:X.mg "list"=none)(hg1:Gl X "zip")(hm1:X.mg "zip"=none)(ha:PA X [e1,e2] ta)
  (hs:starEach [e1,e2] X.env=[(false,eval e1 X.env),(false,eval e2 X.env)]:=by rfl) (hs2:starEach [e2] X.env=[(false,eval e2 X.env)]:=by rfl)
  (hs3:starEach [.Call (.Name "zip" p1) [e1,e2] [] pos1] X.env=[(false,eval (.Call (.Name "zip" p1) [e1,e2] [] pos1) X.env)]:=by rfl) :
  PE X (.Call (.Name "list" p0) [.Call (.Name "zip" p1) [e1,e2] [] pos1] [] pos0) (tLZip X.K ta):=by
 intro pins s σ H Q I h
 refine Call_ (zA4 I hg0 hm0 PyProof.Rows.boot_list (PyProof.Rows.callWith_type1 ?_ hs3 rfl))
 rw[hs3]
 refine Calls.spliced_cons ?_
 refine Call_ (zA4 I hg1 hm1 boot_zip (PyProof.Rows.callWith_type1 (thn (ha pos1 pins s σ H _ I h) fun us s1 ⟨vs,H1,I1,r1,q1⟩=>?_) (by rw[hs,hs2]) (by rw[hs2]; rfl)))
 obtain⟨a1,a2,xs,ys,e,h1,h2,hlen,q⟩:=q1
 subst e
 obtain⟨u1,u2,e,r,r'⟩:=vals2 r1
 subst e
 cases r; cases r'
 obtain⟨its1,v1,pl1,z1⟩:=I1.list h1
 obtain⟨its2,v2,pl2,z2⟩:=I1.list h2
 have o1:s1.heap.IsList a1 its1.toArray:=pl1.isList
 have o2:s1.heap.IsList a2 its2.toArray:=pl2.isList
 have lt1:a1 < s1.heap.objs.size:=by obtain⟨o,e,_⟩:=o1; exact Heap.lt_size e
 have lt2:a2 < s1.heap.objs.size:=by obtain⟨o,e,_⟩:=o2; exact Heap.lt_size e
 have D:ZAp (s1.heap.objs.size+4) (s1.heap.objs.size+2) (s1.heap.objs.size+3) s1.heap.objs.size (s1.heap.objs.size+1) a1 a2 :=
  ⟨zipApart_new lt1 lt2,Nat.ne_of_lt (Nat.lt_of_lt_of_le lt1 (Nat.le_add_right _ 2)),Nat.ne_of_lt (Nat.lt_of_lt_of_le lt2 (Nat.le_add_right _ 2))⟩
 have l1:=v1.length
 have l2:=v2.length
 refine call_zip_2 o1 o2 fun h' hz hTI hTO it1 it2 hsz5 hk=>?_
 refine Calls.spliced_nil ?_
 refine zMD (s:={ s1 with heap:=h' }) (n:=xs.length) hr D (by simp; omega) (by simp; omega) z1 ⟨hz,⟨_,_,hTO⟩,hTI,⟨it1,o1.at fun o e=>hk _ _ e⟩,⟨it2,o2.at fun o e=>hk _ _ e⟩⟩ fun h2 tk ts c tl tp hd kp=>?_
 have hl:h'.objs.size=s1.heap.objs.size+5:=hsz5
 have kk:∀ b o,s1.heap.get? b=some o->h2.get? b=some o:=fun b o e=>by
  have hb:=Heap.lt_size e
  exact kp b o (Nat.ne_of_lt (Nat.lt_of_lt_of_le hb (Nat.le_add_right _ _))) (Nat.ne_of_lt (Nat.lt_of_lt_of_le hb (Nat.le_add_right _ _))) (Nat.ne_of_lt hb) (Nat.ne_of_lt (Nat.lt_of_lt_of_le hb (Nat.le_add_right _ _))) (hk b o e)
 have hlF:s1.heap.objs.size<=h'.objs.size:=by rw[hl]; exact Nat.le_add_right _ _
 have fl:H1 h'.objs.size=none:=I1.hok.fresh hlF
 have tge:∀ (i:Nat) t,ts[i]?=some t->h'.objs.size+1<=t:=fun i t e=>(tp.at_ i t e).1
 have ft:∀ (i:Nat) t,ts[i]?=some t->H1 t=none:=fun i t e=>I1.hok.fresh (Nat.le_trans hlF (Nat.le_trans (Nat.le_succ _) (tge i t e)))
 have tnl:∀ (i:Nat) t,ts[i]?=some t->t≠h'.objs.size:=fun i t e=>Nat.ne_of_gt (tge i t e)
 let H2:Hp:=fun b=>if b=h'.objs.size then some (.lst (ts.map V.ref)) else match (ts.zip (xs.zip ys)).lookup b with
  | some p=>some (.tup [p.1,p.2])
  | none=>H1 b
 have eL:H2 h'.objs.size=some (.lst (ts.map V.ref)):=if_pos rfl
 have eN:∀ b,b≠h'.objs.size->(ts.zip (xs.zip ys)).lookup b=none->H2 b=H1 b:=fun b n1 n2=>by
  show (if b=h'.objs.size then _ else _)=_
  rw[if_neg n1,n2]
 have eT:∀ b p,b≠h'.objs.size->(ts.zip (xs.zip ys)).lookup b=some p->H2 b=some (.tup [p.1,p.2]):=fun b p n1 n2=>by
  show (if b=h'.objs.size then _ else _)=_
  rw[if_neg n1,n2]
 have old:∀ b o,H1 b=some o->H2 b=some o:=fun b o e=>by
  refine (eN b (fun z=>by rw[z,fl]at e; cases e) ?_).trans e
  cases hq:(ts.zip (xs.zip ys)).lookup b with
  | none=>rfl
  | some p =>
   obtain⟨i,q1,_⟩:=zBQ ts _ b p hq
   rw[ft i b q1]at e; cases e
 have zget:∀ (i:Nat) x y,xs[i]?=some x->ys[i]?=some y->(xs.zip ys)[i]?=some (x,y):=fun i x y e1 e2=>by
  rw[List.getElem?_zip_eq_some]; exact⟨e1,e2⟩
 have tups:∀ (i:Nat) t x y,ts[i]?=some t->xs[i]?=some x->ys[i]?=some y->H2 t=some (.tup [x,y]):=fun i t x y e0 e1 e2=>eT t (x,y) (tnl i t e0) (zDH ts _ i t (x,y) tp.nd e0 (zget i x y e1 e2))
 refine⟨.ref h'.objs.size,H2,?_,rfl,q _ ts H2 fl old tl tups eL⟩
 refine I1.un (h':=h2) (t':=tk) ?_ ?_
 ·exact {
   keep:=fun b o e n _ _=>kk b o e
   slot:=fun b o e n _ _=>⟨o.slots,kk b o e⟩
   free:=fun b o e n _=>by
    have hb:=Heap.lt_size e
    refine (eN b (Nat.ne_of_lt (Nat.lt_of_lt_of_le hb hlF)) ?_).trans n
    cases hq:(ts.zip (xs.zip ys)).lookup b with
    | none=>rfl
    | some p =>
     obtain⟨i,q1,_⟩:=zBQ ts _ b p hq
     exact absurd (Nat.lt_of_lt_of_le hb (Nat.le_trans hlF (Nat.le_trans (Nat.le_succ _) (tge i b q1)))) (Nat.lt_irrefl _)
   there:=fun b o e _=>⟨o,kk b o e⟩
   tups:=fun b xs e=>old b _ e
   frzs:=fun b o u e=>old b _ e
   tbls:=fun b ps e=>⟨#[],by rw[old b _ e]; simp⟩ }
 ·intro b o e
  by_cases hb:b=h'.objs.size
  ·subst hb
   rw[eL]at e; cases e
   exact⟨by rw[List.length_map,tl]; exact z1,ts.map Value.ref,c,zDw ts,hd⟩
  ·cases hq:(ts.zip (xs.zip ys)).lookup b with
   | some p =>
    rw[eT b p hb hq]at e; cases e
    obtain⟨i,q1,q2⟩:=zBQ ts _ b p hq
    obtain⟨_,xv,yv,q3,q4,q5⟩:=tp.at_ i b q1
    obtain⟨x,y⟩:=p
    rw[List.getElem?_zip_eq_some]at q2
    obtain⟨g1,g2⟩:=q2
    obtain⟨uv,g3,g4⟩:=v1.get g1
    obtain⟨wv,g5,g6⟩:=v2.get g2
    rw[List.getElem?_toArray]at q3 q4
    rw[g3]at q3; cases q3
    rw[g5]at q4; cases q4
    exact⟨by show 2<=sizeLine; decide,[_,_],.cons g4 (.cons g6 .nil),⟨_,q5,rfl,⟨_,rfl⟩,rfl⟩⟩
   | none =>
    rw[eN b hb hq]at e
    exact (I1.hok b o e).stay (fun d u _ q=>kk d u q) (fun d q=>old _ _ q) (fun d xs q=>old _ _ q)
end
end L2
namespace D
open PySem L2
def dLZip(fa:DA):DE:=fun Γ=>(fa Γ).bind fun p=>match p.1 with
 | [a,b]=>(sqlOf p.2 a).bind fun xs=>(sqlOf p.2 b).bind fun ys=>if xs.length=ys.length then some (.l (zipT xs ys),p.2) else none
 | _=>none
theorem zG1{K:Fg}{H:Hp}:∀ {vs us:List V} {xs ys:List T} {ts:List Addr},Ims K H vs xs->Ims K H us ys->vs.length=us.length->ts.length=vs.length->(∀ (i:Nat) t x y,ts[i]?=some t->vs[i]?=some x->us[i]?=some y->H t=some (.tup [x,y]))->Ims K H (ts.map V.ref) (zipT xs ys)
 | _,_,[],_,ts,h1,_,_,hl,_=>by
  rw[h1.inv0]at hl
  obtain rfl:ts=[]:=List.length_eq_zero_iff.mp (by simpa using hl)
  exact .nil
 | _,_,x::xs,[],ts,h1,h2,he,_,_=>by
  rw[h1.len,h2.len]at he
  simp at he
 | _,_,x::xs,y::ys,[],h1,_,_,hl,_=>by
  rw[h1.len]at hl
  simp at hl
 | _,_,x::xs,y::ys,t::ts,h1,h2,he,hl,hT=>by
  obtain⟨v,r,rfl,g1,g2⟩:=h1.inv
  obtain⟨u,r',rfl,g3,g4⟩:=h2.inv
  show Ims K H (.ref t::ts.map V.ref) (.t [x,y]::zipT xs ys)
  exact .cons (.tup (hT 0 t v u rfl rfl rfl) (.cons g1 (.cons g3 .nil))) (zG1 g2 g4 (by simpa using he) (by simpa using hl) fun i t' x' y' e1 e2 e3=>hT (i+1) t' x' y' (by simpa using e1) (by simpa using e2) (by simpa using e3))
theorem zKH{K:Fg}{ta:TA}{fa:DA}(ha:SimA K ta fa):SimE K (tLZip K ta) (dLZip fa):=by
 intro C w Γ σ H s Γ' Q R e k
 obtain⟨⟨as,G1⟩,e1,e⟩:=bind_some e
 dsimp only at e
 split at e
 ·obtain⟨xs,e2,e⟩:=bind_some e
  obtain⟨ys,e3,e⟩:=bind_some e
  split at e
  ·rename_i hlen
   cases e
   refine ha C w Γ σ H _ _ _ R e1 fun vs H1 R1 ev1 o1 n1=>?_
   obtain⟨v,u,rfl,o2,o3⟩:=soks2 o1
   obtain⟨p,us,rfl,h1,i1⟩:=zAi R1 o2 e2
   obtain⟨p',us',rfl,h2,i2⟩:=zAi R1 o3 e3
   have hll:us.length=us'.length:=by rw[i1.len,i2.len]; exact hlen
   refine⟨p,p',us,us',rfl,h1,h2,hll,fun l ts H2 hl old tl tups eL=>?_⟩
   have evo:Evo w.L H1 H2:=fun b o h _=>old b o h
   obtain⟨fa1,fb,fc⟩:=R1.fresh hl
   refine k _ _ (R1.evo0 old) (ev1.trans evo) ⟨l,ts.map V.ref,rfl,fa1,fb,fc,eL,zG1 (i1.evo evo R1.lst) (i2.evo evo R1.lst) hll tl tups⟩ ⟨l,rfl,zAa ev1 R1.lst hl⟩
  ·cases e
 ·cases e
section
variable {ι:Type}{K:Fg}{X:ι->Cx}{mg:Str->Option Value}{k:Nat}{a b:Expr}{da:DA}{Γ:En}
theorem zLm{p0 p1 pos0 pos1:Pos}(M:Fm K mg k X)(hm0:mg "list"=none)(hm1:mg "zip"=none)(ha:AX K X [a,b] da)(hg0:∀ j,Gl (X j) "list":=by intro _; rfl)(hg1:∀ j,Gl (X j) "zip":=by intro _; rfl)
  (hs:∀ j,starEach [a,b] (X j).env=[(false,eval a (X j).env),(false,eval b (X j).env)]:=by intro _; rfl) (hs2:∀ j,starEach [b] (X j).env=[(false,eval b (X j).env)]:=by intro _; rfl)
  (hs3:∀ j,starEach [.Call (.Name "zip" p1) [a,b] [] pos1] (X j).env=[(false,eval (.Call (.Name "zip" p1) [a,b] [] pos1) (X j).env)]:=by intro _; rfl) :
  EX K X (.Call (.Name "list" p0) [.Call (.Name "zip" p1) [a,b] [] pos1] [] pos0) (dLZip da) :=
 let ⟨t,q,u⟩:=ha; ⟨tLZip K t,fun j=>by have:=zMU (p0:=p0) (p1:=p1) (pos0:=pos0) (pos1:=pos1) (M.room j).hd (hg0 j) (by rw[M.mg]; exact hm0) (hg1 j) (by rw[M.mg]; exact hm1) (q j) (hs j) (hs2 j) (hs3 j); rw[M.K j]at this; exact this,zKH u⟩
@[simp] theorem zP4:dLZip da Γ=(da Γ).bind fun p=>match p.1 with
 | [a,b]=>(sqlOf p.2 a).bind fun xs=>(sqlOf p.2 b).bind fun ys=>if xs.length=ys.length then some (.l (zipT xs ys),p.2) else none
 | _=>none:=(rfl)
end
def shlS:En->S->S->Option S:=opIIc CPow fun i j=>.int (i * 2 ^ j.toNat)
section
variable {ι:Type}{K:Fg}{X:ι->Cx}{a b:Expr}{pos:Pos}{fa fb:DE}{Γ:En}
theorem zMx(ha:EX K X a fa)(hb:EX K X b fb):EX K X (.BinOp a .LShift b pos) (dOp shlS fa fb):=zCN (fun j=>zNT) zBi ha hb
@[simp] theorem zQ1{m n:Int}:shlS Γ (.v (.a (.int m))) (.v (.a (.int n)))=if CPow m n then some (.v (.a (.int (m * 2 ^ n.toNat)))) else none:=(rfl)
end
end D
namespace Lw
open PySem.W (mg_of mg_none_of nsIn fnOf)
open PyProof.Rows (boot_all boot_bool boot_isinstance boot_list boot_max boot_sorted boot_tuple)
open PySem L2 D
def top(i:Nat):Stmt:=PySem.Challenge.pw_fivecups_k57_whole_and_has_all_marks.main.body.getD i (.Pass ⟨0,0,0,0⟩)
noncomputable section
variable {P:Program}{wd:World}{K:PySem.W.Frag}{mg:Str->Option Value}{base:Heap}
def zAx:T:=.t (([0,2,1]:List Int).map V.int |>.map T.a)
def zB1:List (Int×T):=[(1,.t (([1,2,0]:List Int).map V.int |>.map T.a)),(2,.t (([2,0,1]:List Int).map V.int |>.map T.a))]
abbrev kcsT:List (List Key):=[[.inl 0,.inl 2,.inl 1],[.inl 1,.inl 2,.inl 0],[.inl 2,.inl 0,.inl 1]]
abbrev zBS:Nat:=12
abbrev zB5:Nat:=12
local macro_rules | `(tactic| walk_at "s") => `(tactic| exact ⟨rfl,rfl,rfl,by decide +kernel,rfl,by decide +kernel,by decide +kernel⟩)
abbrev st_2:Stmt:=top 25
theorem sc_2:FnScope ["_law_script","_law_k","_law_cell","_law_seed"] ["_law_script","_law_k"] (defScope st_2):=by walk_at "s"
def d_2:DS:=dSeq (dSet 2 (dOp addS (dOp mulS (dC (.int 7919)) (jV 1)) (dC (.int 11))))
 (dSeq (dIf (dTest (dOp ltS (jV 1) (dCB lenS (jW (jV 0) qQ)))) (dSet 2 (dOp ixS (jV 0) (jV 1))) (dIf (dTest (dOp gtS (dCB lenS (jW (jV 0) qQ)) (dC (.int 0)))) (dSet 2 (dOp addS (jV 2) (dOp mulS (dOp modS (dOp ixS (jV 0) (dOp modS (jV 1) (dCB lenS (jW (jV 0) qQ)))) (dC (.int 2147483629))) (dC (.int 69623))))) dNext))
 (dSeq (dSet 3 (dOp addS (dOp modS (dOp addS (dOp mulS (dOp modS (jV 2) (dC (.int 2147483629))) (dC (.int 48271))) (dOp mulS (dC (.int 40692)) (jV 1))) (dC (.int 2147483629))) (dC (.int 1))))
 (dRet (dLst (jW (dOp ixS (dLst (jW (dC (.int 0)) (jW (jV 2) qQ))) (dCB intS (jW (dOp geS (jV 2) (dOp powS (dC (.int 10)) (dC (.int 18)))) qQ))) (jW (jV 3) qQ))))))
def F_2:DF:=fnD none 2 4 d_2
theorem ok_2{f:Addr}{fd:FuncData}(Fn:Fun K "_law_box" "_law_box" st_2 f fd)(hm:mg "_law_box"=some (.ref f))(hb:Binds K fd ["_law_script","_law_k"] [])(z_int:mg "int"=none)(z_len:mg "len"=none):FD P wd K mg base (1) "_law_box" none 2 F_2 :=
 zAS (k:=0) Fn sc_2 hm hb fun cdv A outer s H E M B=>zAA (zAF 2 (zAL M (zBH jJ (jZ 1)) jJ) (hN:=fun _=>sc_2.nd))
 (zAA (zAd (tx_c zLV (jZ 1) (zAQ M (zAh M) z_len PySem.boot_len (jQ (jZ 0) jY))) (zAC (zAF 2 (zAG M (jZ 0) (jZ 1)) (hN:=fun _=>sc_2.nd))) (zAC (zAd (tx_c zDm (zAQ M (zAh M) z_len PySem.boot_len (jQ (jZ 0) jY)) jJ) (zAC (zAF 2 (zAL M (jZ 2) (zBH (zBD (zAG M (jZ 0) (zBD (jZ 1) (zAQ M (zAh M) z_len PySem.boot_len (jQ (jZ 0) jY)))) jJ) jJ)) (hN:=fun _=>sc_2.nd))) zAW)))
 (zAA (zAF 3 (zAL M (zBD (zAL M (zBH (zBD (jZ 2) jJ) jJ) (zBH jJ (jZ 1))) jJ) jJ) (hN:=fun _=>sc_2.nd))
 (zAC (zAH (zAX (jQ (zAG M (zAX (jQ jJ (jQ (jZ 2) jY))) (zBY M (zJU) z_int (by decide +kernel) (jQ (ex_c zLQ (jZ 2) (zM6 jJ jJ)) jY))) (jQ (jZ 3) jY)))))))
abbrev st_3:Stmt:=top 26
theorem sc_3:FnScope ["_law_box_here","_law_wide","_law_digit","_law_one"] ["_law_box_here","_law_wide"] (defScope st_3):=by walk_at "s"
def d_3:DS:=dSeq (dIf (dTest (dOp gtS (dOp ixS (jV 0) (dC (.int 0))) (dC (.int 0)))) (dSeq (dSet 2 (dOp modS (dOp ixS (jV 0) (dC (.int 0))) (jV 1)))
 (dSeq (dSetIx 0 (dOp fdivS (dOp ixS (jV 0) (dC (.int 0))) (jV 1)) (dC (.int 0)))
 (dRet (jV 2)))) dNext)
 (dSeq (dSet 3 (dOp modS (dOp mulS (dOp ixS (jV 0) (dC (.int 1))) (dC (.int 69623))) (dC (.int 2147483647))))
 (dSeq (dSetIx 0 (dOp addS (dOp modS (dOp addS (dOp mulS (jV 3) (dC (.int 48271))) (dC (.int 30103))) (dC (.int 2147483629))) (dC (.int 1))) (dC (.int 1)))
 (dRet (dOp modS (dOp fdivS (dOp addS (dOp mulS (jV 3) (dC (.int 2147483647))) (dOp ixS (jV 0) (dC (.int 1)))) (dC (.int 8191))) (jV 1)))))
def F_3:DF:=fnD (some 0) 2 4 d_3
theorem ok_3{f:Addr}{fd:FuncData}(Fn:Fun K "_law_take" "_law_take" st_3 f fd)(hm:mg "_law_take"=some (.ref f))(hb:Binds K fd ["_law_box_here","_law_wide"] []) :FD P wd K mg base (1) "_law_take" (some 0) 2 F_3 :=
 zAS (k:=0) Fn sc_3 hm hb fun cdv A outer s H E M B=>zAA (zAd (tx_c zDm (zAG M (jZ 0) jJ) jJ) (zAA (zAF 2 (zBD (zAG M (jZ 0) jJ) (jZ 1)) (hN:=fun _=>sc_3.nd))
 (zAA (zGF 0 (zB6 (zAG M (jZ 0) jJ) (jZ 1)) (pv' 0) jJ)
 (zAC (zAH (jZ 2))))) zAW)
 (zAA (zAF 3 (zBD (zBH (zAG M (jZ 0) jJ) jJ) jJ) (hN:=fun _=>sc_3.nd))
 (zAA (zGF 0 (zAL M (zBD (zAL M (zBH (jZ 3) jJ) jJ) jJ) jJ) (pv' 0) jJ)
 (zAC (zAH (zBD (zB6 (zAL M (zBH (jZ 3) jJ) (zAG M (jZ 0) jJ)) jJ) (jZ 1))))))
def zCg:DT:=dTest (dOp gtS (dCB lenS (jW (jV 2) qQ)) (dC (.int 0)))
def zDa:DS:=dSeq (dSet 4 (dMut 2 hPopAt (jW (dCall (some 0) F_3 [] (jW (jV 0) (jW (dCB lenS (jW (jV 2) qQ)) qQ))) qQ)))
 (dSeq (dSet 5 (dCall (some 0) F_3 [] (jW (jV 0) (jW (dC (.int 2)) qQ))))
 (dDrop (dMut 3 hAppend (jW (dTup (jW (dOp ixS (dLst (jW (dTup (jW (dC (.str "not")) (jW (dTup (jW (dC (.str "ask")) (jW (jV 4) qQ))) qQ))) (jW (dTup (jW (dC (.str "ask")) (jW (jV 4) qQ))) qQ))) (jV 5)) (jW (jV 4) (jW (jV 5) qQ)))) qQ))))
abbrev st_4:Stmt:=top 32
theorem sc_4:FnScope ["_law_box_here","_law_some","_law_left","_law_found","_law_q","_law_yes"] ["_law_box_here","_law_some"] (defScope st_4):=by walk_at "s"
def d_4:DS:=dSeq (dSet 2 (dCB listS (jW (jV 1) qQ)))
 (dSeq (dSet 3 (dLst qQ))
 (dSeq (dWhile (zCg) (zDa) fuelX)
 (dRet (jV 3))))
def F_4:DF:=fnD (some 0) 2 6 d_4
theorem ok_4{f:Addr}{fd:FuncData}(Fn:Fun K "_law_literals" "_law_literals" st_4 f fd)(hm:mg "_law_literals"=some (.ref f))(hb:Binds K fd ["_law_box_here","_law_some"] [])(z_len:mg "len"=none)(z_list:mg "list"=none)(D_3:FD P wd K mg base (1) "_law_take" (some 0) 2 F_3):FD P wd K mg base (2) "_law_literals" (some 0) 2 F_4 :=
 zAS (k:=1) Fn sc_4 hm hb fun cdv A outer s H E M B=>zAA (zAF 2 (zBY M (zHE M) z_list boot_list (jQ (jZ 1) jY)) (hN:=fun _=>sc_4.nd))
 (zAA (zAF 3 (zAX jY) (hN:=fun _=>sc_4.nd))
 (zAA (zDU fuelX (fun _=>PassesOwn.never) (tx_c zDm (zAQ M (zAh M) z_len PySem.boot_len (jQ (jZ 2) jY)) jJ) (zAA (zAF 4 (zB2 M PySem.F.slot_list_pop PySem.F.type_list_pop (fun _=>zKA) zJx (pv' 2) (jQ (zAE M B D_3 (jQ (jZ 0) (jQ (zAQ M (zAh M) z_len PySem.boot_len (jQ (jZ 2) jY)) jY))) jY)) (hN:=fun _=>sc_4.nd))
 (zAA (zAF 5 (zAE M B D_3 (jQ (jZ 0) (jQ jJ jY))) (hN:=fun _=>sc_4.nd))
 (zAC (zCE (zB2 M PySem.F.slot_list_append PySem.F.type_list_append (fun _=>zCo) zCM (pv' 3) (jQ (zAK (jQ (zAG M (zAX (jQ (zAK (jQ zAm (jQ (zAK (jQ zAm (jQ (jZ 4) jY))) jY))) (jQ (zAK (jQ zAm (jQ (jZ 4) jY))) jY))) (jZ 5)) (jQ (jZ 4) (jQ (jZ 5) jY)))) jY)))))))
 (zAC (zAH (jZ 3)))))
def zDp:DE:=dTup (jW (jV 0) (jW (dOp (getS kcsT) (jV 1) (jV 0)) qQ))
def zDz:DT:=dTest (dOp neS (dOp (getS kcsT) (jV 1) (jV 0)) (dC (.int 0)))
def zCk:DS:=dDPut kcsT 1 (dOp ixS (jV 2) (dC (.int 0))) (dOp modS (dOp addS (dDGet2 kcsT (jV 1) (dOp ixS (jV 2) (dC (.int 0))) (dC (.int 0))) (dOp ixS (jV 2) (dC (.int 1)))) (dC (.int 3)))
abbrev st_5:Stmt:=top 13
theorem sc_5:FnScope ["pairs","numbers","pair"] ["pairs"] (defScope st_5):=by walk_at "s"
def d_5:DS:=dSeq (dSet 1 (dDNew true))
 (dSeq (dFor none (dSeqI (jV 0)) (gdName 2) (zCk))
 (dRet (dCB tupleS (jW (dComp none [none,some 1] (dSeqI (dCB sortDS (jW (jV 1) qQ))) (gdName 0) (zDz) (zDp)) qQ))))
def F_5:DF:=fnD none 1 3 d_5
theorem ok_5{f:Addr}{fd:FuncData}(Fn:Fun K "marks_of" "marks_of" st_5 f fd)(hm:mg "marks_of"=some (.ref f))(hb:Binds K fd ["pairs"] [])(z_KC:KC K kcsT)(z_sorted:mg "sorted"=none)(z_tuple:mg "tuple"=none):FD P wd K mg base (1) "marks_of" none 1 F_5 :=
 zAS (k:=0) Fn sc_5 hm hb fun cdv A outer s H E M B=>zAA (zAF 1 (zKw) (hN:=fun _=>sc_5.nd))
 (zAA (zBI M (fun _=>PassesOwn.never) (zAO M (jZ 0)) (zAJ 2 (hN:=fun _=>sc_5.nd)) (zAC (zMS 1 M z_KC (pv' 1) (zAG M (jZ 2) jJ) (zBD (zAL M (zKR M z_KC (jZ 1) (zAG M (jZ 2) jJ) jJ) (zAG M (jZ 2) jJ)) jJ))))
 (zAC (zAH (zBY M (zBh M) z_tuple boot_tuple (jQ (zAV none (N':=["asked","numbers"]) (ix:=[none,some 1]) M (fun _=>⟨rfl,by kernel_rfl⟩) (zAO M (zAQ M (zJ2 M) z_sorted boot_sorted (jQ (jZ 1) jY))) (zAJ 0 (hN:=fun _=>(by show (["asked","numbers"]:List Str).Nodup; decide +kernel))) (zJZ (tx_c (zBa M.comp) (zGs M.comp z_KC (jZ 1) (jZ 0)) jJ)) (zAK (jQ (jZ 0) (jQ (zGs M.comp z_KC (jZ 1) (jZ 0)) jY))) (hix:=hix0)) jY)))))
abbrev st_6:Stmt:=top 8
theorem sc_6:FnScope ["saying"] ["saying"] (defScope st_6):=by walk_at "s"
def d_6:DS:=dRet (dIfE (dTest (dOp eqS (dOp ixS (jV 0) (dC (.int 0))) (dC (.str "ask")))) (dTup qQ) (dSl (jV 0) (dPart (dC (.int 1))) dNoPart))
def F_6:DF:=fnD none 1 1 d_6
theorem ok_6{f:Addr}{fd:FuncData}(Fn:Fun K "inner" "inner" st_6 f fd)(hm:mg "inner"=some (.ref f))(hb:Binds K fd ["saying"] []) :FD P wd K mg base (1) "inner" none 1 F_6 :=
 zAS (k:=0) Fn sc_6 hm hb fun cdv A outer s H E M B=>zAC (zAH (zLW (tx_c (zAl M) (zAG M (jZ 0) jJ) zAm) (zAK jY) (zBl M (jZ 0) (zBA jJ) zBB)))
def zN5:DT:=dTru (jV 3)
def zNJ:DS:=dSeq (dSet 4 (dMut 3 hPop qQ))
 (dSeq (dDrop (dMut 2 hAppend (jW (jV 4) qQ)))
 (dDrop (dMut 3 hExtend (jW (dLRev (jW (dCallV 1 [("inner",1,F_6)] (jW (jV 4) qQ)) qQ)) qQ))))
abbrev st_7:Stmt:=top 5
theorem sc_7:FnScope ["whole","inside_of","found","rest","part"] ["whole","inside_of"] (defScope st_7):=by walk_at "s"
def d_7:DS:=dSeq (dSet 2 (dLst qQ))
 (dSeq (dSet 3 (dLst (jW (jV 0) qQ)))
 (dSeq (dWhile (zN5) (zNJ) fuelX)
 (dRet (jV 2))))
def F_7:DF:=fnD none 2 5 d_7
theorem ok_7{f:Addr}{fd:FuncData}(Fn:Fun K "all_within" "all_within" st_7 f fd)(hm:mg "all_within"=some (.ref f))(hb:Binds K fd ["whole","inside_of"] [])(z_list:mg "list"=none)(z_reversed:mg "reversed"=none)(D_6:FD P wd K mg base (1) "inner" none 1 F_6):FD P wd K mg base (2) "all_within" none 2 F_7 :=
 zAS (k:=1) Fn sc_7 hm hb fun cdv A outer s H E M B=>zAA (zAF 2 (zAX jY) (hN:=fun _=>sc_7.nd))
 (zAA (zAF 3 (zAX (jQ (jZ 0) jY)) (hN:=fun _=>sc_7.nd))
 (zAA (zDU fuelX (fun _=>PassesOwn.never) (tx_v M (jZ 3)) (zAA (zAF 4 (zHK M PySem.F.slot_list_pop PySem.F.type_list_pop (fun _=>zJk) zHM (pv' 3)) (hN:=fun _=>sc_7.nd))
 (zAA (zCE (zB2 M PySem.F.slot_list_append PySem.F.type_list_append (fun _=>zCo) zCM (pv' 2) (jQ (jZ 4) jY)))
 (zAC (zCE (zB2 M PySem.F.slot_list_extend PySem.F.type_list_extend (fun _=>zEX) zD4 (pv' 3) (jQ (zMG M z_list z_reversed (jQ (zFQ (k':=1) 1 M B (zHP D_6 (zFb)) (jQ (jZ 4) jY)) jY)) jY)))))))
 (zAC (zAH (jZ 2)))))
abbrev st_8:Stmt:=top 10
theorem sc_8:FnScope ["answers","part","inside","word"] ["answers","part","inside"] (defScope st_8):=by walk_at "s"
def d_8:DS:=dSeq (dSet 3 (dOp ixS (jV 1) (dC (.int 0))))
 (dSeq (dIf (dTest (dOp eqS (jV 3) (dC (.str "ask")))) (dRet (dOp eqS (dOp ixS (jV 0) (dOp ixS (jV 1) (dC (.int 1)))) (dC (.int 1)))) dNext)
 (dSeq (dIf (dTest (dOp eqS (jV 3) (dC (.str "not")))) (dRet (dNotV (dOp ixS (jV 2) (dC (.int 0))))) dNext)
 (dSeq (dIf (dTest (dOp eqS (jV 3) (dC (.str "and")))) (dRet (dAndV (dOp ixS (jV 2) (dC (.int 0))) (dOp ixS (jV 2) (dC (.int 1))))) dNext)
 (dSeq (dIf (dTest (dOp eqS (jV 3) (dC (.str "or")))) (dRet (dOrV (dOp ixS (jV 2) (dC (.int 0))) (dOp ixS (jV 2) (dC (.int 1))))) dNext)
 (dSeq (dIf (dTest (dOp eqS (jV 3) (dC (.str "either")))) (dRet (dOp neS (dOp ixS (jV 2) (dC (.int 0))) (dOp ixS (jV 2) (dC (.int 1))))) dNext)
 (dSeq (dIf (dTest (dOp eqS (jV 3) (dC (.str "most")))) (dRet (dOp geS (dLFind gCount (jV 2) (jW (dC (.bl true)) qQ)) (dC (.int 2)))) dNext)
 (dRet (dOp eqS (jV 3) (dC (.str "yes"))))))))))
def F_8:DF:=fnD none 3 4 d_8
theorem ok_8{f:Addr}{fd:FuncData}(Fn:Fun K "so_by" "so_by" st_8 f fd)(hm:mg "so_by"=some (.ref f))(hb:Binds K fd ["answers","part","inside"] []) :FD P wd K mg base (1) "so_by" none 3 F_8 :=
 zAS (k:=0) Fn sc_8 hm hb fun cdv A outer s H E M B=>zAA (zAF 3 (zAG M (jZ 1) jJ) (hN:=fun _=>sc_8.nd))
 (zAA (zAd (tx_c (zAl M) (jZ 3) zAm) (zAC (zAH (ex_c (zAl M) (zAG M (jZ 0) (zAG M (jZ 1) jJ)) jJ))) zAW)
 (zAA (zAd (tx_c (zAl M) (jZ 3) zAm) (zAC (zAH (zNp (zAG M (jZ 2) jJ)))) zAW)
 (zAA (zAd (tx_c (zAl M) (jZ 3) zAm) (zAC (zAH (zFS (zAG M (jZ 2) jJ) (zDX (zAG M (jZ 2) jJ))))) zAW)
 (zAA (zAd (tx_c (zAl M) (jZ 3) zAm) (zAC (zAH (zOU (zAG M (jZ 2) jJ) (zDX (zAG M (jZ 2) jJ))))) zAW)
 (zAA (zAd (tx_c (zAl M) (jZ 3) zAm) (zAC (zAH (ex_c (zBa M) (zAG M (jZ 2) jJ) (zAG M (jZ 2) jJ)))) zAW)
 (zAA (zAd (tx_c (zAl M) (jZ 3) zAm) (zAC (zAH (ex_c zLQ (zKO M PySem.F.slot_list_count PySem.F.type_list_count (fun j=>zJB (M.room j)) (jZ 2) (jQ zBn jY)) jJ))) zAW)
 (zAC (zAH (ex_c (zAl M) (jZ 3) zAm)))))))))
abbrev st_9:Stmt:=top 11
def lamE(s:Stmt):Expr:=match defBody s with
 | [.Return (some (.Call _ [_,l] _ _)) _]=>l
 | _=>.Name "" ⟨0,0,0,0⟩
def L_so:Lam:=match lamE st_9 with
 | .Lambda ps b sc _=>⟨ps,b,sc,"is_so.<locals>.<lambda>","answers"⟩
 | e=>⟨defArgs st_9,e,defScope st_9,"",""⟩
theorem zMy:LamScope L_so "part" "inside":=⟨rfl,rfl,rfl,by decide +kernel,rfl,rfl,rfl,fun y h=>(show ∀ q∈L_so.scope.names,q.2=NameKind.free->q.1=L_so.x by decide +kernel) (y,.free) (PySem.mem_of_lookup h) rfl,by decide,fun _ _ _ _ _ _=>rfl⟩
def zBq:DE:=dCall none F_8 [] (jW (jV 2) (jW (jV 0) (jW (jV 1) qQ)))
theorem zNb(D_8:FD P wd K mg base (1) "so_by" none 3 F_8):LD P wd K mg base (1) L_so zBq:=⟨"part","inside",zMy,fun f c cd A outer s H hr=>by
 have M:Fm K mg 1 (fun _:Unit=>cxLam P wd K mg base L_so "part" "inside" f cd c A outer s H):=⟨fun _=>rfl,fun _=>rfl,fun _=>rfl,fun _=>hr⟩
 have B:Fb P wd base (fun _:Unit=>cxLam P wd K mg base L_so "part" "inside" f cd c A outer s H):=⟨fun _=>rfl,fun _=>rfl,fun _=>rfl⟩
 obtain⟨t,p,u⟩:=(show EX K (fun _:Unit=>cxLam P wd K mg base L_so "part" "inside" f cd c A outer s H) L_so.body zBq from zAE M B D_8 (jQ (jZ 2) (jQ (jZ 0) (jQ (jZ 1) jY))))
 exact⟨t,p (),u⟩⟩
def zLX:DE:=dMut 1 hPop qQ
def zL6:DS:=dSeq (dSet 5 (dComp (some (1,3)) [none,some 3] (dSeqI (dCallV 1 [("inner",1,F_6)] (jW (jV 4) qQ))) (gdName 0) dYes (zLX)))
 (dDrop (dMut 3 hAppend (jW (dCallM 2 [] L_so zBq (jW (jV 4) (jW (jV 5) qQ))) qQ)))
abbrev zHW:Stmt:=top 6
theorem zFG:FnScope ["whole","inside_of","put","told","part","inside"] ["whole","inside_of","put"] (defScope zHW):=by walk_at "s"
def d_10:DS:=dSeq (dSet 3 (dLst qQ))
 (dSeq (dFor none (dRevL (jW (dCall none F_7 [] (jW (jV 0) (jW (jV 1) qQ))) qQ)) (gdName 4) (zL6))
 (dRet (dOp ixS (jV 3) (dC (.int 0)))))
def F_10:DF:=fnD none 3 6 d_10
theorem zO3{f:Addr}{fd:FuncData}(Fn:Fun K "fold_within" "fold_within" zHW f fd)(hm:mg "fold_within"=some (.ref f))(hb:Binds K fd ["whole","inside_of","put"] [])(z_reversed:mg "reversed"=none)(D_6:FD P wd K mg base (1) "inner" none 1 F_6)(D_7:FD P wd K mg base (2) "all_within" none 2 F_7)(D_8:FD P wd K mg base (1) "so_by" none 3 F_8):FD P wd K mg base (3) "fold_within" none 3 F_10 :=
 zAS (k:=2) Fn zFG hm hb fun cdv A outer s H E M B=>zAA (zAF 3 (zAX jY) (hN:=fun _=>zFG.nd))
 (zAA (zBI M (fun _=>PassesOwn.never) (zMO M z_reversed (jQ (zAE M B D_7 (jQ (jZ 0) (jQ (jZ 1) jY))) jY)) (zAJ 4 (hN:=fun _=>zFG.nd)) (zAA (zEM 5 (some (1,3)) (N':=["one","told"]) (ix:=[none,some 3]) M (fun _=>⟨rfl,by kernel_rfl⟩) (zAO M (zFQ (k':=1) 1 M B (zHP D_6 (zFb)) (jQ (jZ 4) jY))) (zAJ 0 (hN:=fun _=>(by show (["one","told"]:List Str).Nodup; decide +kernel))) zAb (zHK M.comp PySem.F.slot_list_pop PySem.F.type_list_pop (fun _=>zJk) zHM (pv' 1)) (hix:=hix1 (by decide)) (hN:=fun _=>zFG.nd))
 (zAC (zCE (zB2 M PySem.F.slot_list_append PySem.F.type_list_append (fun _=>zCo) zCM (pv' 3) (jQ (zKQ (k':=1) 2 M B (zFb) ((zNb D_8).mono (by decide)) (jQ (jZ 4) (jQ (jZ 5) jY))) jY))))))
 (zAC (zAH (zAG M (jZ 3) jJ))))
abbrev zIM:Stmt:=top 9
theorem zO9:FnScope ["saying","put"] ["saying","put"] (defScope zIM):=by walk_at "s"
def d_11:DS:=dRet (dCall none F_10 [] (jW (jV 0) (jW (dFn "inner") (jW (jV 1) qQ))))
def F_11:DF:=fnD none 2 2 d_11
theorem zOK{f:Addr}{fd:FuncData}(Fn:Fun K "folded" "folded" zIM f fd)(hm:mg "folded"=some (.ref f))(hb:Binds K fd ["saying","put"] [])(n_inner:NK K mg "inner")(D_10:FD P wd K mg base (3) "fold_within" none 3 F_10):FD P wd K mg base (4) "folded" none 2 F_11 :=
 zAS (k:=3) Fn zO9 hm hb fun cdv A outer s H E M B=>zAC (zAH (zAE M B D_10 (jQ (jZ 0) (jQ (zOl M n_inner) (jQ (jZ 1) jY)))))
def F_9:DF:=fnD none 2 2 (dRet (dHand F_11 L_so))
theorem sc_9:FnScope ["saying","answers"] ["saying","answers"] (defScope st_9):=by walk_at "s"
theorem zNx{f:Addr}{cdv:Value}{n:Nat}(c:Addr)(h:(PyProof.Rows.envOfC "is_so" (defScope st_9) n f cdv).cells.lookup L_so.x=some c):closureFor L_so.scope (PyProof.Rows.envOfC "is_so" (defScope st_9) n f cdv)=pure [(L_so.x,c)]:=by
 cases h
 rfl
theorem ok_9{f:Addr}{fd:FuncData}(Fn:Fun K "is_so" "is_so" st_9 f fd)(hm:mg "is_so"=some (.ref f))(hb:Binds K fd ["saying","answers"] [])(tab_p_is_so:TabAt K fd)(D_11:FD P wd K mg base (4) "folded" none 2 F_11):FD P wd K mg base (5) "is_so" none 2 F_9:=by
 refine⟨⟨f,fd,["saying","answers"],zM8 (k:=4) Fn sc_9 fun cdv A outer s H E hc M B=>zAC (zAH ?_),hm,Fn.kp,hb⟩,zHT⟩
 refine zMt (L:=L_so) (x:="folded") (y:="saying") M B D_11 tab_p_is_so hc ?a1 ?a2 ?a3 ?a4 ?a5 ?a6 ?a7 ?a8 ?a9 ?a10 ?a11 ?a12 ?a13 ?a14 ?a15 ?a16
 case a1=>exact fun _=>rfl
 case a2=>decide
 case a4=>exact fun _ c h=>zNx c h
 case a7=>exact fun _=>pv 0
 case a11=>rfl
 case a13=>decide
 all_goals (intro _; rfl)
def zEH:DE:=dOp addS (dTup (jW (dC (.int 0)) qQ)) (jV 0)
def zEN:DE:=dOp addS (dTup (jW (dC (.int 1)) qQ)) (jV 0)
def zCs:DS:=dSet 1 (dOp addS (dComp none [none] (dSeqI (jV 1)) (gdName 0) dYes (zEH)) (dComp none [none] (dSeqI (jV 1)) (gdName 0) dYes (zEN)))
abbrev zH8:Stmt:=top 3
theorem zFJ:FnScope ["questions","told","question"] ["questions"] (defScope zH8):=by walk_at "s"
def d_12:DS:=dSeq (dSet 1 (dLst (jW (dTup qQ) qQ)))
 (dSeq (dFor none (dRng1 (jW (jV 0) qQ)) (gdName 2) (zCs))
 (dRet (jV 1)))
def F_12:DF:=fnD none 1 3 d_12
theorem zOP{f:Addr}{fd:FuncData}(Fn:Fun K "all_answers" "all_answers" zH8 f fd)(hm:mg "all_answers"=some (.ref f))(hb:Binds K fd ["questions"] [])(z_range:mg "range"=none):FD P wd K mg base (1) "all_answers" none 1 F_12 :=
 zAS (k:=0) Fn zFJ hm hb fun cdv A outer s H E M B=>zAA (zAF 1 (zAX (jQ (zAK jY) jY)) (hN:=fun _=>zFJ.nd))
 (zAA (zBI M (fun _=>PassesOwn.never) (zC6 M z_range (jQ (jZ 0) jY)) (zAJ 2 (hN:=fun _=>zFJ.nd)) (zAC (zAF 1 (zAL M (zAV none (N':=["answers"]) (ix:=[none]) M (fun _=>⟨rfl,by kernel_rfl⟩) (zAO M (jZ 1)) (zAJ 0 (hN:=fun _=>(by show (["answers"]:List Str).Nodup; decide +kernel))) zAb (zAL M.comp (zAK (jQ jJ jY)) (jZ 0)) (hix:=hix0)) (zAV none (N':=["answers"]) (ix:=[none]) M (fun _=>⟨rfl,by kernel_rfl⟩) (zAO M (jZ 1)) (zAJ 0 (hN:=fun _=>(by show (["answers"]:List Str).Nodup; decide +kernel))) zAb (zAL M.comp (zAK (jQ jJ jY)) (jZ 0)) (hix:=hix0))) (hN:=fun _=>zFJ.nd))))
 (zAC (zAH (jZ 1))))
def zGC(rec:DF):DE:=dTup (jW (dOp addS (dTup (jW (jV 1) qQ)) (dOp ixS (jV 0) (dC (.int 0)))) (jW (dOp ixS (jV 0) (dC (.int 1))) qQ))
def zFu(rec:DF):DE:=dOp mulS (dC (.int 2)) (dOp subS (dOp ixS (jV 0) (dC (.int 0))) (dOp ixS (jV 0) (dC (.int 1))))
def zFt(rec:DF):DE:=dOp mulS (dC (.int 2)) (dOp addS (dOp ixS (jV 0) (dC (.int 0))) (dOp ixS (jV 0) (dC (.int 1))))
abbrev st_1:Stmt:=top 16
theorem sc_1:FnScope ["q","numbers","half","sides","bare","signed"] ["q","numbers"] (defScope st_1):=by walk_at "s"
def d_1(rec:DF):DS:=dSeq (dIf (dTest (dOp eqS (dCB lenS (jW (jV 1) qQ)) (dC (.int 1)))) (dRet (dLst (jW (dTup (jW (dTup qQ) (jW (dOp ixS (jV 1) (dC (.int 0))) qQ))) qQ))) dNext)
 (dSeq (dSet 2 (dOp fdivS (dCB lenS (jW (jV 1) qQ)) (dC (.int 2))))
 (dSeq (dSet 3 (dLZip (jW (dSl (jV 1) dNoPart (dPart (jV 2))) (jW (dSl (jV 1) (dPart (jV 2)) dNoPart) qQ))))
 (dSeq (dSet 4 (dCall none rec [] (jW (dOp addS (jV 0) (dC (.int 1))) (jW (dComp none [none] (dSeqI (jV 3)) (gdName 0) dYes ((zFt rec))) qQ))))
 (dSeq (dSet 5 (dCall none rec [] (jW (dOp addS (jV 0) (dC (.int 1))) (jW (dComp none [none] (dSeqI (jV 3)) (gdName 0) dYes ((zFu rec))) qQ))))
 (dRet (dOp addS (jV 4) (dComp none [none,some 0] (dSeqI (jV 5)) (gdName 0) dYes ((zGC rec)))))))))
def F_1:Nat->DF
 | 0=>fun _=>none
 | n+1=>fnD none 2 6 (d_1 (F_1 n))
theorem ok_1{f:Addr}{fd:FuncData}(Fn:Fun K "pairs_from" "pairs_from" st_1 f fd)(hm:mg "pairs_from"=some (.ref f))(hb:Binds K fd ["q","numbers"] [])(z_len:mg "len"=none)(z_list:mg "list"=none)(z_zip:mg "zip"=none)(n:Nat):FD P wd K mg base (0+n) "pairs_from" none 2 (F_1 n):=by
 induction n with
 | zero=>exact zHD Fn hm hb rfl
 | succ n ih =>
  have Drec:=ih
  exact zAS (k:=0+n) Fn sc_1 hm hb fun cdv A outer s H E M B=>zAA (zAd (tx_c (zAl M) (zAQ M (zAh M) z_len PySem.boot_len (jQ (jZ 1) jY)) jJ) (zAC (zAH (zAX (jQ (zAK (jQ (zAK jY) (jQ (zAG M (jZ 1) jJ) jY))) jY)))) zAW)   (zAA (zAF 2 (zB6 (zAQ M (zAh M) z_len PySem.boot_len (jQ (jZ 1) jY)) jJ) (hN:=fun _=>sc_1.nd))   (zAA (zAF 3 (zLm M z_list z_zip (jQ (zBl M (jZ 1) zBB (zBA (jZ 2))) (jQ (zBl M (jZ 1) (zBA (jZ 2)) zBB) jY))) (hN:=fun _=>sc_1.nd))   (zAA (zAF 4 (zAE M B Drec (jQ (zAL M (jZ 0) jJ) (jQ (zAV none (N':=["side"]) (ix:=[none]) M (fun _=>⟨rfl,by kernel_rfl⟩) (zAO M (jZ 3)) (zAJ 0 (hN:=fun _=>(by show (["side"]:List Str).Nodup; decide +kernel))) zAb (zBH jJ (zAL M.comp (zAG M.comp (jZ 0) jJ) (zAG M.comp (jZ 0) jJ))) (hix:=hix0)) jY))) (hN:=fun _=>sc_1.nd))   (zAA (zAF 5 (zAE M B Drec (jQ (zAL M (jZ 0) jJ) (jQ (zAV none (N':=["side"]) (ix:=[none]) M (fun _=>⟨rfl,by kernel_rfl⟩) (zAO M (jZ 3)) (zAJ 0 (hN:=fun _=>(by show (["side"]:List Str).Nodup; decide +kernel))) zAb (zBH jJ (zJr (zAG M.comp (jZ 0) jJ) (zAG M.comp (jZ 0) jJ))) (hix:=hix0)) jY))) (hN:=fun _=>sc_1.nd))   (zAC (zAH (zAL M (jZ 4) (zAV none (N':=["pair","q"]) (ix:=[none,some 0]) M (fun _=>⟨rfl,by kernel_rfl⟩) (zAO M (jZ 5)) (zAJ 0 (hN:=fun _=>(by show (["pair","q"]:List Str).Nodup; decide +kernel))) zAb (zAK (jQ (zAL M.comp (zAK (jQ (jZ 1) jY)) (zAG M.comp (jZ 0) jJ)) (jQ (zAG M.comp (jZ 0) jJ) jY))) (hix:=hix0)))))))))
def zC0:DE:=dIfE (dTru (dCall none F_9 [] (jW (jV 1) (jW (jV 0) qQ)))) (dC (.int 1)) (dC (.int 0))
abbrev zIN:Stmt:=top 17
theorem zLT:FnScope ["saying","questions","numbers"] ["saying","questions"] (defScope zIN):=by walk_at "s"
def d_13:DS:=dSeq (dSet 2 (dComp none [none,some 0] (dSeqI (dCall none F_12 [] (jW (jV 1) qQ))) (gdName 0) dYes (zC0)))
 (dRet (dTup (jW (dC (.int 0)) (jW (dTup qQ) (jW (dCall none F_5 [] (jW (dCall none (F_1 zB5) [] (jW (dC (.int 0)) (jW (jV 2) qQ))) qQ)) qQ)))))
def F_13:DF:=fnD none 2 3 d_13
theorem zOV{f:Addr}{fd:FuncData}(Fn:Fun K "sums_of_saying" "sums_of_saying" zIN f fd)(hm:mg "sums_of_saying"=some (.ref f))(hb:Binds K fd ["saying","questions"] [])(D_5:FD P wd K mg base (1) "marks_of" none 1 F_5)(D_9:FD P wd K mg base (5) "is_so" none 2 F_9)(D_12:FD P wd K mg base (1) "all_answers" none 1 F_12)(D_1:FD P wd K mg base (12) "pairs_from" none 2 (F_1 zB5)):FD P wd K mg base (13) "sums_of_saying" none 2 F_13 :=
 zAS (k:=12) Fn zLT hm hb fun cdv A outer s H E M B=>zAA (zEM 2 none (N':=["answers","saying"]) (ix:=[none,some 0]) M (fun _=>⟨rfl,by kernel_rfl⟩) (zAO M (zAE M B D_12 (jQ (jZ 1) jY))) (zAJ 0 (hN:=fun _=>(by show (["answers","saying"]:List Str).Nodup; decide +kernel))) zAb (zLW (tx_v M.comp (zAE M.comp B.comp D_9 (jQ (jZ 1) (jQ (jZ 0) jY)))) jJ jJ) (hix:=hix0) (hN:=fun _=>zLT.nd))
 (zAC (zAH (zAK (jQ jJ (jQ (zAK jY) (jQ (zAE M B D_5 (jQ (zAE M B D_1 (jQ jJ (jQ (jZ 2) jY))) jY)) jY))))))
def zDe(rec:DF):DE:=dCall none rec [] (jW (jV 0) (jW (jV 1) qQ))
abbrev st_0:Stmt:=top 27
theorem sc_0:FnScope ["_law_found","_law_due"] ["_law_found","_law_due"] (defScope st_0):=by walk_at "s"
def d_0(rec:DF):DS:=dSeq (dIf (dTru (dCB isiS (jW (jV 1) (jW (dTup (jW (dC (.ty "list")) (jW (dC (.ty "tuple")) qQ))) qQ)))) (dSeq (dIf (dOr (dTest (dOp neS (dCB isiS (jW (jV 0) (jW (dC (.ty "tuple")) qQ))) (dCB isiS (jW (jV 1) (jW (dC (.ty "tuple")) qQ))))) (dTest (dOp neS (dCB isiS (jW (jV 0) (jW (dC (.ty "list")) qQ))) (dCB isiS (jW (jV 1) (jW (dC (.ty "list")) qQ)))))) (dRet (dC (.bl false))) dNext)
 (dRet (dAndV (dOp eqS (dCB lenS (jW (jV 0) qQ)) (dCB lenS (jW (jV 1) qQ))) (dCB allS (jW (dComp none [none,none] (dZip (jW (jV 0) (jW (jV 1) qQ))) (gdTup 2 (gdCons (gdName 0) (gdCons (gdName 1) gdNil))) dYes ((zDe rec))) qQ))))) dNext)
 (dRet (dAndV (dOp eqS (dCB isiS (jW (jV 0) (jW (dC (.ty "bool")) qQ))) (dCB isiS (jW (jV 1) (jW (dC (.ty "bool")) qQ)))) (dOp eqS (jV 0) (jV 1))))
def F_0:Nat->DF
 | 0=>fun _=>none
 | n+1=>fnD none 2 2 (d_0 (F_0 n))
theorem ok_0{f:Addr}{fd:FuncData}(Fn:Fun K "_law_alike" "_law_alike" st_0 f fd)(hm:mg "_law_alike"=some (.ref f))(hb:Binds K fd ["_law_found","_law_due"] [])(z_all:mg "all"=none)(z_bool:mg "bool"=none)(z_isinstance:mg "isinstance"=none)(z_len:mg "len"=none)(z_list:mg "list"=none)(z_tuple:mg "tuple"=none)(z_zip:mg "zip"=none)(n:Nat):FD P wd K mg base (0+n) "_law_alike" none 2 (F_0 n):=by
 induction n with
 | zero=>exact zHD Fn hm hb rfl
 | succ n ih =>
  have Drec:=ih
  exact zAS (k:=0+n) Fn sc_0 hm hb fun cdv A outer s H E M B=>zAA (zAd (tx_v M (zAQ M (zBf M) z_isinstance boot_isinstance (jQ (jZ 1) (jQ (zAK (jQ (zBt M z_list boot_list) (jQ (zBt M z_tuple boot_tuple) jY))) jY)))) (zAA (zAd (tx_w (zFL (tx_c (zBa M) (zAQ M (zBf M) z_isinstance boot_isinstance (jQ (jZ 0) (jQ (zBt M z_tuple boot_tuple) jY))) (zAQ M (zBf M) z_isinstance boot_isinstance (jQ (jZ 1) (jQ (zBt M z_tuple boot_tuple) jY)))) (zD5 (tx_c (zBa M) (zAQ M (zBf M) z_isinstance boot_isinstance (jQ (jZ 0) (jQ (zBt M z_list boot_list) jY))) (zAQ M (zBf M) z_isinstance boot_isinstance (jQ (jZ 1) (jQ (zBt M z_list boot_list) jY))))))) (zAC (zAH zBn)) zAW)   (zAC (zAH (zFS (ex_c (zAl M) (zAQ M (zAh M) z_len PySem.boot_len (jQ (jZ 0) jY)) (zAQ M (zAh M) z_len PySem.boot_len (jQ (jZ 1) jY))) (zDX (zAQ M (zOC M) z_all boot_all (jQ (zAV none (N':=["_law_one","_law_other"]) (ix:=[none,none]) M (fun _=>⟨rfl,by kernel_rfl⟩) (zNW M z_zip (jQ (jZ 0) (jQ (jZ 1) jY))) (zCi 2 M.comp (zAg (zAJ 0 (hN:=fun _=>(by show (["_law_one","_law_other"]:List Str).Nodup; decide +kernel))) (zAg (zAJ 1 (hN:=fun _=>(by show (["_law_one","_law_other"]:List Str).Nodup; decide +kernel))) zCD))) zAb (zAE M.comp B.comp Drec (jQ (jZ 0) (jQ (jZ 1) jY))) (hix:=hix0)) jY))))))) zAW)   (zAC (zAH (zFS (ex_c (zAl M) (zAQ M (zBf M) z_isinstance boot_isinstance (jQ (jZ 0) (jQ (zBt M z_bool boot_bool) jY))) (zAQ M (zBf M) z_isinstance boot_isinstance (jQ (jZ 1) (jQ (zBt M z_bool boot_bool) jY)))) (zDX (ex_c (zAl M) (jZ 0) (jZ 1))))))
def zB9:DT:=dTest (dOp gtS (dCB lenS (jW (jV 3) qQ)) (dC (.int 1)))
def zC2:DS:=dSeq (dSet 4 (dCall (some 0) F_3 [] (jW (jV 0) (jW (dOp subS (dCB lenS (jW (jV 3) qQ)) (dC (.int 1))) qQ))))
 (dSet 3 (dOp addS (dOp addS (dSl (jV 3) dNoPart (dPart (jV 4))) (dLst (jW (dTup (jW (jV 1) (jW (dOp ixS (jV 3) (jV 4)) (jW (dOp ixS (jV 3) (dOp addS (jV 4) (dC (.int 1)))) qQ)))) qQ))) (dSl (jV 3) (dPart (dOp addS (jV 4) (dC (.int 2)))) dNoPart)))
abbrev zHq:Stmt:=top 33
theorem zFK:FnScope ["_law_box_here","_law_sort","_law_sayings","_law_left","_law_at"] ["_law_box_here","_law_sort","_law_sayings"] (defScope zHq):=by walk_at "s"
def d_14:DS:=dSeq (dSet 3 (dCB listS (jW (jV 2) qQ)))
 (dSeq (dWhile (zB9) (zC2) fuelX)
 (dRet (dOp ixS (jV 3) (dC (.int 0)))))
def F_14:DF:=fnD (some 0) 3 5 d_14
theorem zOt{f:Addr}{fd:FuncData}(Fn:Fun K "_law_tree" "_law_tree" zHq f fd)(hm:mg "_law_tree"=some (.ref f))(hb:Binds K fd ["_law_box_here","_law_sort","_law_sayings"] [])(z_len:mg "len"=none)(z_list:mg "list"=none)(D_3:FD P wd K mg base (1) "_law_take" (some 0) 2 F_3):FD P wd K mg base (2) "_law_tree" (some 0) 3 F_14 :=
 zAS (k:=1) Fn zFK hm hb fun cdv A outer s H E M B=>zAA (zAF 3 (zBY M (zHE M) z_list boot_list (jQ (jZ 2) jY)) (hN:=fun _=>zFK.nd))
 (zAA (zDU fuelX (fun _=>PassesOwn.never) (tx_c zDm (zAQ M (zAh M) z_len PySem.boot_len (jQ (jZ 3) jY)) jJ) (zAA (zAF 4 (zAE M B D_3 (jQ (jZ 0) (jQ (zJr (zAQ M (zAh M) z_len PySem.boot_len (jQ (jZ 3) jY)) jJ) jY))) (hN:=fun _=>zFK.nd))
 (zAC (zAF 3 (zAL M (zAL M (zBl M (jZ 3) zBB (zBA (jZ 4))) (zAX (jQ (zAK (jQ (jZ 1) (jQ (zAG M (jZ 3) (jZ 4)) (jQ (zAG M (jZ 3) (zAL M (jZ 4) jJ)) jY)))) jY))) (zBl M (jZ 3) (zBA (zAL M (jZ 4) jJ)) zBB)) (hN:=fun _=>zFK.nd)))))
 (zAC (zAH (zAG M (jZ 3) jJ))))
abbrev zIK:Stmt:=top 15
theorem zOh:FnScope ["sums"] ["sums"] (defScope zIK):=by walk_at "s"
def d_15:DS:=dRet (dCB max2S (jW (dOp fdivS (dOp addS (dCB lenS (jW (dOp ixS (jV 0) (dC (.int 2))) qQ)) (dC (.int 1))) (dC (.int 2))) (jW (dCB lenS (jW (dOp ixS (jV 0) (dC (.int 1))) qQ)) qQ)))
def F_15:DF:=fnD none 1 1 d_15
theorem zOk{f:Addr}{fd:FuncData}(Fn:Fun K "at_least" "at_least" zIK f fd)(hm:mg "at_least"=some (.ref f))(hb:Binds K fd ["sums"] [])(z_len:mg "len"=none)(z_max:mg "max"=none):FD P wd K mg base (1) "at_least" none 1 F_15 :=
 zAS (k:=0) Fn zOh hm hb fun cdv A outer s H E M B=>zAC (zAH (zAQ M (zLo M) z_max boot_max (jQ (zB6 (zAL M (zAQ M (zAh M) z_len PySem.boot_len (jQ (zAG M (jZ 0) jJ) jY)) jJ) jJ) (jQ (zAQ M (zAh M) z_len PySem.boot_len (jQ (zAG M (jZ 0) jJ) jY)) jY))))
def zHC:DE:=jV 0
def zEA:DE:=dOp ixS (jV 0) (dC (.int 0))
def zEK:DE:=jV 0
def zC1:DT:=dTest (dOp gtS (dCall (some 0) F_3 [] (jW (jV 1) (jW (dC (.int 3)) qQ))) (dC (.int 0)))
abbrev zHx:Stmt:=top 35
theorem zDt:FnScope ["_law_box_here","_law_questions","_law_some","_law_literals_here","_law_sums"] ["_law_box_here","_law_questions"] (defScope zHx):=by walk_at "s"
def d_16:DS:=dSeq (dSet 2 (dComp (some (1,0)) [none,some 0] (dRng1 (jW (jV 1) qQ)) (gdName 0) (zC1) (zEK)))
 (dSeq (dIf (dTest (dOp eqS (dCB lenS (jW (jV 2) qQ)) (dC (.int 0)))) (dSet 2 (dLst (jW (dCall (some 0) F_3 [] (jW (jV 0) (jW (jV 1) qQ))) qQ))) dNext)
 (dSeq (dSet 3 (dCall (some 0) F_4 [] (jW (jV 0) (jW (jV 2) qQ))))
 (dSeq (dSet 4 (dCall none F_13 [] (jW (dCall (some 0) F_14 [] (jW (jV 0) (jW (dC (.str "either")) (jW (dComp none [none] (dSeqI (jV 3)) (gdName 0) dYes (zEA)) qQ)))) (jW (jV 1) qQ))))
 (dSeq (dIf (dOr (dTest (dOp neS (dComp none [none,none] (dSeqI (dOp ixS (jV 4) (dC (.int 2)))) (gdTup 2 (gdCons (gdName 0) (gdCons (gdName 1) gdNil))) dYes (zHC)) (dLst (jW (dTup qQ) (jW (dCB tupleS (jW (jV 2) qQ)) qQ))))) (dTest (dOp neS (dSl (jV 4) dNoPart (dPart (dC (.int 2)))) (dTup (jW (dC (.int 0)) (jW (dTup qQ) qQ)))))) (dRet (dC (.bl false))) dNext)
 (dRet (dCall none (F_0 zBS) [] (jW (dCall none F_15 [] (jW (jV 4) qQ)) (jW (dC (.int 1)) qQ))))))))
def F_16:DF:=fnD (some 0) 2 5 d_16
theorem zO7{f:Addr}{fd:FuncData}(Fn:Fun K "_law_either_right" "_law_either_right" zHx f fd)(hm:mg "_law_either_right"=some (.ref f))(hb:Binds K fd ["_law_box_here","_law_questions"] [])(z_len:mg "len"=none)(z_range:mg "range"=none)(z_tuple:mg "tuple"=none)(D_3:FD P wd K mg base (1) "_law_take" (some 0) 2 F_3)(D_4:FD P wd K mg base (2) "_law_literals" (some 0) 2 F_4)(D_13:FD P wd K mg base (13) "sums_of_saying" none 2 F_13)(D_0:FD P wd K mg base (12) "_law_alike" none 2 (F_0 zBS))(D_14:FD P wd K mg base (2) "_law_tree" (some 0) 3 F_14)(D_15:FD P wd K mg base (1) "at_least" none 1 F_15):FD P wd K mg base (14) "_law_either_right" (some 0) 2 F_16 :=
 zAS (k:=13) Fn zDt hm hb fun cdv A outer s H E M B=>zAA (zEM 2 (some (1,0)) (N':=["_law_q","_law_box_here"]) (ix:=[none,some 0]) M (fun _=>⟨rfl,by kernel_rfl⟩) (zC6 M z_range (jQ (jZ 1) jY)) (zAJ 0 (hN:=fun _=>(by show (["_law_q","_law_box_here"]:List Str).Nodup; decide +kernel))) (zJZ (tx_c zDm (zAE M.comp B.comp D_3 (jQ (jZ 1) (jQ jJ jY))) jJ)) (jZ 0) (hix:=hix1 (by decide)) (hN:=fun _=>zDt.nd))
 (zAA (zAd (tx_c (zAl M) (zAQ M (zAh M) z_len PySem.boot_len (jQ (jZ 2) jY)) jJ) (zAC (zAF 2 (zAX (jQ (zAE M B D_3 (jQ (jZ 0) (jQ (jZ 1) jY))) jY)) (hN:=fun _=>zDt.nd))) zAW)
 (zAA (zAF 3 (zAE M B D_4 (jQ (jZ 0) (jQ (jZ 2) jY))) (hN:=fun _=>zDt.nd))
 (zAA (zAF 4 (zAE M B D_13 (jQ (zAE M B D_14 (jQ (jZ 0) (jQ zAm (jQ (zAV none (N':=["_law_one"]) (ix:=[none]) M (fun _=>⟨rfl,by kernel_rfl⟩) (zAO M (jZ 3)) (zAJ 0 (hN:=fun _=>(by show (["_law_one"]:List Str).Nodup; decide +kernel))) zAb (zAG M.comp (jZ 0) jJ) (hix:=hix0)) jY)))) (jQ (jZ 1) jY))) (hN:=fun _=>zDt.nd))
 (zAA (zAd (tx_w (zFL (tx_c (zBa M) (zAV none (N':=["_law_one","_law_number"]) (ix:=[none,none]) M (fun _=>⟨rfl,by kernel_rfl⟩) (zAO M (zAG M (jZ 4) jJ)) (zCi 2 M.comp (zAg (zAJ 0 (hN:=fun _=>(by show (["_law_one","_law_number"]:List Str).Nodup; decide +kernel))) (zAg (zAJ 1 (hN:=fun _=>(by show (["_law_one","_law_number"]:List Str).Nodup; decide +kernel))) zCD))) zAb (jZ 0) (hix:=hix0)) (zAX (jQ (zAK jY) (jQ (zBY M (zBh M) z_tuple boot_tuple (jQ (jZ 2) jY)) jY)))) (zD5 (tx_c (zBa M) (zBl M (jZ 4) zBB (zBA jJ)) (zAK (jQ jJ (jQ (zAK jY) jY))))))) (zAC (zAH zBn)) zAW)
 (zAC (zAH (zAE M B D_0 (jQ (zAE M B D_15 (jQ (jZ 4) jY)) (jQ jJ jY)))))))))
abbrev zH4:Stmt:=top 1
theorem zOg:FnScope ["cups"] ["cups"] (defScope zH4):=by walk_at "s"
def d_17:DS:=dRet (dTupRng (jW (jV 0) qQ))
def F_17:DF:=fnD none 1 1 d_17
theorem zOu{f:Addr}{fd:FuncData}(Fn:Fun K "still" "still" zH4 f fd)(hm:mg "still"=some (.ref f))(hb:Binds K fd ["cups"] [])(z_range:mg "range"=none)(z_tuple:mg "tuple"=none):FD P wd K mg base (1) "still" none 1 F_17 :=
 zAS (k:=0) Fn zOg hm hb fun cdv A outer s H E M B=>zAC (zAH (zE1 M z_tuple z_range (jQ (jZ 0) jY)))
def zCt:DE:=dTup (jW (jV 0) (jW (dK zAx) (jW (dCall none F_17 [] (jW (dC (.int 3)) qQ)) qQ)))
abbrev zIL:Stmt:=top 21
theorem zO8:FnScope ["asked"] ["asked"] (defScope zIL):=by walk_at "s"
def d_18:DS:=dRet (dCB tupleS (jW (dComp none [none] (dSeqI (jV 0)) (gdName 0) dYes (zCt)) qQ))
def F_18:DF:=fnD none 1 1 d_18
theorem zOO{f:Addr}{fd:FuncData}(Fn:Fun K "over_by" "over_by" zIL f fd)(hm:mg "over_by"=some (.ref f))(hb:Binds K fd ["asked"] [])(z_tuple:mg "tuple"=none)(k_OVER:KV K mg "OVER" zAx)(D_17:FD P wd K mg base (1) "still" none 1 F_17):FD P wd K mg base (2) "over_by" none 1 F_18 :=
 zAS (k:=1) Fn zO8 hm hb fun cdv A outer s H E M B=>zAC (zAH (zBY M (zBh M) z_tuple boot_tuple (jQ (zAV none (N':=["q"]) (ix:=[none]) M (fun _=>⟨rfl,by kernel_rfl⟩) (zAO M (jZ 0)) (zAJ 0 (hN:=fun _=>(by show (["q"]:List Str).Nodup; decide +kernel))) zAb (zAK (jQ (jZ 0) (jQ (ex_k zAx M.comp k_OVER) (jQ (zAE M.comp B.comp D_17 (jQ jJ jY)) jY)))) (hix:=hix0)) jY)))
abbrev zH6:Stmt:=top 22
theorem zLO:FnScope ["mark","turn"] ["mark"] (defScope zH6):=by walk_at "s"
def d_19:DS:=dSeq (dSet 1 (dKd zB1 (dOp ixS (jV 0) (dC (.int 1)))))
 (dRet (dOp addS (dOp addS (dCall none F_18 [] (jW (dOp ixS (jV 0) (dC (.int 0))) qQ)) (dTup (jW (dTup (jW (dC (.int 0)) (jW (jV 1) (jW (jV 1) qQ)))) qQ))) (dCall none F_18 [] (jW (dOp ixS (jV 0) (dC (.int 0))) qQ))))
def F_19:DF:=fnD none 1 2 d_19
theorem zOq{f:Addr}{fd:FuncData}(Fn:Fun K "steps_of_mark" "steps_of_mark" zH6 f fd)(hm:mg "steps_of_mark"=some (.ref f))(hb:Binds K fd ["mark"] [])(k_TURNS:KDV K mg "TURNS" zB1)(D_18:FD P wd K mg base (2) "over_by" none 1 F_18):FD P wd K mg base (3) "steps_of_mark" none 1 F_19 :=
 zAS (k:=2) Fn zLO hm hb fun cdv A outer s H E M B=>zAA (zAF 1 (zPB zB1 M k_TURNS (zAG M (jZ 0) jJ)) (hN:=fun _=>zLO.nd))
 (zAC (zAH (zAL M (zAL M (zAE M B D_18 (jQ (zAG M (jZ 0) jJ) jY)) (zAK (jQ (zAK (jQ jJ (jQ (jZ 1) (jQ (jZ 1) jY)))) jY))) (zAE M B D_18 (jQ (zAG M (jZ 0) jJ) jY)))))
def zBz:DS:=dSet 2 (dOp addS (jV 2) (dCall none F_19 [] (jW (jV 3) qQ)))
abbrev zHZ:Stmt:=top 23
theorem zD0:FnScope ["sums","questions","steps","mark"] ["sums","questions"] (defScope zHZ):=by walk_at "s"
def d_20:DS:=dSeq (dSet 2 (dCall none F_18 [] (jW (dOp ixS (jV 0) (dC (.int 1))) qQ)))
 (dSeq (dIf (dTest (dOp eqS (dOp ixS (jV 0) (dC (.int 0))) (dC (.int 1)))) (dSet 2 (dOp addS (jV 2) (dTup (jW (dTup (jW (dC (.int 0)) (jW (dK zAx) (jW (dK zAx) qQ)))) qQ)))) dNext)
 (dSeq (dFor none (dSeqI (dOp ixS (jV 0) (dC (.int 2)))) (gdName 3) (zBz))
 (dRet (dTup (jW (dC (.int 3)) (jW (jV 1) (jW (jV 2) qQ)))))))
def F_20:DF:=fnD none 2 4 d_20
theorem zOi{f:Addr}{fd:FuncData}(Fn:Fun K "dance_of" "dance_of" zHZ f fd)(hm:mg "dance_of"=some (.ref f))(hb:Binds K fd ["sums","questions"] [])(k_OVER:KV K mg "OVER" zAx)(D_18:FD P wd K mg base (2) "over_by" none 1 F_18)(D_19:FD P wd K mg base (3) "steps_of_mark" none 1 F_19):FD P wd K mg base (4) "dance_of" none 2 F_20 :=
 zAS (k:=3) Fn zD0 hm hb fun cdv A outer s H E M B=>zAA (zAF 2 (zAE M B D_18 (jQ (zAG M (jZ 0) jJ) jY)) (hN:=fun _=>zD0.nd))
 (zAA (zAd (tx_c (zAl M) (zAG M (jZ 0) jJ) jJ) (zAC (zAF 2 (zAL M (jZ 2) (zAK (jQ (zAK (jQ jJ (jQ (ex_k zAx M k_OVER) (jQ (ex_k zAx M k_OVER) jY)))) jY))) (hN:=fun _=>zD0.nd))) zAW)
 (zAA (zBI M (fun _=>PassesOwn.never) (zAO M (zAG M (jZ 0) jJ)) (zAJ 3 (hN:=fun _=>zD0.nd)) (zAC (zAF 2 (zAL M (jZ 2) (zAE M B D_19 (jQ (jZ 3) jY))) (hN:=fun _=>zD0.nd))))
 (zAC (zAH (zAK (jQ jJ (jQ (jZ 1) (jQ (jZ 2) jY))))))))
def zCu:DS:=dDrop (dMut 3 hExtend (jW (dLst (jW (dOp addS (jV 4) (dTup (jW (dC (.int 0)) qQ))) (jW (dOp addS (jV 4) (dTup (jW (dC (.int 1)) qQ))) qQ))) qQ))
def zB8:DS:=dSeq (dSet 3 (dLst qQ))
 (dSeq (dFor none (dSeqI (jV 1)) (gdName 4) (zCu))
 (dMv 1 3))
abbrev zHc:Stmt:=top 29
theorem zCy:FnScope ["_law_questions","_law_found","_law_k","_law_longer","_law_answers"] ["_law_questions"] (defScope zHc):=by walk_at "s"
def d_21:DS:=dSeq (dSet 1 (dLst (jW (dTup qQ) qQ)))
 (dSeq (dFor none (dRng1 (jW (jV 0) qQ)) (gdName 2) (zB8))
 (dRet (jV 1)))
def F_21:DF:=fnD none 1 5 d_21
theorem zO6{f:Addr}{fd:FuncData}(Fn:Fun K "_law_all_answers" "_law_all_answers" zHc f fd)(hm:mg "_law_all_answers"=some (.ref f))(hb:Binds K fd ["_law_questions"] [])(z_range:mg "range"=none):FD P wd K mg base (1) "_law_all_answers" none 1 F_21 :=
 zAS (k:=0) Fn zCy hm hb fun cdv A outer s H E M B=>zAA (zAF 1 (zAX (jQ (zAK jY) jY)) (hN:=fun _=>zCy.nd))
 (zAA (zBI M (fun _=>PassesOwn.never) (zC6 M z_range (jQ (jZ 0) jY)) (zAJ 2 (hN:=fun _=>zCy.nd)) (zAA (zAF 3 (zAX jY) (hN:=fun _=>zCy.nd))
 (zAA (zBI M (fun _=>PassesOwn.never) (zAO M (jZ 1)) (zAJ 4 (hN:=fun _=>zCy.nd)) (zAC (zCE (zB2 M PySem.F.slot_list_extend PySem.F.type_list_extend (fun _=>zEX) zD4 (pv' 3) (jQ (zAX (jQ (zAL M (jZ 4) (zAK (jQ jJ jY))) (jQ (zAL M (jZ 4) (zAK (jQ jJ jY))) jY))) jY)))))
 (zAC (zOI 1 3 (jZ 3) (hN:=fun _=>zCy.nd))))))
 (zAC (zAH (jZ 1))))
def zES:DE:=dOp ixS (jV 1) (jV 0)
abbrev zIB:Stmt:=top 28
theorem zOy:FnScope ["_law_one","_law_other"] ["_law_one","_law_other"] (defScope zIB):=by walk_at "s"
def d_22:DS:=dRet (dCB tupleS (jW (dComp none [none,some 1] (dSeqI (jV 0)) (gdName 0) dYes (zES)) qQ))
def F_22:DF:=fnD none 2 2 d_22
theorem zOc{f:Addr}{fd:FuncData}(Fn:Fun K "_law_then" "_law_then" zIB f fd)(hm:mg "_law_then"=some (.ref f))(hb:Binds K fd ["_law_one","_law_other"] [])(z_tuple:mg "tuple"=none):FD P wd K mg base (1) "_law_then" none 2 F_22 :=
 zAS (k:=0) Fn zOy hm hb fun cdv A outer s H E M B=>zAC (zAH (zBY M (zBh M) z_tuple boot_tuple (jQ (zAV none (N':=["_law_place","_law_other"]) (ix:=[none,some 1]) M (fun _=>⟨rfl,by kernel_rfl⟩) (zAO M (jZ 0)) (zAJ 0 (hN:=fun _=>(by show (["_law_place","_law_other"]:List Str).Nodup; decide +kernel))) zAb (zAG M.comp (jZ 1) (jZ 0)) (hix:=hix0)) jY)))
def zCB:DS:=dSet 2 (dCall none F_22 [] (jW (jV 2) (jW (dOp ixS (dLst (jW (jV 5) (jW (jV 4) qQ))) (dOp ixS (jV 1) (jV 3))) qQ)))
abbrev zID:Stmt:=top 30
theorem zC5:FnScope ["_law_dance","_law_answers","_law_found","_law_q","_law_yes","_law_no"] ["_law_dance","_law_answers"] (defScope zID):=by walk_at "s"
def d_23:DS:=dSeq (dSet 2 (dTupRng (jW (dOp ixS (jV 0) (dC (.int 0))) qQ)))
 (dSeq (dFor none (dSeqI (dOp ixS (jV 0) (dC (.int 2)))) (gdTup 3 (gdCons (gdName 3) (gdCons (gdName 4) (gdCons (gdName 5) gdNil)))) (zCB))
 (dRet (jV 2)))
def F_23:DF:=fnD none 2 6 d_23
theorem zOv{f:Addr}{fd:FuncData}(Fn:Fun K "_law_done" "_law_done" zID f fd)(hm:mg "_law_done"=some (.ref f))(hb:Binds K fd ["_law_dance","_law_answers"] [])(z_range:mg "range"=none)(z_tuple:mg "tuple"=none)(D_22:FD P wd K mg base (1) "_law_then" none 2 F_22):FD P wd K mg base (2) "_law_done" none 2 F_23 :=
 zAS (k:=1) Fn zC5 hm hb fun cdv A outer s H E M B=>zAA (zAF 2 (zE1 M z_tuple z_range (jQ (zAG M (jZ 0) jJ) jY)) (hN:=fun _=>zC5.nd))
 (zAA (zBI M (fun _=>PassesOwn.never) (zAO M (zAG M (jZ 0) jJ)) (zCi 3 M (zAg (zAJ 3 (hN:=fun _=>zC5.nd)) (zAg (zAJ 4 (hN:=fun _=>zC5.nd)) (zAg (zAJ 5 (hN:=fun _=>zC5.nd)) zCD)))) (zAC (zAF 2 (zAE M B D_22 (jQ (jZ 2) (jQ (zAG M (zAX (jQ (jZ 5) (jQ (jZ 4) jY))) (zAG M (jZ 1) (jZ 3))) jY))) (hN:=fun _=>zC5.nd))))
 (zAC (zAH (jZ 2))))
def zEU:DE:=dOp addS (jV 0) (dTup (jW (jV 1) qQ))
def zCA:DS:=dSet 1 (dOp addS (jV 1) (dComp none [none,some 2] (dSeqI (jV 1)) (gdName 0) dYes (zEU)))
abbrev zHe:Stmt:=top 31
theorem zFH:FnScope ["_law_questions","_law_found","_law_q"] ["_law_questions"] (defScope zHe):=by walk_at "s"
def d_24:DS:=dSeq (dSet 1 (dLst (jW (dTup qQ) qQ)))
 (dSeq (dFor none (dRng1 (jW (jV 0) qQ)) (gdName 2) (zCA))
 (dRet (jV 1)))
def F_24:DF:=fnD none 1 3 d_24
theorem zOL{f:Addr}{fd:FuncData}(Fn:Fun K "_law_sets" "_law_sets" zHe f fd)(hm:mg "_law_sets"=some (.ref f))(hb:Binds K fd ["_law_questions"] [])(z_range:mg "range"=none):FD P wd K mg base (1) "_law_sets" none 1 F_24 :=
 zAS (k:=0) Fn zFH hm hb fun cdv A outer s H E M B=>zAA (zAF 1 (zAX (jQ (zAK jY) jY)) (hN:=fun _=>zFH.nd))
 (zAA (zBI M (fun _=>PassesOwn.never) (zC6 M z_range (jQ (jZ 0) jY)) (zAJ 2 (hN:=fun _=>zFH.nd)) (zAC (zAF 1 (zAL M (jZ 1) (zAV none (N':=["_law_some","_law_q"]) (ix:=[none,some 2]) M (fun _=>⟨rfl,by kernel_rfl⟩) (zAO M (jZ 1)) (zAJ 0 (hN:=fun _=>(by show (["_law_some","_law_q"]:List Str).Nodup; decide +kernel))) zAb (zAL M.comp (jZ 0) (zAK (jQ (jZ 1) jY))) (hix:=hix0))) (hN:=fun _=>zFH.nd))))
 (zAC (zAH (jZ 1))))
def zB4:DS:=dIf (dTest (dOp neS (dCall none F_23 [] (jW (jV 5) (jW (jV 7) qQ))) (dOp ixS (dLst (jW (dTup (jW (dC (.int 0)) (jW (dC (.int 1)) (jW (dC (.int 2)) qQ)))) (jW (dTup (jW (dC (.int 1)) (jW (dC (.int 2)) (jW (dC (.int 0)) qQ)))) qQ))) (dCB intS (jW (dOp eqS (jV 7) (jV 6)) qQ))))) (dRet (dC (.bl false))) dNext
def zCv:DE:=dSl (jV 0) (dPart (dC (.int 1))) dNoPart
def zEO:DE:=jV 1
def zGq:DE:=jV 0
def zEG:DE:=dOp ixS (jV 0) (dC (.int 0))
abbrev zHu:Stmt:=top 34
theorem zCX:FnScope ["_law_box_here","_law_questions","_law_literals_here","_law_sums","_law_least","_law_dance","_law_due","_law_answers"] ["_law_box_here","_law_questions"] (defScope zHu):=by walk_at "s"
def d_25:DS:=dSeq (dSet 2 (dCall (some 0) F_4 [] (jW (jV 0) (jW (dListRng (jW (jV 1) qQ)) qQ))))
 (dSeq (dSet 3 (dCall none F_13 [] (jW (dCall (some 0) F_14 [] (jW (jV 0) (jW (dC (.str "and")) (jW (dComp none [none] (dSeqI (jV 2)) (gdName 0) dYes (zEG)) qQ)))) (jW (jV 1) qQ))))
 (dSeq (dIf (dOr (dTest (dOp neS (dComp none [none,none] (dSeqI (dOp ixS (jV 3) (dC (.int 2)))) (gdTup 2 (gdCons (gdName 0) (gdCons (gdName 1) gdNil))) dYes (zGq)) (dCB sortTS (jW (dCall none F_24 [] (jW (jV 1) qQ)) qQ)))) (dTest (dOp neS (dSl (jV 3) dNoPart (dPart (dC (.int 2)))) (dTup (jW (dC (.int 0)) (jW (dTup qQ) qQ)))))) (dRet (dC (.bl false))) dNext)
 (dSeq (dSet 4 (dOp fdivS (dOp addS (dOp shlS (dC (.int 1)) (jV 1)) (dC (.int 1))) (dC (.int 2))))
 (dSeq (dSet 5 (dCall none F_20 [] (jW (jV 3) (jW (jV 1) qQ))))
 (dSeq (dIf (dOr (dNot (dTru (dCall none (F_0 zBS) [] (jW (dCall none F_15 [] (jW (jV 3) qQ)) (jW (jV 4) qQ))))) (dTest (dOp ltS (dCB lenS (jW (dOp ixS (jV 5) (dC (.int 2))) qQ)) (jV 4)))) (dRet (dC (.bl false))) dNext)
 (dSeq (dSet 6 (dCB tupleS (jW (dComp none [none,none] (dSeqI (dCB sortTS (jW (dComp none [none] (dSeqI (jV 2)) (gdName 0) dYes (zCv)) qQ))) (gdTup 2 (gdCons (gdName 0) (gdCons (gdName 1) gdNil))) dYes (zEO)) qQ)))
 (dSeq (dFor (some 0) (dSeqI (dCall none F_21 [] (jW (jV 1) qQ))) (gdName 7) (zB4))
 (dRet (dC (.bl true))))))))))
def F_25:DF:=fnD (some 0) 2 8 d_25
theorem zOT{f:Addr}{fd:FuncData}(Fn:Fun K "_law_and_right" "_law_and_right" zHu f fd)(hm:mg "_law_and_right"=some (.ref f))(hb:Binds K fd ["_law_box_here","_law_questions"] [])(z_int:mg "int"=none)(z_len:mg "len"=none)(z_list:mg "list"=none)(z_range:mg "range"=none)(z_sorted:mg "sorted"=none)(z_tuple:mg "tuple"=none)(D_4:FD P wd K mg base (2) "_law_literals" (some 0) 2 F_4)(D_13:FD P wd K mg base (13) "sums_of_saying" none 2 F_13)(D_0:FD P wd K mg base (12) "_law_alike" none 2 (F_0 zBS))(D_14:FD P wd K mg base (2) "_law_tree" (some 0) 3 F_14)(D_15:FD P wd K mg base (1) "at_least" none 1 F_15)(D_20:FD P wd K mg base (4) "dance_of" none 2 F_20)(D_21:FD P wd K mg base (1) "_law_all_answers" none 1 F_21)(D_23:FD P wd K mg base (2) "_law_done" none 2 F_23)(D_24:FD P wd K mg base (1) "_law_sets" none 1 F_24):FD P wd K mg base (14) "_law_and_right" (some 0) 2 F_25 :=
 zAS (k:=13) Fn zCX hm hb fun cdv A outer s H E M B=>zAA (zAF 2 (zAE M B D_4 (jQ (jZ 0) (jQ (zHi M z_list z_range (jQ (jZ 1) jY)) jY))) (hN:=fun _=>zCX.nd))
 (zAA (zAF 3 (zAE M B D_13 (jQ (zAE M B D_14 (jQ (jZ 0) (jQ zAm (jQ (zAV none (N':=["_law_one"]) (ix:=[none]) M (fun _=>⟨rfl,by kernel_rfl⟩) (zAO M (jZ 2)) (zAJ 0 (hN:=fun _=>(by show (["_law_one"]:List Str).Nodup; decide +kernel))) zAb (zAG M.comp (jZ 0) jJ) (hix:=hix0)) jY)))) (jQ (jZ 1) jY))) (hN:=fun _=>zCX.nd))
 (zAA (zAd (tx_w (zFL (tx_c (zBa M) (zAV none (N':=["_law_some","_law_number"]) (ix:=[none,none]) M (fun _=>⟨rfl,by kernel_rfl⟩) (zAO M (zAG M (jZ 3) jJ)) (zCi 2 M.comp (zAg (zAJ 0 (hN:=fun _=>(by show (["_law_some","_law_number"]:List Str).Nodup; decide +kernel))) (zAg (zAJ 1 (hN:=fun _=>(by show (["_law_some","_law_number"]:List Str).Nodup; decide +kernel))) zCD))) zAb (jZ 0) (hix:=hix0)) (zAQ M (zGW M) z_sorted boot_sorted (jQ (zAE M B D_24 (jQ (jZ 1) jY)) jY))) (zD5 (tx_c (zBa M) (zBl M (jZ 3) zBB (zBA jJ)) (zAK (jQ jJ (jQ (zAK jY) jY))))))) (zAC (zAH zBn)) zAW)
 (zAA (zAF 4 (zB6 (zAL M (zMx jJ (jZ 1)) jJ) jJ) (hN:=fun _=>zCX.nd))
 (zAA (zAF 5 (zAE M B D_20 (jQ (jZ 3) (jQ (jZ 1) jY))) (hN:=fun _=>zCX.nd))
 (zAA (zAd (tx_w (zFL (zI5 (tx_v M (zAE M B D_0 (jQ (zAE M B D_15 (jQ (jZ 3) jY)) (jQ (jZ 4) jY))))) (zD5 (tx_c zLV (zAQ M (zAh M) z_len PySem.boot_len (jQ (zAG M (jZ 5) jJ) jY)) (jZ 4))))) (zAC (zAH zBn)) zAW)
 (zAA (zAF 6 (zBY M (zBh M) z_tuple boot_tuple (jQ (zAV none (N':=["_law_q","_law_yes"]) (ix:=[none,none]) M (fun _=>⟨rfl,by kernel_rfl⟩) (zAO M (zAQ M (zGW M) z_sorted boot_sorted (jQ (zAV none (N':=["_law_one"]) (ix:=[none]) M (fun _=>⟨rfl,by kernel_rfl⟩) (zAO M (jZ 2)) (zAJ 0 (hN:=fun _=>(by show (["_law_one"]:List Str).Nodup; decide +kernel))) zAb (zBl M.comp (jZ 0) (zBA jJ) zBB) (hix:=hix0)) jY))) (zCi 2 M.comp (zAg (zAJ 0 (hN:=fun _=>(by show (["_law_q","_law_yes"]:List Str).Nodup; decide +kernel))) (zAg (zAJ 1 (hN:=fun _=>(by show (["_law_q","_law_yes"]:List Str).Nodup; decide +kernel))) zCD))) zAb (jZ 1) (hix:=hix0)) jY)) (hN:=fun _=>zCX.nd))
 (zAA (zBI M (fun _=>PassesOwn.never) (zAO M (zAE M B D_21 (jQ (jZ 1) jY))) (zAJ 7 (hN:=fun _=>zCX.nd)) (zAC (zAd (tx_c (zBa M) (zAE M B D_23 (jQ (jZ 5) (jQ (jZ 7) jY))) (zAG M (zAX (jQ (zAK (jQ jJ (jQ jJ (jQ jJ jY)))) (jQ (zAK (jQ jJ (jQ jJ (jQ jJ jY)))) jY))) (zBY M (zJU) z_int (by decide +kernel) (jQ (ex_c (zAl M) (jZ 7) (jZ 6)) jY)))) (zAC (zAH zBn)) zAW)))
 (zAC (zAH zBn)))))))))
abbrev zBF:Stmt:=top 36
theorem zFs:FnScope ["_law_script","_law_box_here"] ["_law_script"] (defScope zBF):=by walk_at "s"
def zLS:DS:=dSeq (dSet 1 (dCall none F_2 [] (jW (jV 0) (jW (dC (.int 0)) qQ))))
 (dSeq (dIf (dNot (dTru (dCall (some 0) F_25 [] (jW (jV 1) (jW (dOp addS (dC (.int 1)) (dCall (some 0) F_3 [] (jW (jV 1) (jW (dC (.int 5)) qQ)))) qQ))))) (dRet (dC (.bl false))) dNext)
 (dSeq (dSet 1 (dCall none F_2 [] (jW (jV 0) (jW (dC (.int 1)) qQ))))
 (dRet (dCall (some 0) F_16 [] (jW (jV 1) (jW (dOp addS (dC (.int 1)) (dCall (some 0) F_3 [] (jW (jV 1) (jW (dC (.int 5)) qQ)))) qQ))))))
def zCS:DF:=fnD none 1 2 zLS
theorem zNR{f:Addr}{fd:FuncData}(Fn:Fun K "law" "law" zBF f fd)(D_2:FD P wd K mg base (1) "_law_box" none 2 F_2)(D_3:FD P wd K mg base (1) "_law_take" (some 0) 2 F_3)(D_16:FD P wd K mg base (14) "_law_either_right" (some 0) 2 F_16)(D_25:FD P wd K mg base (14) "_law_and_right" (some 0) 2 F_25):FnOk P wd K mg base CX0 15 f fd ["_law_script"] (spD K none 1 zCS) :=
 zOn (k:=14) Fn zFs fun cdv A outer s H E M B=>zAA (zAF 1 (zAE M B D_2 (jQ (jZ 0) (jQ jJ jY))) (hN:=fun _=>zFs.nd))
 (zAA (zAd (zI5 (tx_v M (zAE M B D_25 (jQ (jZ 1) (jQ (zAL M jJ (zAE M B D_3 (jQ (jZ 1) (jQ jJ jY)))) jY))))) (zAC (zAH zBn)) zAW)
 (zAA (zAF 1 (zAE M B D_2 (jQ (jZ 0) (jQ jJ jY))) (hN:=fun _=>zFs.nd))
 (zAC (zAH (zAE M B D_16 (jQ (jZ 1) (jQ (zAL M jJ (zAE M B D_3 (jQ (jZ 1) (jQ jJ jY)))) jY)))))))
abbrev tb_1:Tb:=[("inner",1,F_6)]
end
open PySem L2 D
theorem zLb(a b w:Int)(h0:0 < w)(h1:w < 1073741824):∃ r a' b',0<=r/\r < w/\F_3 [.l [iT a,iT b],.v (iT w)]=some (.v (iT r),[iT a',iT b']):=by
 have h2:CDiv a w:=⟨h0,h1⟩
 by_cases h:0 < a
 ·refine⟨a % w,a / w,b,Int.emod_nonneg _ (by omega),Int.emod_lt_of_pos _ h0,?_⟩
  simp[F_3,fnD,d_3,h,h0,h2,ixN]
 ·refine⟨(b * 69623 % 2147483647 * 2147483647+((b * 69623 % 2147483647 * 48271+30103) % 2147483629+1)) / 8191 % w,a,(b * 69623 % 2147483647 * 48271+30103) % 2147483629+1,Int.emod_nonneg _ (by omega),Int.emod_lt_of_pos _ h0,?_⟩
  simp[F_3,fnD,d_3,h,h0,h2,ixN,CMul,CDiv]
theorem zA8(a b:Int)(w:Nat)(h0:0 < w)(h1:w<=1000000000):∃ (r:Nat) (a' b':Int),r < w/\F_3 [.l [iT a,iT b],.v (iT (w:Int))]=some (.v (iT (r:Int)),[iT a',iT b']):=by
 obtain⟨r,a',b',r0,r1,e⟩:=zLb a b w (by omega) (by omega)
 obtain⟨n,rfl⟩:∃ n:Nat,r=n:=⟨r.toNat,by omega⟩
 exact⟨n,a',b',by omega,e⟩
theorem zIe(ns:List Int)(k:Int)(hk:0<=k)(hk1:k < 1000):∃ a b,F_2 [.k (intsT ns),.v (iT k)]=some (.l [iT a,iT b],[]):=by
 have hl:(intsT ns).length=ns.length:=by simp[intsT]
 have fin:∀ c:Int,∃ a,atI [T.a (V.int 0),T.a (V.int c)] (if (1000000000000000000:Int)<=c then 1 else 0)=some (iT a):=fun c=>by
  split
  ·exact⟨c,rfl⟩
  ·exact⟨0,rfl⟩
 have c1:CMul 7919 k:=.inl ⟨by decide,by decide⟩
 have c2:CMul 40692 k:=.inl ⟨by decide,by decide⟩
 have c3:∀ m:Int,CMul m 69623:=fun m=>.inr ⟨by decide,by decide⟩
 have c4:∀ m:Int,CMul m 48271:=fun m=>.inr ⟨by decide,by decide⟩
 have c5:CPow 10 18:=⟨by decide,by decide,by decide⟩
 by_cases h1:k < ns.length
 ·obtain⟨z,hz⟩:=zFg ns hk h1
  obtain⟨a,ha⟩:=fin z
  refine⟨a,(z % 2147483629 * 48271+40692 * k) % 2147483629+1,?_⟩
  simp[F_2,fnD,d_2,hl,h1,c1,c2,c3,c4,c5,hz,ha,gd,zER]
 ·by_cases h2:0 < ns.length
  ·obtain⟨z,hz⟩:=zFg ns (i:=k % ns.length) (Int.emod_nonneg _ (by omega)) (Int.emod_lt_of_pos _ (by omega))
   obtain⟨a,ha⟩:=fin (7919 * k+11+z % 2147483629 * 69623)
   refine⟨a,((7919 * k+11+z % 2147483629 * 69623) % 2147483629 * 48271+40692 * k) % 2147483629+1,?_⟩
   simp[F_2,fnD,d_2,hl,h1,h2,c1,c2,c3,c4,c5,hz,ha,gd,zER]
  ·obtain⟨a,ha⟩:=fin (7919 * k+11)
   refine⟨a,((7919 * k+11) % 2147483629 * 48271+40692 * k) % 2147483629+1,?_⟩
   simp[F_2,fnD,d_2,hl,h1,h2,c1,c2,c3,c4,c5,ha,gd,zER]
theorem zAw{tg:En->T->Option En}{b:DS}{t:T}{r:List T}{Γ Γ1 Γ2:En}(h1:tg Γ t=some Γ1)(h2:b Γ1=some (.nx Γ2)):forD tg b (t::r) Γ=forD tg b r Γ2:=by
 rw[zCl,h1,Option.bind_some,h2,Option.bind_some]
def Pl:Nat->T->Prop
 | 0,t=>∃ v,t=.a v/\(tyN [] (.v (.a v))).isSome=true
 | n+1,t=>(∃ v,t=.a v/\(tyN [] (.v (.a v))).isSome=true)\/∃ ts:List T,t=.t ts/\ts.length<=10000/\∀ x∈ts,Pl n x
theorem Pl.atom{n:Nat}{v:V}(h:(tyN [] (.v (.a v))).isSome=true):Pl n (.a v):=by
 cases n with
 | zero=>exact⟨v,rfl,h⟩
 | succ n=>exact .inl ⟨v,rfl,h⟩
theorem Pl.int{n:Nat}(i:Int):Pl n (iT i):=Pl.atom rfl
theorem zKK(xs:List T):zipT xs xs=xs.map fun x=>.t [x,x]:=by
 unfold zipT
 induction xs with
 | nil=>rfl
 | cons x r ih=>simp[ih]
theorem zD1(rec:DF)(v:V)(h:(tyN [] (.v (.a v))).isSome=true):fnD none 2 2 (d_0 rec) [.v (.a v),.v (.a v)]=some (.v (bT true),[]):=by
 have g2:(2:Nat)<=sizeLine:=by decide
 cases v with
 | int i=>simp[fnD,d_0,gd,g2,isiS,tyN,subLT,subTy]
 | bl b=>simp[fnD,d_0,gd,g2,isiS,tyN,subLT,subTy]
 | str x=>simp[fnD,d_0,gd,g2,isiS,tyN,subLT,subTy]
 | non =>
  have e:∀ Γ,eqS Γ (.v (.a .non)) (.v (.a .non))=some (.v (.a (.bl true))):=fun Γ=>rfl
  simp[fnD,d_0,gd,g2,isiS,tyN,subLT,subTy,e]
 | byt _=>cases h
 | flt _=>cases h
 | ref _=>cases h
 | ty _=>cases h
theorem zGj(rec:DF)(ts:List T)(hl:ts.length<=10000)(h:∀ x∈ts,rec [.v x,.v x]=some (.v (bT true),[])):fnD none 2 2 (d_0 rec) [.v (.t ts),.v (.t ts)]=some (.v (bT true),[]):=by
 have g2:(2:Nat)<=sizeLine:=by decide
 have g3:ts.length<=sizeLine:=zAB (by omega)
 obtain⟨o1,o2,e⟩:=zBv (fun x:T=>x) (fun x=>x) (fun _=>bT true) (de:=zDe rec) (R:=[]) ts (fun x hx=>by
  have:=h x hx
  simp only[bT]at this
  simp[zDe,this]) none none
 have e':compD (gdTup 2 (gdCons (gdName 0) (gdCons (gdName 1) gdNil))) dYes (zDe rec) (zipT ts ts) [none,none]=some (List.replicate ts.length (T.a (V.bl true)),[o1,o2]):=by
  rw[zKK,e,List.map_const']
 simp[fnD,d_0,gd,g2,g3,isiS,tyN,subLT,subTy,dZip,e']
theorem zGU:∀ (n:Nat) (t:T),Pl n t->F_0 (n+1) [.v t,.v t]=some (.v (bT true),[])
 | 0,_,⟨v,rfl,h⟩=>zD1 _ v h
 | n+1,_,.inl ⟨v,rfl,h⟩=>zD1 _ v h
 | n+1,_,.inr ⟨ts,rfl,hl,h⟩=>zGj _ ts hl fun x hx=>zGU n x (h x hx)
theorem alike12(t:T)(h:Pl (zBS - 1) t):F_0 zBS [.v t,.v t]=some (.v (.a (.bl true)),[]):=zGU (zBS - 1) t h
@[simp] theorem zPH:(("yes":Str)="ask")=False:=eq_false (by decide +kernel)
@[simp] theorem zPR:(("yes":Str)="not")=False:=eq_false (by decide +kernel)
@[simp] theorem zPS:(("yes":Str)="and")=False:=eq_false (by decide +kernel)
@[simp] theorem zPg:(("yes":Str)="or")=False:=eq_false (by decide +kernel)
@[simp] theorem zNa:(("yes":Str)="either")=False:=eq_false (by decide +kernel)
@[simp] theorem zOS:(("yes":Str)="most")=False:=eq_false (by decide +kernel)
@[simp] theorem zP2:(("no":Str)="yes")=False:=eq_false (by decide +kernel)
@[simp] theorem zQF:(("no":Str)="ask")=False:=eq_false (by decide +kernel)
@[simp] theorem zPj:(("no":Str)="not")=False:=eq_false (by decide +kernel)
@[simp] theorem zQP:(("no":Str)="and")=False:=eq_false (by decide +kernel)
@[simp] theorem zQn:(("no":Str)="or")=False:=eq_false (by decide +kernel)
@[simp] theorem zOH:(("no":Str)="either")=False:=eq_false (by decide +kernel)
@[simp] theorem zPG:(("no":Str)="most")=False:=eq_false (by decide +kernel)
@[simp] theorem zPT:(("not":Str)="ask")=False:=eq_false (by decide +kernel)
@[simp] theorem zPL:(("and":Str)="ask")=False:=eq_false (by decide +kernel)
@[simp] theorem zPV:(("and":Str)="not")=False:=eq_false (by decide +kernel)
@[simp] theorem zPa:(("or":Str)="ask")=False:=eq_false (by decide +kernel)
@[simp] theorem zQM:(("or":Str)="not")=False:=eq_false (by decide +kernel)
@[simp] theorem zPx:(("or":Str)="and")=False:=eq_false (by decide +kernel)
@[simp] theorem zN1:(("either":Str)="ask")=False:=eq_false (by decide +kernel)
@[simp] theorem zNX:(("either":Str)="not")=False:=eq_false (by decide +kernel)
@[simp] theorem zN2:(("either":Str)="and")=False:=eq_false (by decide +kernel)
@[simp] theorem zOE:(("either":Str)="or")=False:=eq_false (by decide +kernel)
@[simp] theorem zOW:(("most":Str)="ask")=False:=eq_false (by decide +kernel)
@[simp] theorem zOm:(("most":Str)="not")=False:=eq_false (by decide +kernel)
@[simp] theorem zOe:(("most":Str)="and")=False:=eq_false (by decide +kernel)
@[simp] theorem zPN:(("most":Str)="or")=False:=eq_false (by decide +kernel)
@[simp] theorem zMw:(("most":Str)="either")=False:=eq_false (by decide +kernel)
inductive Sy where
 | yes | no | ask (q:Nat) | nt (a:Sy) | an (a b:Sy) | or (a b:Sy) | ei (a b:Sy) | mo (a b c:Sy)
abbrev sT(x:Str):T:=.a (.str x)
def Sy.t:Sy->T
 | .yes=>.t [sT "yes"]
 | .no=>.t [sT "no"]
 | .ask q=>.t [sT "ask",iT q]
 | .nt a=>.t [sT "not",a.t]
 | .an a b=>.t [sT "and",a.t,b.t]
 | .or a b=>.t [sT "or",a.t,b.t]
 | .ei a b=>.t [sT "either",a.t,b.t]
 | .mo a b c=>.t [sT "most",a.t,b.t,c.t]
def Sy.kids:Sy->List Sy
 | .yes=>[]
 | .no=>[]
 | .ask _=>[]
 | .nt a=>[a]
 | .an a b=>[a,b]
 | .or a b=>[a,b]
 | .ei a b=>[a,b]
 | .mo a b c=>[a,b,c]
def Sy.parts:Sy->Nat
 | .yes=>1
 | .no=>1
 | .ask _=>1
 | .nt a=>1+a.parts
 | .an a b=>1+a.parts+b.parts
 | .or a b=>1+a.parts+b.parts
 | .ei a b=>1+a.parts+b.parts
 | .mo a b c=>1+a.parts+b.parts+c.parts
def Sy.qs(q:Nat):Sy->Prop
 | .yes=>True
 | .no=>True
 | .ask k=>k < q
 | .nt a=>a.qs q
 | .an a b=>a.qs q/\b.qs q
 | .or a b=>a.qs q/\b.qs q
 | .ei a b=>a.qs q/\b.qs q
 | .mo a b c=>a.qs q/\b.qs q/\c.qs q
theorem Sy.parts_pos:∀ s:Sy,1<=s.parts
 | .yes=>Nat.le_refl _
 | .no=>Nat.le_refl _
 | .ask _=>Nat.le_refl _
 | .nt a=>by simp only[Sy.parts]; omega
 | .an a b=>by simp only[Sy.parts]; omega
 | .or a b=>by simp only[Sy.parts]; omega
 | .ei a b=>by simp only[Sy.parts]; omega
 | .mo a b c=>by simp only[Sy.parts]; omega
def Sy.rs(f:Sy->T):Sy->Rs
 | .yes=>.mk (Sy.t .yes) (f .yes) []
 | .no=>.mk (Sy.t .no) (f .no) []
 | .ask q=>.mk (Sy.t (.ask q)) (f (.ask q)) []
 | .nt a=>.mk (Sy.t (.nt a)) (f (.nt a)) [a.rs f]
 | .an a b=>.mk (Sy.t (.an a b)) (f (.an a b)) [a.rs f,b.rs f]
 | .or a b=>.mk (Sy.t (.or a b)) (f (.or a b)) [a.rs f,b.rs f]
 | .ei a b=>.mk (Sy.t (.ei a b)) (f (.ei a b)) [a.rs f,b.rs f]
 | .mo a b c=>.mk (Sy.t (.mo a b c)) (f (.mo a b c)) [a.rs f,b.rs f,c.rs f]
theorem Sy.rs_e(f:Sy->T)(s:Sy):(s.rs f).e=s.t:=by cases s <;> rfl
theorem Sy.rs_v(f:Sy->T)(s:Sy):(s.rs f).v=f s:=by cases s <;> rfl
theorem Sy.rs_pre(f:Sy->T):∀ s:Sy,(s.rs f).pre.length=s.parts
 | .yes=>by simp[Sy.rs,zAf,zAY,Sy.parts]
 | .no=>by simp[Sy.rs,zAf,zAY,Sy.parts]
 | .ask _=>by simp[Sy.rs,zAf,zAY,Sy.parts]
 | .nt a=>by simp[Sy.rs,zAf,zAY,zAP,Sy.parts,a.rs_pre f]; omega
 | .an a b=>by simp[Sy.rs,zAf,zAY,zAP,Sy.parts,a.rs_pre f,b.rs_pre f]; omega
 | .or a b=>by simp[Sy.rs,zAf,zAY,zAP,Sy.parts,a.rs_pre f,b.rs_pre f]; omega
 | .ei a b=>by simp[Sy.rs,zAf,zAY,zAP,Sy.parts,a.rs_pre f,b.rs_pre f]; omega
 | .mo a b c=>by simp[Sy.rs,zAf,zAY,zAP,Sy.parts,a.rs_pre f,b.rs_pre f,c.rs_pre f]; omega
theorem cut1(x:T)(r:List T):cutT (x::r) (some 1) none=r:=zCT (x::r) 1
theorem zAy(s:Sy):F_6 [.v s.t]=some (.v (.t (s.kids.map Sy.t)),[]):=by
 cases s <;> simp[F_6,fnD,d_6,Sy.t,Sy.kids,gd,cut1,zOs]
theorem Sy.rs_in(f:Sy->T):∀ s:Sy,(s.rs f).In F_6
 | .yes=>zBO.mpr ⟨.inl (zAy .yes),zA1⟩
 | .no=>zBO.mpr ⟨.inl (zAy .no),zA1⟩
 | .ask q=>zBO.mpr ⟨.inl (zAy (.ask q)),zA1⟩
 | .nt a=>zBO.mpr ⟨.inl (by simpa [Sy.kids,Sy.rs_e] using zAy (.nt a)),zAR.mpr ⟨a.rs_in f,zA1⟩⟩
 | .an a b=>zBO.mpr ⟨.inl (by simpa [Sy.kids,Sy.rs_e] using zAy (.an a b)),zAR.mpr ⟨a.rs_in f,zAR.mpr ⟨b.rs_in f,zA1⟩⟩⟩
 | .or a b=>zBO.mpr ⟨.inl (by simpa [Sy.kids,Sy.rs_e] using zAy (.or a b)),zAR.mpr ⟨a.rs_in f,zAR.mpr ⟨b.rs_in f,zA1⟩⟩⟩
 | .ei a b=>zBO.mpr ⟨.inl (by simpa [Sy.kids,Sy.rs_e] using zAy (.ei a b)),zAR.mpr ⟨a.rs_in f,zAR.mpr ⟨b.rs_in f,zA1⟩⟩⟩
 | .mo a b c=>zBO.mpr ⟨.inl (by simpa [Sy.kids,Sy.rs_e] using zAy (.mo a b c)),zAR.mpr ⟨a.rs_in f,zAR.mpr ⟨b.rs_in f,zAR.mpr ⟨c.rs_in f,zA1⟩⟩⟩⟩
def litS(p:Nat×Nat):Sy:=if p.2=0 then .nt (.ask p.1) else .ask p.1
abbrev litT(p:Nat×Nat):T:=.t [(litS p).t,iT (p.1:Int),iT (p.2:Int)]
theorem zJ3(a b:Int)(o1:Option G)(ls:List Nat)(fs:List (Nat×Nat))(h0:0 < ls.length)(h5:ls.length+fs.length<=100)(o4 o5:Option G):∃ (k z y:Nat) (a' b':Int),k < ls.length/\ls[k]?=some z/\y < 2 /\
  zDa [some (.l [iT a,iT b]),o1,some (.l (tvT ls)),some (.l (fs.map litT)),o4,o5]=some (.nx [some (.l [iT a',iT b']),o1,some (.l (tvT (ls.eraseIdx k))),some (.l ((fs++[(z,y)]).map litT)),some (.v (iT (z:Int))),some (.v (iT (y:Int)))]):=by
 obtain⟨k,a1,b1,hk,e1⟩:=zA8 a b ls.length h0 (by omega)
 obtain⟨z,hz⟩:∃ z,ls[k]?=some z:=⟨ls[k],by simp[hk]⟩
 obtain⟨y,a2,b2,hy,e2⟩:=zA8 a1 b1 2 (by decide) (by decide)
 refine⟨k,z,y,a2,b2,hk,hz,hy,?_⟩
 have e2':F_3 [.l [.a (.int a1),.a (.int b1)],.v (.a (.int 2))]=some (.v (.a (.int (y:Int))),[.a (.int a2),.a (.int b2)]):=e2
 have hb:inR 9223372036854775807 (k:Int)=true:=zC4 (by omega)
 have g1:ls.length<=sizeLine:=zAB (by omega)
 have g2:(fs.map litT).length < sizeLine:=zGt (by simp; omega)
 have g3:(3:Nat)<=sizeLine:=by decide
 have g4:(2:Nat)<=sizeLine:=by decide
 have hix:∀ (Γ:En) (u v:T),ixS Γ (.l [u,v]) (.v (.a (.int (y:Int))))=some (.v (if y=0 then u else v)):=fun Γ u v=>by
  have:y=0\/y=1:=by omega
  rcases this with rfl | rfl <;> rfl
 have hl:(if y=0 then (T.t [sT "not",.t [sT "ask",iT (z:Int)]]) else .t [sT "ask",iT (z:Int)])=(litS (z,y)).t:=by
  unfold litS
  by_cases h:y=0 <;> simp[h,Sy.t]
 rw[List.map_append,List.map_cons,List.map_nil]
 generalize fs.map litT=FS at *
 have g2':FS.length<=sizeLine:=Nat.le_of_lt g2
 simp only[litT,iT]at *
 rw[← hl]
 simp[zDa,e1,hb,zGN hk,hz,e2',gd,g1,g2,g2',g3,g4,zI1,hix,show 0 < ls.length from h0]
theorem zKv:∀ (m:Nat) (ls:List Nat) (fs:List (Nat×Nat)) (a b:Int) (o1 o4 o5:Option G) (fuel:Nat),ls.length=m->m < fuel->ls.length+fs.length<=100->∃ (gs:List (Nat×Nat)) (a' b':Int) (o4' o5':Option G),(gs.map (·.1)).Perm ls/\(∀ p∈gs,p.2 < 2) /\
  dWhile zCg zDa fuel [some (.l [iT a,iT b]),o1,some (.l (tvT ls)),some (.l (fs.map litT)),o4,o5]=some (.nx [some (.l [iT a',iT b']),o1,some (.l []),some (.l ((fs++gs).map litT)),o4',o5']):=by
 intro m
 induction m with
 | zero =>
  intro ls fs a b o1 o4 o5 fuel hl hf h5
  obtain rfl:ls=[]:=List.length_eq_zero_iff.mp hl
  obtain⟨f,rfl⟩:∃ f,fuel=f+1:=⟨fuel - 1,by omega⟩
  exact⟨[],a,b,o4,o5,.refl _,fun _ h=>(nomatch h),by rw[zAu]; simp[zCg]⟩
 | succ m ih =>
  intro ls fs a b o1 o4 o5 fuel hl hf h5
  obtain⟨f,rfl⟩:∃ f,fuel=f+1:=⟨fuel - 1,by omega⟩
  obtain⟨k,z,y,a1,b1,hk,hz,hy,e1⟩:=zJ3 a b o1 ls fs (by omega) (by omega) o4 o5
  obtain⟨gs,a2,b2,p4,p5,hp,h2,e2⟩:=ih (ls.eraseIdx k) (fs++[(z,y)]) a1 b1 o1 (some (.v (iT (z:Int)))) (some (.v (iT (y:Int)))) f (by rw[List.length_eraseIdx_of_lt hk]; omega) (by omega) (by rw[List.length_eraseIdx_of_lt hk]; simp; omega)
  refine⟨(z,y)::gs,a2,b2,p4,p5,?_,fun p hpm=>?_,?_⟩
  ·rw[List.map_cons]
   exact (List.Perm.cons z hp).trans (by simpa using zH5 (fs:=[]) hz)
  ·rcases List.mem_cons.mp hpm with rfl | q
   ·exact hy
   ·exact h2 p q
  ·have c1:zCg [some (.l [iT a,iT b]),o1,some (.l (tvT ls)),some (.l (fs.map litT)),o4,o5]=some (true,[some (.l [iT a,iT b]),o1,some (.l (tvT ls)),some (.l (fs.map litT)),o4,o5]):=by
    have:0 < ls.length:=by omega
    generalize fs.map litT=FS
    simp[zCg,this]
   rw[zAu,c1,Option.bind_some,if_pos rfl,e1,Option.bind_some]
   dsimp only
   rw[e2]
   simp
theorem zDC(a b:Int)(ls:List Nat)(hl:ls.length<=5):∃ (gs:List (Nat×Nat)) (a' b':Int),(gs.map (·.1)).Perm ls/\(∀ p∈gs,p.2 < 2)/\F_4 [.l [iT a,iT b],.r (tvT ls)]=some (.l (gs.map litT),[iT a',iT b']):=by
 obtain⟨gs,a',b',o4,o5,hp,h2,e⟩:=zKv ls.length ls [] a b (some (.r (tvT ls))) none none fuelX rfl (by rw[zDL]; omega) (by simp; omega)
 refine⟨gs,a',b',hp,h2,?_⟩
 rw[List.nil_append,List.map_nil]at e
 have g0:(0:Nat)<=sizeLine:=by decide
 have g1:(tvT ls).length<=sizeLine:=zAB (by simp; omega)
 generalize gs.map litT=GS at *
 generalize tvT ls=TL at *
 simp only[iT]at *
 simp[F_4,fnD,d_4,gd,g0,g1,e]
def Sy.so(as:List Nat):Sy->Bool
 | .yes=>true
 | .no=>false
 | .ask q=>as.getD q 0 == 1
 | .nt a=>!a.so as
 | .an a b=>a.so as && b.so as
 | .or a b=>a.so as || b.so as
 | .ei a b=>a.so as != b.so as
 | .mo a b c=>(a.so as && b.so as) || (c.so as && (a.so as || b.so as))
theorem zOx(bs:List Bool):toDs (bs.map fun b=>T.a (.bl b))=some (bs.map PyData.bool)/\PyData.canLayAll0 (bs.map PyData.bool)=true/\gCount (bs.map PyData.bool) (.bool true)=some ((bs.count true:Nat):Int):=by
 refine⟨?_,?_,?_⟩
 ·induction bs with
  | nil=>rfl
  | cons b r ih=>simp only[List.map_cons,toDs,ih]; rfl
 ·induction bs with
  | nil=>rfl
  | cons b r ih=>simp only[List.map_cons,PyData.canLayAll0,ih]; rfl
 ·unfold gCount
  congr 2
  induction bs with
  | nil=>rfl
  | cons b r ih =>
   rw[List.map_cons,List.countP_cons,ih,List.count_cons]
   cases b <;> rfl
theorem zKL{m:Nat}{as:List Nat}(ha:AnsOk m as)(s:Sy)(hq:s.qs m):F_8 [.v (tuT as),.v s.t,.r (s.kids.map fun k=>T.a (.bl (k.so as)))]=some (.v (.a (.bl (s.so as))),[]):=by
 cases s with
 | ask k =>
  have h0:=zHA ha (show k < m from hq)
  have h2:=zFN h0
  have e1:(decide (((as.getD k 0:Nat):Int)=1))=(as.getD k 0 == 1):=by
   by_cases c:as.getD k 0=1
   ·rw[c]; rfl
   ·rw[decide_eq_false (by omega),show (as.getD k 0 == 1)=false by simpa using c]
  simp only[Sy.so,Sy.kids,List.map_nil]
  generalize as.getD k 0=x at *
  unfold tuT
  generalize tvT as=AS at *
  simp only[iT]at h2
  simp[F_8,fnD,d_8,Sy.t,h2,e1]
 | yes=>generalize tuT as=AS; simp[F_8,fnD,d_8,Sy.t,Sy.so,Sy.kids]
 | no=>generalize tuT as=AS; simp[F_8,fnD,d_8,Sy.t,Sy.so,Sy.kids]
 | nt a=>generalize tuT as=AS; simp[F_8,fnD,d_8,Sy.t,Sy.so,Sy.kids]
 | an a b=>generalize tuT as=AS; cases ea:a.so as <;> cases eb:b.so as <;> simp[F_8,fnD,d_8,Sy.t,Sy.so,Sy.kids,ea,eb]
 | or a b=>generalize tuT as=AS; cases ea:a.so as <;> cases eb:b.so as <;> simp[F_8,fnD,d_8,Sy.t,Sy.so,Sy.kids,ea,eb]
 | ei a b=>generalize tuT as=AS; cases ea:a.so as <;> cases eb:b.so as <;> simp[F_8,fnD,d_8,Sy.t,Sy.so,Sy.kids,ea,eb]
 | mo a b c =>
  obtain⟨h1,h2,h3⟩:=zOx [a.so as,b.so as,c.so as]
  have e1:toD (T.a (V.bl true))=some (.bool true):=rfl
  have e2:PyData.canLay0 (.bool true)=true/\PyData.depth (.bool true)<=100:=⟨rfl,by decide⟩
  have hb:decide ((2:Int)<=(([a.so as,b.so as,c.so as].count true:Nat):Int))=(Sy.mo a b c).so as:=by
   simp only[Sy.so]
   cases a.so as <;> cases b.so as <;> cases c.so as <;> rfl
  generalize ([a.so as,b.so as,c.so as].count true:Nat)=C at *
  generalize (Sy.mo a b c).so as=B at *
  generalize tuT as=AS at *
  simp only[List.map_cons,List.map_nil]at h1 h2 h3
  simp[F_8,fnD,d_8,Sy.t,Sy.kids,h1,h2,h3,e1,e2,hb]
theorem Sy.plT:∀ s:Sy,s.t.pl=true
 | .yes=>by simp[Sy.t,pl_t,zAk,zA2,pl_a]
 | .no=>by simp[Sy.t,pl_t,zAk,zA2,pl_a]
 | .ask _=>by simp[Sy.t,pl_t,zAk,zA2,pl_a]
 | .nt a=>by simp[Sy.t,pl_t,zAk,zA2,pl_a,a.plT]
 | .an a b=>by simp[Sy.t,pl_t,zAk,zA2,pl_a,a.plT,b.plT]
 | .or a b=>by simp[Sy.t,pl_t,zAk,zA2,pl_a,a.plT,b.plT]
 | .ei a b=>by simp[Sy.t,pl_t,zAk,zA2,pl_a,a.plT,b.plT]
 | .mo a b c=>by simp[Sy.t,pl_t,zAk,zA2,pl_a,a.plT,b.plT,c.plT]
theorem zOJ(as:List Nat):(tuT as).pl=true:=by
 rw[pl_t]
 exact zEV fun t h=>by obtain⟨k,_,rfl⟩:=List.mem_map.mp h; exact pl_a
theorem zNm{m:Nat}{as:List Nat}(ha:AnsOk m as)(s:Sy)(hq:s.qs m):lamF zBq (tuT as) [.v s.t,.r (s.kids.map fun k=>T.a (.bl (k.so as)))]=some (.bl (s.so as)):=by
 have e:=zKL ha s hq
 have p2:T.pls (s.kids.map fun k=>T.a (.bl (k.so as)))=true:=zEV fun t h=>by obtain⟨k,_,rfl⟩:=List.mem_map.mp h; exact pl_a
 have d:zBq [some (.v s.t),some (.r (s.kids.map fun k=>T.a (.bl (k.so as)))),some (.v (tuT as))]=some (.v (.a (.bl (s.so as))),[some (.v s.t),some (.r (s.kids.map fun k=>T.a (.bl (k.so as)))),some (.v (tuT as))]):=by
  generalize (s.kids.map fun k=>T.a (.bl (k.so as)))=KS at *
  generalize s.so as=B at *
  generalize tuT as=AS at *
  generalize s.t=ST at *
  simp[zBq,e]
 unfold lamF
 simp only[G.pl,s.plT,p2,zOJ,Bool.and_self,if_true]
 rw[d]
theorem Sy.rs_putP(f:Sy->T){PP:T->List T->T->Prop}{m:Nat}(h:∀ s:Sy,s.qs m->PP s.t (s.kids.map f) (f s)):∀ s:Sy,s.qs m->(s.rs f).PutP PP
 | .yes,z=>zA0.mpr ⟨h .yes z,zAn⟩
 | .no,z=>zA0.mpr ⟨h .no z,zAn⟩
 | .ask q,z=>zA0.mpr ⟨h (.ask q) z,zAn⟩
 | .nt a,z=>zA0.mpr ⟨by simpa [Sy.kids,Sy.rs_v] using h (.nt a) z,zAU.mpr ⟨a.rs_putP f h z,zAn⟩⟩
 | .an a b,z=>zA0.mpr ⟨by simpa [Sy.kids,Sy.rs_v] using h (.an a b) z,zAU.mpr ⟨a.rs_putP f h z.1,zAU.mpr ⟨b.rs_putP f h z.2,zAn⟩⟩⟩
 | .or a b,z=>zA0.mpr ⟨by simpa [Sy.kids,Sy.rs_v] using h (.or a b) z,zAU.mpr ⟨a.rs_putP f h z.1,zAU.mpr ⟨b.rs_putP f h z.2,zAn⟩⟩⟩
 | .ei a b,z=>zA0.mpr ⟨by simpa [Sy.kids,Sy.rs_v] using h (.ei a b) z,zAU.mpr ⟨a.rs_putP f h z.1,zAU.mpr ⟨b.rs_putP f h z.2,zAn⟩⟩⟩
 | .mo a b c,z=>zA0.mpr ⟨by simpa [Sy.kids,Sy.rs_v] using h (.mo a b c) z,zAU.mpr ⟨a.rs_putP f h z.1,zAU.mpr ⟨b.rs_putP f h z.2.1,zAU.mpr ⟨c.rs_putP f h z.2.2,zAn⟩⟩⟩⟩
theorem zNy:F_10=fnD none 3 6 (fwDM (fnD none 2 5 (awD tb_1)) tb_1 (dCallM 2 [] L_so zBq (jW (jV 4) (jW (jV 5) qQ)))):=rfl
theorem zHr:tb_1.find? (fun q=>decide (q.1=("inner":Str)))=some (("inner":Str),1,F_6):=by rfl
theorem zKe{m:Nat}{as:List Nat}(ha:AnsOk m as)(s:Sy)(hq:s.qs m)(hp:s.parts<=80000):F_9 [.v s.t,.v (tuT as)]=some (.v (.a (.bl (s.so as))),[]):=by
 have:=zDb zHr (zMF (tb2:=[]) (L:=L_so) (dl:=zBq) (ta:=tuT as)) (s.rs fun k=>T.a (.bl (k.so as))) (s.rs_in _) (s.rs_putP _ (fun k hk=>⟨_,rfl,zNm ha k hk⟩) hq) (by rw[Sy.rs_pre]; exact hp)
 rw[← zNy,Sy.rs_e,Sy.rs_v]at this
 have e:F_11 [.v s.t,.v (.m L_so [tuT as])]=some (.v (.a (.bl (s.so as))),[]):=by
  generalize tuT as=AS at *
  generalize s.so as=B at *
  simp[F_11,fnD,d_11,this]
 have d:dHand F_11 L_so [some (.v s.t),some (.v (tuT as))]=some (.v (.a (.bl (s.so as))),[some (.v s.t),some (.v (tuT as))]):=by
  unfold dHand
  dsimp only
  rw[e]
 unfold F_9 fnD
 rw[if_pos (show ([.v s.t,.v (tuT as)]:List G).length=2 from rfl)]
 show (dRet (dHand F_11 L_so) [some (.v s.t),some (.v (tuT as))]).bind _=_
 unfold dRet
 rw[d]
 rfl
inductive Tr (J:Sy->Sy->Sy):List Sy->Sy->Prop where
 | one (s:Sy):Tr J [s] s
 | join (l:List Sy) (a b:Sy) (r:List Sy) (s:Sy):Tr J (l++J a b::r) s->Tr J (l++a::b::r) s
theorem zJg(J:Sy->Sy->Sy)(w:Str)(hJ:∀ a b,(J a b).t=.t [sT w,a.t,b.t])(row:List Sy)(h1:1 < row.length)(h5:row.length<=100)(a b:Int)(o2 o4:Option G):∃ (l:List Sy) (x y:Sy) (r:List Sy) (a' b':Int) (o4':Option G),row=l++x::y::r /\
  zC2 [some (.l [iT a,iT b]),some (.v (sT w)),o2,some (.l (row.map Sy.t)),o4]=some (.nx [some (.l [iT a',iT b']),some (.v (sT w)),o2,some (.l ((l++J x y::r).map Sy.t)),o4']):=by
 obtain⟨m,hm⟩:∃ m:Nat,m=row.length - 1:=⟨_,rfl⟩
 obtain⟨k,a1,b1,hk,e1⟩:=zA8 a b m (by omega) (by omega)
 have hk0:k < row.length:=by omega
 have hk1:k+1 < row.length:=by omega
 have hrow:row=row.take k++row[k]::row[k+1]::row.drop (k+2):=by
  rw[List.getElem_cons_drop,List.getElem_cons_drop,List.take_append_drop]
 refine⟨row.take k,row[k],row[k+1],row.drop (k+2),a1,b1,some (.v (iT (k:Int))),hrow,?_⟩
 have c0:((row.length:Nat):Int) - 1=(m:Int):=by omega
 have hl:(row.map Sy.t).length=row.length:=by simp
 have x0:(row.map Sy.t)[k]?=some (row[k].t):=by simp[hk0]
 have x1:(row.map Sy.t)[k+1]?=some (row[k+1].t):=by simp[hk1]
 have t0:cutT (row.map Sy.t) none (some (k:Int))=(row.take k).map Sy.t:=by rw[zCH,List.map_take]
 have t1:cutT (row.map Sy.t) (some ((k+2:Nat):Int)) none=(row.drop (k+2)).map Sy.t:=by rw[zCT,List.map_drop]
 have k1:(k:Int)+1=((k+1:Nat):Int):=by omega
 have k2:(k:Int)+2=((k+2:Nat):Int):=by omega
 have hb0:inR 9223372036854775807 (k:Int)=true:=zC4 (by omega)
 have hb1:inR 9223372036854775807 ((k+1:Nat):Int)=true:=zC4 (by omega)
 have s0:atI (row.map Sy.t) (k:Int)=some row[k].t:=by rw[zA5,x0]
 have s1:atI (row.map Sy.t) ((k+1:Nat):Int)=some row[k+1].t:=by rw[zA5,x1]
 have s1':atI (row.map Sy.t) ((k:Int)+1)=some row[k+1].t:=by rw[k1]; exact s1
 have t1':cutT (row.map Sy.t) (some ((k:Int)+2)) none=(row.drop (k+2)).map Sy.t:=by rw[k2]; exact t1
 clear k1 k2 s1 t1
 have la:((row.take k).map Sy.t).length=k:=by simp; omega
 have lb:((row.drop (k+2)).map Sy.t).length=row.length - (k+2):=by simp
 have g1:(1:Nat)<=sizeLine:=by decide
 have g3:(3:Nat)<=sizeLine:=by decide
 have gk:k+1<=sizeLine:=zAB (by omega)
 have gl:k+1+(row.length - (k+2))<=sizeLine:=zAB (by omega)
 have er:(row.take k++J row[k] row[k+1]::row.drop (k+2)).map Sy.t=(row.take k).map Sy.t++[.t [sT w,row[k].t,row[k+1].t]]++(row.drop (k+2)).map Sy.t:=by
  rw[List.map_append,List.map_cons,hJ]; simp
 rw[er]
 generalize row[k].t=X0 at *
 generalize row[k+1].t=X1 at *
 generalize (row.take k).map Sy.t=RA at *
 generalize (row.drop (k+2)).map Sy.t=RB at *
 generalize row.map Sy.t=RR at *
 have ga:RA.length+1<=sizeLine:=by omega
 have gb:RA.length+1+RB.length<=sizeLine:=by omega
 have gc:RA.length<=sizeLine:=by omega
 have gd':RB.length<=sizeLine:=by omega
 simp only[iT]at *
 simp[zC2,hl,c0,e1,t0,t1',s0,s1',gd,g1,g3,ga,gb,gc,gd']
theorem zJh(J:Sy->Sy->Sy)(w:Str)(hJ:∀ a b,(J a b).t=.t [sT w,a.t,b.t]):∀ (m:Nat) (row:List Sy) (a b:Int) (o2 o4:Option G) (fuel:Nat),row.length=m+1->m < fuel->m+1<=100->∃ (s:Sy) (a' b':Int) (o4':Option G),Tr J row s /\
  dWhile zB9 zC2 fuel [some (.l [iT a,iT b]),some (.v (sT w)),o2,some (.l (row.map Sy.t)),o4]=some (.nx [some (.l [iT a',iT b']),some (.v (sT w)),o2,some (.l [s.t]),o4']):=by
 intro m
 induction m with
 | zero =>
  intro row a b o2 o4 fuel hl hf _
  obtain⟨s,rfl⟩:=List.length_eq_one_iff.mp hl
  obtain⟨f,rfl⟩:∃ f,fuel=f+1:=⟨fuel - 1,by omega⟩
  exact⟨s,a,b,o4,.one s,by rw[zAu]; simp[zB9]⟩
 | succ m ih =>
  intro row a b o2 o4 fuel hl hf h5
  obtain⟨f,rfl⟩:∃ f,fuel=f+1:=⟨fuel - 1,by omega⟩
  obtain⟨l,x,y,r,a1,b1,p4,hrow,e1⟩:=zJg J w hJ row (by omega) (by omega) a b o2 o4
  obtain⟨s,a2,b2,q4,ht,e2⟩:=ih (l++J x y::r) a1 b1 o2 p4 f (by rw[hrow]at hl; simp at hl ⊢; omega) (by omega) (by omega)
  refine⟨s,a2,b2,q4,by rw[hrow]; exact .join l x y r s ht,?_⟩
  have c1:zB9 [some (.l [iT a,iT b]),some (.v (sT w)),o2,some (.l (row.map Sy.t)),o4]=some (true,[some (.l [iT a,iT b]),some (.v (sT w)),o2,some (.l (row.map Sy.t)),o4]):=by
   have h1:(1:Int) < (row.length:Int):=by omega
   have h2:(row.map Sy.t).length=row.length:=by simp
   have h3:1 < row.length:=by omega
   generalize row.map Sy.t=RR at *
   simp[zB9,h2,h1,h3]
  rw[zAu,c1,Option.bind_some,if_pos rfl,e1,Option.bind_some]
  dsimp only
  rw[e2]
theorem zG5(J:Sy->Sy->Sy)(w:Str)(hJ:∀ a b,(J a b).t=.t [sT w,a.t,b.t])(row:List Sy)(h0:0 < row.length)(h5:row.length<=50)(a b:Int):∃ (s:Sy) (a' b':Int),Tr J row s/\F_14 [.l [iT a,iT b],.v (sT w),.r (row.map Sy.t)]=some (.v s.t,[iT a',iT b']):=by
 obtain⟨s,a',b',o4,ht,e⟩:=zJh J w hJ (row.length - 1) row a b (some (.r (row.map Sy.t))) none fuelX (by omega) (by rw[zDL]; omega) (by omega)
 refine⟨s,a',b',ht,?_⟩
 have g1:(row.map Sy.t).length<=sizeLine:=zAB (by simp; omega)
 generalize row.map Sy.t=RR at *
 generalize s.t=ST at *
 simp only[iT]at *
 simp[F_14,fnD,d_14,gd,g1,e]
theorem Tr.all{J:Sy->Sy->Sy}{P:Sy->Prop}(hJ:∀ a b,P a->P b->P (J a b)){row:List Sy}{s:Sy}(h:Tr J row s):(∀ x∈row,P x)->P s:=by
 induction h with
 | one s=>exact fun h=>h s List.mem_cons_self
 | join l a b r s _ ih =>
  intro h
  refine ih fun x hx=>?_
  rcases List.mem_append.mp hx with z | z
  ·exact h x (List.mem_append_left _ z)
  ·rcases List.mem_cons.mp z with z | z
   ·rw[z]; exact hJ a b (h a (by simp)) (h b (by simp))
   ·exact h x (by simp[z])
theorem Tr.sum{J:Sy->Sy->Sy}{f:Sy->Nat}(hJ:∀ a b,f (J a b)<=f a+f b+1){row:List Sy}{s:Sy}(h:Tr J row s):f s+1<=(row.map fun x=>f x+1).sum:=by
 induction h with
 | one s=>simp
 | join l a b r s _ ih =>
  have:=hJ a b
  simp only[List.map_append,List.map_cons,List.sum_append,List.sum_cons]at ih ⊢
  omega
theorem Tr.and{as:List Nat}{row:List Sy}{s:Sy}(h:Tr .an row s):s.so as=row.all fun x=>x.so as:=by
 induction h with
 | one s=>simp
 | join l a b r s _ ih=>rw[ih]; simp[Sy.so,Bool.and_assoc]
theorem Tr.xor{as:List Nat}{row:List Sy}{s:Sy}(h:Tr .ei row s):s.so as=decide ((row.map fun x=>if x.so as then 1 else 0).sum % 2=1):=by
 induction h with
 | one s=>cases h:Sy.so as s <;> simp[h]
 | join l a b r s _ ih =>
  rw[ih,decide_eq_decide]
  simp only[List.map_append,List.map_cons,List.sum_append,List.sum_cons,Sy.so]
  generalize (List.map (fun x=>if Sy.so as x=true then 1 else 0) l).sum=L
  generalize (List.map (fun x=>if Sy.so as x=true then 1 else 0) r).sum=R
  by_cases ha:Sy.so as a=true <;> by_cases hb:Sy.so as b=true <;> simp[ha,hb] <;> omega
theorem zEt{dc:DT}{de:DE}(hq:∀ (k:Nat) (a b:Int),∃ (c:Bool) (a' b':Int),dc [some (.v (iT (k:Int))),some (.l [iT a,iT b])]=some (c,[some (.v (iT (k:Int))),some (.l [iT a',iT b'])]))
  (he:∀ (k:Nat) (a b:Int),de [some (.v (iT (k:Int))),some (.l [iT a,iT b])]=some (.v (iT (k:Int)),[some (.v (iT (k:Int))),some (.l [iT a,iT b])])) :
  ∀ (ks:List Nat) (o:Option G) (a b:Int),∃ (ss:List Nat) (o':Option G) (a' b':Int),ss.Sublist ks/\compD (gdName 0) dc de (tvT ks) [o,some (.l [iT a,iT b])]=some (tvT ss,[o',some (.l [iT a',iT b'])])
 | [],o,a,b=>⟨[],o,a,b,.slnil,rfl⟩
 | k::r,o,a,b=>by
  obtain⟨c,a1,b1,e1⟩:=hq k a b
  obtain⟨ss,o',a',b',hl,e2⟩:=zEt hq he r (some (.v (iT (k:Int)))) a1 b1
  have e3:=he k a1 b1
  simp only[iT,tvT]at e1 e2 e3
  cases c with
  | true =>
   refine⟨k::ss,o',a',b',hl.cons₂ k,?_⟩
   simp only[tvT,List.map_cons,iT]
   rw[zA3]
   simp[e1,e2,e3]
  | false =>
   refine⟨ss,o',a',b',hl.cons k,?_⟩
   simp only[tvT,List.map_cons,iT]
   rw[zA3]
   simp[e1,e2]
abbrev Mk:=List Nat×Nat
@[simp] abbrev mkT(m:Mk):T:=.t [tuT m.1,iT (m.2:Int)]
@[simp] abbrev sumT(bg:Nat)(fl:List Nat)(mk:List Mk):T:=.t [iT (bg:Int),tuT fl,.t (mk.map mkT)]
def SetOk(qs:Nat)(s:List Nat):Prop:=s.Sublist (List.range qs)
theorem SetOk.lt{qs:Nat}{s:List Nat}(h:SetOk qs s){q:Nat}(hq:q∈s):q < qs:=List.mem_range.mp (h.subset hq)
theorem SetOk.len{qs:Nat}{s:List Nat}(h:SetOk qs s):s.length<=qs:=by have:=h.length_le; simpa using this
def MkOk(qs:Nat)(m:Mk):Prop:=SetOk qs m.1/\1<=m.2/\m.2<=2
theorem zBp{a b:List Nat}(h:(a.map fun (k:Nat)=>(.inl (k:Int):Key))=b.map fun (k:Nat)=>(.inl (k:Int):Key)):a=b:=by
 induction a generalizing b with
 | nil=>cases b with
  | nil=>rfl
  | cons _ _=>simp at h
 | cons x r ih=>cases b with
  | nil=>simp at h
  | cons y s =>
   simp only[List.map_cons,List.cons.injEq]at h
   obtain⟨h1,h2⟩:=h
   have:(x:Int)=(y:Int):=Sum.inl.inj h1
   rw[show x=y by omega,ih h2]
def keyM(t:List Nat):List Key:=t.map fun (k:Nat)=>(.inl (k:Int):Key)
theorem zCh:∀ t:List Nat,keyTs (tvT t)=some (keyM t)
 | []=>rfl
 | x::r=>by
  have:=zCh r
  simp only[tvT,iT]at this
  simp[keyTs,keyT,this,keyM]
def dctM(D:List Mk):List (List Key×T):=D.map fun p=>(keyM p.1,iT (p.2:Int))
def putM(D:List Mk)(s:List Nat)(m:Nat):List Mk:=if (D.any fun p=>decide (p.1=s))=true then D.map (fun p=>if p.1=s then (p.1,m) else p) else D++[(s,m)]
theorem zJ5(D:List Mk)(s:List Nat)(m:Nat):putT (dctM D) (keyM s) (iT (m:Int))=dctM (putM D s m):=by
 have e:((dctM D).any fun kv=>decide (kv.1=keyM s))=D.any fun p=>decide (p.1=s):=by
  unfold dctM
  rw[List.any_map]
  congr 1
  funext p
  by_cases h:p.1=s
  ·simp[h]
  ·have h':¬ keyM p.1=keyM s:=fun z=>h (zBp z)
   simp[h,h']
 unfold putT putM
 rw[e]
 split
 ·unfold dctM
  rw[List.map_map,List.map_map]
  congr 1
  funext p
  by_cases h:p.1=s
  ·simp[h]
  ·have h':¬ keyM p.1=keyM s:=fun z=>h (zBp z)
   simp[h,h']
 ·simp[dctM]
theorem zE0:∀ t:List Nat,intsOf (tvT t)=some (t.map fun (k:Nat)=>(k:Int))
 | []=>rfl
 | k::r=>by
  have:=zE0 r
  simp only[tvT,iT]at this
  simp[intsOf,this]
theorem SetOk.sorted{qs:Nat}{s:List Nat}(h:SetOk qs s):s.Pairwise (· < ·):=List.Pairwise.sublist h List.pairwise_lt_range
@[simp] abbrev prI(p:List Nat×Int):T:=.t [tuT p.1,iT p.2]
def lkM(D:List Mk)(s:List Nat):Option Nat:=(D.find? fun p=>decide (p.1=s)).map (·.2)
theorem zK7(D:List Mk)(t:List Nat):valT (dctM D) (keyM t)=(lkM D t).map fun (m:Nat)=>iT (m:Int):=by
 induction D with
 | nil=>rfl
 | cons p r ih =>
  unfold valT lkM dctM at *
  rw[List.map_cons,List.find?_cons,List.find?_cons]
  by_cases h:p.1=t
  ·simp[h]
  ·have h':¬ keyM p.1=keyM t:=fun e=>h (zBp e)
   simp only[h,h',decide_false]
   exact ih
def KOk(s:List Nat):Prop:=(kcsT.any fun c=>decide (c=keyM s))=false
theorem zCd(D:List Mk)(t:List Nat)(hk:KOk t):getX kcsT (.inr (dctM D)) (tuT t)=some ((lkM D t).map fun (m:Nat)=>iT (m:Int)):=by
 show (keyTs (tvT t)).bind _=_
 rw[zCh,Option.bind_some,← zK7,if_neg (by rw[hk]; decide)]
theorem zJq(D:List Mk)(s:List Nat)(m:Nat)(hk:KOk s)(hl:D.length < sizeLine):putX kcsT (.inr (dctM D)) (tuT s) (iT (m:Int))=some (.inr (dctM (putM D s m))):=by
 show (keyTs (tvT s)).bind _=_
 rw[zCh,Option.bind_some,← zJ5,if_neg (by rw[hk]; decide)]
 have:(dctM D).length < sizeLine:=by simpa [dctM] using hl
 simp[this]
theorem zLi(D:List Mk)(s t:List Nat)(m:Nat):lkM (putM D s m) t=if t=s then some m else lkM D t:=by
 unfold putM lkM
 split
 ·rename_i ha
  rw[List.find?_map]
  have hp:(fun p:Mk=>decide (p.1=t)) ∘ (fun p=>if p.1=s then (p.1,m) else p)=fun p=>decide (p.1=t):=by
   funext p; simp only[Function.comp_def]; split <;> rfl
  rw[hp]
  by_cases e:t=s
  ·subst e
   rw[if_pos rfl]
   obtain⟨p,hp1,hp2⟩:=List.any_eq_true.mp ha
   cases hf:D.find? fun p=>decide (p.1=t) with
   | none=>have:=List.find?_eq_none.mp hf p hp1; exact absurd hp2 this
   | some q =>
    have:=List.find?_some hf
    simp at this
    simp[this]
  ·rw[if_neg e]
   cases hf:D.find? fun p=>decide (p.1=t) with
   | none=>rfl
   | some q =>
    have:=List.find?_some hf
    simp at this
    have h':¬ q.1=s:=fun z=>e (this.symm.trans z)
    simp[h']
 ·rename_i ha
  rw[List.find?_append]
  by_cases e:t=s
  ·subst e
   rw[if_pos rfl]
   have:(D.find? fun p=>decide (p.1=t))=none:=by
    rw[List.find?_eq_none]
    intro p hp hd
    exact ha (List.any_eq_true.mpr ⟨p,hp,hd⟩)
   rw[this]; simp
  ·rw[if_neg e]
   have:¬ s=t:=fun z=>e z.symm
   simp[List.find?_cons,this]
theorem zCL(D:List Mk)(s:List Nat)(m:Nat):(putM D s m).map (·.1)=if s∈D.map (·.1) then D.map (·.1) else D.map (·.1)++[s]:=by
 have ha:(D.any fun p=>decide (p.1=s))=true ↔ s∈D.map (·.1):=by
  rw[List.any_eq_true,List.mem_map]
  exact⟨fun ⟨p,h1,h2⟩=>⟨p,h1,by simpa using h2⟩,fun ⟨p,h1,h2⟩=>⟨p,h1,by simpa using h2⟩⟩
 unfold putM
 by_cases h:s∈D.map (·.1)
 ·rw[if_pos (ha.mpr h),if_pos h,List.map_map]
  refine List.map_congr_left fun p _=>?_
  simp only[Function.comp_def]; split <;> rfl
 ·rw[if_neg (fun z=>h (ha.mp z)),if_neg h]; simp
def cfI(ps:List (List Nat×Int))(s:List Nat):Int:=((ps.filter fun p=>decide (p.1=s)).map (·.2)).sum
def stepM(D:List Mk)(p:List Nat×Int):List Mk:=putM D p.1 ((((lkM D p.1).getD 0:Nat)+p.2:Int) % 3).toNat
def foldM(ps:List (List Nat×Int)):List Mk:=ps.foldl stepM []
theorem zJ8(ps:List (List Nat×Int))(p:List Nat×Int)(s:List Nat):cfI (ps++[p]) s=cfI ps s+if p.1=s then p.2 else 0:=by
 unfold cfI
 rw[List.filter_append,List.map_append,List.sum_append]
 by_cases h:p.1=s <;> simp[h]
structure FoldOk(ps:List (List Nat×Int))(D:List Mk):Prop where
 nd:(D.map (·.1)).Nodup
 len:D.length<=ps.length
 key:∀ s,s∈D.map (·.1) ↔ s∈ps.map (·.1)
 val:∀ s,lkM D s=if s∈ps.map (·.1) then some (cfI ps s % 3).toNat else none
theorem zGk{ps:List (List Nat×Int)}{D:List Mk}(h:FoldOk ps D)(p:List Nat×Int):FoldOk (ps++[p]) (stepM D p):=by
 unfold stepM
 refine⟨?_,?_,fun s=>?_,fun s=>?_⟩
 ·rw[zCL]
  split
  ·exact h.nd
  ·rename_i hn
   rw[List.nodup_append]
   refine⟨h.nd,by simp,fun a ha b hb=>?_⟩
   rw[List.mem_singleton.mp hb]
   exact fun z=>hn (z ▸ ha)
 ·have:=congrArg List.length (zCL D p.1 ((((lkM D p.1).getD 0:Nat)+p.2:Int) % 3).toNat)
  rw[List.length_map]at this
  rw[this,List.length_append,List.length_singleton]
  have:=h.len
  split <;> simp <;> omega
 ·rw[zCL,List.map_append,List.mem_append,← h.key s]
  split
  ·rename_i hm
   refine⟨fun z=>.inl z,fun z=>z.elim id fun z=>?_⟩
   rw[show s=p.1 from by simpa using z]; exact hm
  ·rw[List.mem_append]; simp
 ·have hmm:s∈(ps++[p]).map (·.1) ↔ (s∈ps.map (·.1)\/s=p.1):=by rw[List.map_append,List.mem_append]; simp
  rw[zLi,h.val,h.val,zJ8]
  by_cases e:s=p.1
  ·subst e
   rw[if_pos rfl,if_pos (hmm.mpr (.inr rfl)),if_pos rfl]
   congr 2
   split
   ·have hm:0<=cfI ps p.1 % 3:=Int.emod_nonneg _ (by decide)
    rw[Option.getD_some,Int.toNat_of_nonneg hm]
    omega
   ·rename_i hn
    have:cfI ps p.1=0:=by
     unfold cfI
     have:(ps.filter fun q=>decide (q.1=p.1))=[]:=by
      rw[List.filter_eq_nil_iff]
      intro q hq hd
      exact hn (List.mem_map.mpr ⟨q,hq,by simpa using hd⟩)
     rw[this]; rfl
    rw[this]; simp
  ·have e':¬ p.1=s:=fun z=>e z.symm
   rw[if_neg e,if_neg e',Int.add_zero]
   by_cases hs:s∈ps.map (·.1)
   ·rw[if_pos hs,if_pos (hmm.mpr (.inl hs))]
   ·rw[if_neg hs,if_neg fun z=>(hmm.mp z).elim hs e]
theorem zBj(ps:List (List Nat×Int)):FoldOk ps (foldM ps):=by
 have gen:∀ (r done:List (List Nat×Int)) (D:List Mk),FoldOk done D->FoldOk (done++r) (r.foldl stepM D):=by
  intro r
  induction r with
  | nil=>intro done D h; simpa using h
  | cons p r ih=>intro done D h; rw[List.foldl_cons,List.append_cons]; exact ih _ _ (zGk h p)
 exact gen ps [] [] ⟨.nil,Nat.le_refl _,fun s=>by simp,fun s=>by simp[lkM]⟩
theorem zDE{α β:Type}(f:α->β)(lt:Nat->Nat->Bool)(d:α)(d':β)(xs:List α):sortBy lt d' (xs.map f)=(sortBy lt d xs).map f:=by
 unfold sortBy
 rw[List.length_map]
 split
 ·rfl
 ·rename_i h
  rw[List.map_map]
  refine List.map_congr_left fun i hi=>?_
  have hi':i < xs.length:=List.mem_range.mp (((zBL (n:=xs.length) (by omega)).run lt).subset hi)
  simp[List.getD_eq_getElem?_getD,hi']
def sortL(nss:List (List Nat)):List (List Nat):=sortBy (ltI (nss.map fun s=>s.map fun (k:Nat)=>(k:Int))) [] nss
theorem zAT(nss:List (List Nat)):(sortL nss).Perm nss:=zC7 _ _ _
theorem zGV:∀ nss:List (List Nat),asTIs (nss.map tuT)=some (nss.map fun s=>s.map fun (k:Nat)=>(k:Int))
 | []=>rfl
 | s::r=>by
  have e:asTI (tuT s)=some (s.map fun (k:Nat)=>(k:Int)):=zE0 s
  rw[List.map_cons,asTIs,e,zGV r]; rfl
theorem zDN(nss:List (List Nat))(h:nss.length < 64):srtT (nss.map tuT)=some ((sortL nss).map tuT):=by
 unfold srtT
 rw[zGV]
 have hl:(nss.map fun s=>s.map fun (k:Nat)=>(k:Int)).length < 64:=by simpa using h
 dsimp only
 rw[if_pos hl,zDE tuT _ [] _ nss]
 rfl
theorem zIx(D:List Mk):keysT (dctM D)=(D.map (·.1)).map tuT:=by
 unfold keysT dctM
 rw[List.map_map,List.map_map]
 refine List.map_congr_left fun p _=>?_
 simp[keyTup,keyM,Function.comp_def,kV]
def marksL(ps:List (List Nat×Int)):List Mk:=((sortL ((foldM ps).map (·.1))).filter fun s=>!decide (cfI ps s % 3=0)).map fun s=>(s,(cfI ps s % 3).toNat)
theorem zCK{ps:List (List Nat×Int)}{m:Mk}:m∈marksL ps ↔ m.1∈ps.map (·.1)/\cfI ps m.1 % 3≠0/\m.2=(cfI ps m.1 % 3).toNat:=by
 unfold marksL
 rw[List.mem_map]
 constructor
 ·rintro ⟨s,hs,rfl⟩
  rw[List.mem_filter,(zAT _).mem_iff,(zBj ps).key]at hs
  exact⟨hs.1,by simpa using hs.2,rfl⟩
 ·rintro ⟨h1,h2,h3⟩
  refine⟨m.1,?_,by rw[← h3]⟩
  rw[List.mem_filter,(zAT _).mem_iff,(zBj ps).key]
  exact⟨h1,by simpa using h2⟩
theorem zFT(o0:Option G):∀ (ps:List (List Nat×Int)) (D:List Mk) (o2:Option G),(∀ p∈ps,KOk p.1)->D.length+ps.length<=1000->∃ o2',forD (gdName 2) zCk (ps.map prI) [o0,some (.d (.inr (dctM D))),o2]=some (.nx [o0,some (.d (.inr (dctM (ps.foldl stepM D)))),o2']):=by
 intro ps
 induction ps with
 | nil=>intro D o2 _ _; exact⟨o2,by rw[List.map_nil,zAq]; rfl⟩
 | cons p r ih =>
  intro D o2 hK hl
  have hD:(stepM D p).length<=D.length+1:=by
   have:=congrArg List.length (zCL D p.1 ((((lkM D p.1).getD 0:Nat)+p.2:Int) % 3).toNat)
   rw[List.length_map]at this
   unfold stepM
   rw[this]
   split <;> simp
  obtain⟨o2',e3⟩:=ih (stepM D p) (some (.v (prI p))) (fun x hx=>hK x (List.mem_cons_of_mem _ hx)) (by simp at hl; omega)
  refine⟨o2',?_⟩
  have gx:=zCd D p.1 (hK p List.mem_cons_self)
  have px:=zJq D p.1 ((((lkM D p.1).getD 0:Nat)+p.2:Int) % 3).toNat (hK p List.mem_cons_self) (zGt (by simp at hl; omega))
  have hm:0<=(((lkM D p.1).getD 0:Nat)+p.2:Int) % 3:=Int.emod_nonneg _ (by decide)
  rw[Int.toNat_of_nonneg hm]at px
  have hg:((lkM D p.1).map fun (m:Nat)=>iT (m:Int)).getD (.a (.int 0))=iT (((lkM D p.1).getD 0:Nat):Int):=by
   cases lkM D p.1 <;> rfl
  have turn:zCk [o0,some (.d (.inr (dctM D))),some (.v (prI p))]=some (.nx [o0,some (.d (.inr (dctM (stepM D p)))),some (.v (prI p))]):=by
   unfold stepM
   generalize dctM (putM D p.1 ((((lkM D p.1).getD 0:Nat)+p.2:Int) % 3).toNat)=D2 at *
   generalize dctM D=D1 at *
   generalize ((lkM D p.1).map fun (m:Nat)=>iT (m:Int))=LK at *
   generalize (((lkM D p.1).getD 0:Nat):Int)=N0 at *
   simp only[prI]
   simp only[tuT,tvT,iT]at gx px hg ⊢
   simp[zCk,gx,px,hg]
  rw[List.map_cons,zAw (by simp) turn,e3]
  rfl
theorem zHh(ps:List (List Nat×Int))(hK:∀ p∈ps,KOk p.1)(hl:ps.length < 64):F_5 [.r (ps.map prI)]=some (.v (.t ((marksL ps).map mkT)),[]):=by
 have hF:=zBj ps
 obtain⟨o2,e1⟩:=zFT (some (.r (ps.map prI))) ps [] none hK (by simp; omega)
 have hlen:((foldM ps).map (·.1)).length < 64:=by have:=hF.len; simp; omega
 have e2:=zDN ((foldM ps).map (·.1)) hlen
 rw[← zIx]at e2
 obtain⟨o',e3⟩:=zGI tuT (fun s=>mkT (s,(cfI ps s % 3).toNat)) (fun s=>!decide (cfI ps s % 3=0)) (dc:=zDz) (de:=zDp) (R:=[some (.e (.inr (dctM (foldM ps))))]) (sortL ((foldM ps).map (·.1))) (fun s hs=>by
  have gx:=zCd (foldM ps) s (by obtain⟨p,hp,e⟩:=List.mem_map.mp ((hF.key s).mp ((zAT _).mem_iff.mp hs)); rw[← e]; exact hK p hp)
  rw[hF.val,if_pos ((hF.key s).mp ((zAT _).mem_iff.mp hs)),Option.map_some]at gx
  have hm:0<=cfI ps s % 3:=Int.emod_nonneg _ (by decide)
  rw[Int.toNat_of_nonneg hm]at gx
  generalize dctM (foldM ps)=DD at *
  simp only[tuT,tvT,iT]at gx ⊢
  simp[zDz,gx]) (fun s hs _=>by
  have gx:=zCd (foldM ps) s (by obtain⟨p,hp,e⟩:=List.mem_map.mp ((hF.key s).mp ((zAT _).mem_iff.mp hs)); rw[← e]; exact hK p hp)
  rw[hF.val,if_pos ((hF.key s).mp ((zAT _).mem_iff.mp hs)),Option.map_some]at gx
  have g2:(2:Nat)<=sizeLine:=by decide
  generalize (cfI ps s % 3).toNat=N at *
  generalize dctM (foldM ps)=DD at *
  simp only[tuT,tvT,iT,mkT]at gx ⊢
  simp[zDp,gx,gd,g2]) none
 have e3':compD (gdName 0) zDz zDp ((sortL ((foldM ps).map (·.1))).map tuT) [none,some (.e (.inr (dctM (foldM ps))))]=some ((marksL ps).map mkT,[o',some (.e (.inr (dctM (foldM ps))))]):=by
  unfold marksL
  rw[List.map_map]
  exact e3
 have g:(ps.map prI).length<=sizeLine:=zAB (by simp; omega)
 have g':((sortL ((foldM ps).map (·.1))).map tuT).length<=sizeLine:=zAB (by rw[List.length_map,(zAT _).length_eq]; omega)
 have d0:dctM []=[]:=rfl
 have e1':forD (gdName 2) zCk (ps.map prI) [some (.r (ps.map prI)),some (.d (.inr [])),none]=some (.nx [some (.r (ps.map prI)),some (.d (.inr (dctM (foldM ps)))),o2]):=e1
 generalize ps.map prI=PP at *
 generalize dctM (foldM ps)=DD at *
 generalize (sortL ((foldM ps).map (·.1))).map tuT=KK at *
 generalize (marksL ps).map mkT=MM at *
 simp[F_5,fnD,d_5,gd,g,g',e1',e2,e3',frz1,pick1]
def sumN(as:List Nat)(s:List Nat):Nat:=(s.map fun q=>as.getD q 0).sum
def sgn(as:List Nat)(s:List Nat):Nat:=1+sumN as s % 2
def cL(as:List Nat)(mk:List Mk):Nat:=(mk.map fun m=>m.2 * sgn as m.1).sum
def comeL(as:List Nat)(bg:Nat)(fl:List Nat)(mk:List Mk):List Nat:=(List.range 3).map fun x=>(cL as mk+(1+bg) * sgn as fl * x) % 3
structure AnsGe(qs:Nat)(as:List Nat):Prop where
 len:qs<=as.length
 lt:∀ x∈as,x < 2
theorem AnsGe.two{qs:Nat}{as:List Nat}(h:AnsGe qs as)(q:Nat):as.getD q 0 < 2:=by
 rw[List.getD_eq_getElem?_getD]
 cases e:as[q]? with
 | none=>simp
 | some x=>exact h.lt x (List.mem_of_getElem? e)
def allA:Nat->List (List Nat)
 | 0=>[[]]
 | q+1=>(allA q).map (0::·)++(allA q).map (1::·)
def twoA(a:List Nat):List (List Nat):=[a++[0],a++[1]]
theorem zEs(x:Nat)(l:List (List Nat)):(l.map (x::·)).flatMap twoA=(l.flatMap twoA).map (x::·):=by
 induction l with
 | nil=>rfl
 | cons a r ih=>simp only[List.map_cons,List.flatMap_cons,ih,List.map_append]; rfl
theorem zF4:∀ q,(allA q).flatMap twoA=allA (q+1)
 | 0=>rfl
 | q+1=>by
  rw[allA,List.flatMap_append,zEs,zEs,zF4 q]
  rfl
theorem zA6:∀ q,(allA q).length=2 ^ q
 | 0=>rfl
 | q+1=>by rw[allA]; simp[zA6 q]; omega
theorem zB0{q:Nat}(h:q<=10):(allA q).length<=1024:=by
 rw[zA6]
 exact Nat.le_trans (Nat.pow_le_pow_right (by decide) h) (by decide)
theorem zBM:∀ (q:Nat) (a:List Nat),a∈allA q->AnsOk q a
 | 0,a,h=>by
  simp[allA]at h
  subst h
  exact⟨rfl,fun x hx=>nomatch hx⟩
 | q+1,a,h=>by
  simp only[allA,List.mem_append,List.mem_map]at h
  rcases h with ⟨b,hb,rfl⟩ | ⟨b,hb,rfl⟩
  ·have:=zBM q b hb
   exact⟨by simp[this.len],fun x hx=>(List.mem_cons.mp hx).elim (fun z=>by omega) (this.lt x)⟩
  ·have:=zBM q b hb
   exact⟨by simp[this.len],fun x hx=>(List.mem_cons.mp hx).elim (fun z=>by omega) (this.lt x)⟩
theorem zEn(q x1 x2:Option G):∀ (L:List (List Nat)) (acc:List T) (o4:Option G),acc.length+2 * L.length<=5000->(∀ a∈L,a.length<=1000)->∃ o4',forD (gdName 4) zCu (L.map tuT) [q,x1,x2,some (.l acc),o4]=some (.nx [q,x1,x2,some (.l (acc++(L.flatMap twoA).map tuT)),o4'])
 | [],acc,o4,_,_=>⟨o4,by rw[List.map_nil,zAq]; simp⟩
 | a::r,acc,o4,hl,ha=>by
  obtain⟨o4',e⟩:=zEn q x1 x2 r (acc++[tuT (a++[0]),tuT (a++[1])]) (some (.v (tuT a))) (by simp at hl ⊢; omega) fun z hz=>ha z (List.mem_cons_of_mem _ hz)
  refine⟨o4',?_⟩
  have g1:(1:Nat)<=sizeLine:=by decide
  have g2:(2:Nat)<=sizeLine:=by decide
  have g3:a.length+1<=sizeLine:=zAB (by have:=ha a List.mem_cons_self; omega)
  have g4:acc.length+2<=sizeLine:=zAB (by simp at hl; omega)
  have g5:acc.length<=sizeLine:=zAB (by simp at hl; omega)
  have turn:zCu [q,x1,x2,some (.l acc),some (.v (tuT a))]=some (.nx [q,x1,x2,some (.l (acc++[tuT (a++[0]),tuT (a++[1])])),some (.v (tuT a))]):=by
   simp[zCu,gd,g1,g2,g3,g4,g5,hExtend]
  rw[List.map_cons,zAw (by simp) turn,e]
  congr 6
  rw[List.flatMap_cons,List.map_append,List.append_assoc]; rfl
theorem zEf(q:Option G):∀ (its:List T) (k:Nat) (o2 o3 o4:Option G),its.length+k<=10->∃ o2' o3' o4',forD (gdName 2) zB8 its [q,some (.l ((allA k).map tuT)),o2,o3,o4]=some (.nx [q,some (.l ((allA (its.length+k)).map tuT)),o2',o3',o4'])
 | [],k,o2,o3,o4,_=>⟨o2,o3,o4,by rw[zAq,List.length_nil,Nat.zero_add]⟩
 | t::r,k,o2,o3,o4,h=>by
  have hk:=zB0 (q:=k) (by simp at h; omega)
  obtain⟨p4,e1⟩:=zEn q (some (.r ((allA k).map tuT))) (some (.v t)) (allA k) [] o4 (by simp; omega) fun a ha=>by have:=(zBM k a ha).len; simp at h; omega
  rw[List.nil_append,zF4]at e1
  obtain⟨o2',o3',o4',e⟩:=zEf q r (k+1) (some (.v t)) none p4 (by simp at h ⊢; omega)
  refine⟨o2',o3',o4',?_⟩
  have g0:(0:Nat)<=sizeLine:=by decide
  have g1:(allA k).length<=sizeLine:=zAB (by omega)
  have hl:((allA k).map tuT).length=(allA k).length:=by simp
  have turn:zB8 [q,some (.l ((allA k).map tuT)),some (.v t),o3,o4]=some (.nx [q,some (.l ((allA (k+1)).map tuT)),some (.v t),none,p4]):=by
   generalize (allA (k+1)).map tuT=A1 at *
   generalize (allA k).map tuT=A0 at *
   simp[zB8,gd,g0,g1,hl,frz1,e1,dMv,setM]
  rw[zAw (by simp) turn,e]
  have:r.length+(k+1)=(t::r).length+k:=by simp; omega
  rw[this]
theorem zD7(q:Nat)(hq:q<=10):F_21 [.v (iT (q:Int))]=some (.l ((allA q).map tuT),[]):=by
 have hr:(rngT 0 q).length=q:=by simp[rngT]
 obtain⟨o2,o3,o4,e⟩:=zEf (some (.v (iT (q:Int)))) (rngT 0 q) 0 none none none (by omega)
 rw[hr,Nat.add_zero]at e
 have e':forD (gdName 2) zB8 (rngT 0 q) [some (.v (iT (q:Int))),some (.l [.t []]),none,none,none]=some (.nx [some (.v (iT (q:Int))),some (.l ((allA q).map tuT)),o2,o3,o4]):=e
 have r1:=zA7 q (by omega)
 have g0:(0:Nat)<=sizeLine:=by decide
 have g1:(1:Nat)<=sizeLine:=by decide
 generalize (allA q).map tuT=AA at *
 simp only[iT]at e' r1 ⊢
 simp[F_21,fnD,d_21,gd,g0,g1,r1,e']
theorem zH1(q:T):∀ (its:List T) (k:Nat) (o:Option G),its.length+k<=10->∃ o',forD (gdName 2) zCs its [some (.v q),some (.l ((allA k).map tuT)),o]=some (.nx [some (.v q),some (.l ((allA (its.length+k)).map tuT)),o']):=by
 intro its
 induction its with
 | nil=>intro k o _; exact⟨o,by simp[zAq]⟩
 | cons t r ih =>
  intro k o hk
  obtain⟨o',e3⟩:=ih (k+1) (some (.v t)) (by simp at hk; omega)
  refine⟨o',?_⟩
  have hl:=zB0 (q:=k) (by simp at hk; omega)
  have g1:(allA k).length<=sizeLine:=zAB (by omega)
  have g2:(allA k).length+(allA k).length<=sizeLine:=zAB (by omega)
  have g3:(1:Nat)<=sizeLine:=by decide
  have turn:zCs [some (.v q),some (.l ((allA k).map tuT)),some (.v t)]=some (.nx [some (.v q),some (.l ((allA (k+1)).map tuT)),some (.v t)]):=by
   obtain⟨p1,e1⟩:=zAc tuT (fun a=>tuT (0::a)) (de:=zEH) (R:=[]) (allA k) (fun a ha=>by
    have h1:=(zBM k a ha).len
    have g:1+a.length<=sizeLine:=zAB (by simp at hk; omega)
    simp[zEH,gd,g3,g]) none
   obtain⟨p2,e2⟩:=zAc tuT (fun a=>tuT (1::a)) (de:=zEN) (R:=[]) (allA k) (fun a ha=>by
    have h1:=(zBM k a ha).len
    have g:1+a.length<=sizeLine:=zAB (by simp at hk; omega)
    simp[zEN,gd,g3,g]) none
   simp only[tuT,tvT,iT]at e1 e2
   simp[zCs,gd,g1,g2,e1,e2,allA,Function.comp_def]
  rw[zCl]
  simp only[zEv,Option.bind_some,List.set_cons_succ,List.set_cons_zero]
  rw[turn]
  simp only[Option.bind_some]
  rw[e3]
  simp[Nat.add_assoc,Nat.add_comm 1 k]
theorem zJ9(q:Nat)(hq:q<=10):F_12 [.v (iT (q:Int))]=some (.l ((allA q).map tuT),[]):=by
 obtain⟨o',e⟩:=zH1 (iT (q:Int)) (rngT 0 q) 0 none (by simp[rngT]; omega)
 have hl:(rngT 0 q).length=q:=by simp[rngT]
 have g1:(1:Nat)<=sizeLine:=by decide
 have g0:(0:Nat)<=sizeLine:=by decide
 rw[hl]at e
 have a0:allA 0=[[]]:=rfl
 simp only[tuT,tvT,iT,a0,List.map_cons,List.map_nil,Nat.add_zero]at e
 simp[F_12,fnD,d_12,zA7 q (by omega),gd,g1,g0,e]
def lxN(a b:List Nat):Bool:=HT.lexLt (a.map fun (k:Nat)=>(k:Int)) (b.map fun (k:Nat)=>(k:Int))
theorem zG3:∀ a:List Nat,lxN a a=false
 | []=>rfl
 | x::r=>by unfold lxN; rw[List.map_cons,HT.lexLt_cons,if_pos rfl]; exact zG3 r
theorem zHU:∀ a b:List Nat,a≠b->lxN a b=false->lxN b a=true
 | [],[],h,_=>absurd rfl h
 | [],_::_,_,h=>by cases h
 | _::_,[],_,_=>rfl
 | x::r,y::s,h,e=>by
  unfold lxN at e ⊢
  rw[List.map_cons,List.map_cons,HT.lexLt_cons]at e ⊢
  by_cases z:x=y
  ·subst z
   rw[if_pos rfl]at e ⊢
   exact zHU r s (fun w=>h (by rw[w])) e
  ·rw[if_neg (by omega)]at e ⊢
   have:¬ ((x:Int) < (y:Int)):=by simpa using e
   exact decide_eq_true (by omega)
theorem zEP:∀ a b:List Nat,lxN a b=true->lxN b a=false
 | [],[],_=>rfl
 | [],_::_,_=>rfl
 | _::_,[],h=>by cases h
 | x::r,y::s,e=>by
  unfold lxN at e ⊢
  rw[List.map_cons,List.map_cons,HT.lexLt_cons]at e ⊢
  by_cases z:x=y
  ·subst z
   rw[if_pos rfl]at e ⊢
   exact zEP r s e
  ·rw[if_neg (by omega)]at e ⊢
   have:(x:Int) < (y:Int):=by simpa using e
   exact decide_eq_false (by omega)
theorem zId:∀ a b c:List Nat,lxN a b=true->lxN b c=true->lxN a c=true
 | _,[],[],_,h=>by cases h
 | _,_::_,[],_,h=>by cases h
 | [],_,_::_,_,_=>rfl
 | _::_,[],_::_,h,_=>by cases h
 | x::r,y::s,z::t,e,f=>by
  unfold lxN at e f ⊢
  rw[List.map_cons,List.map_cons,HT.lexLt_cons]at e f ⊢
  by_cases h1:x=y
  ·subst h1
   rw[if_pos rfl]at e
   by_cases h2:x=z
   ·subst h2
    rw[if_pos rfl]at f ⊢
    exact zId r s t e f
   ·rw[if_neg (by omega)]at f ⊢; exact f
  ·rw[if_neg (by omega)]at e
   have e':(x:Int) < (y:Int):=by simpa using e
   by_cases h2:y=z
   ·subst h2
    rw[if_neg (by omega)]; exact e
   ·rw[if_neg (by omega)]at f
    have f':(y:Int) < (z:Int):=by simpa using f
    rw[if_neg (by omega)]
    exact decide_eq_true (by omega)
theorem zBe{nss:List (List Nat)}(nd:nss.Nodup):(sortL nss).Pairwise fun a b=>lxN a b=true:=by
 have gi:∀ i,i < nss.length->(nss.map fun s=>s.map fun (k:Nat)=>(k:Int)).getD i []=(nss.getD i []).map fun (k:Nat)=>(k:Int):=fun i hi=>by
  simp[List.getD_eq_getElem?_getD,hi]
 have inj:∀ i j,i < nss.length->j < nss.length->i≠j->nss.getD i []≠nss.getD j []:=fun i j hi hj hij e=>by
  rw[List.getD_eq_getElem?_getD,List.getD_eq_getElem?_getD,List.getElem?_eq_getElem hi,List.getElem?_eq_getElem hj,Option.getD_some,Option.getD_some]at e
  have pw:=List.pairwise_iff_getElem.mp nd
  rcases Nat.lt_trichotomy i j with z | z | z
  ·exact pw i j hi hj z e
  ·exact hij z
  ·exact pw j i hj hi z e.symm
 unfold sortL
 refine zE7 ⟨fun i j hi hj hij h=>?_,fun i j hi hj h=>?_,fun i j k hi hj hk h1 h2=>?_⟩ _ fun i j hi hj h=>?_
 ·unfold ltI at h ⊢
  rw[gi i hi,gi j hj]at h ⊢
  exact zHU _ _ (inj i j hi hj hij) h
 ·unfold ltI at h ⊢
  rw[gi i hi,gi j hj]at h ⊢
  exact zEP _ _ h
 ·unfold ltI at h1 h2 ⊢
  rw[gi i hi,gi j hj]at h1
  rw[gi j hj,gi k hk]at h2
  rw[gi i hi,gi k hk]
  exact zId _ _ _ h1 h2
 ·unfold ltI at h
  rw[gi i hi,gi j hj]at h
  exact h
structure WfM(qs:Nat)(mk:List Mk):Prop where
 ok:∀ m∈mk,MkOk qs m
 srt:mk.Pairwise fun a b=>lxN a.1 b.1=true
theorem zCn{qs:Nat}{ps:List (List Nat×Int)}(hp:∀ p∈ps,SetOk qs p.1):WfM qs (marksL ps):=by
 refine⟨fun m hm=>?_,?_⟩
 ·obtain⟨h1,h2,h3⟩:=zCK.mp hm
  obtain⟨p,hpp,e⟩:=List.mem_map.mp h1
  refine⟨e ▸ hp p hpp,?_,?_⟩
  ·rw[h3]; omega
  ·rw[h3]; omega
 ·unfold marksL
  exact List.pairwise_map.mpr ((zBe (zBj ps).nd).filter _)
theorem zCP:∀ {a b:List Mk},a.Pairwise (fun x y=>lxN x.1 y.1=true)->b.Pairwise (fun x y=>lxN x.1 y.1=true)->(∀ m,m∈a ↔ m∈b)->a=b
 | [],[],_,_,_=>rfl
 | [],y::s,_,_,h=>nomatch (h y).mpr List.mem_cons_self
 | x::r,[],_,_,h=>nomatch (h x).mp List.mem_cons_self
 | x::r,y::s,ha,hb,h=>by
  have ha':=List.pairwise_cons.mp ha
  have hb':=List.pairwise_cons.mp hb
  have e:x=y:=by
   rcases List.mem_cons.mp ((h x).mp List.mem_cons_self) with e | e
   ·exact e
   ·rcases List.mem_cons.mp ((h y).mpr List.mem_cons_self) with f | f
    ·exact f.symm
    ·have:=zEP _ _ (hb'.1 x e)
     rw[ha'.1 y f]at this; cases this
  subst e
  have hn:∀ l:List Mk,(∀ z∈l,lxN x.1 z.1=true)->x∉l:=fun l hl hx=>by have:=hl x hx; rw[zG3]at this; cases this
  rw[zCP ha'.2 hb'.2 fun m=>⟨fun hm=>?_,fun hm=>?_⟩]
  ·rcases List.mem_cons.mp ((h m).mp (List.mem_cons_of_mem _ hm)) with e | e
   ·subst e; exact absurd hm (hn r ha'.1)
   ·exact e
  ·rcases List.mem_cons.mp ((h m).mpr (List.mem_cons_of_mem _ hm)) with e | e
   ·subst e; exact absurd hm (hn s hb'.1)
   ·exact e
theorem zFp{qs:Nat}{as:List Nat}(h:AnsOk qs as):AnsGe qs as:=⟨Nat.le_of_eq h.len.symm,h.lt⟩
theorem zCO:∀ {n:Nat} {r:List Nat},AnsOk n r->r∈allA n
 | 0,r,h=>by
  have:r=[]:=List.length_eq_zero_iff.mp h.len
  subst this; exact List.mem_singleton.mpr rfl
 | n+1,[],h=>by have:=h.len; simp at this
 | n+1,x::r,h=>by
  have hr:AnsOk n r:=⟨by have:=h.len; simpa using this,fun y hy=>h.lt y (List.mem_cons_of_mem _ hy)⟩
  have:=zCO hr
  have hx:=h.lt x List.mem_cons_self
  rw[allA,List.mem_append]
  have:x=0\/x=1:=by omega
  rcases this with z | z
  ·subst z; exact .inl (List.mem_map.mpr ⟨r,zCO hr,rfl⟩)
  ·subst z; exact .inr (List.mem_map.mpr ⟨r,zCO hr,rfl⟩)
def setsL:Nat->List (List Nat)
 | 0=>[[]]
 | q+1=>setsL q++(setsL q).map (·++[q])
theorem zBW:∀ q,(setsL q).length=2 ^ q
 | 0=>rfl
 | q+1=>by rw[setsL]; simp[zBW q]; omega
theorem zAo:∀ {q:Nat} {s:List Nat},s∈setsL q ↔ SetOk q s
 | 0,s=>by
  unfold SetOk
  simp[setsL]
 | q+1,s=>by
  rw[setsL,List.mem_append,List.mem_map]
  unfold SetOk
  rw[List.range_succ,List.sublist_append_iff]
  constructor
  ·rintro (h | ⟨r,hr,rfl⟩)
   ·exact⟨s,[],by simp,zAo.mp h,List.nil_sublist _⟩
   ·exact⟨r,[q],rfl,zAo.mp hr,List.Sublist.refl _⟩
  ·rintro ⟨a,b,rfl,ha,hb⟩
   have hb2:b=[]\/b=[q]:=by
    cases hb with
    | cons _ h=>cases h; exact .inl rfl
    | cons_cons _ h=>cases h; exact .inr rfl
   rcases hb2 with e | e
   ·subst e; exact .inl (by rw[List.append_nil]; exact zAo.mpr ha)
   ·subst e; exact .inr ⟨a,zAo.mpr ha,rfl⟩
theorem zBx:∀ q,(setsL q).Nodup
 | 0=>by simp[setsL]
 | q+1=>by
  rw[setsL,List.nodup_append]
  refine⟨zBx q,?_,?_⟩
  ·refine List.Pairwise.map _ (fun a b hab=>?_) (zBx q)
   exact fun e=>hab (List.append_cancel_right e)
  ·intro a ha b hb e
   obtain⟨r,hr,rfl⟩:=List.mem_map.mp hb
   subst e
   have:=SetOk.lt (zAo.mp ha) (q:=q) (by simp)
   omega
theorem zEZ(x:Option G):∀ (n k:Nat) (o2:Option G),k+n<=5->∃ o2',forD (gdName 2) zCA ((List.range' k n).map fun (k:Nat)=>iT (k:Int)) [x,some (.l ((setsL k).map tuT)),o2]=some (.nx [x,some (.l ((setsL (k+n)).map tuT)),o2'])
 | 0,k,o2,_=>⟨o2,by rw[List.range'_zero,List.map_nil,zAq]; rfl⟩
 | n+1,k,o2,h=>by
  obtain⟨o2',e⟩:=zEZ x n (k+1) (some (.v (iT (k:Int)))) (by omega)
  refine⟨o2',?_⟩
  have hk:(setsL k).length<=32:=by rw[zBW]; exact Nat.le_trans (Nat.pow_le_pow_right (by decide) (by omega:k<=5)) (by decide)
  obtain⟨r1,e1⟩:=zAc tuT (fun s=>tuT (s++[k])) (de:=zEU) (R:=[some (.v (iT (k:Int)))]) (setsL k) (fun s hs=>by
   have:=(zAo.mp hs).len
   have g1:(1:Nat)<=sizeLine:=by decide
   have g2:s.length+1<=sizeLine:=zAB (by omega)
   simp[zEU,gd,g1,g2]) none
  have g1:(setsL k).length<=sizeLine:=zAB (by omega)
  have g2:(setsL k).length+(setsL k).length<=sizeLine:=zAB (by omega)
  have hl:((setsL k).map tuT).length=(setsL k).length:=by simp
  have hl2:((setsL k).map fun s=>tuT (s++[k])).length=(setsL k).length:=by simp
  have es:(setsL (k+1)).map tuT=(setsL k).map tuT++(setsL k).map fun s=>tuT (s++[k]):=by rw[setsL,List.map_append,List.map_map]; rfl
  have turn:zCA [x,some (.l ((setsL k).map tuT)),some (.v (iT (k:Int)))]=some (.nx [x,some (.l ((setsL (k+1)).map tuT)),some (.v (iT (k:Int)))]):=by
   rw[es]
   generalize ((setsL k).map fun s=>tuT (s++[k]))=A1 at *
   generalize (setsL k).map tuT=A0 at *
   simp only[iT]at e1 ⊢
   simp[zCA,gd,g1,g2,hl,hl2,e1]
  rw[List.range'_succ,List.map_cons,zAw (by simp) turn,e]
  have:k+1+n=k+(n+1):=by omega
  rw[this]
theorem zMr(q:Nat)(hq:q<=5):F_24 [.v (iT (q:Int))]=some (.l ((setsL q).map tuT),[]):=by
 obtain⟨o2,e⟩:=zEZ (some (.v (iT (q:Int)))) q 0 none (by omega)
 rw[Nat.zero_add,← List.range_eq_range']at e
 have e':forD (gdName 2) zCA ((List.range q).map fun (k:Nat)=>iT (k:Int)) [some (.v (iT (q:Int))),some (.l [.t []]),none]=some (.nx [some (.v (iT (q:Int))),some (.l ((setsL q).map tuT)),o2]):=e
 have rr:=zB7 q
 have r1:=zA7 q (by omega)
 have g0:(0:Nat)<=sizeLine:=by decide
 have g1:(1:Nat)<=sizeLine:=by decide
 generalize (setsL q).map tuT=AA at *
 simp only[tvT,iT]at e' rr r1 ⊢
 simp[F_24,fnD,d_24,gd,g0,g1,r1,rr,e']
theorem zCJ:∀ q,(allA q).Nodup
 | 0=>by simp[allA]
 | q+1=>by
  rw[allA,List.nodup_append]
  refine⟨List.Pairwise.map _ (fun a b hab e=>hab (List.cons.inj e).2) (zCJ q),List.Pairwise.map _ (fun a b hab e=>hab (List.cons.inj e).2) (zCJ q),?_⟩
  intro a ha b hb e
  obtain⟨r,_,rfl⟩:=List.mem_map.mp ha
  obtain⟨r',_,rfl⟩:=List.mem_map.mp hb
  cases e
theorem zGS{α:Type}(f g:α->T):∀ l:List α,zipT (l.map f) (l.map g)=l.map fun x=>.t [f x,g x]
 | []=>rfl
 | x::r=>by
  have:=zGS f g r
  simp only[List.map_cons]
  rw[← this]; rfl
def prF:Nat->Nat->(List Nat->Int)->List (List Nat×Int)
 | 0,_,g=>[([],g [])]
 | d+1,q,g=>prF d (q+1) (fun a=>2 * (g (0::a)+g (1::a)))++(prF d (q+1) (fun a=>2 * (g (0::a) - g (1::a)))).map fun p=>(q::p.1,p.2)
theorem zBd:∀ d q g,(prF d q g).length=2 ^ d
 | 0,_,_=>rfl
 | d+1,q,g=>by rw[prF,List.length_append,List.length_map,zBd,zBd]; omega
theorem zBN:∀ d q g,∀ p∈prF d q g,p.1.Sublist (List.range' q d)
 | 0,_,_,p,h=>by rw[List.mem_singleton.mp h]; exact List.nil_sublist _
 | d+1,q,g,p,h=>by
  rw[List.range'_succ]
  rcases List.mem_append.mp h with z | z
  ·exact (zBN d (q+1) _ p z).cons _
  ·obtain⟨r,hr,rfl⟩:=List.mem_map.mp z
   exact (zBN d (q+1) _ r hr).cons_cons _
def sg(q:Nat)(a s:List Nat):Int:=if (s.map fun x=>a.getD (x - q) 0).sum % 2=0 then 1 else -1
def wh(d q:Nat)(g:List Nat->Int)(s:List Nat):Int:=((allA d).map fun a=>g a * sg q a s).sum
theorem zLx(a b:List (List Nat×Int))(s:List Nat):cfI (a++b) s=cfI a s+cfI b s:=by
 unfold cfI; rw[List.filter_append,List.map_append,List.sum_append]
theorem zCV{a:List (List Nat×Int)}{s:List Nat}(h:∀ p∈a,p.1≠s):cfI a s=0:=by
 unfold cfI
 rw[List.filter_eq_nil_iff.mpr fun p hp=>by simpa using h p hp]; rfl
theorem zFz(q:Nat)(s:List Nat):∀ a:List (List Nat×Int),cfI (a.map fun p=>(q::p.1,p.2)) (q::s)=cfI a s
 | []=>rfl
 | p::r=>by
  have:=zFz q s r
  unfold cfI at this ⊢
  rw[List.map_cons,List.filter_cons,List.filter_cons]
  by_cases h:p.1=s <;> simp[h,this]
theorem zBR{α:Type}(f g:α->Int):∀ l:List α,(l.map fun x=>f x+g x).sum=(l.map f).sum+(l.map g).sum
 | []=>rfl
 | x::r=>by simp only[List.map_cons,List.sum_cons,zBR f g r]; omega
theorem zAv{α:Type}(f:α->Int):∀ l:List α,(l.map fun x=>2 * f x).sum=2 * (l.map f).sum
 | []=>rfl
 | x::r=>by simp only[List.map_cons,List.sum_cons,zAv f r]; omega
theorem zMN(d q:Nat)(g:List Nat->Int)(s:List Nat):wh (d+1) q g s=((allA d).map fun a=>g (0::a) * sg q (0::a) s+g (1::a) * sg q (1::a) s).sum:=by
 unfold wh
 rw[allA,List.map_append,List.sum_append,List.map_map,List.map_map,zBR]
 rfl
theorem zAs{q x:Nat}{a s:List Nat}(h:∀ y∈s,q < y):sg q (x::a) s=sg (q+1) a s:=by
 unfold sg
 have:(s.map fun y=>(x::a).getD (y - q) 0)=s.map fun y=>a.getD (y - (q+1)) 0:=List.map_congr_left fun y hy=>by
  have:=h y hy
  obtain⟨k,hk⟩:∃ k,y - q=k+1:=⟨y - q - 1,by omega⟩
  have h2:y - (q+1)=k:=by omega
  rw[hk,h2]; simp
 rw[this]
theorem zBJ{q x:Nat}{a s:List Nat}(hx:x < 2)(h:∀ y∈s,q < y):sg q (x::a) (q::s)=(if x=0 then 1 else -1) * sg (q+1) a s:=by
 have e:=zAs (x:=x) (a:=a) h
 unfold sg at e ⊢
 rw[List.map_cons,List.sum_cons]
 have e0:(x::a).getD (q - q) 0=x:=by simp
 rw[e0,← e]
 generalize (s.map fun y=>(x::a).getD (y - q) 0).sum=N
 rcases (show x=0\/x=1 by omega) with rfl | rfl
 ·simp
 ·have:N % 2=0\/N % 2=1:=by omega
  rcases this with z | z
  ·have:(1+N) % 2=1:=by omega
   simp[z,this]
  ·have:(1+N) % 2=0:=by omega
   simp[z,this]
theorem zDh:∀ (d q:Nat) (g:List Nat->Int) (s:List Nat),s.Sublist (List.range' q d)->cfI (prF d q g) s=2 ^ d * wh d q g s
 | 0,q,g,s,h=>by
  obtain rfl:s=[]:=by simpa using h
  simp[prF,cfI,wh,allA,sg]
 | d+1,q,g,s,h=>by
  rw[List.range'_succ]at h
  have gt:∀ {t:List Nat},t.Sublist (List.range' (q+1) d)->∀ y∈t,q < y:=fun ht y hy=>by
   have:=List.mem_range'.mp (ht.subset hy)
   omega
  rw[prF,zLx,zMN]
  by_cases hq:∃ t,s=q::t/\t.Sublist (List.range' (q+1) d)
  ·obtain⟨t,rfl,ht⟩:=hq
   have z1:cfI (prF d (q+1) fun a=>2 * (g (0::a)+g (1::a))) (q::t)=0:=zCV fun p hp e=>by
    have:=gt (zBN _ _ _ p hp) q (by rw[e]; exact List.mem_cons_self)
    omega
   rw[z1,zFz,zDh d (q+1) _ t ht,Int.zero_add]
   unfold wh
   have:((allA d).map fun a=>g (0::a) * sg q (0::a) (q::t)+g (1::a) * sg q (1::a) (q::t))=(allA d).map fun a=>(g (0::a) - g (1::a)) * sg (q+1) a t:=List.map_congr_left fun a _=>by
    rw[zBJ (by decide) (gt ht),zBJ (by decide) (gt ht)]
    simp[Int.sub_mul,Int.mul_neg]
    omega
   rw[this]
   have:((allA d).map fun a=>2 * (g (0::a) - g (1::a)) * sg (q+1) a t)=(allA d).map fun a=>2 * ((g (0::a) - g (1::a)) * sg (q+1) a t):=List.map_congr_left fun a _=>Int.mul_assoc _ _ _
   rw[this,zAv,Int.pow_succ]
   rw[Int.mul_assoc]
  ·have hs:s.Sublist (List.range' (q+1) d):=by
    cases h with
    | cons _ h=>exact h
    | cons_cons _ h=>exact absurd ⟨_,rfl,h⟩ hq
   have z1:cfI ((prF d (q+1) fun a=>2 * (g (0::a) - g (1::a))).map fun p=>(q::p.1,p.2)) s=0:=zCV fun p hp e=>by
    obtain⟨r,_,rfl⟩:=List.mem_map.mp hp
    have:=gt hs q (by rw[← e]; exact List.mem_cons_self)
    omega
   rw[z1,zDh d (q+1) _ s hs,Int.add_zero]
   unfold wh
   have:((allA d).map fun a=>g (0::a) * sg q (0::a) s+g (1::a) * sg q (1::a) s)=(allA d).map fun a=>(g (0::a)+g (1::a)) * sg (q+1) a s:=List.map_congr_left fun a _=>by
    rw[zAs (gt hs),zAs (gt hs),Int.add_mul]
   rw[this]
   have:((allA d).map fun a=>2 * (g (0::a)+g (1::a)) * sg (q+1) a s)=(allA d).map fun a=>2 * ((g (0::a)+g (1::a)) * sg (q+1) a s):=List.map_congr_left fun a _=>Int.mul_assoc _ _ _
   rw[this,zAv,Int.pow_succ]
   rw[Int.mul_assoc]
theorem zLI:∀ (d n q:Nat) (g:List Nat->Int),d < n->d<=5->q+d<=1000->F_1 n [.v (iT (q:Int)),.r ((allA d).map fun a=>iT (g a))]=some (.l ((prF d q g).map prI),[]):=by
 intro d
 induction d with
 | zero =>
  intro n q g hn _ _
  obtain⟨m,rfl⟩:∃ m,n=m+1:=⟨n - 1,by omega⟩
  have g0:(0:Nat)<=sizeLine:=by decide
  have g1:(1:Nat)<=sizeLine:=by decide
  have g2:(2:Nat)<=sizeLine:=by decide
  simp[F_1,fnD,d_1,allA,prF,gd,g0,g1,g2]
 | succ d ih =>
  intro n q g hn hd hq
  obtain⟨m,rfl⟩:∃ m,n=m+1:=⟨n - 1,by omega⟩
  have i1:=ih m (q+1) (fun a=>2 * (g (0::a)+g (1::a))) (by omega) (by omega) (by omega)
  have i2:=ih m (q+1) (fun a=>2 * (g (0::a) - g (1::a))) (by omega) (by omega) (by omega)
  have hA:((allA (d+1)).map fun a=>iT (g a))=((allA d).map fun a=>iT (g (0::a)))++(allA d).map fun a=>iT (g (1::a)):=by
   rw[allA,List.map_append,List.map_map,List.map_map]; rfl
  have l0:((allA d).map fun a=>iT (g (0::a))).length=2 ^ d:=by rw[List.length_map,zA6]
  have l1:((allA d).map fun a=>iT (g (1::a))).length=2 ^ d:=by rw[List.length_map,zA6]
  have hz:zipT ((allA d).map fun a=>iT (g (0::a))) ((allA d).map fun a=>iT (g (1::a)))=(allA d).map fun a=>.t [iT (g (0::a)),iT (g (1::a))]:=zGS _ _ _
  obtain⟨o1,e1⟩:=zAc (fun a=>.t [iT (g (0::a)),iT (g (1::a))]) (fun a=>iT (2 * (g (0::a)+g (1::a)))) (de:=zFt (F_1 m)) (R:=[]) (allA d) (fun a _=>by
   have c:CMul 2 (g (0::a)+g (1::a)):=zIu ⟨by decide,by decide⟩
   simp[zFt,c]) none
  obtain⟨o2,e2⟩:=zAc (fun a=>.t [iT (g (0::a)),iT (g (1::a))]) (fun a=>iT (2 * (g (0::a) - g (1::a)))) (de:=zFu (F_1 m)) (R:=[]) (allA d) (fun a _=>by
   have c:CMul 2 (g (0::a) - g (1::a)):=zIu ⟨by decide,by decide⟩
   simp[zFu,c]) none
  obtain⟨o3,e3⟩:=zAc prI (fun p=>prI (q::p.1,p.2)) (de:=zGC (F_1 m)) (R:=[some (.v (iT (q:Int)))]) (prF d (q+1) fun a=>2 * (g (0::a) - g (1::a))) (fun p hp=>by
   have hl:=(zBN _ _ _ p hp).length_le
   rw[List.length_range']at hl
   have g1:(1:Nat)<=sizeLine:=by decide
   have g2:(2:Nat)<=sizeLine:=by decide
   have g3:1+p.1.length<=sizeLine:=zAB (by omega)
   simp only[prI,tuT,tvT,List.map_cons]
   have hl2:(p.1.map fun (k:Nat)=>iT (k:Int)).length=p.1.length:=by simp
   generalize (p.1.map fun (k:Nat)=>iT (k:Int))=PP at *
   simp[zGC,gd,g1,g2,g3,hl2]) none
  have hP1:((prF d (q+1) fun a=>2 * (g (0::a)+g (1::a))).map prI).length=2 ^ d:=by rw[List.length_map,zBd]
  have hP2:((prF d (q+1) fun a=>2 * (g (0::a) - g (1::a))).map prI).length=2 ^ d:=by rw[List.length_map,zBd]
  have hP3:((prF d (q+1) fun a=>2 * (g (0::a) - g (1::a))).map fun p=>prI (q::p.1,p.2)).length=2 ^ d:=by rw[List.length_map,zBd]
  have hR:(prF (d+1) q g).map prI=(prF d (q+1) fun a=>2 * (g (0::a)+g (1::a))).map prI++(prF d (q+1) fun a=>2 * (g (0::a) - g (1::a))).map fun p=>prI (q::p.1,p.2):=by
   rw[prF,List.map_append,List.map_map]; rfl
  have hN:2 ^ d<=16:=Nat.le_trans (Nat.pow_le_pow_right (by decide) (show d<=4 by omega)) (by decide)
  have hN0:0 < 2 ^ d:=Nat.pow_pos (by decide)
  rw[hA,hR]
  have lz:((allA d).map fun a=>T.t [iT (g (0::a)),iT (g (1::a))]).length=2 ^ d:=by rw[List.length_map,zA6]
  have lb:((allA d).map fun a=>iT (2 * (g (0::a)+g (1::a)))).length=2 ^ d:=by rw[List.length_map,zA6]
  have lc:((allA d).map fun a=>iT (2 * (g (0::a) - g (1::a)))).length=2 ^ d:=by rw[List.length_map,zA6]
  have cq:((q+1:Nat):Int)=(q:Int)+1:=by omega
  rw[cq]at i1 i2
  generalize (prF d (q+1) fun a=>2 * (g (0::a)+g (1::a))).map prI=Q1 at *
  generalize ((prF d (q+1) fun a=>2 * (g (0::a) - g (1::a))).map fun p=>prI (q::p.1,p.2))=Q3 at *
  generalize (prF d (q+1) fun a=>2 * (g (0::a) - g (1::a))).map prI=Q2 at *
  generalize ((allA d).map fun a=>iT (2 * (g (0::a)+g (1::a))))=B1 at *
  generalize ((allA d).map fun a=>iT (2 * (g (0::a) - g (1::a))))=B2 at *
  generalize ((allA d).map fun a=>T.t [iT (g (0::a)),iT (g (1::a))])=ZZ at *
  generalize ((allA d).map fun a=>iT (g (0::a)))=A0 at *
  generalize ((allA d).map fun a=>iT (g (1::a)))=A1 at *
  generalize 2 ^ d=N at *
  have c0:cutT (A0++A1) none (some (N:Int))=A0:=by rw[zCH,List.take_left' l0]
  have c1:cutT (A0++A1) (some (N:Int)) none=A1:=by rw[zCT,List.drop_left' l0]
  have n1:¬ (((A0++A1).length:Nat):Int)=1:=by rw[List.length_append]; omega
  have n2:(((A0++A1).length:Nat):Int) / 2=(N:Int):=by rw[List.length_append]; omega
  have n2':CDiv (((A0++A1).length:Nat):Int) 2:=⟨by decide,by decide⟩
  have gN:N<=sizeLine:=zAB (by omega)
  have gN2:N+N<=sizeLine:=zAB (by omega)
  have le:A0.length=A1.length:=by omega
  generalize A0++A1=AA at *
  have gA0:A0.length<=sizeLine:=by omega
  have gA1:A1.length<=sizeLine:=by omega
  simp only[iT]at *
  simp only[F_1]
  generalize F_1 m=FP at *
  simp[fnD,d_1,n1,n2,n2',c0,c1,le,hz,e1,e2,e3,i1,i2,gd,gN,gN2,gA0,gA1,l0,l1,lz,lb,lc,hP1,hP2,hP3,sqlOf]
def gF(f:List Nat->Bool)(a:List Nat):Int:=if f a then 1 else 0
def TF(f:List Nat->Bool)(a:List Nat):T:=if f a then .t [iT 1,iT 2,iT 0] else .t [iT 0,iT 1,iT 2]
def numF(d:Nat)(f:List Nat->Bool)(s:List Nat):Nat:=((allA d).map fun a=>(if f a then 1 else 0) * sgn a s).sum
theorem zF5{α:Type}(u v:α->Int):∀ l:List α,(∀ x∈l,(u x - v x) % 3=0)->((l.map u).sum - (l.map v).sum) % 3=0
 | [],_=>rfl
 | x::r,h=>by
  have h1:=zF5 u v r fun y hy=>h y (List.mem_cons_of_mem _ hy)
  have h2:=h x List.mem_cons_self
  simp only[List.map_cons,List.sum_cons]
  omega
theorem sum_nat{α:Type}(v:α->Nat):∀ l:List α,(((l.map v).sum:Nat):Int)=(l.map fun x=>(v x:Int)).sum
 | []=>rfl
 | x::r=>by simp only[List.map_cons,List.sum_cons,← sum_nat v r]; omega
theorem zM0(d:Nat)(hd:d<=5)(f:List Nat->Bool)(s:List Nat)(h:SetOk d s):((1+(d:Int) % 2) * ((numF d f s:Nat):Int)) % 3=cfI (prF d 0 (gF f)) s % 3:=by
 have h':s.Sublist (List.range' 0 d):=by rw[← List.range_eq_range']; exact h
 rw[zDh d 0 _ s h']
 have e1:(wh d 0 (gF f) s - ((numF d f s:Nat):Int)) % 3=0:=by
  unfold wh numF
  rw[sum_nat]
  refine zF5 _ _ _ fun a _=>?_
  unfold gF sg sgn sumN
  simp only[Nat.sub_zero]
  generalize (s.map fun q=>a.getD q 0).sum=N
  have:N % 2=0\/N % 2=1:=by omega
  cases f a <;> rcases this with z | z <;> simp[z]
 have e2:∀ d:Nat,d < 6->((2:Int) ^ d) % 3=(1+(d:Int) % 2) % 3:=by decide
 have e3:=e2 d (by omega)
 have e4:wh d 0 (gF f) s % 3=((numF d f s:Nat):Int) % 3:=by omega
 rw[Int.mul_emod,← e3,← e4,← Int.mul_emod]
def markP(ps:List (List Nat×Int))(L:List (List Nat)):List Mk:=(L.filter fun s=>!decide (cfI ps s % 3=0)).map fun s=>(s,(cfI ps s % 3).toNat)
theorem zHw{qs:Nat}{ps:List (List Nat×Int)}(hps:∀ p∈ps,SetOk qs p.1):markP ps (sortL (setsL qs))=marksL ps:=by
 have srt:=zBe (zBx qs)
 refine zCP ?_ (zCn hps).srt fun m=>?_
 ·exact List.pairwise_map.mpr (srt.filter _)
 ·unfold markP
  rw[List.mem_map,zCK]
  constructor
  ·rintro ⟨s,hsm,rfl⟩
   obtain⟨h1,h2⟩:=List.mem_filter.mp hsm
   have h3:¬ cfI ps s % 3=0:=by simpa using h2
   refine⟨?_,h3,rfl⟩
   apply Classical.byContradiction
   intro hn
   apply h3
   rw[zCV fun p hp e=>hn (List.mem_map.mpr ⟨p,hp,e⟩)]
   rfl
  ·rintro ⟨h1,h2,h3⟩
   obtain⟨p,hp,e⟩:=List.mem_map.mp h1
   refine⟨m.1,List.mem_filter.mpr ⟨(zAT _).mem_iff.mpr (zAo.mpr (e ▸ hps p hp)),by simpa using h2⟩,?_⟩
   exact Prod.ext rfl h3.symm
theorem zBg(qs:Nat)(g:List Nat->Int):∀ p∈prF qs 0 g,SetOk qs p.1:=fun p hp=>by
 have:=zBN qs 0 g p hp
 rw[← List.range_eq_range']at this
 exact this
theorem zBr(c:Int){α:Type}(f:α->Int):∀ l:List α,(l.map fun x=>c * f x).sum=c * (l.map f).sum
 | []=>by simp
 | x::r=>by simp only[List.map_cons,List.sum_cons,zBr c f r,Int.mul_add]
theorem zFi:∀ (d q:Nat) (g:List Nat->Int) (a:List Nat),AnsOk d a->((prF d q g).map fun p=>p.2 * sg q a p.1).sum=4 ^ d * g a
 | 0,q,g,a,h=>by
  obtain rfl:a=[]:=List.length_eq_zero_iff.mp h.len
  simp[prF,sg]
 | d+1,q,g,a,h=>by
  match a,h with
  | [],h=>exact absurd h.len (by simp)
  | x::a,h =>
   have ha:AnsOk d a:=⟨by have:=h.len; simpa using this,fun y hy=>h.lt y (List.mem_cons_of_mem _ hy)⟩
   have hx:x < 2:=h.lt x List.mem_cons_self
   have gt:∀ {t:List Nat},t.Sublist (List.range' (q+1) d)->∀ y∈t,q < y:=fun ht y hy=>by
    have:=List.mem_range'.mp (ht.subset hy)
    omega
   have i1:=zFi d (q+1) (fun a=>2 * (g (0::a)+g (1::a))) a ha
   have i2:=zFi d (q+1) (fun a=>2 * (g (0::a) - g (1::a))) a ha
   have e1:((prF d (q+1) fun a=>2 * (g (0::a)+g (1::a))).map fun p=>p.2 * sg q (x::a) p.1)=(prF d (q+1) fun a=>2 * (g (0::a)+g (1::a))).map fun p=>p.2 * sg (q+1) a p.1:=List.map_congr_left fun p hp=>by
    rw[zAs (gt (zBN _ _ _ p hp))]
   have e2:(((prF d (q+1) fun a=>2 * (g (0::a) - g (1::a))).map fun p=>(q::p.1,p.2)).map fun p=>p.2 * sg q (x::a) p.1)=(prF d (q+1) fun a=>2 * (g (0::a) - g (1::a))).map fun p=>(if x=0 then 1 else -1) * (p.2 * sg (q+1) a p.1):=by
    rw[List.map_map]
    refine List.map_congr_left fun p hp=>?_
    show p.2 * sg q (x::a) (q::p.1)=_
    rw[zBJ hx (gt (zBN _ _ _ p hp)),Int.mul_left_comm]
   rw[prF,List.map_append,List.sum_append,e1,e2,zBr,i1,i2,Int.pow_succ]
   rcases (show x=0\/x=1 by omega) with rfl | rfl
   ·simp
    generalize (4:Int) ^ d=F
    rw[← Int.mul_add,Int.mul_assoc]
    congr 1
    omega
   ·simp
    generalize (4:Int) ^ d=F
    rw[← Int.mul_neg,← Int.mul_add,Int.mul_assoc]
    congr 1
    omega
theorem zLy(q:Nat)(due s:List Nat)(hd:AnsOk q due):numF q (fun a=>decide (a=due)) s=sgn due s:=by
 unfold numF
 have key:∀ l:List (List Nat),l.Nodup->(l.map fun a=>(if decide (a=due)=true then 1 else 0) * sgn a s).sum=if due∈l then sgn due s else 0:=fun l=>by
  induction l with
  | nil=>intro _; simp
  | cons a r ih =>
   intro nd
   have nd':=List.nodup_cons.mp nd
   rw[List.map_cons,List.sum_cons,ih nd'.2]
   by_cases h:a=due
   ·subst h
    simp[nd'.1]
   ·have h':¬ due=a:=fun z=>h z.symm
    simp[h,h']
 rw[key (allA q) (zCJ q),if_pos (zCO hd)]
theorem zJL(q:Nat)(hq:q<=5)(due:List Nat)(hd:AnsOk q due):(marksL (prF q 0 (gF fun a=>decide (a=due)))).map (·.1)=sortL (setsL q):=by
 rw[← zHw (zBg q _)]
 unfold markP
 rw[List.map_map]
 have e:(sortL (setsL q)).filter (fun s=>!decide (cfI (prF q 0 (gF fun a=>decide (a=due))) s % 3=0))=sortL (setsL q):=List.filter_eq_self.mpr fun s hs=>by
  have h:=zM0 q hq (fun a=>decide (a=due)) s (zAo.mp ((zAT _).mem_iff.mp hs))
  rw[zLy q due s hd]at h
  have:sgn due s=1\/sgn due s=2:=by unfold sgn; omega
  have h2:(q:Int) % 2=0\/(q:Int) % 2=1:=by omega
  have:¬ cfI (prF q 0 (gF fun a=>decide (a=due))) s % 3=0:=by
   rw[← h]
   rcases this with z | z <;> rcases h2 with y | y <;> rw[z,y] <;> decide
  simpa using this
 rw[e]
 exact List.map_id' _
theorem zHJ{q d:Nat}{s:List Nat}(h:s.Sublist (q::List.range' (q+1) d)):s.Sublist (List.range' (q+1) d)\/∃ t,s=q::t/\t.Sublist (List.range' (q+1) d):=by
 cases h with
 | cons _ h=>exact .inl h
 | cons_cons _ h=>exact .inr ⟨_,rfl,h⟩
theorem zDO{α:Type}(f:α->Int):∀ l:List α,(∀ x∈l,f x=0)->(l.map f).sum=0
 | [],_=>rfl
 | x::r,h=>by rw[List.map_cons,List.sum_cons,h x List.mem_cons_self,zDO f r fun y hy=>h y (List.mem_cons_of_mem _ hy)]; rfl
theorem orth:∀ (d q:Nat) (S s:List Nat),S.Sublist (List.range' q d)->s.Sublist (List.range' q d)->((allA d).map fun a=>sg q a S * sg q a s).sum=if S=s then 2 ^ d else 0
 | 0,q,S,s,h1,h2=>by
  obtain rfl:S=[]:=by simpa using h1
  obtain rfl:s=[]:=by simpa using h2
  simp[allA,sg]
 | d+1,q,S,s,h1,h2=>by
  rw[List.range'_succ]at h1 h2
  have gt:∀ {t:List Nat},t.Sublist (List.range' (q+1) d)->∀ y∈t,q < y:=fun ht y hy=>by
   have:=List.mem_range'.mp (ht.subset hy)
   omega
  have sp:((allA (d+1)).map fun a=>sg q a S * sg q a s).sum=((allA d).map fun a=>sg q (0::a) S * sg q (0::a) s+sg q (1::a) S * sg q (1::a) s).sum:=by
   rw[allA,List.map_append,List.sum_append,List.map_map,List.map_map,zBR]
   rfl
  rw[sp]
  rcases zHJ h1 with a1 | ⟨S',rfl,a1⟩ <;> rcases zHJ h2 with a2 | ⟨s',rfl,a2⟩
  ·have e:((allA d).map fun a=>sg q (0::a) S * sg q (0::a) s+sg q (1::a) S * sg q (1::a) s)=(allA d).map fun a=>2 * (sg (q+1) a S * sg (q+1) a s):=List.map_congr_left fun a _=>by
    rw[zAs (gt a1),zAs (gt a1),zAs (gt a2),zAs (gt a2)]; omega
   rw[e,zAv,orth d (q+1) S s a1 a2,Int.pow_succ]
   split <;> omega
  ·rw[zDO _ _ fun a _=>by
    rw[zAs (gt a1),zAs (gt a1),zBJ (by decide) (gt a2),zBJ (by decide) (gt a2)]
    simp[Int.mul_neg]
    omega,if_neg fun e=>by
    have:=gt a1 q (by rw[e]; exact List.mem_cons_self)
    omega]
  ·rw[zDO _ _ fun a _=>by
    rw[zAs (gt a2),zAs (gt a2),zBJ (by decide) (gt a1),zBJ (by decide) (gt a1)]
    simp[Int.neg_mul]
    omega,if_neg fun e=>by
    have:=gt a2 q (by rw[← e]; exact List.mem_cons_self)
    omega]
  ·have e:((allA d).map fun a=>sg q (0::a) (q::S') * sg q (0::a) (q::s')+sg q (1::a) (q::S') * sg q (1::a) (q::s'))=(allA d).map fun a=>2 * (sg (q+1) a S' * sg (q+1) a s'):=List.map_congr_left fun a _=>by
    rw[zBJ (by decide) (gt a1),zBJ (by decide) (gt a1),zBJ (by decide) (gt a2),zBJ (by decide) (gt a2)]
    simp[Int.neg_mul_neg]
    omega
   rw[e,zAv,orth d (q+1) S' s' a1 a2,Int.pow_succ]
   by_cases h:S'=s'
   ·subst h; simp; omega
   ·simp[h]
def fX(S:List Nat)(e:Nat)(a:List Nat):Bool:=decide (((S.map fun x=>a.getD x 0).sum+e) % 2=1)
theorem zOa(S:List Nat)(e:Nat)(a:List Nat):2 * gF (fX S e) a=1 - (if e % 2=0 then 1 else -1) * sg 0 a S:=by
 unfold gF fX sg
 simp only[Nat.sub_zero]
 generalize (S.map fun x=>a.getD x 0).sum=N
 have h1:N % 2=0\/N % 2=1:=by omega
 have h2:e % 2=0\/e % 2=1:=by omega
 rcases h1 with x | x <;> rcases h2 with y | y
 ·have:(N+e) % 2=0:=by omega
  simp[x,y,this]
 ·have:(N+e) % 2=1:=by omega
  simp[x,y,this]
 ·have:(N+e) % 2=1:=by omega
  simp[x,y,this]
 ·have:(N+e) % 2=0:=by omega
  simp[x,y,this]
theorem zON(q:Nat)(S:List Nat)(e:Nat)(hS:SetOk q S)(s:List Nat)(hs:SetOk q s):2 * cfI (prF q 0 (gF (fX S e))) s=2 ^ q * (2 ^ q * ((if []=s then 1 else 0) - (if e % 2=0 then 1 else -1) * (if S=s then 1 else 0))):=by
 have hS':S.Sublist (List.range' 0 q):=by rw[← List.range_eq_range']; exact hS
 have hs':s.Sublist (List.range' 0 q):=by rw[← List.range_eq_range']; exact hs
 rw[zDh q 0 _ s hs',← Int.mul_assoc,Int.mul_comm 2,Int.mul_assoc]
 congr 1
 unfold wh
 rw[← zAv]
 have o1:=orth q 0 [] s (List.nil_sublist _) hs'
 have o2:=orth q 0 S s hS' hs'
 have e1:((allA q).map fun a=>2 * (gF (fX S e) a * sg 0 a s))=(allA q).map fun a=>sg 0 a [] * sg 0 a s+-((if e % 2=0 then 1 else -1) * (sg 0 a S * sg 0 a s)):=List.map_congr_left fun a _=>by
  rw[← Int.mul_assoc,zOa,Int.sub_mul,Int.mul_assoc]
  have:sg 0 a []=1:=by simp[sg]
  rw[this]; omega
 have e2:((allA q).map fun a=>-((if e % 2=0 then (1:Int) else -1) * (sg 0 a S * sg 0 a s))).sum=-((if e % 2=0 then (1:Int) else -1) * ((allA q).map fun a=>sg 0 a S * sg 0 a s).sum):=by
  rw[← zBr]
  have:((allA q).map fun a=>-((if e % 2=0 then (1:Int) else -1) * (sg 0 a S * sg 0 a s)))=(allA q).map fun a=>(-1) * ((if e % 2=0 then (1:Int) else -1) * (sg 0 a S * sg 0 a s)):=List.map_congr_left fun a _=>by omega
  rw[this,zBr]; omega
 rw[e1,zBR,e2,o1,o2]
 generalize (2:Int) ^ q=F
 by_cases h1:[]=s <;> by_cases h2:S=s <;> by_cases h3:e % 2=0 <;> simp[h1,h2,h3] <;> omega
theorem zOA(q:Nat)(x:Int):(2 ^ q * (2 ^ q * x)) % 3=x % 3:=by
 rw[← Int.mul_assoc,← Int.mul_pow]
 induction q with
 | zero=>simp
 | succ q ih=>rw[Int.pow_succ,Int.mul_assoc,Int.mul_comm (2 * 2) x,← Int.mul_assoc]; omega
theorem zJ6(q:Nat)(S:List Nat)(e:Nat)(hS:SetOk q S)(hne:S≠[]):(marksL (prF q 0 (gF (fX S e)))).map (·.1)=[[],S]:=by
 have cf:∀ s,SetOk q s->(cfI (prF q 0 (gF (fX S e))) s % 3≠0 ↔ s=[]\/s=S):=fun s hs=>by
  have h:=zON q S e hS s hs
  have h2:(2 * cfI (prF q 0 (gF (fX S e))) s) % 3=((if []=s then 1 else 0) - (if e % 2=0 then 1 else -1) * (if S=s then 1 else 0)) % 3:=by rw[h,zOA]
  generalize cfI (prF q 0 (gF (fX S e))) s=C at *
  by_cases h3:s=[]
  ·subst h3
   have:¬ S=[]:=hne
   simp[this]at h2
   simp
   omega
  ·have h3':¬ []=s:=fun z=>h3 z.symm
   by_cases h4:S=s
   ·subst h4
    simp[h3']at h2
    simp
    by_cases h5:e % 2=0 <;> simp[h5]at h2 <;> omega
   ·have h4':¬ s=S:=fun z=>h4 z.symm
    simp[h3',h4]at h2
    simp[h3,h4']
    omega
 have inP:∀ s,cfI (prF q 0 (gF (fX S e))) s % 3≠0->s∈(prF q 0 (gF (fX S e))).map (·.1):=fun s h=>by
  apply Classical.byContradiction
  intro hn
  apply h
  rw[zCV fun p hp z=>hn (List.mem_map.mpr ⟨p,hp,z⟩)]
  rfl
 have z0:SetOk q ([]:List Nat):=List.nil_sublist _
 have main:marksL (prF q 0 (gF (fX S e)))=[([],(cfI (prF q 0 (gF (fX S e))) [] % 3).toNat),(S,(cfI (prF q 0 (gF (fX S e))) S % 3).toNat)]:=by
  refine zCP (zCn (zBg q _)).srt ?_ fun m=>?_
  ·refine List.pairwise_cons.mpr ⟨fun b hb=>?_,List.pairwise_singleton _ _⟩
   rw[List.mem_singleton.mp hb]
   cases S with
   | nil=>exact absurd rfl hne
   | cons x r=>rfl
  ·rw[zCK]
   constructor
   ·rintro ⟨h1,h2,h3⟩
    obtain⟨p,hp,hpe⟩:=List.mem_map.mp h1
    have hs:SetOk q m.1:=hpe ▸ zBg q _ p hp
    rcases (cf m.1 hs).mp h2 with z | z
    ·refine List.mem_cons.mpr (.inl (Prod.ext z ?_))
     rw[h3,z]
    ·refine List.mem_cons_of_mem _ (List.mem_singleton.mpr (Prod.ext z ?_))
     rw[h3,z]
   ·intro hm
    rcases List.mem_cons.mp hm with rfl | hm
    ·have:=(cf [] z0).mpr (.inl rfl)
     exact⟨inP _ this,this,rfl⟩
    ·rw[List.mem_singleton.mp hm]
     have:=(cf S hS).mpr (.inr rfl)
     exact⟨inP _ this,this,rfl⟩
 rw[main]
 rfl
theorem zMi{q:Nat}{s:List Nat}(h:SetOk q s):KOk s:=by
 have hs:=h.sorted
 unfold KOk
 rw[List.any_eq_false]
 intro c hc
 have hc:c=[.inl 0,.inl 2,.inl 1]\/c=[.inl 1,.inl 2,.inl 0]\/c=[.inl 2,.inl 0,.inl 1]:=by simpa [kcsT] using hc
 rw[decide_eq_true_eq]
 intro e
 have key:∀ (x y z:Nat),keyM [x,y,z]=c->keyM s=keyM [x,y,z]->(x < y/\y < z):=fun x y z _ e2=>by
  have:=zBp e2
  subst this
  simp at hs
  omega
 rcases hc with rfl | rfl | rfl
 ·have:=key 0 2 1 rfl e.symm; omega
 ·have:=key 1 2 0 rfl e.symm; omega
 ·have:=key 2 0 1 rfl e.symm; omega
abbrev smF(qs:Nat)(f:List Nat->Bool):T:=.t [iT 0,.t [],.t ((marksL (prF qs 0 (gF f))).map mkT)]
structure Ask54(p:Sy×Nat):Prop where
 pt:p.1.parts<=1000
 q0:1<=p.2
 q5:p.2<=5
 qs:p.1.qs p.2
abbrev soF(s:Sy):List Nat->Bool:=fun as=>s.so as
theorem zDi(p:Sy×Nat)(h:Ask54 p):F_13 [.v p.1.t,.v (iT (p.2:Int))]=some (.v (smF p.2 (soF p.1)),[]):=by
 obtain⟨s,q⟩:=p
 have h5:q<=5:=h.q5
 have ea:=zJ9 q (by omega)
 obtain⟨o',e1⟩:=zAc tuT (fun as=>iT (gF (soF s) as)) (de:=zC0) (R:=[some (.v s.t)]) (allA q) (fun as has=>by
  have e:=zKe (zBM q as has) s h.qs (Nat.le_trans (show s.parts<=1000 from h.pt) (by decide))
  unfold gF soF
  generalize tuT as=AS at *
  generalize s.t=ST at *
  cases hb:s.so as
  ·rw[hb]at e; simp[zC0,e]
  ·rw[hb]at e; simp[zC0,e]) none
 have e2:=zLI q zB5 0 (gF (soF s)) (Nat.lt_of_le_of_lt h5 (by decide)) h5 (by omega)
 have e2':F_1 zB5 [.v (.a (.int 0)),.r ((allA q).map fun a=>iT (gF (soF s) a))]=some (.l ((prF q 0 (gF (soF s))).map prI),[]):=e2
 have hp:2 ^ q<=32:=Nat.le_trans (Nat.pow_le_pow_right (by decide) h5) (by decide)
 have e3:=zHh (prF q 0 (gF (soF s))) (fun p hp=>zMi (zBg q _ p hp)) (by rw[zBd]; omega)
 have g0:(0:Nat)<=sizeLine:=by decide
 have g3:(3:Nat)<=sizeLine:=by decide
 have hl:((allA q).map tuT).length<=sizeLine:=by have:=zB0 (q:=q) (by omega); exact zAB (by simp; omega)
 have hl2:((allA q).map fun a=>iT (gF (soF s) a)).length<=sizeLine:=by have:=zB0 (q:=q) (by omega); exact zAB (by simp; omega)
 unfold smF
 show F_13 [.v s.t,.v (iT (q:Int))]=_
 generalize (marksL (prF q 0 (gF (soF s)))).map mkT=MM at *
 generalize (prF q 0 (gF (soF s))).map prI=PP at *
 generalize ((allA q).map fun a=>iT (gF (soF s) a))=GG at *
 generalize (allA q).map tuT=AT at *
 generalize s.t=ST at *
 unfold F_13 d_13
 generalize F_1 zB5=FP at *
 simp only[iT]at ea ⊢
 simp[fnD,ea,e1,e2',e3,gd,g0,g3,hl,hl2]
def af(c e:Int):List Nat:=(List.range 3).map fun (x:Nat)=>((c+e * (x:Int)) % 3).toNat
theorem zAr{c e c' e':Int}(h1:c % 3=c' % 3)(h2:e % 3=e' % 3):af c e=af c' e':=by
 unfold af
 refine List.map_congr_left fun x _=>?_
 have:(c+e * (x:Int)) % 3=(c'+e' * (x:Int)) % 3:=by
  rw[Int.add_emod,Int.mul_emod,h1,h2,← Int.mul_emod,← Int.add_emod]
 rw[this]
theorem zMb{c e:Int}{k:Nat}(hk:k < 3):(af c e).getD k 0=((c+e * (k:Int)) % 3).toNat:=by
 unfold af
 rw[List.getD_eq_getElem?_getD,List.getElem?_map,List.getElem?_range hk]; rfl
theorem zD6(c e c' e':Int):thenL (af c e) (af c' e')=af (c'+e' * c) (e' * e):=by
 have gen:∀ x:Nat,(af c' e').getD ((c+e * (x:Int)) % 3).toNat 0=(((c'+e' * c)+e' * e * (x:Int)) % 3).toNat:=fun x=>by
  rw[zMb (by omega),Int.toNat_of_nonneg (Int.emod_nonneg _ (by decide))]
  congr 1
  rw[Int.add_emod,Int.mul_emod,Int.emod_emod,← Int.mul_emod,← Int.add_emod]
  congr 1
  rw[Int.mul_add,← Int.mul_assoc,Int.add_assoc]
 show ((List.range 3).map _).map _=_
 rw[List.map_map]
 refine List.map_congr_left fun x _=>?_
 exact gen x
theorem zGP(as:List Nat)(bg:Nat)(fl:List Nat)(mk:List Mk):comeL as bg fl mk=af (cL as mk:Nat) (((1+bg) * sgn as fl:Nat):Int):=by
 unfold comeL af
 refine List.map_congr_left fun x _=>?_
 omega
abbrev danT(n qs:Nat)(st:List Stp):T:=.t [iT (n:Int),iT (qs:Int),.t (st.map stT)]
theorem zIJ(n:Nat)(hn:n<=5):F_17 [.v (iT (n:Int))]=some (.v (tuT (List.range n)),[]):=by
 simp[F_17,fnD,d_17,zA7 n (by omega),zB7]
theorem zIs(n:Nat)(a b:List Nat)(ha:IsT n a)(hb:IsT n b)(hn:n<=5):F_22 [.v (tuT a),.v (tuT b)]=some (.v (tuT (thenL a b)),[]):=by
 have hl:=ha.len
 obtain⟨o',e⟩:=zAc (fun (k:Nat)=>iT (k:Int)) (fun (k:Nat)=>iT (b.getD k 0:Nat)) (de:=zES) (R:=[some (.v (tuT b))]) a (fun k hk=>by
  obtain⟨m,hm,_⟩:=hb.get (ha.lt k hk)
  have:=zFN hm
  simp only[tvT,iT]at this
  simp[zES,this,hm]) none
 have g:a.length<=sizeLine:=zAB (by omega)
 simp only[tuT,tvT,iT]at e
 simp[F_22,fnD,d_22,gd,g,e,thenL]
theorem zGb(n qs:Nat)(hn:n<=5)(as:List Nat)(ha:AnsOk qs as)(d:T):∀ (st:List Stp) (c:List Nat) (o3 o4 o5:Option G),IsT n c->StOk n qs st->∃ o3' o4' o5',forD (gdTup 3 (gdCons (gdName 3) (gdCons (gdName 4) (gdCons (gdName 5) gdNil)))) zCB (st.map stT) [some (.v d),some (.v (tuT as)),some (.v (tuT c)),o3,o4,o5] =
  some (.nx [some (.v d),some (.v (tuT as)),some (.v (tuT (doneL as c st))),o3',o4',o5']):=by
 intro st
 induction st with
 | nil=>intro c o3 o4 o5 _ _; exact⟨o3,o4,o5,by simp[zAq,doneL]⟩
 | cons s r ih =>
  intro c o3 o4 o5 hc hs
  have h1:=hs s List.mem_cons_self
  have hp:=zJd (as:=as) h1
  have e2:=zIs n c (pickT as s) hc hp hn
  obtain⟨o3',o4',o5',e3⟩:=ih (thenL c (pickT as s)) (some (.v (iT (s.1:Int)))) (some (.v (tuT s.2.1))) (some (.v (tuT s.2.2))) (zIQ hc hp) (fun x hx=>hs x (List.mem_cons_of_mem _ hx))
  refine⟨o3',o4',o5',?_⟩
  have turn:zCB [some (.v d),some (.v (tuT as)),some (.v (tuT c)),some (.v (iT (s.1:Int))),some (.v (tuT s.2.1)),some (.v (tuT s.2.2))] =
    some (.nx [some (.v d),some (.v (tuT as)),some (.v (tuT (thenL c (pickT as s)))),some (.v (iT (s.1:Int))),some (.v (tuT s.2.1)),some (.v (tuT s.2.2))]):=by
   have h0:=zHA ha h1.1
   have hx:=ha.lt _ (List.mem_of_getElem? h0)
   have g2:(2:Nat)<=sizeLine:=by decide
   unfold pickT at e2 ⊢
   generalize as.getD s.1 0=x at h0 hx e2 ⊢
   have h2:=zFN h0
   match x,hx with
   | 0,_ =>
    simp only[tuT,tvT,iT]at h2 e2 ⊢
    simp at h2 e2 ⊢
    simp[zCB,h2,gd,g2,e2]
   | 1,_ =>
    simp only[tuT,tvT,iT]at h2 e2 ⊢
    simp at h2 e2 ⊢
    simp[zCB,h2,gd,g2,e2]
  rw[List.map_cons,zAw (t:=stT s) rfl turn]
  exact e3
theorem zIS(n qs:Nat)(hn:n<=5)(st:List Stp)(as:List Nat)(ha:AnsOk qs as)(hs:StOk n qs st)(hl:st.length<=5000):F_23 [.v (danT n qs st),.v (tuT as)]=some (.v (tuT (doneL as (List.range n) st)),[]):=by
 obtain⟨o3',o4',o5',e⟩:=zGb n qs hn as ha (danT n qs st) st (List.range n) none none none (zIl n) hs
 have g:st.length<=sizeLine:=zAB (by omega)
 have r2:=zB7 n
 simp only[tuT,tvT,iT,danT,stT]at e r2
 simp[F_23,fnD,d_23,zA7 n (by omega),r2,gd,g,e]
theorem zCW:∀ a c:List Nat,PyData.eqvAll (intsD a) (intsD c)=decide (a=c)
 | [],[]=>by simp[intsD,PyData.eqvAll]
 | [],y::s=>by simp[intsD,PyData.eqvAll]
 | x::r,[]=>by simp[intsD,PyData.eqvAll]
 | x::r,y::s=>by
  have:=zCW r s
  simp only[intsD,List.map_cons]at this ⊢
  rw[PyData.eqvAll,this]
  have e:PyData.eqv (.int (x:Int)) (.int (y:Int))=decide (x=y):=by
   by_cases h:x=y
   ·subst h; simp[PyData.eqv]
   ·have h':¬ (x:Int)=(y:Int):=by omega
    simp[PyData.eqv,h,h']
  rw[e]
  by_cases h:x=y <;> by_cases h2:r=s <;> simp[h,h2]
theorem zCz(Γ:En)(t:List Nat):datS Γ (.v (tuT t))=some (.tuple (intsD t)):=by
 have:=zEL t
 simp only[tvT,iT]at this
 simp[datS,toD,this]
theorem zFw(Γ:En)(a c:List Nat):neS Γ (.v (tuT a)) (.v (tuT c))=some (.v (.a (.bl (!decide (a=c))))):=by
 have e1:cmpD (fun a b=>!PyData.eqv a b) Γ (.v (tuT a)) (.v (tuT c))=some (.v (.a (.bl (!decide (a=c))))):=by
  unfold cmpD
  rw[zCz,zCz]
  simp only[Option.bind_some,PyData.canLay0,zBP,PyData.depth,zBb,PyData.eqv,zCW]
  rfl
 show ((none:Option S).or (cmpD (fun a b=>!PyData.eqv a b) Γ (.v (tuT a)) (.v (tuT c))))=_
 rw[Option.none_or,e1]
def flipS(x:Nat):Stp:=(x,[0,2,1],[0,1,2])
def markS(m:Mk):List Stp:=m.1.map flipS++[(0,af (m.2:Int) 1,af (m.2:Int) 1)]++m.1.map flipS
def danL(bg:Nat)(fl:List Nat)(mk:List Mk):List Stp:=fl.map flipS++(if bg=1 then [(0,[0,2,1],[0,2,1])] else [])++mk.flatMap markS
theorem zBC(as:List Nat):∀ (c:List Nat) (a b:List Stp),doneL as c (a++b)=doneL as (doneL as c a) b
 | _,[],_=>rfl
 | c,x::r,b=>zBC as (thenL c (pickT as x)) r b
theorem zG6:([0,2,1]:List Nat)=af 0 2:=by decide
theorem zKx:([0,1,2]:List Nat)=af 0 1:=by decide
theorem zGG{as:List Nat}(h:∀ q,as.getD q 0 < 2)(q:Nat)(r:List Nat)(c:Int):((sgn as r:Nat):Int) * ((if as.getD q 0=1 then 2 else 1) * c) % 3=((sgn as (q::r):Nat):Int) * c % 3:=by
 have h2:=h q
 have e:sumN as (q::r)=as.getD q 0+sumN as r:=by simp[sumN]
 unfold sgn
 rw[e]
 generalize sumN as r=S
 generalize as.getD q 0=x at *
 have hS:S % 2=0\/S % 2=1:=by omega
 rcases (show x=0\/x=1 by omega) with z | z <;> subst z <;> rcases hS with w | w
 ·have:(0+S) % 2=0:=by omega
  rw[this,w]; simp
 ·have:(0+S) % 2=1:=by omega
  rw[this,w]; simp
 ·have:(1+S) % 2=1:=by omega
  rw[this,w]; simp
 ·have:(1+S) % 2=0:=by omega
  rw[this,w]; simp; omega
theorem zCx{as:List Nat}(h:∀ q,as.getD q 0 < 2):∀ (s:List Nat) (c e:Int),doneL as (af c e) (s.map flipS)=af (((sgn as s:Nat):Int) * c) (((sgn as s:Nat):Int) * e)
 | [],c,e=>by
  show af c e=_
  have:sgn as []=1:=by simp[sgn,sumN]
  rw[this]; simp
 | q::r,c,e=>by
  have hp:pickT as (flipS q)=af 0 (if as.getD q 0=1 then 2 else 1):=by
   unfold pickT flipS
   dsimp only
   split
   ·rw[zG6]
   ·rw[zKx]
  show doneL as (thenL (af c e) (pickT as (flipS q))) (r.map flipS)=_
  rw[hp,zD6,Int.zero_add,zCx h r]
  exact zAr (zGG h q r c) (zGG h q r e)
theorem zJG{as:List Nat}(h:∀ q,as.getD q 0 < 2)(m:Mk)(c e:Int):doneL as (af c e) (markS m)=af (c+((m.2 * sgn as m.1:Nat):Int)) e:=by
 unfold markS
 rw[zBC,zBC,zCx h]
 have hp:pickT as ((0,af (m.2:Int) 1,af (m.2:Int) 1):Stp)=af (m.2:Int) 1:=by unfold pickT; split <;> rfl
 show doneL as (thenL (af _ _) (pickT as (0,af (m.2:Int) 1,af (m.2:Int) 1))) (m.1.map flipS)=_
 rw[hp,zD6,zCx h,Int.natCast_mul,Int.one_mul,Int.one_mul]
 have hs:sgn as m.1=1\/sgn as m.1=2:=by unfold sgn; omega
 rcases hs with z | z <;> rw[z]
 ·exact zAr (by simp; omega) (by simp)
 ·exact zAr (by simp; omega) (by simp; omega)
theorem zDk{as:List Nat}(h:∀ q,as.getD q 0 < 2):∀ (mk:List Mk) (c e:Int),doneL as (af c e) (mk.flatMap markS)=af (c+((cL as mk:Nat):Int)) e
 | [],c,e=>by show af c e=_; simp[cL]
 | m::r,c,e=>by
  rw[List.flatMap_cons,zBC,zJG h,zDk h r]
  refine zAr ?_ rfl
  have:cL as (m::r)=m.2 * sgn as m.1+cL as r:=by simp[cL]
  rw[this,Int.natCast_add]; omega
theorem zHs{as:List Nat}(h:∀ q,as.getD q 0 < 2){bg:Nat}(hb:bg < 2)(fl:List Nat)(mk:List Mk):doneL as (List.range 3) (danL bg fl mk)=comeL as bg fl mk:=by
 have e0:(List.range 3)=af 0 1:=by decide
 unfold danL
 rw[zBC,zBC,e0,zCx h,zGP]
 have e1:doneL as (af (((sgn as fl:Nat):Int) * 0) (((sgn as fl:Nat):Int) * 1)) (if bg=1 then [(0,[0,2,1],[0,2,1])] else [])=af 0 (((1+bg) * sgn as fl:Nat):Int):=by
  rcases (show bg=0\/bg=1 by omega) with z | z <;> subst z
  ·show af _ _=_
   exact zAr (by simp) (by simp)
  ·show thenL (af _ _) (pickT as (0,[0,2,1],[0,2,1]))=_
   have hp:pickT as ((0,[0,2,1],[0,2,1]):Stp)=af 0 2:=by unfold pickT; split <;> exact zG6
   rw[hp,zD6]
   exact zAr (by simp) (by simp)
 rw[e1,zDk h,Int.zero_add]
theorem zFO(bg:Nat)(hb:bg < 2)(fl:List Nat)(mk:List Mk):(danL bg fl mk).length=(mk.map fun m=>2 * m.1.length+1).sum+fl.length+bg:=by
 have e:∀ mk:List Mk,(mk.flatMap markS).length=(mk.map fun m=>2 * m.1.length+1).sum:=fun mk=>by
  induction mk with
  | nil=>rfl
  | cons m r ih=>rw[List.flatMap_cons,List.length_append,ih,List.map_cons,List.sum_cons]; simp[markS]; omega
 unfold danL
 rw[List.length_append,List.length_append,e,List.length_map]
 rcases (show bg=0\/bg=1 by omega) with z | z <;> subst z <;> simp <;> omega
theorem zJe(k:Int):IsT 3 (af k 1):=by
 have:k % 3=0\/k % 3=1\/k % 3=2:=by omega
 have e:af k 1=af (k % 3) 1:=zAr (by omega) rfl
 rw[e]
 rcases this with z | z | z <;> rw[z] <;> exact⟨by decide,by decide,by decide⟩
theorem zLk{qs:Nat}(h0:0 < qs){bg:Nat}{fl:List Nat}{mk:List Mk}(hf:SetOk qs fl)(hm:∀ p∈mk,MkOk qs p){q':Nat}(hq:qs<=q'):StOk 3 q' (danL bg fl mk):=by
 have t1:IsT 3 [0,2,1]:=⟨by decide,by decide,by decide⟩
 have t2:IsT 3 [0,1,2]:=⟨by decide,by decide,by decide⟩
 have ov:∀ s,SetOk qs s->StOk 3 q' (s.map flipS):=fun s hs x hx=>by
  obtain⟨q,hq',rfl⟩:=List.mem_map.mp hx
  exact⟨Nat.lt_of_lt_of_le (hs.lt hq') hq,t1,t2⟩
 intro x hx
 unfold danL at hx
 rcases List.mem_append.mp hx with hx | hx
 ·rcases List.mem_append.mp hx with hx | hx
  ·exact ov fl hf x hx
  ·split at hx
   ·have:=List.mem_singleton.mp hx; subst this; exact⟨by show 0 < q'; omega,t1,t1⟩
   ·exact nomatch hx
 ·obtain⟨m,hmm,hx⟩:=List.mem_flatMap.mp hx
  have hs:=(hm m hmm).1
  unfold markS at hx
  rcases List.mem_append.mp hx with hx | hx
  ·rcases List.mem_append.mp hx with hx | hx
   ·exact ov m.1 hs x hx
   ·have:=List.mem_singleton.mp hx; subst this; exact⟨by show 0 < q'; omega,zJe _,zJe _⟩
  ·exact ov m.1 hs x hx
theorem zDr(s:List Nat)(hl:s.length<=1000):F_18 [.v (tuT s)]=some (.v (.t ((s.map flipS).map stT)),[]):=by
 have e3:F_17 [.v (.a (.int 3))]=some (.v (tuT (List.range 3)),[]):=zIJ 3 (by omega)
 have g3:(3:Nat)<=sizeLine:=by decide
 have g:s.length<=sizeLine:=zAB (by omega)
 have co:zAx=tuT [0,2,1]:=rfl
 have r3:tuT (List.range 3)=tuT [0,1,2]:=rfl
 obtain⟨o',e⟩:=zAc (fun (k:Nat)=>iT (k:Int)) (fun k=>stT (flipS k)) (de:=zCt) (R:=[]) s (fun k _=>by
  rw[r3]at e3
  simp only[stT,flipS]
  generalize tuT [0,1,2]=T3 at *
  simp[zCt,e3,gd,g3,co]) none
 rw[List.map_map]
 have e':compD (gdName 0) dYes zCt (s.map fun (k:Nat)=>iT (k:Int)) [none]=some (s.map (stT ∘ flipS),[o']):=e
 generalize s.map (stT ∘ flipS)=FS at *
 simp only[tuT,tvT,iT]at e' ⊢
 simp[F_18,fnD,d_18,gd,g,e']
theorem zDM{qs:Nat}(m:Mk)(h:MkOk qs m)(hq:qs<=100):F_19 [.v (mkT m)]=some (.v (.t ((markS m).map stT)),[]):=by
 obtain⟨s,k⟩:=m
 obtain⟨h1,h2,h3⟩:=h
 have hl:s.length<=qs:=h1.len
 have e1:=zDr s (by omega)
 have tb:∃ t,(zB1.find? fun kv=>decide (kv.1=(k:Int)))=some ((k:Int),t)/\t=tuT (af (k:Int) 1):=by
  have hk:k=1\/k=2:=by have:1<=k:=h2; have:k<=2:=h3; omega
  rcases hk with z | z <;> subst z
  ·exact⟨_,rfl,by rw[show af ((1:Nat):Int) 1=[1,2,0] by decide]; rfl⟩
  ·exact⟨_,rfl,by rw[show af ((2:Nat):Int) 1=[2,0,1] by decide]; rfl⟩
 obtain⟨t,e2,e3⟩:=tb
 rw[e3]at e2
 have em:((markS (s,k)).map stT)=(s.map flipS).map stT++[.t [iT 0,tuT (af (k:Int) 1),tuT (af (k:Int) 1)]]++(s.map flipS).map stT:=by
  unfold markS; rw[List.map_append,List.map_append]; rfl
 rw[em]
 have g1:(1:Nat)<=sizeLine:=by decide
 have g3:(3:Nat)<=sizeLine:=by decide
 have hf:((s.map flipS).map stT).length=s.length:=by simp
 have g4:s.length+1<=sizeLine:=zAB (by omega)
 have g5:s.length+1+s.length<=sizeLine:=zAB (by omega)
 simp only[mkT]
 generalize (s.map flipS).map stT=FS at *
 generalize tuT (af (k:Int) 1)=TT at *
 generalize tuT s=TS at *
 simp only[iT]at e1 e2 ⊢
 simp[F_19,fnD,d_19,e1,e2,gd,g1,g3,g4,g5,hf]
theorem zDY(qs:Nat)(hq:qs<=10)(x0 x1:Option G):∀ (mk:List Mk) (st:List Stp) (o3:Option G),(∀ m∈mk,MkOk qs m)->st.length+21 * mk.length<=2000->∃ o3',forD (gdName 3) zBz (mk.map mkT) [x0,x1,some (.v (.t (st.map stT))),o3]=some (.nx [x0,x1,some (.v (.t ((st++mk.flatMap markS).map stT))),o3'])
 | [],st,o3,_,_=>⟨o3,by rw[List.map_nil,zAq,List.flatMap_nil,List.append_nil]⟩
 | m::r,st,o3,h,hl=>by
  have hm:=h m List.mem_cons_self
  have hml:=hm.1.len
  have ml:(markS m).length=2 * m.1.length+1:=by simp[markS]; omega
  obtain⟨o3',e⟩:=zDY qs hq x0 x1 r (st++markS m) (some (.v (mkT m))) (fun z hz=>h z (List.mem_cons_of_mem _ hz)) (by rw[List.length_append,ml]; simp at hl; omega)
  refine⟨o3',?_⟩
  have e1:=zDM m hm (by omega)
  have g:(st.map stT).length+((markS m).map stT).length<=sizeLine:=zAB (by rw[List.length_map,List.length_map,ml]; simp at hl; omega)
  have turn:zBz [x0,x1,some (.v (.t (st.map stT))),some (.v (mkT m))]=some (.nx [x0,x1,some (.v (.t ((st++markS m).map stT))),some (.v (mkT m))]):=by
   rw[List.map_append]
   generalize mkT m=MT at *
   generalize st.map stT=SS at *
   generalize (markS m).map stT=MS at *
   simp[zBz,e1,gd,g]
  rw[List.map_cons,zAw (by simp) turn,e,List.flatMap_cons,List.append_assoc]
theorem zGl(qs bg:Nat)(fl:List Nat)(mk:List Mk)(q':Nat)(hq:qs<=10)(hb:bg < 2)(hf:SetOk qs fl)(hm:∀ p∈mk,MkOk qs p)(hl:mk.length<=40):F_20 [.v (sumT bg fl mk),.v (iT (q':Int))]=some (.v (danT 3 q' (danL bg fl mk)),[]):=by
 have hfl:=hf.len
 have e1:=zDr fl (by omega)
 obtain⟨o3,e2⟩:=zDY qs hq (some (.v (sumT bg fl mk))) (some (.v (iT (q':Int)))) mk (fl.map flipS++(if bg=1 then [(0,[0,2,1],[0,2,1])] else [])) none hm (by rw[List.length_append,List.length_map]; split <;> simp <;> omega)
 have e2':forD (gdName 3) zBz (mk.map mkT) [some (.v (sumT bg fl mk)),some (.v (iT (q':Int))),some (.v (.t ((fl.map flipS++(if bg=1 then [(0,[0,2,1],[0,2,1])] else [])).map stT))),none]=some (.nx [some (.v (sumT bg fl mk)),some (.v (iT (q':Int))),some (.v (.t ((danL bg fl mk).map stT))),o3]):=e2
 have g1:(1:Nat)<=sizeLine:=by decide
 have g3:(3:Nat)<=sizeLine:=by decide
 have gm:mk.length<=sizeLine:=zAB (by omega)
 have gf:fl.length+1<=sizeLine:=zAB (by omega)
 have hml:(mk.map mkT).length=mk.length:=by simp
 have hfl2:((fl.map flipS).map stT).length=fl.length:=by simp
 have co:zAx=tuT [0,2,1]:=rfl
 simp only[danT,show ((3:Nat):Int)=3 from rfl]
 simp only[sumT]at e2' ⊢
 generalize (danL bg fl mk).map stT=DL at *
 rcases (show bg=0\/bg=1 by omega) with z | z <;> subst z
 ·rw[if_neg (by decide),List.append_nil]at e2'
  have c0:((0:Nat):Int)=0:=rfl
  rw[c0]at e2' ⊢
  generalize (fl.map flipS).map stT=FS at *
  generalize mk.map mkT=MM at *
  generalize tuT fl=TF at *
  simp only[iT]at e1 e2' ⊢
  simp[F_20,fnD,d_20,e1,e2',gd,g3,gm,hml]
 ·rw[if_pos rfl,List.map_append]at e2'
  have c0:((1:Nat):Int)=1:=rfl
  rw[c0]at e2' ⊢
  have es:[((0,[0,2,1],[0,2,1]):Stp)].map stT=[.t [.a (.int 0),tuT [0,2,1],tuT [0,2,1]]]:=rfl
  rw[es]at e2'
  generalize (fl.map flipS).map stT=FS at *
  generalize mk.map mkT=MM at *
  generalize tuT fl=TF at *
  rw[← co]at e2'
  simp only[iT]at e1 e2' ⊢
  simp[F_20,fnD,d_20,e1,e2',gd,g1,g3,gm,gf,hml,hfl2]
theorem zJi(p:List Nat×Int)(ps:List (List Nat×Int))(s:List Nat):cfI (p::ps) s=(if p.1=s then p.2 else 0)+cfI ps s:=by
 unfold cfI
 by_cases h:p.1=s <;> simp[h]
theorem zIT(g:List Nat->Int)(k:List Nat)(v:Int):∀ ks:List (List Nat),ks.Nodup->k∈ks->(ks.map fun s=>(if k=s then v else 0) * g s).sum=v * g k
 | [],_,h=>nomatch h
 | s::r,nd,h=>by
  obtain⟨n1,n2⟩:=List.nodup_cons.mp nd
  rw[List.map_cons,List.sum_cons]
  by_cases e:k=s
  ·subst e
   have:(r.map fun s=>(if k=s then v else 0) * g s).sum=0:=by
    have z:∀ l:List (List Nat),k∉l->(l.map fun s=>(if k=s then v else 0) * g s).sum=0:=by
     intro l
     induction l with
     | nil=>intro _; rfl
     | cons a l ih =>
      intro hn
      have hn':=List.not_mem_cons_of_ne_of_not_mem (a:=k) (y:=a) (l:=l)
      have h1:k≠a:=fun z=>hn (z ▸ List.mem_cons_self)
      have h2:k∉l:=fun z=>hn (List.mem_cons_of_mem _ z)
      rw[List.map_cons,List.sum_cons,if_neg h1,ih h2]; simp
    exact z r n1
   rw[this,if_pos rfl]; simp
  ·have hr:k∈r:=(List.mem_cons.mp h).elim (fun z=>absurd z e) id
   rw[if_neg e,zIT g k v r n2 hr]; simp
theorem zGy(f g:List Nat->Int):∀ ks:List (List Nat),(ks.map fun s=>f s+g s).sum=(ks.map f).sum+(ks.map g).sum
 | []=>rfl
 | s::r=>by simp only[List.map_cons,List.sum_cons,zGy f g r]; omega
theorem zF7(g:List Nat->Int){ks:List (List Nat)}(nd:ks.Nodup):∀ ps:List (List Nat×Int),(∀ p∈ps,p.1∈ks)->(ps.map fun p=>p.2 * g p.1).sum=(ks.map fun s=>cfI ps s * g s).sum
 | [],_=>by
  have:∀ l:List (List Nat),(l.map fun s=>cfI [] s * g s).sum=0:=fun l=>by
   induction l with
   | nil=>rfl
   | cons a l ih=>rw[List.map_cons,List.sum_cons,ih]; simp[cfI]
  rw[this]; rfl
 | p::ps,h=>by
  rw[List.map_cons,List.sum_cons,zF7 g nd ps fun q hq=>h q (List.mem_cons_of_mem _ hq),← zIT g p.1 p.2 ks nd (h p List.mem_cons_self),← zGy]
  congr 1
  refine List.map_congr_left fun s _=>?_
  rw[zJi,Int.add_mul]
theorem zKG{a b c d:Int}(h1:a % 3=c % 3)(h2:b % 3=d % 3):(a * b) % 3=(c * d) % 3:=by
 rw[Int.mul_emod,h1,h2,← Int.mul_emod]
theorem zMY(as:List Nat)(m:Mk)(r:List Mk):cL as (m::r)=m.2 * sgn as m.1+cL as r:=by simp[cL]
theorem zN9(as s:List Nat):((sgn as s:Nat):Int) % 3=sg 0 as s % 3:=by
 unfold sgn sg sumN
 simp only[Nat.sub_zero]
 generalize (s.map fun x=>as.getD x 0).sum=N
 rcases (show N % 2=0\/N % 2=1 by omega) with h | h <;> simp[h]
theorem zDV{as:List Nat}(cf:List Nat->Int):∀ ks:List (List Nat),((cL as ((ks.filter fun s=>!decide (cf s % 3=0)).map fun s=>(s,(cf s % 3).toNat)):Nat):Int) % 3=(ks.map fun s=>cf s * sg 0 as s).sum % 3
 | []=>by simp[cL]
 | s::r=>by
  have ih:=zDV (as:=as) cf r
  have hs:=zN9 as s
  rw[List.map_cons,List.sum_cons,List.filter_cons]
  by_cases e:cf s % 3=0
  ·rw[if_neg (by simp[e])]
   have:(cf s * sg 0 as s) % 3=0:=by rw[Int.mul_emod,e]; simp
   omega
  ·rw[if_pos (by simp[e]),List.map_cons,zMY]
   have h0:0<=cf s % 3:=Int.emod_nonneg _ (by decide)
   have h1:(((cf s % 3).toNat * sgn as s:Nat):Int) % 3=(cf s * sg 0 as s) % 3:=by
    rw[Int.natCast_mul,Int.toNat_of_nonneg h0]
    exact zKG (Int.emod_emod _ _) hs
   show ((((cf s % 3).toNat * sgn as s+cL as _:Nat)):Int) % 3=_
   rw[Int.natCast_add]
   omega
theorem zKC(as:List Nat)(ps:List (List Nat×Int)):((cL as (marksL ps):Nat):Int) % 3=(ps.map fun p=>p.2 * sg 0 as p.1).sum % 3:=by
 have hF:=zBj ps
 have nd:(sortL ((foldM ps).map (·.1))).Nodup:=(List.Perm.nodup_iff (zAT _)).mpr hF.nd
 have hin:∀ s,s∈sortL ((foldM ps).map (·.1)) ↔ s∈ps.map (·.1):=fun s=>by rw[(zAT _).mem_iff]; exact hF.key s
 unfold marksL
 rw[zDV (cfI ps) _]
 rw[zF7 (sg 0 as) nd ps fun p hpp=>(hin _).mpr (List.mem_map.mpr ⟨p,hpp,rfl⟩)]
theorem pow4(q:Nat)(x:Int):(4 ^ q * x) % 3=x % 3:=by
 induction q with
 | zero=>simp
 | succ q ih=>rw[Int.pow_succ,Int.mul_assoc,Int.mul_comm 4 x,← Int.mul_assoc]; omega
theorem zKW(q:Nat)(f:List Nat->Bool)(as:List Nat)(ha:AnsOk q as):comeL as 0 [] (marksL (prF q 0 (gF f)))=if f as then [1,2,0] else [0,1,2]:=by
 have h:=zKC as (prF q 0 (gF f))
 rw[zFi q 0 _ as ha,pow4]at h
 rw[zGP]
 have e1:sgn as []=1:=by simp[sgn,sumN]
 rw[e1]
 cases hf:f as
 ·have hg:gF f as=0:=by simp[gF,hf]
  rw[hg]at h
  exact (zAr (c':=0) (e':=1) h rfl).trans (by decide)
 ·have hg:gF f as=1:=by simp[gF,hf]
  rw[hg]at h
  exact (zAr (c':=1) (e':=1) h rfl).trans (by decide)
theorem zKT{a b:List Nat}(h:(a.map fun (k:Nat)=>(k:Int))=b.map fun (k:Nat)=>(k:Int)):a=b:=by
 induction a generalizing b with
 | nil=>cases b with
  | nil=>rfl
  | cons _ _=>cases h
 | cons x r ih=>cases b with
  | nil=>cases h
  | cons y s =>
   simp only[List.map_cons,List.cons.injEq]at h
   rw[show x=y by omega,ih h.2]
theorem zGQ:∀ t:List Nat,PyData.canLayAll0 (intsD t)=true
 | []=>by simp[intsD,PyData.canLayAll0]
 | k::r=>by have:=zGQ r; simp only[intsD]at this ⊢; simp[PyData.canLayAll0,PyData.canLay0,this]
theorem zCf:∀ Z:List (List Nat),PyData.canLayAll0 (Z.map fun t=>.tuple (intsD t))=true
 | []=>by simp[PyData.canLayAll0]
 | t::r=>by have:=zCf r; simp[PyData.canLayAll0,PyData.canLay0,zGQ t,this]
theorem zKd(a b:List Nat):PyData.eqv (.tuple (intsD a)) (.tuple (intsD b))=decide (a=b):=by
 have h:∀ t:List Nat,intsD t=(t.map fun (k:Nat)=>(k:Int)).map PyData.int:=fun t=>by simp[intsD]
 rw[h,h,L2.eqv_tup]
 by_cases e:a=b
 ·subst e; simp
 ·rw[decide_eq_false e,decide_eq_false fun z=>e (zKT z)]
theorem zDu:∀ Z:List (List Nat),toDs (Z.map tuT)=some (Z.map fun t=>.tuple (intsD t))
 | []=>rfl
 | t::r=>by
  have h1:=zEL t
  have e:toD (tuT t)=some (.tuple (intsD t)):=by
   simp only[tvT,iT]at h1
   simp[toD,h1]
  rw[List.map_cons,toDs,e,zDu r]
  rfl
theorem zCb:∀ Z Y:List (List Nat),PyData.eqvAll (Z.map fun t=>.tuple (intsD t)) (Y.map fun t=>.tuple (intsD t))=decide (Z=Y)
 | [],[]=>by simp[PyData.eqvAll]
 | [],_::_=>by simp[PyData.eqvAll]
 | _::_,[]=>by simp[PyData.eqvAll]
 | a::Z,b::Y=>by
  rw[List.map_cons,List.map_cons,PyData.eqvAll,zCb Z Y,zKd]
  by_cases h:a=b <;> by_cases h2:Z=Y <;> simp[h,h2]
theorem zC8:∀ Z:List (List Nat),PyData.depthAll (Z.map fun t=>.tuple (intsD t))<=1
 | []=>by simp[PyData.depthAll]
 | t::r=>by
  have:=zC8 r
  rw[List.map_cons,PyData.depthAll,PyData.depth,zBb]
  omega
theorem zC9(bg:T)(fl:List Nat)(mk:List Mk):F_15 [.v (.t [bg,tuT fl,.t (mk.map mkT)])]=some (.v (iT ((max ((mk.length+1) / 2) fl.length:Nat):Int)),[]):=by
 have c:CDiv ((mk.length:Int)+1) 2:=⟨by decide,by decide⟩
 have hm:(if ((mk.length:Int)+1) / 2 < (fl.length:Int) then (fl.length:Int) else ((mk.length:Int)+1) / 2)=((max ((mk.length+1) / 2) fl.length:Nat):Int):=by
  split <;> omega
 rw[← hm]
 have h1:(mk.map mkT).length=mk.length:=by simp
 have h2:(tvT fl).length=fl.length:=by simp
 generalize mk.map mkT=MM at *
 generalize tvT fl=FF at *
 simp[F_15,fnD,d_15,c,h1,h2]
theorem zBo:∀ (d q:Nat) (g g':List Nat->Int),(∀ a,AnsOk d a->g a=g' a)->prF d q g=prF d q g'
 | 0,q,g,g',h=>by rw[prF,prF,h [] ⟨rfl,fun x hx=>nomatch hx⟩]
 | d+1,q,g,g',h=>by
  have k:∀ x,x < 2->∀ a,AnsOk d a->g (x::a)=g' (x::a):=fun x hx a ha=>h _ ⟨by simp[ha.len],fun y hy=>(List.mem_cons.mp hy).elim (fun z=>z ▸ hx) (ha.lt y)⟩
  rw[prF,prF,zBo d (q+1) (fun a=>2 * (g (0::a)+g (1::a))) _ fun a ha=>by rw[k 0 (by decide) a ha,k 1 (by decide) a ha],
   zBo d (q+1) (fun a=>2 * (g (0::a) - g (1::a))) _ fun a ha=>by rw[k 0 (by decide) a ha,k 1 (by decide) a ha]]
abbrev twoL(p:Nat×Nat):List Nat:=[p.1,p.2]
theorem zGa(q:Nat)(gs:List (Nat×Nat))(hp:(gs.map (·.1)).Perm (List.range q)):∃ gs':List (Nat×Nat),gs'.Perm gs/\sortL (gs.map twoL)=gs'.map twoL/\gs'.map (·.1)=List.range q:=by
 have nd0:(gs.map (·.1)).Nodup:=hp.nodup_iff.mpr List.nodup_range
 have nd:(gs.map twoL).Nodup:=List.pairwise_map.mpr ((List.pairwise_map.mp nd0).imp fun h z=>h (by injection z))
 have hs:=zBe nd
 obtain⟨gs',pp,hm⟩:∃ gs':List (Nat×Nat),gs'.Perm gs/\sortL (gs.map twoL)=gs'.map twoL:=⟨_,zC7 _ _ _,by unfold sortL; exact zDE twoL _ (0,0) [] gs⟩
 refine⟨gs',pp,hm,?_⟩
 rw[hm]at hs
 have nd1:(gs'.map (·.1)).Nodup:=(pp.map (·.1)).nodup_iff.mpr nd0
 have h2:gs'.Pairwise fun a b=>a.1 < b.1:=by
  have h3:=(List.pairwise_map.mp hs).and (List.pairwise_map.mp nd1)
  refine h3.imp fun {a b} h=>?_
  obtain⟨h1,h2⟩:=h
  have:a.1 < b.1\/a.1=b.1:=by
   by_cases z:a.1=b.1
   ·exact .inr z
   ·have h1:HT.lexLt [(a.1:Int),(a.2:Int)] [(b.1:Int),(b.2:Int)]=true:=h1
    rw[HT.lexLt_cons,if_neg (by omega)]at h1
    have:(a.1:Int) < (b.1:Int):=by simpa using h1
    exact .inl (by omega)
  exact this.resolve_right h2
 exact List.Perm.eq_of_pairwise (le:=(· < ·)) (fun a b _ _ h1 h2=>absurd h1 (by omega)) (List.pairwise_map.mpr h2) List.pairwise_lt_range ((pp.map _).trans hp)
theorem zJI(as:List Nat)(p:Nat×Nat)(h1:as.getD p.1 0 < 2)(h2:p.2 < 2):(litS p).so as=decide (as.getD p.1 0=p.2):=by
 unfold litS
 rcases (show p.2=0\/p.2=1 by omega) with h | h
 ·rw[if_pos h,h]
  show (!(as.getD p.1 0 == 1))=_
  rcases (show as.getD p.1 0=0\/as.getD p.1 0=1 by omega) with z | z <;> rw[z] <;> rfl
 ·rw[if_neg (by omega),h]; rfl
theorem zKD(as:List Nat):(List.range as.length).map (fun k=>as.getD k 0)=as:=by
 refine List.ext_getElem (by simp) fun i h1 h2=>?_
 simp at h1
 simp[h1]
theorem zL1{q:Nat}{as:List Nat}(ha:AnsOk q as){gs gs':List (Nat×Nat)}(hp:gs'.Perm gs)(hr:gs'.map (·.1)=List.range q)(h2:∀ p∈gs,p.2 < 2):((gs.map litS).all fun x=>x.so as)=decide (as=gs'.map (·.2)):=by
 have ea:gs'.map (fun p=>as.getD p.1 0)=as:=by
  have:=zKD as
  rw[ha.len,← hr,List.map_map]at this
  exact this
 have h3:∀ p∈gs,(litS p).so as=decide (as.getD p.1 0=p.2):=fun p h=>zJI as p (AnsGe.two (zFp ha) _) (h2 p h)
 rw[Bool.eq_iff_iff,List.all_eq_true,decide_eq_true_eq]
 constructor
 ·intro h
  refine ea.symm.trans (List.map_congr_left fun p hpp=>?_)
  have hg:=hp.mem_iff.mp hpp
  have:=h _ (List.mem_map.mpr ⟨p,hg,rfl⟩)
  rw[h3 p hg]at this
  exact of_decide_eq_true this
 ·intro h x hx
  obtain⟨p,hg,rfl⟩:=List.mem_map.mp hx
  rw[h3 p hg,decide_eq_true_eq]
  have h4:gs'.map (fun p=>as.getD p.1 0)=gs'.map (·.2):=ea.trans h
  exact List.map_inj_left.mp h4 p (hp.mem_iff.mpr hg)
theorem zDy(Γ:En)(Z:List (List Nat)):neS Γ (.l (Z.map tuT)) (.l (Z.map tuT))=some (.v (.a (.bl false))):=by
 have dt:datS Γ (.l (Z.map tuT))=some (.list (Z.map fun t=>.tuple (intsD t))):=by
  have:=zDu Z
  generalize Z.map tuT=ZT at *
  simp[datS,sqlOf,this]
 have e1:cmpD (fun a b=>!PyData.eqv a b) Γ (.l (Z.map tuT)) (.l (Z.map tuT))=some (.v (.a (.bl false))):=by
  unfold cmpD
  rw[dt,Option.bind_some,Option.bind_some,if_pos ⟨by simp only[PyData.canLay0]; exact zCf Z,by simp only[PyData.canLay0]; exact zCf Z,Nat.le_trans (Nat.min_le_left _ _) (by simp only[PyData.depth]; have:=zC8 Z; omega)⟩]
  simp only[PyData.eqv,zCb]
  simp[mkB]
 show ((none:Option S).or (cmpD (fun a b=>!PyData.eqv a b) Γ (.l (Z.map tuT)) (.l (Z.map tuT))))=_
 rw[Option.none_or,e1]
theorem zDR(Γ:En):neS Γ (.v (.t [.a (.int 0),.t []])) (.v (.t [.a (.int 0),.t []]))=some (.v (.a (.bl false))):=rfl
theorem zEg(mk:List Mk){de:DE}(hd:∀ x y R,de (some (.v x)::some (.v y)::R)=some (.v x,some (.v x)::some (.v y)::R)):∃ r1 r2,compD (gdTup 2 (gdCons (gdName 0) (gdCons (gdName 1) gdNil))) dYes de (mk.map mkT) [none,none]=some ((mk.map (·.1)).map tuT,[r1,r2]):=by
 obtain⟨r1,r2,e⟩:=zBv (fun m:Mk=>tuT m.1) (fun m=>iT (m.2:Int)) (fun m=>tuT m.1) (de:=de) (R:=[]) mk (fun m _=>hd _ _ _) none none
 exact⟨r1,r2,by rw[List.map_map]; exact e⟩
theorem zIh(Γ:En)(a c:List Nat):eqS Γ (.v (tuT a)) (.v (tuT c))=some (.v (.a (.bl (decide (a=c))))):=by
 have e1:cmpD PyData.eqv Γ (.v (tuT a)) (.v (tuT c))=some (.v (.a (.bl (decide (a=c))))):=by
  unfold cmpD
  rw[zCz,zCz,Option.bind_some,Option.bind_some,if_pos ⟨by simp only[PyData.canLay0,zBP],by simp only[PyData.canLay0,zBP],by simp only[PyData.depth,zBb]; decide⟩]
  simp only[PyData.eqv,zCW]
  rfl
 show ((none:Option S).or (cmpD PyData.eqv Γ (.v (tuT a)) (.v (tuT c))))=_
 rw[Option.none_or,e1]
theorem Tr.len{J:Sy->Sy->Sy}{row:List Sy}{s:Sy}(hJ:∀ a b,(J a b).parts=1+a.parts+b.parts)(h:Tr J row s)(hr:∀ x∈row,x.parts<=2)(h5:row.length<=5):s.parts<=1000:=by
 have:=Tr.sum (f:=Sy.parts) (fun a b=>by rw[hJ]; omega) h
 have k:∀ l:List Sy,(∀ x∈l,x.parts<=2)->(l.map fun x=>x.parts+1).sum<=3 * l.length:=fun l=>by
  induction l with
  | nil=>intro _; simp
  | cons x r ih =>
   intro h
   have h1:=h x List.mem_cons_self
   have h2:=ih fun y hy=>h y (List.mem_cons_of_mem _ hy)
   rw[List.map_cons,List.sum_cons,List.length_cons]; omega
 have:=k row hr
 omega
theorem zJc(p:Nat×Nat):(litS p).parts<=2:=by unfold litS; split <;> simp[Sy.parts]
theorem zNu{q:Nat}(p:Nat×Nat)(h:p.1 < q):(litS p).qs q:=by unfold litS; split <;> exact h
theorem zF2(gs:List (Nat×Nat)){de:DE}(hd:∀ x y z:T,de [some (.v (.t [x,y,z]))]=some (.v x,[some (.v (.t [x,y,z]))])):∃ o,compD (gdName 0) dYes de (gs.map litT) [none]=some ((gs.map litS).map Sy.t,[o]):=by
 obtain⟨o,e⟩:=zAc litT (fun p=>(litS p).t) (de:=de) (R:=[]) gs (fun p _=>hd _ _ _) none
 exact⟨o,by rw[List.map_map]; exact e⟩
theorem zIr{J:Sy->Sy->Sy}{q:Nat}(h0:1<=q)(h5:q<=5){gs:List (Nat×Nat)}{ls:List Nat}(hp:(gs.map (·.1)).Perm ls)(hl:∀ x∈ls,x < q)(hls:ls.length<=5){s:Sy}(ht:Tr J (gs.map litS) s)(hJ:∀ a b,(J a b).parts=1+a.parts+b.parts)(hq:∀ a b,a.qs q->b.qs q->(J a b).qs q):Ask54 (s,q) where
 pt:=Tr.len hJ ht (fun x hx=>by obtain⟨p,_,rfl⟩:=List.mem_map.mp hx; exact zJc p) (by have:=hp.length_eq; rw[List.length_map]at this ⊢; omega)
 q0:=h0
 q5:=h5
 qs:=Tr.all hq ht fun x hx=>by
  obtain⟨p,hpp,rfl⟩:=List.mem_map.mp hx
  exact zNu p (hl _ (hp.mem_iff.mp (List.mem_map.mpr ⟨p,hpp,rfl⟩)))
theorem zIp{q:Nat}(h0:1<=q)(h5:q<=5):((2:Int) ^ q+1) / 2=((2 ^ q+1) / 2:Nat)/\2 ^ q<=32/\2<=2 ^ q/\CPow 1 (q:Int):=by
 rcases (show q=1\/q=2\/q=3\/q=4\/q=5 by omega) with rfl | rfl | rfl | rfl | rfl <;> exact⟨by decide,by decide,by decide,⟨by decide,by decide,by decide⟩⟩
theorem zGL(q:Nat)(hq:q<=5)(st:List Stp)(due:List Nat)(so1:StOk 3 q st)(hl:st.length<=5000)(hd:∀ as,AnsOk q as->doneL as (List.range 3) st=if decide (as=due) then [1,2,0] else [0,1,2])(x0 x1 x2 x3 x4:Option G):∀ (L:List (List Nat)) (o7:Option G),(∀ a∈L,AnsOk q a)->∃ o7',forD (gdName 7) zB4 (L.map tuT) [x0,x1,x2,x3,x4,some (.v (danT 3 q st)),some (.v (tuT due)),o7]=some (.nx [x0,x1,x2,x3,x4,some (.v (danT 3 q st)),some (.v (tuT due)),o7'])
 | [],o7,_=>⟨o7,by rw[List.map_nil,zAq]⟩
 | a::r,o7,h=>by
  obtain⟨o7',e⟩:=zGL q hq st due so1 hl hd x0 x1 x2 x3 x4 r (some (.v (tuT a))) fun z hz=>h z (List.mem_cons_of_mem _ hz)
  refine⟨o7',?_⟩
  have ha:=h a List.mem_cons_self
  have f1:=zIS 3 q (by omega) st a ha so1 hl
  rw[hd a ha]at f1
  have f2:=fun Γ=>zIh Γ a due
  have g2:(2:Nat)<=sizeLine:=by decide
  have g3:(3:Nat)<=sizeLine:=by decide
  have n1:=fun Γ=>zFw Γ [1,2,0] [1,2,0]
  have n0:=fun Γ=>zFw Γ [0,1,2] [0,1,2]
  have t1:tuT [1,2,0]=.t [.a (.int 1),.a (.int 2),.a (.int 0)]:=rfl
  have t0:tuT [0,1,2]=.t [.a (.int 0),.a (.int 1),.a (.int 2)]:=rfl
  have turn:zB4 [x0,x1,x2,x3,x4,some (.v (danT 3 q st)),some (.v (tuT due)),some (.v (tuT a))]=some (.nx [x0,x1,x2,x3,x4,some (.v (danT 3 q st)),some (.v (tuT due)),some (.v (tuT a))]):=by
   generalize danT 3 q st=DV at *
   generalize decide (a=due)=b at *
   generalize tuT due=DU at *
   generalize tuT a=AV at *
   rw[t1]at n1
   rw[t0]at n0
   cases b
   ·rw[if_neg (by decide),t0]at f1
    simp[zB4,f1,f2,gd,g2,g3,n0,atI,ixN]
   ·rw[if_pos rfl,t1]at f1
    simp[zB4,f1,f2,gd,g2,g3,n1,atI,ixN]
  rw[List.map_cons,zAw (by simp) turn]
  exact e
theorem zKJ(mk:List Mk):(danL 0 [] mk).length ≥ mk.length:=by
 rw[zFO 0 (by decide)]
 have:∀ l:List Mk,l.length<=(l.map fun m=>2 * m.1.length+1).sum:=fun l=>by
  induction l with
  | nil=>simp
  | cons x r ih=>rw[List.map_cons,List.sum_cons,List.length_cons]; omega
 have:=this mk
 omega
theorem zKk{qs:Nat}(hq:qs<=5)(mk:List Mk)(hm:∀ p∈mk,MkOk qs p):(danL 0 [] mk).length<=11 * mk.length:=by
 rw[zFO 0 (by decide)]
 have:∀ l:List Mk,(∀ p∈l,MkOk qs p)->(l.map fun m=>2 * m.1.length+1).sum<=11 * l.length:=fun l hl=>by
  induction l with
  | nil=>simp
  | cons m r ih =>
   have h1:=ih fun p hp=>hl p (List.mem_cons_of_mem _ hp)
   have h2:=(hl m List.mem_cons_self).1.len
   rw[List.map_cons,List.sum_cons,List.length_cons]; omega
 have:=this mk hm
 simp; omega
theorem zFe(a b:Int)(q:Nat)(h0:1<=q)(h5:q<=5):∃ a' b',F_25 [.l [iT a,iT b],.v (iT (q:Int))]=some (.v (.a (.bl true)),[iT a',iT b']):=by
 obtain⟨gs,a1,b1,hp,h2,e1⟩:=zDC a b (List.range q) (by simp; omega)
 have gl:gs.length=q:=by have:=hp.length_eq; simpa using this
 obtain⟨o1,c1⟩:=zF2 gs (de:=zEG) (fun x y z=>by simp[zEG,atI,ixN])
 obtain⟨s,a2,b2,ht,e2⟩:=zG5 .an "and" (fun _ _=>rfl) (gs.map litS) (by rw[List.length_map]; omega) (by rw[List.length_map]; omega) a1 b1
 have hA:=zIr h0 h5 hp (fun x hx=>List.mem_range.mp hx) (by simp; omega) ht (fun _ _=>rfl) (fun _ _ x y=>⟨x,y⟩)
 have e3:=zDi (s,q) hA
 obtain⟨gs',hp',hsr,hfr⟩:=zGa q gs hp
 have hso:∀ as,AnsOk q as->s.so as=decide (as=gs'.map (·.2)):=fun as ha=>by rw[Tr.and ht,zL1 ha hp' hfr h2]
 have hpr:prF q 0 (gF (soF s))=prF q 0 (gF fun as=>decide (as=gs'.map (·.2))):=zBo q 0 _ _ fun as ha=>by unfold gF soF; rw[hso as ha]
 have hdue:AnsOk q (gs'.map (·.2)):=⟨by have:=hp'.length_eq; rw[List.length_map]; omega,fun x hx=>by obtain⟨p,hpp,rfl⟩:=List.mem_map.mp hx; exact h2 p (hp'.mem_iff.mp hpp)⟩
 have hm:=zJL q h5 _ hdue
 have hwf:=(zCn (zBg q (gF fun as=>decide (as=gs'.map (·.2))))).ok
 have hmf:=fun as ha=>zKW q (fun as=>decide (as=gs'.map (·.2))) as ha
 have e3':F_13 [.v s.t,.v (iT (q:Int))]=some (.v (.t [iT 0,.t [],.t ((marksL (prF q 0 (gF fun as=>decide (as=gs'.map (·.2))))).map mkT)]),[]):=by rw[← hpr]; exact e3
 clear e3 hpr
 generalize marksL (prF q 0 (gF fun as=>decide (as=gs'.map (·.2))))=mk at *
 have hml:mk.length=2 ^ q:=by
  have:=congrArg List.length hm
  rw[List.length_map,(zAT _).length_eq,zBW]at this
  exact this
 obtain⟨p1,p2,p3,p4⟩:=zIp h0 h5
 have ed:=zGl q 0 [] mk q (by omega) (by decide) (List.nil_sublist _) hwf (by omega)
 have so1:=zLk (bg:=0) (fl:=[]) (show 0 < q by omega) (List.nil_sublist _) hwf (Nat.le_refl q)
 have dl1:=zKJ mk
 have dl2:=zKk h5 mk hwf
 obtain⟨o7,el⟩:=zGL q h5 (danL 0 [] mk) (gs'.map (·.2)) so1 (by omega) (fun as ha=>by rw[zHs (AnsGe.two (zFp ha)) (by decide)]; exact hmf as ha) (some (.l [iT a2,iT b2])) (some (.v (iT (q:Int)))) (some (.l (gs.map litT))) (some (.v (.t [iT 0,.t [],.t (mk.map mkT)]))) (some (.v (iT (((2 ^ q+1) / 2:Nat):Int)))) (allA q) none (zBM q)
 have ea:=zD7 q (by omega)
 have eal:=zC9 (iT 0) [] mk
 rw[hml,show max ((2 ^ q+1) / 2) ([]:List Nat).length=(2 ^ q+1) / 2 by simp]at eal
 have al:=alike12 (iT (((2 ^ q+1) / 2:Nat):Int)) (Pl.int _)
 obtain⟨r1,r2,c2⟩:=zEg mk (de:=zGq) (fun x y R=>rfl)
 have es:=zMr q h5
 have sr:=zDN (setsL q) (by rw[zBW]; omega)
 rw[← hm]at sr
 have n1:=fun Γ=>zDy Γ (mk.map (·.1))
 obtain⟨o2,c3⟩:=zAc litT (fun p=>tuT (twoL p)) (de:=zCv) (R:=[]) gs (fun p _=>by
  have cc:cutT [(litS p).t,iT (p.1:Int),iT (p.2:Int)] (some 1) none=[iT (p.1:Int),iT (p.2:Int)]:=zCT _ 1
  simp only[litT,iT]at cc ⊢
  generalize (litS p).t=LS at *
  simp[zCv,cc,gd]) none
 have sr2:=zDN (gs.map twoL) (by rw[List.length_map]; omega)
 rw[hsr]at sr2
 obtain⟨r3,r4,c4⟩:=zBv (fun p:Nat×Nat=>iT (p.1:Int)) (fun p=>iT (p.2:Int)) (fun p=>iT (p.2:Int)) (de:=zEO) (R:=[]) gs' (fun p _=>rfl) none none
 have c4':compD (gdTup 2 (gdCons (gdName 0) (gdCons (gdName 1) gdNil))) dYes zEO ((gs'.map twoL).map tuT) [none,none]=some (tvT (gs'.map (·.2)),[r3,r4]):=by
  rw[List.map_map,tvT,List.map_map]
  exact c4
 have c3:compD (gdName 0) dYes zCv (gs.map litT) [none]=some ((gs.map twoL).map tuT,[o2]):=by rw[List.map_map]; exact c3
 refine⟨a2,b2,?_⟩
 have g2:(2:Nat)<=sizeLine:=by decide
 have gm:mk.length<=sizeLine:=zAB (by omega)
 have hmm:(mk.map mkT).length=mk.length:=by simp
 have gg:(gs.map litT).length<=sizeLine:=zAB (by simp; omega)
 have gr:q<=sizeLine:=zAB (by omega)
 have gs1:((setsL q).map tuT).length<=sizeLine:=zAB (by simp[zBW]; omega)
 have gs2:((mk.map (·.1)).map tuT).length<=sizeLine:=zAB (by simp; omega)
 have gs3:((gs.map litS).map Sy.t).length<=sizeLine:=zAB (by simp; omega)
 have gs4:((gs.map twoL).map tuT).length<=sizeLine:=zAB (by simp; omega)
 have gs5:((gs'.map twoL).map tuT).length<=sizeLine:=zAB (by have:=hp'.length_eq; simp; omega)
 have gs6:(tvT (gs'.map (·.2))).length<=sizeLine:=zAB (by have:=hp'.length_eq; simp; omega)
 have gs7:((allA q).map tuT).length<=sizeLine:=zAB (by have:=zB0 (q:=q) (by omega); simp; omega)
 have dlt:¬ (((danL 0 [] mk).length:Int) < (((2 ^ q+1) / 2:Nat):Int)):=by omega
 have hdl:((danL 0 [] mk).map stT).length=(danL 0 [] mk).length:=by simp
 have r2':=zB7 q
 have rn:=zA7 q (by omega)
 have rl:(tvT (List.range q)).length=q:=by simp
 have hd0:cutT [iT 0,.t [],.t (mk.map mkT)] none (some 2)=[iT 0,.t []]:=zCH _ 2
 have nh:=zDR
 have cd:CDiv ((2:Int) ^ q+1) 2:=⟨by decide,by decide⟩
 have f0:tuT ([]:List Nat)=.t []:=rfl
 have du:tuT (gs'.map (·.2))=.t (tvT (gs'.map (·.2))):=rfl
 simp only[sumT,danT]at ed
 simp only[danT,du]at el
 rw[f0]at ed eal
 rw[show ((0:Nat):Int)=0 from rfl,show ((3:Nat):Int)=3 from rfl]at ed
 rw[show ((3:Nat):Int)=3 from rfl]at el
 generalize (gs'.map (·.2))=due at *
 generalize tvT due=DU at *
 generalize (danL 0 [] mk).map stT=DL at *
 generalize (allA q).map tuT=AA at *
 generalize (gs.map twoL).map tuT=GT at *
 generalize (gs'.map twoL).map tuT=GT' at *
 generalize (gs.map litS).map Sy.t=LS at *
 generalize gs.map litT=LT at *
 generalize (setsL q).map tuT=ST at *
 generalize (mk.map (·.1)).map tuT=MT at *
 generalize mk.map mkT=MM at *
 generalize (2 ^ q+1) / 2=LE at *
 generalize tvT (List.range q)=RQ at *
 generalize s.t=SS at *
 simp only[iT]at *
 have nh':=fun Γ=>zDR Γ
 simp[F_25,fnD,d_25,rn,r2',rl,e1,c1,e2,e3',c2,es,sr,n1,hd0,nh',p4,p1,cd,ed,eal,al,hdl,dlt,c3,sr2,c4',ea,el,gd,g2,gm,hmm,gg,gr,gs1,gs2,gs3,gs4,gs5,gs6,gs7]
theorem zKX{q:Nat}{as:List Nat}(ha:AnsOk q as)(gs:List (Nat×Nat))(h2:∀ p∈gs,p.2 < 2):(((gs.map litS).map fun x=>if x.so as then 1 else 0).sum) % 2=((gs.map fun p=>as.getD p.1 0).sum+(gs.map fun p=>1 - p.2).sum) % 2:=by
 induction gs with
 | nil=>rfl
 | cons p r ih =>
  have i:=ih fun z hz=>h2 z (List.mem_cons_of_mem _ hz)
  have hp:=h2 p List.mem_cons_self
  have hx:=AnsGe.two (zFp ha) p.1
  have e:(if (litS p).so as then 1 else 0) % 2=(as.getD p.1 0+(1 - p.2)) % 2:=by
   rw[zJI as p hx hp]
   generalize as.getD p.1 0=x at *
   rcases (show x=0\/x=1 by omega) with z | z <;> rcases (show p.2=0\/p.2=1 by omega) with y | y <;> rw[z,y] <;> decide
  simp only[List.map_cons,List.sum_cons]at i ⊢
  omega
theorem zDd(a b:Int)(q:Nat)(h0:1<=q)(h5:q<=5):∃ a' b',F_16 [.l [iT a,iT b],.v (iT (q:Int))]=some (.v (.a (.bl true)),[iT a',iT b']):=by
 obtain⟨S0,o0,a0,b0,hS0,e0⟩:=zEt (dc:=zC1) (de:=zEK) (fun k a b=>by
  obtain⟨x,a',b',hx,e⟩:=zA8 a b 3 (by decide) (by decide)
  have e':F_3 [.l [iT a,iT b],.v (.a (.int 3))]=some (.v (iT (x:Int)),[iT a',iT b']):=e
  refine⟨decide ((0:Int) < (x:Int)),a',b',?_⟩
  simp only[iT]at e' ⊢
  simp[zC1,e']) (fun k a b=>rfl) (List.range q) none a b
 obtain⟨S,a1,b1,hS,hne,e1⟩:∃ (S:List Nat) (a1 b1:Int),SetOk q S/\S≠[]/\((tvT S0≠[]/\tvT S0=tvT S/\a0=a1/\b0=b1)\/(tvT S0=[]/\∃ x:Int,tvT S=[iT x]/\F_3 [.l [iT a0,iT b0],.v (iT (q:Int))]=some (.v (iT x),[iT a1,iT b1]))):=by
  by_cases h:S0=[]
  ·subst h
   obtain⟨x,a',b',hx,e⟩:=zA8 a0 b0 q (by omega) (by omega)
   exact⟨[x],a',b',List.singleton_sublist.mpr (List.mem_range.mpr hx),by simp,.inr ⟨rfl,x,rfl,e⟩⟩
  ·exact⟨S0,a0,b0,hS0,h,.inl ⟨by simp[h],rfl,rfl,rfl⟩⟩
 have hSl:=hS.len
 obtain⟨gs,a2,b2,hp,h2,e2⟩:=zDC a1 b1 S (by omega)
 have gl:gs.length=S.length:=by have:=hp.length_eq; simpa using this
 have g0:0 < S.length:=List.length_pos_iff.mpr hne
 obtain⟨o1,c1⟩:=zF2 gs (de:=zEA) (fun x y z=>by simp[zEA,atI,ixN])
 obtain⟨s,a3,b3,ht,e3⟩:=zG5 .ei "either" (fun _ _=>rfl) (gs.map litS) (by rw[List.length_map]; omega) (by rw[List.length_map]; omega) a2 b2
 have hA:=zIr h0 h5 hp (fun x hx=>hS.lt hx) (by omega) ht (fun _ _=>rfl) (fun _ _ x y=>⟨x,y⟩)
 have e4:=zDi (s,q) hA
 have hso:∀ as,AnsOk q as->s.so as=fX S (gs.map fun p=>1 - p.2).sum as:=fun as ha=>by
  rw[Tr.xor ht]
  unfold fX
  have pe:=((hp.map fun x=>as.getD x 0).sum_nat)
  rw[List.map_map]at pe
  rw[zKX ha gs h2,← pe]
  rfl
 have hpr:prF q 0 (gF (soF s))=prF q 0 (gF (fX S (gs.map fun p=>1 - p.2).sum)):=zBo q 0 _ _ fun as ha=>by unfold gF soF; rw[hso as ha]
 have hm:=zJ6 q S (gs.map fun p=>1 - p.2).sum hS hne
 have e4':F_13 [.v s.t,.v (iT (q:Int))]=some (.v (.t [iT 0,.t [],.t ((marksL (prF q 0 (gF (fX S (gs.map fun p=>1 - p.2).sum)))).map mkT)]),[]):=by rw[← hpr]; exact e4
 clear e4 hpr
 generalize marksL (prF q 0 (gF (fX S (gs.map fun p=>1 - p.2).sum)))=mk at *
 have hml:mk.length=2:=by have:=congrArg List.length hm; simpa using this
 have eal:=zC9 (iT 0) [] mk
 rw[hml]at eal
 have al:=alike12 (iT 1) (Pl.int _)
 obtain⟨r1,r2,c2⟩:=zEg mk (de:=zHC) (fun x y R=>rfl)
 have n1:=fun Γ=>zDy Γ (mk.map (·.1))
 rw[hm]at c2 n1
 refine⟨a3,b3,?_⟩
 have g2:(2:Nat)<=sizeLine:=by decide
 have gm:(mk.map mkT).length<=sizeLine:=zAB (by simp; omega)
 have gg:(gs.map litT).length<=sizeLine:=zAB (by simp; omega)
 have gs3:((gs.map litS).map Sy.t).length<=sizeLine:=zAB (by simp; omega)
 have gs4:(tvT S).length<=sizeLine:=zAB (by simp; omega)
 have r2':=zB7 q
 have rn:=zA7 q (by omega)
 have hd0:cutT [iT 0,.t [],.t (mk.map mkT)] none (some 2)=[iT 0,.t []]:=zCH _ 2
 have t2:([[],S].map tuT)=[.t [],.t (tvT S)]:=rfl
 have f0:tuT ([]:List Nat)=.t []:=rfl
 rw[f0]at eal
 rw[t2]at c2 n1
 have e0:compD (gdName 0) zC1 zEK (tvT (List.range q)) [none,some (.l [iT a,iT b])]=some (tvT S0,[o0,some (.l [iT a0,iT b0])]):=e0
 generalize (gs.map litS).map Sy.t=LS at *
 generalize gs.map litT=LT at *
 generalize mk.map mkT=MM at *
 generalize tvT (List.range q)=RQ at *
 generalize tvT S0=TS0 at *
 generalize tvT S=TS at *
 generalize s.t=SS at *
 have eal:F_15 [.v (.t [iT 0,.t [],.t MM])]=some (.v (iT 1),[]):=eal
 have nh':=fun Γ=>zDR Γ
 simp only[iT]at *
 have g1:(1:Nat)<=sizeLine:=by decide
 rcases e1 with ⟨h1,rfl,rfl,rfl⟩ | ⟨rfl,x,rfl,ex⟩
 ·simp[F_16,d_16,fnD,rn,r2',e0,h1,e2,c1,e3,e4',c2,n1,hd0,nh',eal,al,gd,g2,gm,gg,gs3,gs4]
 ·simp[F_16,d_16,fnD,rn,r2',e0,ex,e2,c1,e3,e4',c2,n1,hd0,nh',eal,al,gd,g1,g2,gm,gg,gs3]
theorem law_true(ns:List Int)(hns:ns.length<=63):zCS [.k (intsT ns)]=some (.v (.a (.bl true)),[]):=by
 obtain⟨a,b,e0⟩:=zIe ns 0 (by omega) (by omega)
 obtain⟨x,a1,b1,hx,e1⟩:=zA8 a b 5 (by decide) (by decide)
 obtain⟨a2,b2,e2⟩:=zFe a1 b1 (1+x) (by omega) (by omega)
 obtain⟨c,d,f0⟩:=zIe ns 1 (by omega) (by omega)
 obtain⟨y,c1,d1,hy,f1⟩:=zA8 c d 5 (by decide) (by decide)
 obtain⟨c2,d2,f2⟩:=zDd c1 d1 (1+y) (by omega) (by omega)
 rw[show ((1+x:Nat):Int)=1+(x:Int) by omega]at e2
 rw[show ((1+y:Nat):Int)=1+(y:Int) by omega]at f2
 rw[show ((5:Nat):Int)=5 from rfl]at e1 f1
 simp only[iT]at *
 simp[zCS,fnD,zLS,e0,e1,e2,f0,f1,f2]
structure Wr(K:PySem.W.Frag)(x:Str)(st:Stmt)(f:Addr):Prop where
 a:nsIn K mainGlobals x=some (some (.ref f))
 F:∃ fd,Fun K x x st f fd
theorem wr_mk{K:PySem.W.Frag}{x:Str}{st:Stmt}{f:Addr}{oc:Value}{od an:Option Addr}{osl:Array (Option Value)}{kV doc pm cdv ct:Value}(a:nsIn K mainGlobals x=some (some (.ref f)))(l:K.lookup f=some ⟨oc,od,.func (fnOf x x (defArgs st) (defBody st) (defScope st) .none kV doc pm an cdv ct),osl⟩)
  (c:PySem.W.codeIn K cdv x=true) (k:PySem.W.keepIn K (.ref f)=true):Wr K x st f:=⟨a,_,zFR l c k⟩
theorem tab_mk{K:PySem.W.Frag}{x:Str}{f c0 P0:Addr}{oc oc2 kV doc pm ct:Value}{od od2 an:Option Addr}{osl osl2:Array (Option Value)}{ps:Arguments}{b:List Stmt}{sc:Scope}{vs:Array Value}(a:nsIn K mainGlobals x=some (some (.ref f)))(l:K.lookup f=some ⟨oc,od,.func (fnOf x x ps b sc .none kV doc pm an (.ref c0) ct),osl⟩)(c:K.lookup c0=some ⟨oc2,od2,.fields vs,osl2⟩)(v:vs[11]?=some (.ref P0)):PySem.W.tabIn K x=some (c0,P0):=by
 unfold PySem.W.tabIn
 simp only[a,l,c,v,fnOf]
local macro_rules | `(tactic| walk_at "b") => `(tactic| (intro _ _ _ _ _ _ us hl; first|(obtain⟨_,h⟩:=len1 hl; subst h; exact rfl)|(obtain⟨_,_,h⟩:=len2 hl; subst h; exact rfl)|(obtain⟨_,_,_,h⟩:=len3 hl; subst h; exact rfl)))
theorem all_mk{l:PySem.W.OpenLaw}{w:World}{K:PySem.W.Frag}{h:Heap}{mg:Str->Option Value}{fa:Addr}(X:K.In h)(G:h.Ns mainGlobals mg)(hfa:mg "law"=some (.ref fa))
  {f1:Addr} (w1:Wr K "_law_box" st_2 f1)
  {f2:Addr} (w2:Wr K "_law_take" st_3 f2)
  {f3:Addr} (w3:Wr K "_law_literals" st_4 f3)
  {f4:Addr} (w4:Wr K "marks_of" st_5 f4)
  {f5:Addr} (w5:Wr K "inner" st_6 f5)
  {f6:Addr} (w6:Wr K "all_within" st_7 f6)
  {f7:Addr} (w7:Wr K "so_by" st_8 f7)
  {f8:Addr} (w8:Wr K "fold_within" zHW f8)
  {f9:Addr} (w9:Wr K "folded" zIM f9)
  {f10:Addr} {od10 an10:Option Addr} {sl10:Array (Option Value)} {oc10 kV10 dc10 pm10 cd10 ct10:Value}
  (a10:nsIn K mainGlobals "is_so"=some (some (.ref f10))) (l10:K.lookup f10=some ⟨oc10,od10,.func (fnOf "is_so" "is_so" (defArgs st_9) (defBody st_9) (defScope st_9) .none kV10 dc10 pm10 an10 cd10 ct10),sl10⟩) (c10:PySem.W.codeIn K cd10 "is_so"=true) (k10:PySem.W.keepIn K (.ref f10)=true)
  {f11:Addr} (w11:Wr K "all_answers" zH8 f11)
  {f12:Addr} (w12:Wr K "pairs_from" st_1 f12)
  {f13:Addr} (w13:Wr K "sums_of_saying" zIN f13)
  {f14:Addr} (w14:Wr K "_law_alike" st_0 f14)
  {f15:Addr} (w15:Wr K "_law_tree" zHq f15)
  {f16:Addr} (w16:Wr K "at_least" zIK f16)
  {f17:Addr} (w17:Wr K "_law_either_right" zHx f17)
  {f18:Addr} (w18:Wr K "still" zH4 f18)
  {f19:Addr} (w19:Wr K "over_by" zIL f19)
  {f20:Addr} (w20:Wr K "steps_of_mark" zH6 f20)
  {f21:Addr} (w21:Wr K "dance_of" zHZ f21)
  {f22:Addr} (w22:Wr K "_law_all_answers" zHc f22)
  {f23:Addr} (w23:Wr K "_law_then" zIB f23)
  {f24:Addr} (w24:Wr K "_law_done" zID f24)
  {f25:Addr} (w25:Wr K "_law_sets" zHe f25)
  {f26:Addr} (w26:Wr K "_law_and_right" zHu f26)
  {f27:Addr} {od27 an27:Option Addr} {sl27:Array (Option Value)} {oc27 kV27 dc27 pm27 cd27 ct27:Value}
  (a27:nsIn K mainGlobals "law"=some (some (.ref f27))) (l27:K.lookup f27=some ⟨oc27,od27,.func (fnOf "law" "law" (defArgs zBF) (defBody zBF) (defScope zBF) .none kV27 dc27 pm27 an27 cd27 ct27),sl27⟩) (c27:PySem.W.codeIn K cd27 "law"=true) (k27:PySem.W.keepIn K (.ref f27)=true)
  (z1:nsIn K mainGlobals "all"=some none)
  (z2:nsIn K mainGlobals "bool"=some none)
  (z3:nsIn K mainGlobals "int"=some none)
  (z4:nsIn K mainGlobals "isinstance"=some none)
  (z5:nsIn K mainGlobals "len"=some none)
  (z6:nsIn K mainGlobals "list"=some none)
  (z7:nsIn K mainGlobals "max"=some none)
  (z8:nsIn K mainGlobals "range"=some none)
  (z9:nsIn K mainGlobals "reversed"=some none)
  (z10:nsIn K mainGlobals "sorted"=some none)
  (z11:nsIn K mainGlobals "tuple"=some none)
  (z12:nsIn K mainGlobals "zip"=some none)
  (kc:(K.all fun q=>kcC kcsT q.2)=true)
  {pk1:Addr} {nk1:Nat} {slk1:Array (Option Value)} {t1_0 t1_1 t1_2:Tok} (ka1:nsIn K mainGlobals "OVER"=some (some (.ref pk1))) (kl1:K.lookup pk1=some ⟨.type "tuple",none,.seq [Value.int 0 t1_0,Value.int 2 t1_1,Value.int 1 t1_2].toArray nk1,slk1⟩)
  {pd1 pd1a pd1b:Addr} {ep1 nd1a nd1b:Nat} {sd1a sd1b:Array (Option Value)} {td1a td1b u1_0_0 u1_0_1 u1_0_2 u1_1_0 u1_1_1 u1_1_2:Tok} (da1:nsIn K mainGlobals "TURNS"=some (some (.ref pd1))) (dl1:K.lookup pd1=some ⟨.type "dict",none,.dict [⟨1,.int 1 td1a,.ref pd1a⟩,⟨2,.int 2 td1b,.ref pd1b⟩].toArray ep1,#[]⟩)
  (dl1a:K.lookup pd1a=some ⟨.type "tuple",none,.seq [Value.int 1 u1_0_0,Value.int 2 u1_0_1,Value.int 0 u1_0_2].toArray nd1a,sd1a⟩)
  (dl1b:K.lookup pd1b=some ⟨.type "tuple",none,.seq [Value.int 2 u1_1_0,Value.int 0 u1_1_1,Value.int 1 u1_1_2].toArray nd1b,sd1b⟩)
  {c0 P0:Addr} (tt:PySem.W.tabIn K "is_so"=some (c0,P0)) (th:PySem.W.codeHdIn K c0 P0=true) (tc:cd10=.ref c0) :
  ∃ fd:FuncData,(∀ (s:Shared) (v:Value),BindsTo s fd ⟨[v],[]⟩ [("_law_script",v)])/\∀ base:Heap,K.In base->base.Ns mainGlobals mg->FnOk l.prog w K mg base CX0 15 fa fd ["_law_script"] (spD K none 1 zCS):=by
 have e:=hfa.symm.trans (mg_of X G a27)
 cases e
 have z_all:=mg_none_of X G z1
 have z_bool:=mg_none_of X G z2
 have z_int:=mg_none_of X G z3
 have z_isinstance:=mg_none_of X G z4
 have z_len:=mg_none_of X G z5
 have z_list:=mg_none_of X G z6
 have z_max:=mg_none_of X G z7
 have z_range:=mg_none_of X G z8
 have z_reversed:=mg_none_of X G z9
 have z_sorted:=mg_none_of X G z10
 have z_tuple:=mg_none_of X G z11
 have z_zip:=mg_none_of X G z12
 have z_KC:=zM4 kc
 have k_OVER:KV K mg "OVER" zAx:=zL8 [0,2,1] (mg_of X G ka1) kl1 (.cons ⟨_,rfl⟩ (.cons ⟨_,rfl⟩ (.cons ⟨_,rfl⟩ (.nil)))) (by show 3<=sizeLine; decide)
 have k_TURNS:KDV K mg "TURNS" zB1:=zM5 1 2 [1,2,0] [2,0,1] (by decide) (mg_of X G da1) dl1 dl1a dl1b (.cons ⟨_,rfl⟩ (.cons ⟨_,rfl⟩ (.cons ⟨_,rfl⟩ (.nil)))) (.cons ⟨_,rfl⟩ (.cons ⟨_,rfl⟩ (.cons ⟨_,rfl⟩ (.nil)))) (by show 3<=sizeLine; decide) (by show 3<=sizeLine; decide) (fun _ _=>⟨rfl,rfl⟩)
 obtain⟨a1,_,F1⟩:=w1
 have b1:=F1.binds (ps:=["_law_script","_law_k"]) (by walk_at "b")
 have m1:=mg_of X G a1
 obtain⟨a2,_,F2⟩:=w2
 have b2:=F2.binds (ps:=["_law_box_here","_law_wide"]) (by walk_at "b")
 have m2:=mg_of X G a2
 obtain⟨a3,_,F3⟩:=w3
 have b3:=F3.binds (ps:=["_law_box_here","_law_some"]) (by walk_at "b")
 have m3:=mg_of X G a3
 obtain⟨a4,_,F4⟩:=w4
 have b4:=F4.binds (ps:=["pairs"]) (by walk_at "b")
 have m4:=mg_of X G a4
 obtain⟨a5,_,F5⟩:=w5
 have b5:=F5.binds (ps:=["saying"]) (by walk_at "b")
 have m5:=mg_of X G a5
 have n_inner:NK K mg "inner":=⟨_,a5,m5⟩
 obtain⟨a6,_,F6⟩:=w6
 have b6:=F6.binds (ps:=["whole","inside_of"]) (by walk_at "b")
 have m6:=mg_of X G a6
 obtain⟨a7,_,F7⟩:=w7
 have b7:=F7.binds (ps:=["answers","part","inside"]) (by walk_at "b")
 have m7:=mg_of X G a7
 obtain⟨a8,_,F8⟩:=w8
 have b8:=F8.binds (ps:=["whole","inside_of","put"]) (by walk_at "b")
 have m8:=mg_of X G a8
 obtain⟨a9,_,F9⟩:=w9
 have b9:=F9.binds (ps:=["saying","put"]) (by walk_at "b")
 have m9:=mg_of X G a9
 have F10:=zFR (st:=st_9) l10 c10 k10
 have b10:=F10.binds (ps:=["saying","answers"]) (by walk_at "b")
 have m10:=mg_of X G a10
 obtain⟨a11,_,F11⟩:=w11
 have b11:=F11.binds (ps:=["questions"]) (by walk_at "b")
 have m11:=mg_of X G a11
 obtain⟨a12,_,F12⟩:=w12
 have b12:=F12.binds (ps:=["q","numbers"]) (by walk_at "b")
 have m12:=mg_of X G a12
 obtain⟨a13,_,F13⟩:=w13
 have b13:=F13.binds (ps:=["saying","questions"]) (by walk_at "b")
 have m13:=mg_of X G a13
 obtain⟨a14,_,F14⟩:=w14
 have b14:=F14.binds (ps:=["_law_found","_law_due"]) (by walk_at "b")
 have m14:=mg_of X G a14
 obtain⟨a15,_,F15⟩:=w15
 have b15:=F15.binds (ps:=["_law_box_here","_law_sort","_law_sayings"]) (by walk_at "b")
 have m15:=mg_of X G a15
 obtain⟨a16,_,F16⟩:=w16
 have b16:=F16.binds (ps:=["sums"]) (by walk_at "b")
 have m16:=mg_of X G a16
 obtain⟨a17,_,F17⟩:=w17
 have b17:=F17.binds (ps:=["_law_box_here","_law_questions"]) (by walk_at "b")
 have m17:=mg_of X G a17
 obtain⟨a18,_,F18⟩:=w18
 have b18:=F18.binds (ps:=["cups"]) (by walk_at "b")
 have m18:=mg_of X G a18
 obtain⟨a19,_,F19⟩:=w19
 have b19:=F19.binds (ps:=["asked"]) (by walk_at "b")
 have m19:=mg_of X G a19
 obtain⟨a20,_,F20⟩:=w20
 have b20:=F20.binds (ps:=["mark"]) (by walk_at "b")
 have m20:=mg_of X G a20
 obtain⟨a21,_,F21⟩:=w21
 have b21:=F21.binds (ps:=["sums","questions"]) (by walk_at "b")
 have m21:=mg_of X G a21
 obtain⟨a22,_,F22⟩:=w22
 have b22:=F22.binds (ps:=["_law_questions"]) (by walk_at "b")
 have m22:=mg_of X G a22
 obtain⟨a23,_,F23⟩:=w23
 have b23:=F23.binds (ps:=["_law_one","_law_other"]) (by walk_at "b")
 have m23:=mg_of X G a23
 obtain⟨a24,_,F24⟩:=w24
 have b24:=F24.binds (ps:=["_law_dance","_law_answers"]) (by walk_at "b")
 have m24:=mg_of X G a24
 obtain⟨a25,_,F25⟩:=w25
 have b25:=F25.binds (ps:=["_law_questions"]) (by walk_at "b")
 have m25:=mg_of X G a25
 obtain⟨a26,_,F26⟩:=w26
 have b26:=F26.binds (ps:=["_law_box_here","_law_questions"]) (by walk_at "b")
 have m26:=mg_of X G a26
 have F27:=zFR (st:=zBF) l27 c27 k27
 have b27:=F27.binds (ps:=["_law_script"]) (by walk_at "b")
 have m27:=mg_of X G a27
 refine⟨fnOf "law" "law" (defArgs zBF) (defBody zBF) (defScope zBF) .none kV27 dc27 pm27 an27 cd27 ct27,fun s v=>.of_eq rfl,fun base _ _=>?_⟩
 have D_2:=ok_2 (P:=l.prog) (wd:=w) (base:=base) F1 m1 b1 z_int z_len
 have D_3:=ok_3 (P:=l.prog) (wd:=w) (base:=base) F2 m2 b2
 have D_4:=ok_4 F3 m3 b3 z_len z_list D_3
 have D_5:=ok_5 (P:=l.prog) (wd:=w) (base:=base) F4 m4 b4 z_KC z_sorted z_tuple
 have D_6:=ok_6 (P:=l.prog) (wd:=w) (base:=base) F5 m5 b5
 have D_7:=ok_7 F6 m6 b6 z_list z_reversed D_6
 have D_8:=ok_8 (P:=l.prog) (wd:=w) (base:=base) F7 m7 b7
 have D_10:=zO3 F8 m8 b8 z_reversed D_6 D_7 D_8
 have D_11:=zOK F9 m9 b9 n_inner D_10
 have D_9:=ok_9 F10 m10 b10 ⟨_,_,tc,tt,th⟩ D_11
 have D_12:=zOP (P:=l.prog) (wd:=w) (base:=base) F11 m11 b11 z_range
 have D_1:=ok_1 (P:=l.prog) (wd:=w) (base:=base) F12 m12 b12 z_len z_list z_zip zB5
 have D_13:=zOV F13 m13 b13 D_5 D_9 D_12 D_1
 have D_0:=ok_0 (P:=l.prog) (wd:=w) (base:=base) F14 m14 b14 z_all z_bool z_isinstance z_len z_list z_tuple z_zip zBS
 have D_14:=zOt F15 m15 b15 z_len z_list D_3
 have D_15:=zOk (P:=l.prog) (wd:=w) (base:=base) F16 m16 b16 z_len z_max
 have D_16:=zO7 F17 m17 b17 z_len z_range z_tuple D_3 D_4 D_13 D_0 D_14 D_15
 have D_17:=zOu (P:=l.prog) (wd:=w) (base:=base) F18 m18 b18 z_range z_tuple
 have D_18:=zOO F19 m19 b19 z_tuple k_OVER D_17
 have D_19:=zOq F20 m20 b20 k_TURNS D_18
 have D_20:=zOi F21 m21 b21 k_OVER D_18 D_19
 have D_21:=zO6 (P:=l.prog) (wd:=w) (base:=base) F22 m22 b22 z_range
 have D_22:=zOc (P:=l.prog) (wd:=w) (base:=base) F23 m23 b23 z_tuple
 have D_23:=zOv F24 m24 b24 z_range z_tuple D_22
 have D_24:=zOL (P:=l.prog) (wd:=w) (base:=base) F25 m25 b25 z_range
 have D_25:=zOT F26 m26 b26 z_int z_len z_list z_range z_sorted z_tuple D_4 D_13 D_0 D_14 D_15 D_20 D_21 D_23 D_24
 exact zNR F27 D_2 D_3 D_16 D_25
theorem walk{l:PySem.W.OpenLaw}{q:Program}{loose:List Str}{XP:(Str->Option Value)->Heap->Prop}{YP:World->Heap->Prop}{d:DefRec}{K:Params->PySem.W.Frag}(pure:∀ ns:List Int,ns.length<=63->zCS [.k (intsT ns)]=some (.v (.a (.bl true)),[]))(hn:l.most=some 63)(hdf:d.params.defaults=[])
  (hY:∀ (w:World) (h:Heap),YP w h->(K w.params).In h) {c0 P0:Addr} (hYP:∀ (w:World) (h:Heap),YP w h->h.get? P0=some { cls:=.none,data:=.fields #[] }) (hT:∀ w:World,PySem.W.tabIn (K w.params) "is_so"=some (c0,P0)) (hH:∀ w:World,PySem.W.codeHdIn (K w.params) c0 P0=true) (hNT:∀ w:World,PySem.W.noTabs (K w.params)=true)
  (F:∀ (w:World) (mg:Str->Option Value) (fa:Addr) (h:Heap),(K w.params).In h->h.Ns mainGlobals mg->mg d.name=some (.ref fa) ->
   ∃ fd:FuncData,(∀ (s:Shared) (u:Value),BindsTo s fd ⟨[u],[]⟩ [("_law_script",u)])/\∀ base:Heap,(K w.params).In base->base.Ns mainGlobals mg->FnOk l.prog w (K w.params) mg base CX0 15 fa fd ["_law_script"] (spD (K w.params) none 1 zCS)) :
  PySem.W.WalkO q loose XP YP l.row.toRowW d [] (fun f vs=>PySem.call f vs) :=
 D.walk_ofL (n:=63) (k:=15) (x:="_law_script") (sp:=fun K=>spD K none 1 zCS) hn (by decide) hdf ⟨rfl,by decide,by decide,rfl⟩ hY hYP hT hH hNT F (fun K H a ns hl h1 h2 h3=>zKu h1 h2 h3 (pure ns hl))
end Lw
local macro_rules | `(tactic| walk_at "w") => `(tactic| (refine' Lw.wr_mk ?a ?l ?c ?k; (case a=>k_is); (case l=>k_is); (case c=>k_is); (case k=>k_is)))
open PySem PySem.W PyProof.Rows
theorem PySem.W.Fast.tw15813794468610848932:True:=trivial
theorem PySem.W.Fast.tw3779363161193663251:True:=trivial
theorem PySem.W.Fast.tw3550426958901552676:True:=trivial
theorem PySem.W.Fast.tw11921175138898823389:True:=trivial
theorem PySem.W.Fast.tw1137099414480865249:True:=trivial
theorem PySem.W.Fast.tw15795506490752859411:True:=trivial
theorem PySem.W.Fast.tw14735158252086112682:True:=trivial
theorem PySem.W.Fast.tw12851818661996055515:True:=trivial
theorem PySem.W.Fast.tw8345865645883592587:True:=trivial
theorem PySem.W.Fast.tw15731983458749863580:True:=trivial
theorem PySem.W.Fast.tw4183711581780811868:True:=trivial
theorem PySem.W.Fast.tw18298964374307925486:True:=trivial
theorem PySem.W.Fast.tw12094832709928921076:True:=trivial
theorem PySem.W.Fast.tw7842062024308013034:True:=trivial
set_option maxRecDepth 100000 in
set_option maxHeartbeats 0 in
theorem PySem.Challenge.cw_fivecups_k57_whole_and_has_all_marks_holds : PySem.Challenge.rw_fivecups_k57_whole_and_has_all_marks.Holds := by
 w_on; o_law; k_head; (case hw=>w_witness2)
 k_fill
 refine' Lw.walk (l:=PySem.Challenge.rw_fivecups_k57_whole_and_has_all_marks) Lw.law_true rfl rfl (fun w h Y=>PySem.W.km_in_of Y) (fun w h Y=>PySem.W.km_tabs_of Y _ (List.Mem.head _)) ?hT ?hH ?hNT ?F
 case hT=>(intro w; refine' Lw.tab_mk ?a ?l ?c ?v; (case a=>k_is); (case l=>k_is); (case c=>k_is); (case v=>rfl))
 case hH=>(intro w; kernel_rfl)
 case hNT=>(intro w; kernel_rfl)
 case F =>
  intro w mg fa h KX G hmg
  refine' Lw.all_mk KX G hmg ?w1 ?w2 ?w3 ?w4 ?w5 ?w6 ?w7 ?w8 ?w9 ?a10 ?l10 ?c10 ?k10 ?w11 ?w12 ?w13 ?w14 ?w15 ?w16 ?w17 ?w18 ?w19 ?w20 ?w21 ?w22 ?w23 ?w24 ?w25 ?w26 ?a27 ?l27 ?c27 ?k27 ?z1 ?z2 ?z3 ?z4 ?z5 ?z6 ?z7 ?z8 ?z9 ?z10 ?z11 ?z12 ?kc ?ka1 ?kl1 ?da1 ?dl1 ?dl1a ?dl1b ?tt ?th ?tc
  all_goals try walk_at "w"
  (case a10=>k_is); (case l10=>k_is); (case c10=>k_is); (case k10=>k_is)
  all_goals try walk_at "w"
  (case a27=>k_is); (case l27=>k_is); (case c27=>k_is); (case k27=>k_is)
  (case ka1=>k_is); (case kl1=>k_is)
  (case z1=>k_is); (case z2=>k_is); (case z3=>k_is); (case z4=>k_is); (case z5=>k_is); (case z6=>k_is); (case z7=>k_is); (case z8=>k_is); (case z9=>k_is); (case z10=>k_is); (case z11=>k_is); (case z12=>k_is)
  (case da1=>k_is); (case dl1=>k_is); (case dl1a=>k_is); (case dl1b=>k_is)
  (case kc=>kernel_rfl)
  (case tt=>refine' Lw.tab_mk ?a ?l ?c ?v; (case a=>k_is); (case l=>k_is); (case c=>k_is); (case v=>rfl)); (case th=>kernel_rfl); (case tc=>rfl)
